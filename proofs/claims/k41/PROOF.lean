import PyProof.Rows.All
import Wide.All
import OpenK.AllK
import Wide.FinOn
import Lean
import PyProof.EqAt
import PyProof.EqKinds
import PyProof.TupleCall
import PySem.Challenge.RW_goodenough_k41_too_many
set_option Elab.async false
set_option linter.all false
set_option maxRecDepth 100000
set_option maxHeartbeats 4000000
noncomputable section
namespace L2
open PySem PySem.Spec PyProof.Rows
abbrev Key:=Sum Int Str
def zjC:Key→Value→Bool
  | .inl k,v=>Value.isInt k v
  | .inr x,v=>Value.isStrOf x v
def keyH (w:World):Key→Int
  | .inl k=>hashInt k
  | .inr x=>hashStr w x
theorem zbf:∀ {k:Key} {v:Value},zjC k v=true→(∃ i t,k=Sum.inl i∧v=Value.int i t)∨(∃ x t,k=Sum.inr x∧v=Value.str x t)
  | .inl i,v,h=>by
    obtain ⟨t,e⟩:=Value.isInt_shape (k:=i) (v:=v) h
    exact .inl ⟨i,t,rfl,e⟩
  | .inr x,v,h=>by
    obtain ⟨t,e⟩:=Value.isStrOf_shape (x:=x) (v:=v) h
    exact .inr ⟨x,t,rfl,e⟩
theorem zls (i:Int) (t:Tok):zjC (.inl i) (.int i t)=true:=by simp [zjC,Value.isInt]
theorem zj3 (x:Str) (t:Tok):zjC (.inr x) (.str x t)=true:=by simp [zjC,Value.isStrOf]
theorem zpI (a b:Int):decide ((Sum.inl a:Key)=Sum.inl b)=(a == b):=by
  by_cases e:a=b
  · subst e; simp
  · have h:¬ (Sum.inl a:Key)=Sum.inl b:=fun q=>e (Sum.inl.inj q)
    rw [decide_eq_false h]
    exact (beq_eq_false_iff_ne.mpr e).symm
theorem zo2 (a b:Str):decide ((Sum.inr a:Key)=Sum.inr b)=decide (a=b):=by
  by_cases e:a=b
  · subst e; simp
  · have h:¬ (Sum.inr a:Key)=Sum.inr b:=fun q=>e (Sum.inr.inj q)
    rw [decide_eq_false h,decide_eq_false e]
theorem zoV (a:Int) (b:Str):decide ((Sum.inl a:Key)=Sum.inr b)=false:=decide_eq_false (fun q=>nomatch q)
theorem zpP (a:Str) (b:Int):decide ((Sum.inr a:Key)=Sum.inl b)=false:=decide_eq_false (fun q=>nomatch q)
def zbM (prog:Program) (w:World):PySem.KeyKind prog w Key where
  is:=zjC
  hash:=keyH w
  inj:=fun v a b ha hb=>by
    rcases zbf ha with ⟨i,t,rfl,rfl⟩ | ⟨x,t,rfl,rfl⟩
    · rcases zbf hb with ⟨j,u,rfl,e⟩ | ⟨y,u,rfl,e⟩
      · injection e with e1 _; rw [e1]
      · exact nomatch e
    · rcases zbf hb with ⟨j,u,rfl,e⟩ | ⟨y,u,rfl,e⟩
      · exact nomatch e
      · injection e with e1 _; rw [e1]
  byValue:=fun k v h=>by
    rcases zbf h with ⟨i,t,rfl,rfl⟩ | ⟨x,t,rfl,rfl⟩ <;> rfl
  pyHash:=fun hv h=>by
    rcases zbf hv with ⟨i,t,rfl,rfl⟩ | ⟨x,t,rfl,rfl⟩
    · exact wpAny_pyHash_int h
    · exact wpAny_pyHash_str h
  eqBool:=fun hu hv h=>by
    rcases zbf hu with ⟨i,t,rfl,rfl⟩ | ⟨x,t,rfl,rfl⟩
    · rcases zbf hv with ⟨j,u,rfl,rfl⟩ | ⟨y,u,rfl,rfl⟩
      · rw [zpI] at h; exact wpAny_eqBool_int h
      · rw [zoV] at h; exact SeqAt.EqAt.int_str i t y u _ _ _ _ h
    · rcases zbf hv with ⟨j,u,rfl,rfl⟩ | ⟨y,u,rfl,rfl⟩
      · rw [zpP] at h; exact SeqAt.EqAt.str_int x t j u _ _ _ _ h
      · rw [zo2] at h; exact wpAny_eqBool_str h
  «strs»:=fun k x t v h=>by
    rcases zbf h with ⟨i,u,rfl,e⟩ | ⟨y,u,rfl,e⟩
    · exact nomatch e
    · injection e with e1 _
      subst e1
      cases v <;> rfl
theorem zia (prog:Program) (w:World) (i:Int) (t:Tok):(zbM prog w).is (.inl i) (.int i t)=true:=zls i t
theorem zh7 (prog:Program) (w:World) (x:Str) (t:Tok):(zbM prog w).is (.inr x) (.str x t)=true:=zj3 x t
end L2
namespace L2
open PySem PySem.Spec PyProof.Rows
inductive V where
  | non | bl (b:Bool) | int (i:Int) | str (x:Str) | byt (b:Array UInt8) | flt (b:UInt64) | ref (a:Addr) | ty (n:String)
  deriving DecidableEq
def RelV:V→Value→Prop
  | .non,u=>u=Value.none
  | .bl b,u=>u=Value.bool b
  | .int i,u=>∃ t,u=Value.int i t
  | .str x,u=>∃ t,u=Value.str x t
  | .byt b,u=>∃ t,u=Value.bytes b t
  | .flt b,u=>∃ t,u=Value.float b t
  | .ref a,u=>u=Value.ref a
  | .ty n,u=>u=Value.type n
abbrev Vals:List V→List Value→Prop:=Paired RelV
theorem Vals.length {xs:List V} {us:List Value} (r:Vals xs us):xs.length=us.length:=Paired.length r
theorem Vals.get:∀ {xs:List V} {us:List Value} {i:Nat} {x:V},Vals xs us→xs[i]?=some x→∃ u,us[i]?=some u∧RelV x u
  | _,_,_,_,.nil,e=>by simp at e
  | _,_,0,_,.cons r _,e=>by simp at e; subst e; exact ⟨_,rfl,r⟩
  | _,_,i + 1,x,.cons _ t,e=>by
    obtain ⟨u,h1,h2⟩:=Vals.get (i:=i) (x:=x) t (by simpa using e)
    exact ⟨u,by simpa using h1,h2⟩
theorem Vals.append:∀ {xs ys:List V} {us ws:List Value},Vals xs us→Vals ys ws→Vals (xs ++ ys) (us ++ ws)
  | _,_,_,_,.nil,s=>s
  | _,_,_,_,.cons r t,s=>.cons r (Vals.append t s)
theorem Vals.take:∀ {xs:List V} {us:List Value} (n:Nat),Vals xs us→Vals (xs.take n) (us.take n)
  | _,_,0,_=>.nil
  | _,_,_ + 1,.nil=>.nil
  | _,_,n + 1,.cons r t=>.cons r (Vals.take n t)
theorem Vals.drop:∀ {xs:List V} {us:List Value} (n:Nat),Vals xs us→Vals (xs.drop n) (us.drop n)
  | _,_,0,r=>r
  | _,_,_ + 1,.nil=>.nil
  | _,_,n + 1,.cons _ t=>Vals.drop n t
def RelO:Option V→Option Value→Prop
  | some v,some u=>RelV v u
  | none,none=>True
  | _,_=>False
def KV {κ:Type}:List (κ × V)→List (κ × Value)→Prop:=Paired fun (p:κ × V) (q:κ × Value)=>p.1=q.1∧RelV p.2 q.2
def kV:Key→V
  | .inl i=>.int i
  | .inr x=>.str x
inductive HO where
  | lst (xs:List V)
  | tup (xs:List V)
  | dK (kvs:List (Key × V)) | dT (kvs:List (List Key × V))
  | set (S:Int→Bool) (n:Nat)
  | ins (C dx:Addr) (fs:List (Str × V))
  | own (x:Addr)
  | xd (fs:List (Str × V))
  | met (f x:Addr)
  | rng (lo hi:Int)
  | frz (o:Obj) (u:HO)
  | tbl (ps:Array Value)
  | ext (φ:Heap→Prop)
abbrev Hp:=Addr→Option HO
def upd (H:Hp) (a:Addr) (o:HO):Hp:=fun b=>if b=a then some o else H b
theorem zai {H:Hp} {a:Addr} {o:HO}:upd H a o a=some o:=by unfold upd; rw [if_pos rfl]
theorem zag {H:Hp} {a b:Addr} {o:HO} (h:b ≠ a):upd H a o b=H b:=by unfold upd; rw [if_neg h]
theorem zqp {H:Hp} {a b:Addr} {o u:HO} (h:H a=some o) (h':H b=some u) (d:o ≠ u):a ≠ b:=by
  intro e; subst e; rw [h] at h'; exact d (Option.some.inj h')
theorem zak {H:Hp} {a b:Addr} {o:HO} (h:H a=some o) (h':H b=none):a ≠ b:=by
  intro e; subst e; rw [h] at h'; cases h'
def zo1 (fd:FuncData):Option Pos :=
  match fd.body with
  | .stmts [.Return (some (.Call _ _ [⟨_,.Lambda _ _ _ pos,_⟩] _)) _]=>some pos
  | _=>none
def zqn (K:PySem.W.Frag) (v:Value):Option Addr :=
  match v with
  | .ref c=>match K.lookup c with
    | some o=>match o.data with
      | .fields vs=>match (vs[11]?:Option Value) with
        | some (.ref P)=>some P
        | _=>none
      | _=>none
    | _=>none
  | _=>none
def zlr (K:PySem.W.Frag):Option (Addr × Array Value) :=
  K.findSome? fun p=>match p.2.data with
    | .func fd=>match zo1 fd with
      | some pos=>(zqn K fd.code).map fun P=>(P,#[.str (fd.qualname ++ ".<locals>." ++ "<lambda>") 0,rawInt pos.line,rawInt pos.col])
      | none=>none
    | _=>none
def TblOk (H:Hp) (h:Heap) (a:Addr) (ps:Array Value):Prop :=
  ∃ (q:Str) (t:Tok) (ln cl:Int) (more:List Value) (real:Array Value),ps.toList = .str q t :: rawInt ln :: rawInt cl :: more∧h.get? a=some { cls:=.none,data:=.fields real } ∧
    (real = #[]∨∃ (c:Addr) (o:Obj) (vs:Array Value) (u:Tok),real = #[rawInt ln,rawInt cl,.ref c]∧H c=some (.own a)∧h.get? c=some o∧o.data = .fields vs∧vs[1]?=some (.str q u))
theorem TblOk.lt {H:Hp} {h:Heap} {a:Addr} {ps:Array Value} (x:TblOk H h a ps):a < h.objs.size:=by
  obtain ⟨_,_,_,_,_,_,_,e,_⟩:=x
  exact Heap.lt_size e
theorem TblOk.stay {H H':Hp} {h h':Heap} {a:Addr} {ps:Array Value} (x:TblOk H h a ps) (k:∀ b u,(b=a∨H b=some (.own a))→h.get? b=some u→h'.get? b=some u)
    (ho:∀ b,H b=some (.own a)→H' b=some (.own a)):TblOk H' h' a ps:=by
  obtain ⟨q,t,ln,cl,more,real,e1,e2,e3⟩:=x
  refine ⟨q,t,ln,cl,more,real,e1,k _ _ (.inl rfl) e2,?_⟩
  rcases e3 with e3 | ⟨c,o,vs,u,r1,r2,r3,r4⟩
  · exact .inl e3
  · exact .inr ⟨c,o,vs,u,r1,ho _ r2,k _ _ (.inr r2) r3,r4⟩
def TbAt (K:PySem.W.Frag) (H:Hp):Prop:=∀ t,zlr K=some t→∃ more,H t.1=some (.tbl (t.2 ++ more))
theorem TbAt.none {K:PySem.W.Frag} {H:Hp} (h:zlr K = .none):TbAt K H:=fun t e=>by rw [h] at e; cases e
theorem TbAt.grown {K:PySem.W.Frag} {H H':Hp} (x:TbAt K H) (g:∀ b ps,H b=some (.tbl ps)→∃ more,H' b=some (.tbl (ps ++ more))):TbAt K H':=fun t e=>by
  obtain ⟨m1,e1⟩:=x t e
  obtain ⟨m2,e2⟩:=g _ _ e1
  exact ⟨m1 ++ m2,by rw [e2,Array.append_assoc]⟩
section
variable (P:Program) (w:World)
def ObjOk (H:Hp) (h:Heap) (a:Addr):HO→Prop
  | .lst xs=>xs.length ≤ sizeLine∧∃ (its:List Value) (n:Nat),Vals xs its∧h.get? a=some { cls:=.type "list",data:=.seq its.toArray n }
  | .tup xs=>xs.length ≤ sizeLine∧∃ its:List Value,Vals xs its∧IsTup h a its.toArray
  | .dK kvs=>kvs.length ≤ sizeLine∧(a == sysModules)=false∧∃ vs,KV kvs vs∧h.DictOf (zbM P w) a vs
  | .dT kvs=>kvs.length ≤ sizeLine∧(a == sysModules)=false∧∃ xs:List (List Key × Addr × Value),
      Paired (fun (p:List Key × V) (q:List Key × Addr × Value)=>p.1=q.1∧H q.2.1=some (.tup (p.1.map kV))∧RelV p.2 q.2.2) kvs xs ∧
      ∃ o es ep,h.get? a=some o∧o.ExactDict∧o.data = .dict es ep∧es.toList=xs.map (entryOfKey (tupleKind (zbM P w)))∧(xs.map (·.1)).Nodup
  | .set S n=>h.SetOf (intKind P w) a S n
  | .ins C dx fs=>H dx=some (.own a)∧fs.length ≤ 1000∧dx ≠ a∧h.get? a=some (PySem.W.instObj C dx) ∧
      ∃ mA,h.Ns1 dx mA∧(∀ f,RelO (fs.lookup f) (mA f))∧PySem.Within mA (fs.map (·.1))
  | .own _=>∃ o,h.get? a=some o
  | .xd fs=>∃ mA,h.Ns1 a mA∧∀ f,RelO (fs.lookup f) (mA f)
  | .rng lo hi=>∃ t u v,h.get? a=some { cls:=.type "range",data:=.fields #[.int lo t,.int hi u,.int 1 v] }
  | .frz o u=>h.get? a=some o∧ObjOk H h a u
  | .tbl ps=>TblOk H h a ps
  | .met f x=>h.get? a=some (PySem.W.methodObj (.ref f) (.ref x))
  | .ext φ=>φ h∧(∃ o,h.get? a=some o)∧∀ h1 h2:Heap,φ h1→(∀ o,h1.get? a=some o→h2.get? a=some o)→φ h2
def HOk (H:Hp) (h:Heap):Prop:=∀ a o,H a=some o→ObjOk P w H h a o
end
section
variable {P:Program} {w:World} {H H':Hp} {h h':Heap} {a:Addr} {o:HO}
theorem ObjOk.lt (x:ObjOk P w H h a o):a < h.objs.size:=by
  cases o with
  | lst xs=>obtain ⟨_,_,_,_,e⟩:=x; exact Heap.lt_size e
  | tup xs=>obtain ⟨_,_,_,p⟩:=x; exact p.lt
  | dK kvs=>obtain ⟨_,_,_,_,o,_,_,e,_⟩:=x; exact Heap.lt_size e
  | dT kvs=>obtain ⟨_,_,_,_,o,_,_,e,_⟩:=x; exact Heap.lt_size e
  | set S n=>obtain ⟨o,_,_,_,e,_⟩:=x; exact Heap.lt_size e
  | ins C dx fs=>obtain ⟨_,_,_,e,_⟩:=x; exact Heap.lt_size e
  | own y=>obtain ⟨_,e⟩:=x; exact Heap.lt_size e
  | xd fs=>obtain ⟨_,⟨_,_,_,e,_⟩,_⟩:=x; exact Heap.lt_size e
  | rng lo hi=>obtain ⟨_,_,_,e⟩:=x; exact Heap.lt_size e
  | frz ob u=>obtain ⟨e,_⟩:=x; exact Heap.lt_size e
  | tbl ps=>exact TblOk.lt x
  | met f y=>exact Heap.lt_size (show h.get? a=some _ from x)
  | ext φ=>obtain ⟨_,⟨_,e⟩,_⟩:=x; exact Heap.lt_size e
theorem Paired.mapP {α β:Type} {F G:α→β→Prop}:∀ {l₁:List α} {l₂:List β},Paired F l₁ l₂→(∀ a b,F a b→G a b)→Paired G l₁ l₂
  | _,_,.nil,_=>.nil
  | _,_,.cons r t,f=>.cons (f _ _ r) (Paired.mapP t f)
theorem ObjOk.stay (x:ObjOk P w H h a o) (k:∀ b u,(b=a∨H b=some (.own a))→h.get? b=some u→h'.get? b=some u)
    (ho:∀ b,H b=some (.own a)→H' b=some (.own a)) (ht:∀ b xs,H b=some (.tup xs)→H' b=some (.tup xs)):ObjOk P w H' h' a o:=by
  induction o with
  | lst xs=>obtain ⟨z,its,n,r,e⟩:=x; exact ⟨z,its,n,r,k _ _ (.inl rfl) e⟩
  | tup xs=>obtain ⟨z,its,r,ob,e,c⟩:=x; exact ⟨z,its,r,ob,k _ _ (.inl rfl) e,c⟩
  | dK kvs=>obtain ⟨z,y,vs,r,ob,es,ep,e,c⟩:=x; exact ⟨z,y,vs,r,ob,es,ep,k _ _ (.inl rfl) e,c⟩
  | dT kvs =>
    obtain ⟨z,y,xs,r,ob,es,ep,e,c⟩:=x
    exact ⟨z,y,xs,Paired.mapP r fun p q z=>⟨z.1,ht _ _ z.2.1,z.2.2⟩,ob,es,ep,k _ _ (.inl rfl) e,c⟩
  | set S n=>obtain ⟨ob,es,ep,t,e,c⟩:=x; exact ⟨ob,es,ep,t,k _ _ (.inl rfl) e,c⟩
  | ins C dx fs =>
    obtain ⟨d,z,ne,e,mA,⟨od,es,ep,e2,c⟩,r⟩:=x
    exact ⟨ho _ d,z,ne,k _ _ (.inl rfl) e,mA,⟨od,es,ep,k _ _ (.inr d) e2,c⟩,r⟩
  | own y=>obtain ⟨ob,e⟩:=x; exact ⟨ob,k _ _ (.inl rfl) e⟩
  | xd fs=>obtain ⟨mA,⟨od,es,ep,e,c⟩,r⟩:=x; exact ⟨mA,⟨od,es,ep,k _ _ (.inl rfl) e,c⟩,r⟩
  | rng lo hi=>obtain ⟨t,u,v,e⟩:=x; exact ⟨t,u,v,k _ _ (.inl rfl) e⟩
  | frz ob u ih=>obtain ⟨e,q⟩:=x; exact ⟨k _ _ (.inl rfl) e,ih q⟩
  | tbl ps=>exact TblOk.stay x k ho
  | met f y =>
    have e:h.get? a=some (PySem.W.methodObj (.ref f) (.ref y)):=x
    show h'.get? a=some (PySem.W.methodObj (.ref f) (.ref y))
    exact k a _ (.inl rfl) e
  | ext φ=>obtain ⟨p,⟨o,e⟩,st⟩:=x; exact ⟨st _ _ p fun o q=>k _ _ (.inl rfl) q,⟨o,k _ _ (.inl rfl) e⟩,st⟩
theorem HOk.lt (x:HOk P w H h) (e:H a=some o):a < h.objs.size:=(x a o e).lt
theorem HOk.fresh (x:HOk P w H h) (e:h.objs.size ≤ a):H a=none:=by
  cases q:H a with
  | none=>rfl
  | some u=>exact absurd (Nat.lt_of_lt_of_le (x.lt q) e) (Nat.lt_irrefl _)
theorem HOk.kept (x:HOk P w H h) (k:∀ b u,h.get? b=some u→h'.get? b=some u):HOk P w H h':=fun a o e =>
  (x a o e).stay (fun b u _ q=>k b u q) (fun _ q=>q) fun _ _ q=>q
theorem HOk.laid (x:HOk P w H h) (k:∀ b u,h.get? b=some u→h'.get? b=some u) (hp:h.objs.size ≤ a) (new:ObjOk P w (upd H a o) h' a o):HOk P w (upd H a o) h':=fun b u e=>by
  have hn:=x.fresh hp
  by_cases hb:b=a
  · subst hb; rw [zai] at e; cases e; exact new
  · rw [zag hb] at e
    exact (x b u e).stay (fun c v _ q=>k c v q) (fun c q=>by rw [zag (zak q hn)]; exact q) fun c xs q=>by rw [zag (zak q hn)]; exact q
end
def Rd (H:Hp) (a:Addr) (u:HO):Prop:=H a=some u∨∃ o,H a=some (.frz o u)
theorem Rd.ok {P:Program} {w:World} {H:Hp} {h:Heap} {a:Addr} {u:HO} (r:Rd H a u) (x:HOk P w H h):ObjOk P w H h a u:=by
  rcases r with r | ⟨o,r⟩
  · exact x a u r
  · obtain ⟨_,q⟩:=x a _ r
    exact q
def Mut:Option HO→Prop
  | some (.lst _)=>True
  | some (.dK _)=>True
  | some (.dT _)=>True
  | some (.set _ _)=>True
  | some (.ins _ _ _)=>True
  | some (.ext _)=>True
  | _=>False
section
variable {P:Program} {w:World} {H:Hp} {h h':Heap} {x e:Addr} {o':HO}
theorem HOk.write (ok:HOk P w H h) (mu:Mut (H x)) (he:e=x∨H e=some (.own x)) (k:∀ b u,b ≠ e→h.get? b=some u→h'.get? b=some u) (heo:∃ u,h'.get? e=some u)
    (new:ObjOk P w (upd H x o') h' x o'):HOk P w (upd H x o') h':=fun b u q=>by
  have nown:∀ c y,H c=some (.own y)→c ≠ x:=fun c y r z=>by subst z; rw [r] at mu; exact mu
  have ntup:∀ c xs,H c=some (.tup xs)→c ≠ x:=fun c xs r z=>by subst z; rw [r] at mu; exact mu
  by_cases hb:b=x
  · subst hb; rw [zai] at q; cases q; exact new
  · rw [zag hb] at q
    by_cases hbe:b=e
    · have q':H b=some (.own x):=by
        rcases he with z | z
        · exact absurd (hbe.trans z) hb
        · rw [hbe]; exact z
      rw [q] at q'; cases q'
      obtain ⟨v,hv⟩:=heo
      exact ⟨v,by rw [hbe]; exact hv⟩
    · refine (ok b u q).stay (fun c v hc r=>k c v ?_ r) (fun c r=>by rw [zag (nown c b r)]; exact r) fun c xs r=>by rw [zag (ntup c xs r)]; exact r
      rcases hc with rfl | hc
      · exact hbe
      · rintro rfl
        rcases he with z | z
        · exact nown c b hc z
        · rw [hc] at z; cases z; exact hb rfl
end
structure Un (fs ex:List Addr) (H H':Hp) (h h':Heap):Prop where
  keep:∀ b o,h.get? b=some o→H b=none→b ∉ fs→b ∉ ex→h'.get? b=some o
  slot:∀ b o,h.get? b=some o→H b=none→b ∈ fs→b ∉ ex→∃ sl,h'.get? b=some { o with slots:=sl }
  free:∀ b o,h.get? b=some o→H b=none→b ∉ ex→H' b=none
  there:∀ b o,h.get? b=some o→b ∉ ex→∃ o',h'.get? b=some o'
  tups:∀ b xs,H b=some (.tup xs)→H' b=some (.tup xs)
  frzs:∀ b o u,H b=some (.frz o u)→H' b=some (.frz o u)
  tbls:∀ b ps,H b=some (.tbl ps)→∃ more,H' b=some (.tbl (ps ++ more))
section
variable {fs fs' ex ex':List Addr} {H H1 H2:Hp} {h h1 h2 h':Heap} {a x e:Addr} {o:HO}
theorem Un.any (u:Un fs ex H H1 h h1) {b:Addr} {ob:Obj} (q:h.get? b=some ob) (n:H b=none) (hx:b ∉ ex):∃ sl,h1.get? b=some { ob with slots:=sl }:=by
  by_cases hb:b ∈ fs
  · exact u.slot b ob q n hb hx
  · exact ⟨ob.slots,u.keep b ob q n hb hx⟩
theorem Un.kept (k:∀ b u,h.get? b=some u→h'.get? b=some u):Un fs ex H H h h' :=
  ⟨fun b ob q _ _ _=>k b ob q,fun b ob q _ _ _=>⟨ob.slots,k b ob q⟩,fun _ _ _ n _=>n,fun b ob q _=>⟨ob,k b ob q⟩,fun _ _ q=>q,fun _ _ _ q=>q,fun _ ps q=>⟨#[],by rw [q]; simp⟩⟩
theorem Un.refl:Un fs ex H H h h:=Un.kept fun _ _ q=>q
theorem Un.laid (k:∀ b u,h.get? b=some u→h'.get? b=some u) (hp:h.objs.size ≤ a) (hn:H a=none):Un fs ex H (upd H a o) h h' where
  keep:=fun b u q _ _ _=>k b u q
  slot:=fun b u q _ _ _=>⟨u.slots,k b u q⟩
  free:=fun b u q n _=>by rw [zag (Nat.ne_of_lt (Nat.lt_of_lt_of_le (Heap.lt_size q) hp))]; exact n
  there:=fun b u q _=>⟨u,k b u q⟩
  tups:=fun b xs q=>by rw [zag (zak q hn)]; exact q
  frzs:=fun b u xs q=>by rw [zag (zak q hn)]; exact q
  tbls:=fun b ps q=>⟨#[],by rw [zag (zak q hn),q]; simp⟩
theorem Un.write (mu:Mut (H x)) (he:e=x∨H e=some (.own x)) (k:∀ b u,b ≠ e→h.get? b=some u→h'.get? b=some u) (heo:∃ u,h'.get? e=some u):Un fs ex H (upd H x o) h h':=by
  have hx:∀ b,H b=none→b ≠ x:=fun b n z=>by subst z; rw [n] at mu; exact mu
  have hb:∀ b,H b=none→b ≠ e:=fun b n z=>by
    subst z
    rcases he with r | r
    · exact hx b n r
    · rw [n] at r; cases r
  have hm:∀ b u,H b=some u→¬ Mut (some u)→b ≠ x:=fun b u q nm z=>by subst z; rw [q] at mu; exact nm mu
  refine ⟨fun b u q n _ _=>k b u (hb b n) q,fun b u q n _ _=>⟨u.slots,k b u (hb b n) q⟩,fun b u q n _=>by rw [zag (hx b n)]; exact n,fun b u q _=>?_,
    fun b xs q=>by rw [zag (hm b _ q fun z=>z)]; exact q,fun b u xs q=>by rw [zag (hm b _ q fun z=>z)]; exact q,fun b ps q=>⟨#[],by rw [zag (hm b _ q fun z=>z),q]; simp⟩⟩
  by_cases hbe:b=e
  · subst hbe; exact heo
  · exact ⟨u,k b u hbe q⟩
theorem Un.mono (u:Un fs ex H H1 h h1) (hs:∀ b ∈ fs,b ∈ fs') (hx:∀ b ∈ ex,b ∈ ex'):Un fs' ex' H H1 h h1 :=
  ⟨fun b ob q n hb he=>u.keep b ob q n (fun z=>hb (hs b z)) fun z=>he (hx b z),fun _ _ q n _ he=>u.any q n fun z=>he (hx _ z),fun b ob q n he=>u.free b ob q n fun z=>he (hx b z),fun b ob q he=>u.there b ob q fun z=>he (hx b z),u.tups,u.frzs,u.tbls⟩
end
def trk (h:Heap) (H:Hp):List Addr:=(List.range h.objs.size).filter fun a=>(H a).isSome
def hidT (h:Heap) (H:Hp):Heap:=PySem.W.hideAll h (trk h H)
theorem zlA (h:Heap) (H:Hp):(hidT h H).objs.size=h.objs.size:=PySem.W.hideAll_size _ _
theorem zmk {h:Heap} {H:Hp} {b:Addr} {o:Obj} (e:h.get? b=some o) (n:H b=none):(hidT h H).get? b=some o :=
  PySem.W.hideAll_get _ e fun hm=>by
    have q:(H b).isSome=true:=(List.mem_filter.mp hm).2
    rw [n] at q; simp at q
theorem zoA {h:Heap} {H:Hp} {b:Addr} {o:Obj} (e:(hidT h H).get? b=some o):h.get? b=some o∧H b=none:=by
  have e':h.get? b=some o:=PySem.W.of_hideAll (trk h H) e
  refine ⟨e',?_⟩
  cases q:H b with
  | none=>rfl
  | some x =>
    have hm:b ∈ trk h H:=List.mem_filter.mpr ⟨List.mem_range.mpr (Heap.lt_size e'),by simp [q]⟩
    have z:(hidT h H).get? b=none:=PySem.W.hideAll_none (trk h H) hm
    rw [z] at e; cases e
def zqd (g h:Heap) (L:Addr):List (Addr × Obj):=(List.range h.objs.size).filterMap fun a=>if a=L∨(g.get? a).isSome=true then none else (h.get? a).map fun o=>(a,o)
end L2
namespace L2
open PySem PySem.Spec PyProof.Rows
structure Mod (K:PySem.W.Frag) (mg:Str→Option Value) (base:Heap):Prop where
  kin:K.In base
  glob:base.Ns mainGlobals mg
  blt:∃ mb,base.Ns builtinsNs mb∧∀ x:Str,x ≠ "__name__"→mb x=bootBuiltins x
  nolimit:base.NoLimit
structure Cx where
  prog:Program
  w:World
  K:PySem.W.Frag
  mg:Str→Option Value
  base:Heap
  A:Around
  N:List Str
  s₀:Shared
  H₀:Hp
  env:Env
  outer:List Env
  stack:List Env
  ex:List Addr
  fn:Str→Bool
  calm:Bool
  pn:List (Addr × Obj)
  xe:Value→Shared→Prop
def frs (l:List Env):List Addr:=l.filterMap (·.frame)
abbrev Cx.fs (X:Cx):List Addr:=frs X.outer
def Vis (sc:Scope) (x:Str):Prop:=sc.names.lookup x=some .local∨sc.names.lookup x=some .cell∨sc.names.lookup x=some .free
def Loc (sc:Scope) (x:Str):Prop:=sc.names.lookup x=some .local∨sc.names.lookup x=some .cell
def Look (env:Env) (h:Heap) (m:Str→Option Value) (x:Str) (u:Value):Prop :=
  (env.kindOf x=some .local∧m x=some u)∨((env.kindOf x=some .cell∨env.kindOf x=some .free)∧∃ c,env.cells.lookup x=some c∧h.IsCell c (some u))
structure Cx.Ok (X:Cx):Prop where
  mod:Mod X.K X.mg X.base
  kind:X.env.scope.kind = .function
  glob:X.env.globals=mainGlobals
  blt:X.env.builtins=builtinsNs
  above:X.s₀.heap.objs.size ≤ X.env.locals
  inj:∀ x y c,X.env.cells.lookup x=some c→X.env.cells.lookup y=some c→x=y
  has:∀ x,(X.env.kindOf x=some .cell∨X.env.kindOf x=some .free)→∃ c,X.env.cells.lookup x=some c
  cab:∀ x c,X.fn x=true→X.env.cells.lookup x=some c→X.s₀.heap.objs.size ≤ c
  hd:X.calm=true→X.A.handled=none
  frames:X.A.frames=some X.stack
  stk:X.stack=X.outer∨(X.stack=X.env :: X.outer∧X.env.frame=some X.env.locals)
  exf:∀ b ∈ X.ex,b ≠ X.env.locals∧∀ x c,X.env.cells.lookup x=some c→c ≠ b
  bs:∀ b o,X.base.get? b=some o→X.s₀.heap.get? b=some o∧X.H₀ b=none
  bsz:X.base.objs.size ≤ X.s₀.heap.objs.size
  noex:∀ b o,X.base.get? b=some o→b ∉ X.ex
  exfs:∀ b ∈ X.ex,b ∉ X.fs
  funs:X.s₀.heap.FunFrames X.base X.outer
  frf:∀ b ∈ X.fs,X.H₀ b=none
  tb:TbAt X.K X.H₀
structure Inv (X:Cx) (pins:List (Addr × Obj)) (σ:List (Option V)) (H:Hp) (s:Shared):Prop where
  ok:X.Ok
  os:s.os=X.s₀.os
  bare:AllBare s.gens
  base:Un X.fs X.ex X.H₀ H X.s₀.heap s.heap
  loc:∃ m,s.heap.Ns X.env.locals m∧∀ (i:Nat) (x:Str) (v:V),X.N[i]?=some x→σ[i]?=some (some v)→Vis X.env.scope x→∃ u,RelV v u∧Look X.env s.heap m x u
  cell:∀ x c,X.env.cells.lookup x=some c→∃ v,s.heap.IsCell c v
  free:H X.env.locals=none
  freeC:∀ x c,X.env.cells.lookup x=some c→H c=none
  pin:∀ p ∈ X.pn ++ pins,s.heap.get? p.1=some p.2∧H p.1=none∧p.1 ≠ X.env.locals∧p.1 ∉ X.fs∧∀ v,p.2.data ≠ .cell v
  hok:HOk X.prog X.w H s.heap
  len:σ.length=X.N.length
section
variable {X:Cx} {pins:List (Addr × Obj)} {σ:List (Option V)} {H H':Hp} {s:Shared} {h':Heap}
theorem Cx.Ok.nofr (ok:X.Ok) {b:Addr} {o:Obj} (e:X.base.get? b=some o):b ∉ X.fs:=fun hb=>by
  have:=(ok.funs.mem hb).1
  rw [e] at this; cases this
theorem Inv.bs (I:Inv X pins σ H s):∀ b o,X.base.get? b=some o→s.heap.get? b=some o∧H b=none:=fun b o e =>
  ⟨I.base.keep b o (I.ok.bs b o e).1 (I.ok.bs b o e).2 (I.ok.nofr e) (I.ok.noex b o e),I.base.free b o (I.ok.bs b o e).1 (I.ok.bs b o e).2 (I.ok.noex b o e)⟩
theorem Inv.bk (I:Inv X pins σ H s):∀ b o,X.base.get? b=some o→s.heap.get? b=some o:=fun b o e=>(I.bs b o e).1
theorem Inv.mod (I:Inv X pins σ H s):Mod X.K X.mg X.base:=I.ok.mod
theorem Inv.kIn (I:Inv X pins σ H s):X.K.In s.heap:=I.ok.mod.kin.keeps I.bk
theorem Inv.fr (I:Inv X pins σ H s):∃ m,Fr X.base X.env.locals s.heap m :=
  let ⟨m,hn,_⟩:=I.loc
  ⟨m,hn,I.bk,Nat.le_trans I.ok.bsz I.ok.above⟩
theorem Inv.lt (I:Inv X pins σ H s):X.env.locals < s.heap.objs.size:=let ⟨_,hn,_⟩:=I.loc; hn.lt
theorem Inv.sz (I:Inv X pins σ H s):X.s₀.heap.objs.size ≤ s.heap.objs.size:=Nat.le_trans I.ok.above (Nat.le_of_lt I.lt)
theorem Inv.nofs (I:Inv X pins σ H s) {a:Addr} (h:s.heap.objs.size ≤ a):a ∉ X.fs:=fun hb=>by
  obtain ⟨_,o,ho,_⟩:=I.ok.funs.mem hb
  exact absurd (Nat.lt_of_lt_of_le (Heap.lt_size ho) (Nat.le_trans I.sz h)) (Nat.lt_irrefl _)
theorem Inv.cne (I:Inv X pins σ H s):∀ x c,X.env.cells.lookup x=some c→c ≠ X.env.locals:=fun x c e z=>by
  obtain ⟨v,o,ho,hd⟩:=I.cell x c e
  obtain ⟨m,⟨o',es,ep,ho',hd',_⟩,_⟩:=I.loc
  rw [z,ho'] at ho; cases ho; rw [hd'] at hd; cases hd
theorem Inv.funs (I:Inv X pins σ H s):s.heap.FunFrames X.base X.outer:=by
  have all:∀ (l:List Env),(∀ b ∈ frs l,b ∈ X.fs)→X.s₀.heap.FunFrames X.base l→s.heap.FunFrames X.base l:=by
    intro l
    induction l with
    | nil=>intro _ _; trivial
    | cons env r ih =>
      intro hs hl
      obtain ⟨hk,⟨L,o,hf,hn,ho,hd⟩,hr⟩:=hl
      have hL:L ∈ X.fs:=hs L (by unfold frs; rw [List.filterMap_cons,hf]; exact List.mem_cons_self)
      obtain ⟨sl,e⟩:=I.base.slot L o ho (I.ok.frf L hL) hL fun z=>I.ok.exfs L z hL
      exact ⟨hk,⟨L,_,hf,hn,e,hd⟩,ih (fun b hb=>hs b (by unfold frs; rw [List.filterMap_cons,hf]; exact List.mem_cons_of_mem _ hb)) hr⟩
  exact all X.outer (fun _ hb=>hb) I.ok.funs
theorem Inv.stack (I:Inv X pins σ H s):s.heap.FunFrames X.base X.stack:=by
  rcases I.ok.stk with e | ⟨e,hf⟩
  · rw [e]; exact I.funs
  · rw [e]
    obtain ⟨m,hn,_⟩:=I.loc
    refine .cons (by rw [I.ok.kind]; decide) hf hn ?_ I.funs
    exact Heap.get?_none_of_le (Nat.le_trans I.ok.bsz I.ok.above)
theorem Inv.stkSub (I:Inv X pins σ H s):∀ b ∈ frs X.stack,b ∈ X.env.locals :: X.fs:=fun b hb=>by
  rcases I.ok.stk with e | ⟨e,hf⟩
  · rw [e] at hb; exact List.mem_cons_of_mem _ hb
  · rw [e] at hb
    unfold frs at hb
    rw [List.filterMap_cons,hf] at hb
    exact hb
theorem Inv.stkFree (I:Inv X pins σ H s):∀ b ∈ frs X.stack,H b=none:=fun b hb=>by
  rcases List.mem_cons.mp (I.stkSub b hb) with e | hb
  · rw [e]; exact I.free
  · obtain ⟨_,o,ho,_⟩:=I.ok.funs.mem hb
    exact I.base.free b o ho (I.ok.frf b hb) fun z=>I.ok.exfs b z hb
theorem Inv.step {g':Array GenState} {t':Nat} {d':Drawn} {ch:List Addr} (I:Inv X pins σ H s)
    (hch:∀ b ∈ ch,(b ∈ X.ex∨X.s₀.heap.objs.size ≤ b)∧b ≠ X.env.locals∧(∀ x c,X.env.cells.lookup x=some c→c ≠ b)∧∀ p ∈ X.pn ++ pins,p.1 ≠ b)
    (keep:∀ b o,b ≠ X.env.locals→b ∉ X.fs→b ∉ ch→s.heap.get? b=some o→H b=none→h'.get? b=some o)
    (slot:∀ b o,b ≠ X.env.locals→b ∈ X.fs→b ∉ ch→s.heap.get? b=some o→H b=none→∃ sl,h'.get? b=some { o with slots:=sl }) (free:∀ b o,b ∉ ch→s.heap.get? b=some o→H b=none→H' b=none)
    (there:∀ b o,b ∉ ch→s.heap.get? b=some o→∃ o',h'.get? b=some o')
    (tups:∀ b xs,H b=some (.tup xs)→H' b=some (.tup xs)) (frzs:∀ b o u,H b=some (.frz o u)→H' b=some (.frz o u)) (tbls:∀ b ps,H b=some (.tbl ps)→∃ more,H' b=some (.tbl (ps ++ more)))
    (ns:∀ m,s.heap.Ns X.env.locals m→h'.Ns X.env.locals m) (hok:HOk X.prog X.w H' h') (hg:AllBare g') :
    Inv X pins σ H' { s with heap:=h',gens:=g',drawn:=d',toks:=t' }:=by
  have neL:∀ b o,X.s₀.heap.get? b=some o→b ≠ X.env.locals:=fun b o e=>Nat.ne_of_lt (Nat.lt_of_lt_of_le (Heap.lt_size e) I.ok.above)
  have neC:∀ b o,X.s₀.heap.get? b=some o→b ∉ X.ex→b ∉ ch:=fun b o e hx hb=>by
    rcases (hch b hb).1 with z | z
    · exact hx z
    · exact absurd (Nat.lt_of_lt_of_le (Heap.lt_size e) z) (Nat.lt_irrefl _)
  have cellK:∀ x c,X.env.cells.lookup x=some c→∀ v,s.heap.IsCell c v→h'.IsCell c v:=fun x c e v ⟨o,ho,hd⟩=>by
    have nch:c ∉ ch:=fun z=>(hch c z).2.2.1 x c e rfl
    by_cases hc:c ∈ X.fs
    · obtain ⟨sl,q⟩:=slot c o (I.cne x c e) hc nch ho (I.freeC x c e)
      exact ⟨_,q,hd⟩
    · exact ⟨o,keep c o (I.cne x c e) hc nch ho (I.freeC x c e),hd⟩
  refine ⟨I.ok,I.os,hg,⟨fun b o e n hb hx=>?_,fun b o e n hb hx=>?_,fun b o e n hx=>?_,fun b o e hx=>?_,fun b xs e=>tups b xs (I.base.tups b xs e),fun b o xs e=>frzs b o xs (I.base.frzs b o xs e),fun b ps e=>?_⟩,?_,fun x c e=>?_,?_,fun x c e=>?_,fun p hp=>?_,hok,I.len⟩
  · exact keep b o (neL b o e) hb (neC b o e hx) (I.base.keep b o e n hb hx) (I.base.free b o e n hx)
  · obtain ⟨sl,e1⟩:=I.base.slot b o e n hb hx
    obtain ⟨sl',e2⟩:=slot b _ (neL b o e) hb (neC b o e hx) e1 (I.base.free b o e n hx)
    exact ⟨sl',e2⟩
  · obtain ⟨o',e1⟩:=I.base.there b o e hx
    exact free b o' (neC b o e hx) e1 (I.base.free b o e n hx)
  · obtain ⟨o',e1⟩:=I.base.there b o e hx
    exact there b o' (neC b o e hx) e1
  · obtain ⟨m1,e1⟩:=I.base.tbls b ps e
    obtain ⟨m2,e2⟩:=tbls b _ e1
    exact ⟨m1 ++ m2,by rw [e2,Array.append_assoc]⟩
  · obtain ⟨m,hn,hl⟩:=I.loc
    refine ⟨m,ns m hn,fun i x v e1 e2 e3=>?_⟩
    obtain ⟨u,r,l⟩:=hl i x v e1 e2 e3
    refine ⟨u,r,?_⟩
    rcases l with l | ⟨k,c,e,z⟩
    · exact .inl l
    · exact .inr ⟨k,c,e,cellK x c e _ z⟩
  · obtain ⟨v,z⟩:=I.cell x c e
    exact ⟨v,cellK x c e v z⟩
  · obtain ⟨m,⟨o,_,_,ho,_⟩,_⟩:=I.loc
    exact free _ o (fun z=>(hch _ z).2.1 rfl) ho I.free
  · obtain ⟨v,o,ho,hd⟩:=I.cell x c e
    exact free c o (fun z=>(hch c z).2.2.1 x c e rfl) ho (I.freeC x c e)
  · obtain ⟨e,n,ne,nf,d⟩:=I.pin p hp
    have nch:p.1 ∉ ch:=fun z=>(hch p.1 z).2.2.2 p hp rfl
    exact ⟨keep p.1 p.2 ne nf nch e n,free p.1 p.2 nch e n,ne,nf,d⟩
theorem Inv.un {t':Nat} (I:Inv X pins σ H s) (u:Un X.fs [] H H' s.heap h') (hok:HOk X.prog X.w H' h'):Inv X pins σ H' { s with heap:=h',toks:=t' }:=by
  obtain ⟨m,⟨o,es,ep,ho,r⟩,_⟩:=id I.loc
  obtain ⟨sl,hL⟩:=u.any ho I.free (by simp)
  exact I.step (g':=s.gens) (d':=s.drawn) (ch:=[]) (fun _ z=>nomatch z) (fun b o _ hb _ e n=>u.keep b o e n hb (by simp)) (fun b o _ hb _ e n=>u.slot b o e n hb (by simp)) (fun b o _ e n=>u.free b o e n (by simp)) (fun b o _ e=>u.there b o e (by simp)) u.tups u.frzs u.tbls (fun m' hm=>by
    obtain ⟨o',es',ep',ho',r'⟩:=hm
    rw [ho] at ho'; cases ho'
    exact ⟨_,es',ep',hL,r'⟩) hok I.bare
theorem Inv.call {g':Array GenState} {t':Nat} {d':Drawn} {ch:List Addr} (I:Inv X pins σ H s) (u:Un (frs X.stack) ch H H' s.heap h') (hok:HOk X.prog X.w H' h') (hg:AllBare g')
    (hch:∀ b ∈ ch,(b ∈ X.ex∨X.s₀.heap.objs.size ≤ b)∧b ≠ X.env.locals∧(∀ x c,X.env.cells.lookup x=some c→c ≠ b)∧∀ p ∈ X.pn ++ pins,p.1 ≠ b) :
    Inv X pins σ H' { s with heap:=h',gens:=g',drawn:=d',toks:=t' }:=by
  obtain ⟨m,⟨o,es,ep,ho,r⟩,_⟩:=id I.loc
  obtain ⟨sl,hL⟩:=u.any ho I.free fun z=>(hch _ z).2.1 rfl
  exact I.step (ch:=ch) hch (fun b o hL hb hc e n=>u.keep b o e n (fun z=>(List.mem_cons.mp (I.stkSub b z)).elim hL hb) hc) (fun b o _ _ hc e n=>u.any e n hc) (fun b o hc e n=>u.free b o e n hc) (fun b o hc e=>u.there b o e hc) u.tups u.frzs u.tbls (fun m' hm=>by
    obtain ⟨o',es',ep',ho',r'⟩:=hm
    rw [ho] at ho'; cases ho'
    exact ⟨_,es',ep',hL,r'⟩) hok hg
theorem Inv.turned {t':Nat} {it:Addr} (I:Inv X pins σ H s) (k:∀ b o,b ≠ it→s.heap.get? b=some o→h'.get? b=some o) (hn:H it=none) (hL:it ≠ X.env.locals)
    (h1:it ∈ X.ex∨X.s₀.heap.objs.size ≤ it) (h2:∀ x c,X.env.cells.lookup x=some c→c ≠ it) (h3:∀ p ∈ X.pn ++ pins,p.1 ≠ it):Inv X pins σ H { s with heap:=h',toks:=t' }:=by
  have nit:∀ b u,H b=some u→b ≠ it:=fun b u e z=>by rw [z,hn] at e; cases e
  refine I.step (g':=s.gens) (d':=s.drawn) (ch:=[it]) (fun b hb=>?_) (fun b o _ _ hc e _=>k b o (fun z=>hc (by simp [z])) e) (fun b o _ _ hc e _=>⟨o.slots,k b o (fun z=>hc (by simp [z])) e⟩) (fun _ _ _ _ n=>n)
    (fun b o hc e=>⟨o,k b o (fun z=>hc (by simp [z])) e⟩) (fun _ _ e=>e) (fun _ _ _ e=>e) (fun b ps e=>⟨#[],by rw [e]; simp⟩) (fun m hm=>?_) (fun b u e=>?_) I.bare
  · have e:b=it:=by simpa using hb
    subst e
    exact ⟨h1,hL,h2,h3⟩
  · obtain ⟨o,es,ep,ho,r⟩:=hm
    exact ⟨o,es,ep,k _ o (Ne.symm hL) ho,r⟩
  · refine (I.hok b u e).stay (fun c v hc q=>k c v ?_ q) (fun _ q=>q) fun _ _ q=>q
    rcases hc with z | z
    · rw [z]; exact nit b u e
    · exact nit c _ z
theorem Inv.tok (I:Inv X pins σ H s) (t:Nat):Inv X pins σ H { s with toks:=t }:=I.un (h':=s.heap) (t':=t) Un.refl I.hok
theorem Inv.kept {t':Nat} (I:Inv X pins σ H s) (k:∀ b u,s.heap.get? b=some u→h'.get? b=some u):Inv X pins σ H { s with heap:=h',toks:=t' }:=I.un (Un.kept k) (I.hok.kept k)
theorem Inv.laid {a:Addr} {o:HO} {t':Nat} (I:Inv X pins σ H s) (k:∀ b u,s.heap.get? b=some u→h'.get? b=some u) (hp:s.heap.objs.size ≤ a) (new:ObjOk X.prog X.w (upd H a o) h' a o) :
    Inv X pins σ (upd H a o) { s with heap:=h',toks:=t' }:=I.un (Un.laid k hp (I.hok.fresh hp)) (I.hok.laid k hp new)
theorem Inv.write {x e:Addr} {o:HO} {t':Nat} (I:Inv X pins σ H s) (mu:Mut (H x)) (he:e=x∨H e=some (.own x)) (k:∀ b u,b ≠ e→s.heap.get? b=some u→h'.get? b=some u) (heo:∃ u,h'.get? e=some u)
    (new:ObjOk X.prog X.w (upd H x o) h' x o):Inv X pins σ (upd H x o) { s with heap:=h',toks:=t' }:=I.un (Un.write mu he k heo) (I.hok.write mu he k heo new)
theorem Inv.weak {σ':List (Option V)} (I:Inv X pins σ H s) (hl:σ'.length=σ.length) (w:∀ (i:Nat) v,σ'[i]?=some (some v)→σ[i]?=some (some v)):Inv X pins σ' H s :=
  ⟨I.ok,I.os,I.bare,I.base,let ⟨m,hn,hl'⟩:=I.loc; ⟨m,hn,fun i x v e1 e2 e3=>hl' i x v e1 (w i v e2) e3⟩,I.cell,I.free,I.freeC,I.pin,I.hok,hl.trans I.len⟩
theorem Inv.pins_of {pins':List (Addr × Obj)} (I:Inv X pins σ H s) (h:∀ p ∈ pins',s.heap.get? p.1=some p.2∧H p.1=none∧p.1 ≠ X.env.locals∧p.1 ∉ X.fs∧∀ v,p.2.data ≠ .cell v):Inv X pins' σ H s :=
  ⟨I.ok,I.os,I.bare,I.base,I.loc,I.cell,I.free,I.freeC,fun p hp=>(List.mem_append.mp hp).elim (fun z=>I.pin p (List.mem_append_left _ z)) (h p),I.hok,I.len⟩
theorem zgQ {N:List Str} (hN:N.Nodup) {i j:Nat} {x:Str} (a:N[i]?=some x) (b:N[j]?=some x):i=j:=by
  obtain ⟨h1,e1⟩:=List.getElem?_eq_some_iff.mp a
  obtain ⟨h2,e2⟩:=List.getElem?_eq_some_iff.mp b
  exact (List.getElem_inj hN).mp (e1.trans e2.symm)
theorem zkw {M:Model} {A:Around} {E:Value→Shared→Prop} {i:Nat} {x:Str} {v:V} {u:Value} {Q:Unit→Shared→Prop} (I:Inv X pins σ H s) (hN:X.N.Nodup) (hi:X.N[i]?=some x) (hx:Loc X.env.scope x) (r:RelV v u)
    (h:∀ s',Inv X pins (σ.set i (some v)) H s'→(∃ a,Heap.SameBut a s.heap s'.heap∧(a=X.env.locals∨X.env.cells.lookup x=some a))→Q () s') (hf:X.fn x=true∨X.env.scope.names.lookup x=some .local:=by first | exact .inl rfl | exact .inr rfl | assumption):wpAny M A (storeName X.env x u) Q E s:=by
  obtain ⟨m,hn,hl⟩:=id I.loc
  have hcls:(X.env.scope.kind == .class || (X.env.scope.kind == .module && X.env.locals != X.env.globals))=false:=by rw [I.ok.kind]; rfl
  have hiσ:i < σ.length:=by rw [I.len]; exact (List.getElem?_eq_some_iff.mp hi).1
  have cne:=I.cne
  have tracked:∀ {a:Addr} {h':Heap},(∃ o,s.heap.get? a=some o∧H a=none)→Heap.SameBut a s.heap h'→HOk X.prog X.w H h':=fun {a h'} ha hs b ob e=>by
    obtain ⟨_,_,hfree⟩:=ha
    refine (I.hok b ob e).stay (fun c w' hc q=>(hs.2 c ?_).trans q) (fun _ q=>q) fun _ _ q=>q
    rintro rfl
    rcases hc with rfl | hc
    · rw [hfree] at e; cases e
    · rw [hfree] at hc; cases hc
  rcases hx with hk | hk
  · refine wpAny_storeName_local hk hn (fun h' hn' hs=>?_) hcls
    obtain ⟨oL,_,_,hoL,_⟩:=id hn
    refine h _ ⟨I.ok,I.os,I.bare,⟨fun b o e n hb hx=>?_,fun b o e n hb hx=>?_,I.base.free,fun b o e hx=>?_,I.base.tups,I.base.frzs,I.base.tbls⟩,⟨_,hn',fun j y v' e1 e2 e3=>?_⟩,fun y c e=>?_,I.free,I.freeC,fun p hp=>?_,tracked ⟨oL,hoL,I.free⟩ hs,by simpa using I.len⟩ ⟨_,hs,.inl rfl⟩
    · exact (hs.2 b (Nat.ne_of_lt (Nat.lt_of_lt_of_le (Heap.lt_size e) I.ok.above))).trans (I.base.keep b o e n hb hx)
    · obtain ⟨sl,e1⟩:=I.base.slot b o e n hb hx
      exact ⟨sl,(hs.2 b (Nat.ne_of_lt (Nat.lt_of_lt_of_le (Heap.lt_size e) I.ok.above))).trans e1⟩
    · obtain ⟨o',e1⟩:=I.base.there b o e hx
      exact ⟨o',(hs.2 b (Nat.ne_of_lt (Nat.lt_of_lt_of_le (Heap.lt_size e) I.ok.above))).trans e1⟩
    · by_cases hj:j=i
      · subst hj
        rw [hi] at e1; cases e1
        rw [List.getElem?_set_self hiσ] at e2
        cases e2
        exact ⟨u,r,.inl ⟨hk,by simp⟩⟩
      · rw [List.getElem?_set_ne (Ne.symm hj)] at e2
        obtain ⟨u',r',q⟩:=hl j y v' e1 e2 e3
        refine ⟨u',r',?_⟩
        rcases q with ⟨k,e⟩ | ⟨k,c,e,z⟩
        · refine .inl ⟨k,?_⟩
          have:y ≠ x:=fun e=>hj (zgQ hN e1 (e ▸ hi))
          simp [this,e]
        · exact .inr ⟨k,c,e,z.sameBut hs (cne y c e)⟩
    · obtain ⟨w',z⟩:=I.cell y c e
      exact ⟨w',z.sameBut hs (cne y c e)⟩
    · obtain ⟨e,n,ne,nf,d⟩:=I.pin p hp
      exact ⟨(hs.2 p.1 ne).trans e,n,ne,nf,d⟩
  · have hfn:X.fn x=true:=by
      rcases hf with z | z
      · exact z
      · rw [z] at hk; cases hk
    obtain ⟨c,hc⟩:=I.ok.has x (.inl hk)
    obtain ⟨w',z⟩:=I.cell x c hc
    refine wpAny_storeName_cell I.ok.kind hk hc z (fun h' hc' hs=>?_)
    obtain ⟨oc,hoc,hocd⟩:=id z
    refine h { s with heap:=h' } ⟨I.ok,I.os,I.bare,⟨fun b o e n hb hx=>?_,fun b o e n hb hx=>?_,I.base.free,fun b o e hx=>?_,I.base.tups,I.base.frzs,I.base.tbls⟩,⟨m,hn.sameBut hs (Ne.symm (cne x c hc)),fun j y v' e1 e2 e3=>?_⟩,fun y c' e=>?_,I.free,I.freeC,fun p hp=>?_,tracked ⟨oc,hoc,I.freeC x c hc⟩ hs,by simpa using I.len⟩ ⟨c,hs,.inr hc⟩
    · exact (hs.2 b (Nat.ne_of_lt (Nat.lt_of_lt_of_le (Heap.lt_size e) (I.ok.cab x c hfn hc)))).trans (I.base.keep b o e n hb hx)
    · obtain ⟨sl,e1⟩:=I.base.slot b o e n hb hx
      exact ⟨sl,(hs.2 b (Nat.ne_of_lt (Nat.lt_of_lt_of_le (Heap.lt_size e) (I.ok.cab x c hfn hc)))).trans e1⟩
    · obtain ⟨o',e1⟩:=I.base.there b o e hx
      exact ⟨o',(hs.2 b (Nat.ne_of_lt (Nat.lt_of_lt_of_le (Heap.lt_size e) (I.ok.cab x c hfn hc)))).trans e1⟩
    · by_cases hj:j=i
      · subst hj
        rw [hi] at e1; cases e1
        rw [List.getElem?_set_self hiσ] at e2
        cases e2
        exact ⟨u,r,.inr ⟨.inl hk,c,hc,hc'⟩⟩
      · rw [List.getElem?_set_ne (Ne.symm hj)] at e2
        obtain ⟨u',r',q⟩:=hl j y v' e1 e2 e3
        refine ⟨u',r',?_⟩
        rcases q with q | ⟨k,c',e,z'⟩
        · exact .inl q
        · refine .inr ⟨k,c',e,z'.sameBut hs ?_⟩
          rintro rfl
          exact hj (zgQ hN e1 (I.ok.inj _ _ _ e hc ▸ hi))
    · by_cases hcc:c'=c
      · subst hcc; exact ⟨_,hc'⟩
      · obtain ⟨w2,z2⟩:=I.cell y c' e
        exact ⟨w2,z2.sameBut hs hcc⟩
    · obtain ⟨e,n,ne,nf,d⟩:=I.pin p hp
      refine ⟨(hs.2 p.1 ?_).trans e,n,ne,nf,d⟩
      intro q
      rw [q,hoc] at e
      have q':oc=p.2:=Option.some.inj e
      exact d w' (by rw [← q']; exact hocd)
theorem zd8 {M:Model} {A:Around} {E:Value→Shared→Prop} {i:Nat} {x:Str} {v:V} {u:Value} {Q:Unit→Shared→Prop} (I:Inv X pins σ H s) (hN:X.N.Nodup) (hi:X.N[i]?=some x) (hx:Loc X.env.scope x) (r:RelV v u)
    (h:∀ s',Inv X pins (σ.set i (some v)) H s'→Q () s') (hf:X.fn x=true∨X.env.scope.names.lookup x=some .local:=by first | exact .inl rfl | exact .inr rfl | assumption):wpAny M A (storeName X.env x u) Q E s :=
  zkw I hN hi hx r (fun s' I' _=>h s' I') hf
end
abbrev XK:=Value→Option Addr→Hp→Prop
abbrev St:=List (Option V)
abbrev VK:=V→Hp→Prop
abbrev TE:=St→Hp→VK→Prop
abbrev TT:=St→Hp→(Bool→Hp→Prop)→Prop
abbrev TA:=St→Hp→(List V→Hp→Prop)→Prop
structure Ends where
  nx:St→Hp→Prop
  rt:VK
  bk:St→Hp→Prop:=fun _ _=>False
  ct:St→Hp→Prop:=fun _ _=>False
abbrev TS:=Ends→St→Hp→Prop
def EP (X:Cx) (pins:List (Addr × Obj)) (σ:St) (Q:VK) (u:Value) (s':Shared):Prop:=∃ v H',Inv X pins σ H' s'∧RelV v u∧Q v H'
def TP (X:Cx) (pins:List (Addr × Obj)) (σ:St) (Q:Bool→Hp→Prop) (b:Bool) (s':Shared):Prop:=∃ H',Inv X pins σ H' s'∧Q b H'
def AP (X:Cx) (pins:List (Addr × Obj)) (σ:St) (Q:List V→Hp→Prop) (us:List Value) (s':Shared):Prop:=∃ vs H',Inv X pins σ H' s'∧Vals vs us∧Q vs H'
def SP (X:Cx) (pins:List (Addr × Obj)) (D:Ends) (f:Flow) (s':Shared):Prop :=
  match f with
  | .next=>∃ σ' H',Inv X pins σ' H' s'∧D.nx σ' H'
  | .brk=>∃ σ' H',Inv X pins σ' H' s'∧D.bk σ' H'
  | .cont=>∃ σ' H',Inv X pins σ' H' s'∧D.ct σ' H'
  | .ret u=>∃ v σ' H',Inv X pins σ' H' s'∧RelV v u∧D.rt v H'
def PE (X:Cx) (e:Expr) (t:TE):Prop :=
  ∀ (pins:List (Addr × Obj)) (s:Shared) (σ:St) (H:Hp) (Q:VK),Inv X pins σ H s→t σ H Q→wpAny (model X.prog X.w) X.A (eval e X.env) (EP X pins σ Q) X.xe s
def PT (X:Cx) (e:Expr) (t:TT):Prop :=
  ∀ (pins:List (Addr × Obj)) (s:Shared) (σ:St) (H:Hp) (Q:Bool→Hp→Prop),Inv X pins σ H s→t σ H Q→wpAny (model X.prog X.w) X.A (isTrue e X.env (eval e X.env)) (TP X pins σ Q) X.xe s
def PW (X:Cx) (e:Expr) (t:TT):Prop :=
  ∀ (whole:Sem Value) (pins:List (Addr × Obj)) (s:Shared) (σ:St) (H:Hp) (Q:Bool→Hp→Prop),Inv X pins σ H s→t σ H Q→wpAny (model X.prog X.w) X.A (isTrue e X.env whole) (TP X pins σ Q) X.xe s
theorem PW.pt {X:Cx} {e:Expr} {t:TT} (h:PW X e t):PT X e t:=h _
def PA (X:Cx) (es:List Expr) (t:TA):Prop :=
  ∀ (pos:Pos) (pins:List (Addr × Obj)) (s:Shared) (σ:St) (H:Hp) (Q:List V→Hp→Prop),Inv X pins σ H s→t σ H Q→wpAny (model X.prog X.w) X.A (spliced (backTo pos (starEach es X.env))) (AP X pins σ Q) X.xe s
def PS (X:Cx) (st:Stmt) (t:TS):Prop :=
  ∀ (pins:List (Addr × Obj)) (s:Shared) (σ:St) (H:Hp) (D:Ends),Inv X pins σ H s→t D σ H→wpAny (model X.prog X.w) X.A (exec st X.env) (SP X pins D) X.xe s
def PSs (X:Cx) (st:List Stmt) (t:TS):Prop :=
  ∀ (pins:List (Addr × Obj)) (s:Shared) (σ:St) (H:Hp) (D:Ends),Inv X pins σ H s→t D σ H→wpAny (model X.prog X.w) X.A (execs st X.env) (SP X pins D) X.xe s
theorem thn {α:Type} {t:Sem α} {Q Q':α→Shared→Prop} {M:Model} {A:Around} {E:Value→Shared→Prop} {s:Shared} (h:wpAny M A t Q E s) (hQ:∀ a s,Q a s→Q' a s):wpAny M A t Q' E s:=wpAny_mono h hQ fun _ _ x=>x
end L2
namespace L2
open PySem PySem.Spec PyProof.Rows
section
variable {X:Cx}
def tVar (i:Nat):TE:=fun σ H Q=>∃ v,σ[i]?=some (some v)∧Q v H
def tC (v:V):TE:=fun _ H Q=>Q v H
theorem zpK {i:Nat} {x:Str} {pos:Pos} (hN:X.N[i]?=some x) (hv:Vis X.env.scope x) (hd:(x == ("__debug__" : Str))=false:=by decide) (hcd:(x == ("__classdict__" : Str))=false:=by decide):PE X (.Name x pos) (tVar i):=by
  intro pins s σ H Q I h
  obtain ⟨v,e,h⟩:=h
  obtain ⟨m,hn,hl⟩:=I.loc
  obtain ⟨u,r,l⟩:=hl i x v hN e hv
  have fin:EP X pins σ Q u s:=⟨v,H,I,r,h⟩
  rcases l with ⟨hk,hm⟩ | ⟨hk,c,hc,hcell⟩
  · exact wpAny_Name (wpAny_loadName_local I.ok.kind hk hn hm fin) hd
  · rcases hk with hk | hk
    · exact wpAny_Name (wpAny_loadName_cell I.ok.kind hk hc hcell fin) hd
    · exact wpAny_Name (wpAny_loadName_free I.ok.kind hk hc hcell fin hcd) hd
theorem zal {i j pos}:PE X (.Constant (.int i) j pos) (tC (.int i)):=fun _ _ _ H _ I h=>wpAny_Constant_int ⟨.int i,H,I.tok _,⟨_,rfl⟩,h⟩
theorem zgp {b j pos}:PE X (.Constant (.bool b) j pos) (tC (.bl b)):=fun _ _ _ H _ I h=>Constant_bool ⟨.bl b,H,I,rfl,h⟩
theorem zfH {j pos}:PE X (.Constant .none j pos) (tC .non):=fun _ _ _ H _ I h=>Constant_none ⟨.non,H,I,rfl,h⟩
theorem zpo {x j pos}:PE X (.Constant (.str x) j pos) (tC (.str x)):=fun _ _ _ H _ I h=>Calls.Constant_str ⟨.str x,H,I.tok _,⟨_,rfl⟩,h⟩
def Gl (X:Cx) (x:Str):Prop:=X.env.kindOf x=some .globalImplicit
theorem zdL {E:Value→Shared→Prop} {pins:List (Addr × Obj)} {s:Shared} {σ:St} {H:Hp} {x:Str} {u:Value} {pos:Pos} {Q:Value→Shared→Prop} (I:Inv X pins σ H s) (hg:Gl X x) (hm:X.mg x=some u) (h:Q u s)
    (hd:(x == ("__debug__" : Str))=false:=by decide):wpAny (model X.prog X.w) X.A (eval (.Name x pos) X.env) Q E s :=
  Calls.Name_function_global I.ok.kind hg (Calls.loadGlobal_global (by rw [I.ok.glob]; exact I.mod.glob.keeps I.bk) hm h) hd
theorem zeh {E:Value→Shared→Prop} {pins:List (Addr × Obj)} {s:Shared} {σ:St} {H:Hp} {x:Str} {u:Value} {pos:Pos} {Q:Value→Shared→Prop} (I:Inv X pins σ H s) (hg:Gl X x) (hm:X.mg x=none) (hv:bootBuiltins x=some u) (h:Q u s)
    (hn:x ≠ "__name__":=by decide) (hd:(x == ("__debug__" : Str))=false:=by decide):wpAny (model X.prog X.w) X.A (eval (.Name x pos) X.env) Q E s:=by
  obtain ⟨mb,h1,h2⟩:=I.mod.blt
  exact Calls.Name_function_global I.ok.kind hg (Calls.loadGlobal_builtin (by rw [I.ok.glob]; exact I.mod.glob.keeps I.bk) hm (by rw [I.ok.blt]; exact h1.keeps I.bk) ((h2 x hn).trans hv) h) hd
theorem ze7 {x:Str} {v:V} {u:Value} {pos:Pos} (hg:Gl X x) (hm:X.mg x=some u) (r:RelV v u) (hd:(x == ("__debug__" : Str))=false:=by decide):PE X (.Name x pos) (tC v) :=
  fun _ _ _ H _ I h=>zdL I hg hm ⟨v,H,I,r,h⟩ hd
theorem zn5 {x:Str} {v:V} {u:Value} {pos:Pos} (hg:Gl X x) (hm:X.mg x=none) (hv:bootBuiltins x=some u) (r:RelV v u) (hn:x ≠ "__name__":=by decide) (hd:(x == ("__debug__" : Str))=false:=by decide):PE X (.Name x pos) (tC v) :=
  fun _ _ _ H _ I h=>zeh I hg hm hv ⟨v,H,I,r,h⟩ hn hd
variable {a b:Expr} {ta tb:TE} {pos:Pos}
def PC (X:Cx) (op:CmpOp) (a b:Expr) (t:TE):Prop :=
  ∀ (pins:List (Addr × Obj)) (s:Shared) (σ:St) (H:Hp) (Q:VK),Inv X pins σ H s→t σ H Q →
    wpAny (model X.prog X.w) X.A (eval a X.env) (fun v s₁=>wpAny (model X.prog X.w) X.A (eval b X.env) (fun u s₂=>wpAny (model X.prog X.w) X.A (compareOp op v u) (EP X pins σ Q) X.xe s₂) X.xe s₁) X.xe s
def tB (t:TE):TT:=fun σ H Q=>t σ H fun x H1=>∃ c,x = .bl c∧Q c H1
theorem ziu {op:CmpOp} {t:TE} (h:PC X op a b t) (h1:behindInMarks op b=false:=by first | exact nobehind _ (by decide) (by decide) | rfl):PT X (.Compare a [op] [b] pos) (tB t):=by
  intro pins s σ H Q I hw
  refine wpAny_isTrue_Compare1 (thn (h pins s σ H _ I hw) fun v s1 h1=>thn h1 fun u s2 h2=>thn h2 fun c s3 ⟨x,H1,I1,r1,q1⟩=>?_) h1
  obtain ⟨d,rfl,q⟩:=q1
  cases r1
  exact wpAny_truthy_bool ⟨H1,I1,q⟩
theorem zfo {e:Expr} {t:TE} (h:PE X e t) (he:∀ whole,isTrue e X.env whole=(do let v ← whole; standAt e.pos; holding [v] (truthy v)):=by intro _; rfl):PT X e (tB t):=by
  intro pins s σ H Q I hw
  refine isTrue_plain (thn (h pins s σ H _ I hw) fun v s1 ⟨x,H1,I1,r1,q1⟩=>?_) (he _)
  obtain ⟨d,rfl,q⟩:=q1
  cases r1
  exact wpAny_truthy_bool ⟨H1,I1,q⟩
variable {tA tB':TT} {rest:List Expr}
def tAnd (t u:TT):TT:=fun σ H Q=>t σ H fun c H1=>if c=true then u σ H1 Q else Q false H1
def tOr (t u:TT):TT:=fun σ H Q=>t σ H fun c H1=>if c=true then Q true H1 else u σ H1 Q
def tNot (t:TT):TT:=fun σ H Q=>t σ H fun c H1=>Q (!c) H1
theorem zlF (ha:PT X a tA):PW X (.BoolOp .And [a] pos) tA:=by
  intro wh pins s σ H Q I h
  refine isTrue_and (thn (ha pins s σ H Q I h) fun c s1 e=>?_)
  cases c with
  | true=>exact isTrue_and_nil e
  | false=>exact e
theorem ziA (ha:PT X a tA):PW X (.BoolOp .Or [a] pos) tA:=by
  intro wh pins s σ H Q I h
  refine isTrue_or (thn (ha pins s σ H Q I h) fun c s1 e=>?_)
  cases c with
  | false=>exact isTrue_or_nil e
  | true=>exact e
theorem zmR (ha:PT X a tA) (hb:PW X (.BoolOp .And (b :: rest) pos) tB'):PW X (.BoolOp .And (a :: b :: rest) pos) (tAnd tA tB'):=by
  intro wh pins s σ H Q I h
  refine isTrue_and (thn (ha pins s σ H _ I h) fun c s1 ⟨H1,I1,q1⟩=>?_)
  cases c with
  | true=>exact hb wh pins s1 σ H1 Q I1 q1
  | false=>exact ⟨H1,I1,q1⟩
theorem zjg (ha:PT X a tA) (hb:PW X (.BoolOp .Or (b :: rest) pos) tB'):PW X (.BoolOp .Or (a :: b :: rest) pos) (tOr tA tB'):=by
  intro wh pins s σ H Q I h
  refine isTrue_or (thn (ha pins s σ H _ I h) fun c s1 ⟨H1,I1,q1⟩=>?_)
  cases c with
  | true=>exact ⟨H1,I1,q1⟩
  | false=>exact hb wh pins s1 σ H1 Q I1 q1
theorem zhL (ha:PT X a tA):PT X (.UnaryOp .Not a pos) (tNot tA):=by
  intro pins s σ H Q I h
  exact isTrue_not (ha pins s σ H (fun c H1=>Q (!c) H1) I h)
def zpG (ta tb:TE):TE:=fun σ H Q=>ta σ H fun x H1=>∃ c,x = .bl c∧if c=true then tb σ H1 Q else Q (.bl false) H1
def zo8 (ta:TE):TE:=fun σ H Q=>ta σ H fun x H1=>∃ c,x = .bl c∧Q (.bl (!c)) H1
theorem zpu {op} {t:TE} (h:PE X a t):PE X (.BoolOp op [a] pos) t:=fun pins s σ H Q I hw=>BoolOp_one (h pins s σ H Q I hw)
theorem zpN (ha:PE X a ta) (hb:PE X (.BoolOp .And (b :: rest) pos) tb):PE X (.BoolOp .And (a :: b :: rest) pos) (zpG ta tb):=by
  intro pins s σ H Q I h
  refine BoolOp_and (thn (ha pins s σ H _ I h) fun v s1 ⟨x,H1,I1,r1,q1⟩=>?_)
  obtain ⟨c,rfl,q1⟩:=q1
  cases r1
  refine wpAny_truthy_bool ?_
  cases c with
  | true=>exact hb pins s1 σ H1 Q I1 q1
  | false=>exact ⟨.bl false,H1,I1,rfl,q1⟩
theorem znl (ha:PE X a ta):PE X (.UnaryOp .Not a pos) (zo8 ta):=by
  intro pins s σ H Q I h
  refine UnaryOp_ (thn (ha pins s σ H _ I h) fun v s1 ⟨x,H1,I1,r1,q1⟩=>?_)
  obtain ⟨c,rfl,q1⟩:=q1
  cases r1
  exact not_of (wpAny_truthy_bool ⟨.bl (!c),H1,I1,rfl,q1⟩)
end
end L2
namespace L2
open PySem PySem.Spec PyProof.Rows
def SqL (K:PySem.W.Frag) (H:Hp) (a:Addr) (xs:List V):Prop :=
  Rd H a (.lst xs) ∨
    ∃ (o:Obj) (its:Array Value) (n:Nat),K.lookup a=some o∧o.cls = .type "list"∧o.dict=none∧o.data = .seq its n∧its.size ≤ sizeLine∧Vals xs its.toList
def SqT (K:PySem.W.Frag) (H:Hp) (a:Addr) (xs:List V):Prop :=
  Rd H a (.tup xs) ∨
    ∃ (o:Obj) (its:Array Value) (n:Nat),K.lookup a=some o∧o.cls = .type "tuple"∧o.data = .seq its n∧its.size ≤ sizeLine∧Vals xs its.toList
def absV:Value→Option V
  | .none=>some .non
  | .bool b=>some (.bl b)
  | .int i _=>some (.int i)
  | .str x _=>some (.str x)
  | .bytes b _=>some (.byt b)
  | .float b _=>some (.flt b)
  | .ref a=>some (.ref a)
  | .type n=>some (.ty n)
  | _=>none
theorem RelV.abs {x:V} {u:Value} (r:RelV x u):absV u=some x:=by
  cases x with
  | non=>cases r; rfl
  | bl _=>cases r; rfl
  | int _=>obtain ⟨t,rfl⟩:=r; rfl
  | str _=>obtain ⟨t,rfl⟩:=r; rfl
  | byt _=>obtain ⟨t,rfl⟩:=r; rfl
  | flt _=>obtain ⟨t,rfl⟩:=r; rfl
  | ref _=>cases r; rfl
  | ty _=>cases r; rfl
theorem RelV.inj {x y:V} {u:Value} (r:RelV x u) (q:RelV y u):x=y:=Option.some.inj (r.abs.symm.trans q.abs)
theorem Vals.inj:∀ {xs ys:List V} {us:List Value},Vals xs us→Vals ys us→xs=ys
  | _,_,_,.nil,.nil=>rfl
  | _,_,_,.cons r t,.cons r' t'=>by rw [r.inj r',Vals.inj t t']
section
variable {X:Cx} {pins:List (Addr × Obj)} {σ:St} {H:Hp} {s:Shared} {a:Addr} {xs ys:List V}
theorem SqT.of {K:PySem.W.Frag} (h:H a=some (.tup xs)):SqT K H a xs:=.inl (.inl h)
theorem Inv.list (I:Inv X pins σ H s) (h:SqL X.K H a xs):∃ its:List Value,Vals xs its∧PlainL s.heap a its.toArray∧xs.length ≤ sizeLine:=by
  rcases h with h | ⟨o,its,n,hk,hc,hd,hs,hz,r⟩
  · obtain ⟨z,its,n,r,e⟩:=h.ok I.hok
    exact ⟨its,r,⟨_,n,e,rfl,rfl,rfl⟩,z⟩
  · refine ⟨its.toList,r,⟨o,n,I.kIn a o hk,hc,hd,by simpa using hs⟩,?_⟩
    have e:=r.length
    simp only [Array.length_toList] at e
    omega
theorem Inv.tuple (I:Inv X pins σ H s) (h:SqT X.K H a xs):∃ its:List Value,Vals xs its∧IsTup s.heap a its.toArray∧xs.length ≤ sizeLine:=by
  rcases h with h | ⟨o,its,n,hk,hc,hs,hz,r⟩
  · obtain ⟨z,its,r,p⟩:=h.ok I.hok
    exact ⟨its,r,p,z⟩
  · refine ⟨its.toList,r,⟨o,I.kIn a o hk,hc,n,by simpa using hs⟩,?_⟩
    have e:=r.length
    simp only [Array.length_toList] at e
    omega
theorem Inv.list_inj (I:Inv X pins σ H s) (h:SqL X.K H a xs) (h':SqL X.K H a ys):xs=ys:=by
  obtain ⟨its,r,⟨o,n,e,_,_,d⟩,_⟩:=I.list h
  obtain ⟨its',r',⟨o',n',e',_,_,d'⟩,_⟩:=I.list h'
  rw [e] at e'; cases e'
  rw [d] at d'
  injection d' with d1 _
  have:its=its':=by simpa using congrArg Array.toList d1
  subst this
  exact r.inj r'
theorem Inv.tuple_inj (I:Inv X pins σ H s) (h:SqT X.K H a xs) (h':SqT X.K H a ys):xs=ys:=by
  obtain ⟨its,r,⟨o,e,_,n,d⟩,_⟩:=I.tuple h
  obtain ⟨its',r',⟨o',e',_,n',d'⟩,_⟩:=I.tuple h'
  rw [e] at e'; cases e'
  rw [d] at d'
  injection d' with d1 _
  have:its=its':=by simpa using congrArg Array.toList d1
  subst this
  exact r.inj r'
end
abbrev Cx.wish (X:Cx) (E:Value→Shared→Prop):Cx:={ X with xe:=E }
abbrev Cx.nox (X:Cx):Cx:=X.wish fun _ _=>False
theorem Cx.Ok.wish {X:Cx} (ok:X.Ok) (E:Value→Shared→Prop):(X.wish E).Ok :=
  ⟨ok.mod,ok.kind,ok.glob,ok.blt,ok.above,ok.inj,ok.has,ok.cab,ok.hd,ok.frames,ok.stk,ok.exf,ok.bs,ok.bsz,ok.noex,ok.exfs,ok.funs,ok.frf,ok.tb⟩
theorem Cx.Ok.unwish {X:Cx} {E:Value→Shared→Prop} (ok:(X.wish E).Ok):X.Ok :=
  ⟨ok.mod,ok.kind,ok.glob,ok.blt,ok.above,ok.inj,ok.has,ok.cab,ok.hd,ok.frames,ok.stk,ok.exf,ok.bs,ok.bsz,ok.noex,ok.exfs,ok.funs,ok.frf,ok.tb⟩
section
variable {X:Cx} {pins:List (Addr × Obj)} {σ:St} {H:Hp} {s:Shared} {E:Value→Shared→Prop}
theorem Inv.wish (I:Inv X pins σ H s) (E:Value→Shared→Prop):Inv (X.wish E) pins σ H s:=⟨I.ok.wish E,I.os,I.bare,I.base,I.loc,I.cell,I.free,I.freeC,I.pin,I.hok,I.len⟩
theorem Inv.unwish (I:Inv (X.wish E) pins σ H s):Inv X pins σ H s:=⟨I.ok.unwish,I.os,I.bare,I.base,I.loc,I.cell,I.free,I.freeC,I.pin,I.hok,I.len⟩
theorem SP.unwish {D:Ends} {f:Flow} {s':Shared} (h:SP (X.wish E) pins D f s'):SP X pins D f s':=by
  cases f with
  | next=>obtain ⟨σ',H',I,q⟩:=h; exact ⟨σ',H',I.unwish,q⟩
  | brk=>obtain ⟨σ',H',I,q⟩:=h; exact ⟨σ',H',I.unwish,q⟩
  | cont=>obtain ⟨σ',H',I,q⟩:=h; exact ⟨σ',H',I.unwish,q⟩
  | ret u=>obtain ⟨v,σ',H',I,r,q⟩:=h; exact ⟨v,σ',H',I.unwish,r,q⟩
theorem PSs.nox {st:List Stmt} {t:TS} (h:PSs X.nox st t):PSs X st t:=fun pins s σ H D I hw =>
  wpAny_mono (h pins s σ H D (I.wish _) hw) (fun _ _ q=>q.unwish) fun _ _ z=>False.elim z
end
section
variable {X:Cx} {st:Stmt} {rest:List Stmt} {t u:TS} {e:Expr} {te:TE} {pos:Pos}
def zoF:TS:=fun D σ H=>D.nx σ H
def tSeq (t u:TS):TS:=fun D σ H=>t { D with nx:=u D } σ H
theorem zbG:PSs X [] zoF:=fun _ _ σ H _ I h=>wpAny_execs_nil ⟨σ,H,I,h⟩
theorem zae (h1:PS X st t) (h2:PSs X rest u):PSs X (st :: rest) (tSeq t u):=by
  intro pins s σ H D I h
  refine wpAny_execs_cons (thn (h1 pins s σ H { D with nx:=u D } I h) fun f s1 q=>?_)
  cases f with
  | next =>
    obtain ⟨σ',H',I',q⟩:=q
    exact h2 pins s1 σ' H' D I' q
  | ret v=>exact q
  | brk=>exact q
  | cont=>exact q
theorem zan (h1:PS X st t):PSs X [st] t:=by
  intro pins s σ H D I h
  refine wpAny_execs_cons (thn (h1 pins s σ H D I h) fun f s1 q=>?_)
  cases f with
  | next=>exact wpAny_execs_nil q
  | ret v=>exact q
  | brk=>exact q
  | cont=>exact q
theorem Inv.quiet {pins:List (Addr × Obj)} {σ:St} {H:Hp} {s:Shared} (I:Inv X pins σ H s):interactive X.env=false:=by simp [interactive,I.ok.kind]
def zky (te:TE):TS:=fun D σ H=>te σ H fun _ H1=>D.nx σ H1
theorem zdm (he:PE X e te) (hs:swapsWith e none pos.line X.env=pure false:=by rfl):PS X (.Expr e pos) (zky te):=by
  intro pins s σ H D I h
  exact wpAny_Expr_any (thn (he pins s σ H _ I h) fun v s1 ⟨x,H1,I1,r1,q1⟩=>⟨σ,H1,I1,q1⟩) I.quiet hs
def tRet (te:TE):TS:=fun D σ H=>te σ H D.rt
theorem zaR (he:PE X e te):PS X (.Return (some e) pos) (tRet te):=by
  intro pins s σ H D I h
  exact wpAny_Return_some (thn (he pins s σ H _ I h) fun v s1 ⟨x,H1,I1,r1,q1⟩=>⟨x,σ,H1,I1,r1,q1⟩)
def tIfS (c:TT) (t u:TS):TS:=fun D σ H=>c σ H fun b H1=>if b=true then t D σ H1 else u D σ H1
theorem zdb {c:Expr} {a b:List Stmt} {tc:TT} (hc:PT X c tc) (ha:PSs X a t) (hb:PSs X b u):PS X (.If c a b pos) (tIfS tc t u):=by
  intro pins s σ H D I h
  refine wpAny_If (thn (hc pins s σ H _ I h) fun d s1 ⟨H1,I1,q1⟩=>?_)
  cases d with
  | true=>exact ha pins s1 σ H1 D I1 q1
  | false=>exact hb pins s1 σ H1 D I1 q1
end
abbrev TG:=V→St→Hp→(St→Hp→Prop)→Prop
abbrev TGs:=List V→St→Hp→(St→Hp→Prop)→Prop
def PG (X:Cx) (target:Expr) (t:TG):Prop :=
  ∀ (pins:List (Addr × Obj)) (s:Shared) (σ:St) (H:Hp) (v:V) (u:Value) (Q:St→Hp→Prop),Inv X pins σ H s→RelV v u→t v σ H Q →
    wpAny (model X.prog X.w) X.A (assign target X.env u) (fun _ s'=>∃ σ' H',Inv X pins σ' H' s'∧Q σ' H') X.xe s
def PGs (X:Cx) (ts:List Expr) (t:TGs):Prop :=
  ∀ (pins:List (Addr × Obj)) (s:Shared) (σ:St) (H:Hp) (vs:List V) (us:List Value) (Q:St→Hp→Prop),Inv X pins σ H s→Vals vs us→t vs σ H Q →
    wpAny (model X.prog X.w) X.A (assignInOrder ((assignEach ts X.env).map (·.2)) us) (fun _ s'=>∃ σ' H',Inv X pins σ' H' s'∧Q σ' H') X.xe s
abbrev TIp:=V→V→Hp→VK→Prop
def PIp (X:Cx) (op:Operator) (t:TIp):Prop :=
  ∀ (pins:List (Addr × Obj)) (s:Shared) (σ:St) (H:Hp) (x y:V) (v u:Value) (Q:VK),Inv X pins σ H s→RelV x v→RelV y u→t x y H Q →
    wpAny (model X.prog X.w) X.A (inplaceOp op v u) (EP X pins σ Q) X.xe s
section
variable {X:Cx} {pos:Pos}
def zgj (i:Nat):TG:=fun v σ H Q=>Q (σ.set i (some v)) H
theorem zaG {i:Nat} {x:Str} (hN:X.N.Nodup) (hi:X.N[i]?=some x) (hx:Loc X.env.scope x) (hf:X.fn x=true∨X.env.scope.names.lookup x=some .local:=by first | exact .inl rfl | exact .inr rfl | assumption):PG X (.Name x pos) (zgj i):=by
  intro pins s σ H v u Q I r h
  exact wpAny_assign_Name (zd8 I hN hi hx r (fun s' I'=>⟨_,H,I',h⟩) hf)
def gNil:TGs:=fun vs σ H Q=>vs = []∧Q σ H
def zoT (t:TG) (u:TGs):TGs:=fun vs σ H Q=>∃ v r,vs=v :: r∧t v σ H fun σ' H'=>u r σ' H' Q
theorem zfc:PGs X [] gNil:=by
  intro pins s σ H vs us Q I r h
  obtain ⟨e,h⟩:=h
  subst e
  cases r
  exact assignInOrder_nil ⟨σ,H,I,h⟩
theorem zbK {e:Expr} {es:List Expr} {t:TG} {u:TGs} (h1:PG X e t) (h2:PGs X es u)
    (hs:(assignEach (e :: es) X.env).map (·.2)=assign e X.env :: (assignEach es X.env).map (·.2):=by rfl):PGs X (e :: es) (zoT t u):=by
  intro pins s σ H vs us Q I r h
  obtain ⟨v,vr,e1,h⟩:=h
  subst e1
  cases r with
  | cons r rr =>
    rw [hs]
    refine assignInOrder_cons (thn (h1 pins s σ H _ _ _ I r h) fun _ s1 ⟨σ1,H1,I1,q1⟩=>?_)
    exact h2 pins s1 σ1 H1 _ _ Q I1 rr q1
def gTup (K:PySem.W.Frag) (n:Nat) (t:TGs):TG:=fun v σ H Q=>∃ a xs,v = .ref a∧SqT K H a xs∧xs.length=n∧t xs σ H Q
theorem zgt {es:List Expr} {k:Nat} {t:TGs} {n:Nat} (hc:X.calm=true) (h:PGs X es t)
    (hn:(assignEach es X.env).length=n:=by rfl) (hst:(assignEach es X.env).findIdx? (·.1)=none:=by rfl):PG X (.Tuple es k pos) (gTup X.K n t):=by
  intro pins s σ H v u Q I r hw
  obtain ⟨a,xs,e1,hq,hl,hw⟩:=hw
  subst e1
  cases r
  obtain ⟨its,rv,ht,hz⟩:=I.tuple hq
  refine assign_Tuple_tuple (I.ok.hd hc) ht (by simp [hn,← hl,rv.length]) hst fun h' hx=>?_
  have I1:Inv X pins σ H { s with heap:=h' }:=I.kept (t':=s.toks) fun b o e=>hx b o (Nat.ne_of_lt (Heap.lt_size e)) e
  exact h pins _ σ H xs _ Q I1 (by simpa using rv) hw
def tAsg (te:TE) (g:TG):TS:=fun D σ H=>te σ H fun x H1=>g x σ H1 D.nx
theorem zaU {i:Nat} {x:Str} {e:Expr} {te:TE} {pos':Pos} (hN:X.N.Nodup) (hi:X.N[i]?=some x) (hx:Loc X.env.scope x) (he:PE X e te) (hs:swapsWith e (some (.Name x pos')) pos.line X.env=pure false:=by rfl) (hf:X.fn x=true∨X.env.scope.names.lookup x=some .local:=by first | exact .inl rfl | exact .inr rfl | assumption) :
    PS X (.Assign [.Name x pos'] e pos) (tAsg te (zgj i)):=by
  intro pins s σ H D I h
  refine wpAny_Assign_Name (thn (he pins s σ H _ I h) fun v s1 ⟨y,H1,I1,r1,q1⟩=>?_) hs
  exact zd8 I1 hN hi hx r1 (fun s2 I2=>⟨_,H1,I2,q1⟩) hf
def tAug (i:Nat) (te:TE) (ti:TIp):TS:=fun D σ H=>∃ x,σ[i]?=some (some x)∧te σ H fun y H1=>ti x y H1 fun z H2=>D.nx (σ.set i (some z)) H2
theorem zoS {i:Nat} {x:Str} {e:Expr} {te:TE} {op:Operator} {ti:TIp} {pos':Pos} (hN:X.N.Nodup) (hi:X.N[i]?=some x) (hx:Loc X.env.scope x) (he:PE X e te) (ho:PIp X op ti) (hf:X.fn x=true∨X.env.scope.names.lookup x=some .local:=by first | exact .inl rfl | exact .inr rfl | assumption) :
    PS X (.AugAssign (.Name x pos') op e pos) (tAug i te ti):=by
  intro pins s σ H D I h
  obtain ⟨v,e1,h⟩:=h
  obtain ⟨m,hn,hl⟩:=I.loc
  have vis:Vis X.env.scope x:=by rcases hx with k | k; exact .inl k; exact .inr (.inl k)
  obtain ⟨u,r,l⟩:=hl i x v hi e1 vis
  refine wpAny_AugAssign_Name ?_
  have go:wpAny (model X.prog X.w) X.A (eval e X.env) (fun w s₂=>wpAny (model X.prog X.w) X.A (inplaceOp op u w) (fun r s₃=>wpAny (model X.prog X.w) X.A (storeName X.env x r) (fun _=>SP X pins D .next) X.xe s₃) X.xe s₂) X.xe s:=by
    refine thn (he pins s σ H _ I h) fun w s1 ⟨y,H1,I1,r1,q1⟩=>?_
    refine thn (ho pins s1 σ H1 v y u w _ I1 r r1 q1) fun z s2 ⟨zv,H2,I2,r2,q2⟩=>?_
    exact zd8 I2 hN hi hx r2 (fun s3 I3=>⟨_,H2,I3,q2⟩) hf
  rcases l with ⟨hk,hm⟩ | ⟨hk,c,hc,hcell⟩
  · exact wpAny_loadName_local I.ok.kind hk hn hm go
  · rcases hk with hk | hk
    · exact wpAny_loadName_cell I.ok.kind hk hc hcell go
    · rcases hx with k | k
      · have:X.env.scope.names.lookup x=some .free:=hk
        rw [k] at this; cases this
      · have:X.env.scope.names.lookup x=some .free:=hk
        rw [k] at this; cases this
def ipI (f:Int→Int→Int):TIp:=fun x y H Q=>∃ i j,x = .int i∧y = .int j∧Q (.int (f i j)) H
theorem zpC:PIp X .Add (ipI fun i j=>i + j):=by
  intro pins s σ H x y v u Q I r1 r2 h
  obtain ⟨i,j,e1,e2,q⟩:=h
  subst e1; subst e2
  obtain ⟨t,rfl⟩:=r1
  obtain ⟨t',rfl⟩:=r2
  exact iadd_int ⟨.int _,H,I.tok _,⟨_,rfl⟩,q⟩
end
section
variable {X:Cx} {pos:Pos}
def zm3 (c:TT) (tb:TS):TS:=fun D σ H=>∃ W:Nat→St→Hp→Prop,(∃ m,W m σ H)∧∀ m σ H,W m σ H →
  c σ H fun b H1=>if b=true then ∃ N:St→Hp→Prop,(∀ σ' H',N σ' H'→∃ m',m' < m∧W m' σ' H')∧tb { D with nx:=N,ct:=N,bk:=D.nx } σ H1 else D.nx σ H1
theorem zmK {c:Expr} {body:List Stmt} {tc:TT} {tb:TS} (hp:PassesOwn (model X.prog X.w) X.A X.env X.xe) (hc:PT X c tc) (hb:PSs X body tb):PS X (.While c body [] pos) (zm3 tc tb):=by
  intro pins s σ H D I h
  obtain ⟨W,⟨m0,w0⟩,turn⟩:=h
  refine wpAny_While (codeAny_whileLoop (fun n s'=>∃ σ' H',Inv X pins σ' H' s'∧W n σ' H') ?_ m0 ⟨σ,H,I,w0⟩)
  rintro n s1 ⟨σ1,H1,I1,w1⟩
  refine wpAny_passesOwn hp (thn (hc pins s1 σ1 H1 _ I1 (turn n σ1 H1 w1)) fun b s2 ⟨H2,I2,q2⟩=>?_)
  cases b with
  | true =>
    obtain ⟨N,hN,q2⟩:=q2
    rw [if_pos rfl]
    refine wpAny_passesOwn hp (thn (hb pins s2 σ1 H2 _ I2 q2) fun f s3 q3=>?_)
    cases f with
    | next =>
      obtain ⟨σ3,H3,I3,n3⟩:=q3
      obtain ⟨m',hm,w3⟩:=hN σ3 H3 n3
      exact ⟨m',hm,σ3,H3,I3,w3⟩
    | cont =>
      obtain ⟨σ3,H3,I3,n3⟩:=q3
      obtain ⟨m',hm,w3⟩:=hN σ3 H3 n3
      exact ⟨m',hm,σ3,H3,I3,w3⟩
    | brk=>exact q3
    | ret v=>exact q3
  | false =>
    rw [if_neg Bool.false_ne_true]
    exact wpAny_execs_nil ⟨σ1,H2,I2,q2⟩
end
structure It where
  go:Nat→Hp→Prop
  yld:Nat→Hp→V→Hp→Prop
  stop:Nat→Hp→Prop
def FpOk (X:Cx) (pins:List (Addr × Obj)) (H:Hp) (b:Addr):Prop :=
  H b=none∧b ≠ X.env.locals∧b ∉ X.fs∧(b ∈ X.ex∨X.s₀.heap.objs.size ≤ b)∧(∀ x c,X.env.cells.lookup x=some c→c ≠ b)∧∀ p ∈ X.pn ++ pins,p.1 ≠ b
theorem Inv.fpOk {X:Cx} {pins:List (Addr × Obj)} {σ:St} {H H':Hp} {s:Shared} {b:Addr} (I:Inv X pins σ H s) (hb:s.heap.objs.size ≤ b) (hn:H' b=none):FpOk X pins H' b:=by
  refine ⟨hn,Nat.ne_of_gt (Nat.lt_of_lt_of_le I.lt hb),I.nofs hb,.inr (Nat.le_trans I.sz hb),fun x c e z=>?_,fun p hp z=>?_⟩
  · obtain ⟨v,q⟩:=I.cell x c e
    exact absurd (Nat.lt_of_lt_of_le q.lt (by rw [z]; exact hb)) (Nat.lt_irrefl _)
  · exact absurd (Nat.lt_of_lt_of_le (Heap.lt_size (I.pin p hp).1) (by rw [z]; exact hb)) (Nat.lt_irrefl _)
structure Turn (P:Program) (w:World) (K:PySem.W.Frag) (tg:Expr) (J:It) (fp:List Addr) (it:Addr) (tn:Nat→Heap→Prop):Prop where
  mem:it ∈ fp
  obj:∀ i h,tn i h→∀ b ∈ fp,∃ o,h.get? b=some o∧∀ v,o.data ≠ .cell v
  keep:∀ i h h',tn i h→(∀ b ∈ fp,∀ o,h.get? b=some o→h'.get? b=some o)→tn i h'
  item:∀ (X:Cx),X.prog=P→X.w=w→X.K=K→X.calm=true→∀ (i:Nat) (pins:List (Addr × Obj)) (s:Shared) (σ:St) (H:Hp) (E:Value→Shared→Prop),Inv X pins σ H s→(∀ b ∈ fp,FpOk X pins H b)→tn i s.heap→J.go i H →
    wpAny (model P w) X.A (pyNext (.ref it)) (fun r s1=>∃ u,r=some u ∧
      wpAny (model P w) X.A (letOwnedTupleGo tg (.ref it) u) (fun _ s2=>∃ x H',Inv X pins σ H' s2∧RelV x u∧J.yld i H x H'∧tn (i + 1) s2.heap∧∀ b ∈ fp,H' b=none) E s1) E s
  done:∀ (X:Cx),X.prog=P→X.w=w→X.K=K→X.calm=true→∀ (i:Nat) (pins:List (Addr × Obj)) (s:Shared) (σ:St) (H:Hp) (E:Value→Shared→Prop),Inv X pins σ H s→(∀ b ∈ fp,FpOk X pins H b)→tn i s.heap→J.stop i H →
    wpAny (model P w) X.A (pyNext (.ref it)) (fun r s1=>r=none∧Inv X pins σ H s1) E s
  self:∀ (A:Around) (i:Nat) (s:Shared) (Q:Value→Shared→Prop) (E:Value→Shared→Prop),tn i s.heap→Q (.ref it) s→wpAny (model P w) A (pyIter (.ref it)) Q E s
abbrev TI:=St→Hp→(It→Hp→Prop)→Prop
def PIE (X:Cx) (pins:List (Addr × Obj)) (σ:St) (tg:Expr) (R:It→Hp→Prop) (itv:Value) (s2:Shared):Prop :=
  ∃ (it:Addr) (fp:List Addr) (tn:Nat→Heap→Prop) (J:It) (H':Hp),itv = .ref it∧Inv X pins σ H' s2∧Turn X.prog X.w X.K tg J fp it tn∧tn 0 s2.heap∧(∀ b ∈ fp,FpOk X pins H' b)∧R J H'
def PI (X:Cx) (tg iter:Expr) (wi:TI):Prop :=
  ∀ (pins:List (Addr × Obj)) (s:Shared) (σ:St) (H:Hp) (R:It→Hp→Prop),Inv X pins σ H s→wi σ H R →
    wpAny (model X.prog X.w) X.A (eval iter X.env) (fun v s1=>wpAny (model X.prog X.w) X.A (pyIter v) (PIE X pins σ tg R) X.xe s1) X.xe s
theorem znt {M:Model} {A:Around} {E:Value→Shared→Prop} {s:Shared} {tg:Expr} {it:Addr} {u:Value} {o:Obj} {n:String} {vs:Array Value} {Q:Unit→Shared→Prop} (ho:s.heap.get? it=some o) (hc:o.cls = .type n) (hd:o.data = .fields vs)
    (hn : ["enumerate","zip","dict_itemiterator","dict_reverseitemiterator","odict_iterator","itertools.zip_longest","itertools.pairwise"].contains n=false) (hQ:Q () s):wpAny M A (letOwnedTupleGo tg (.ref it) u) Q E s:=by
  unfold letOwnedTupleGo
  cases tg <;> first
    | exact wpAny_pure hQ
    | (cases u <;> first
        | exact wpAny_pure hQ
        | (refine wpAny_bind (wpAny_load ho ?_)
           rw [hc,hd]
           show wpAny M A (if (["enumerate","zip","dict_itemiterator","dict_reverseitemiterator","odict_iterator","itertools.zip_longest","itertools.pairwise"].contains n && vs[0]? == some (rawInt _))=true then _ else _) Q E s
           rw [if_neg (by intro h; rw [hn,Bool.false_and] at h; cases h)]
           exact wpAny_pure hQ))
def Itl (K:PySem.W.Frag) (a:Addr):It :=
  ⟨fun i H=>∃ xs x,SqL K H a xs∧xs[i]?=some x,fun i H x H'=>H'=H∧∀ xs,SqL K H a xs→xs[i]?=some x,fun i H=>∃ xs,SqL K H a xs∧xs.length ≤ i⟩
def Itr (lo:Int) (n:Nat):It:=⟨fun i _=>i < n,fun i H x H'=>H'=H∧x = .int (lo + i),fun i _=>n ≤ i⟩
theorem zlB {P:Program} {w:World} {K:PySem.W.Frag} {tg:Expr} (a it:Addr):Turn P w K tg (Itl K a) [it] it (fun i h=>h.IsListIter it a i) where
  mem:=by simp
  obj:=fun i h st b hb=>by
    have e:b=it:=by simpa using hb
    subst e
    obtain ⟨o,e,c,d⟩:=st
    exact ⟨o,e,fun v z=>by rw [d] at z; cases z⟩
  keep:=fun i h h' st k=>st.at fun o e=>k it (by simp) o e
  item:=by
    intro X hP hw hK hc i pins s σ H E I hf st hg
    subst hP hw hK
    obtain ⟨xs,x,hq,hx⟩:=hg
    obtain ⟨its,rv,p,hz⟩:=I.list hq
    obtain ⟨u,hu,ru⟩:=rv.get hx
    obtain ⟨f0,f1,f2,f3,f4,f5⟩:=hf it (by simp)
    refine wpAny_pyNext_list_item st p.isList (x:=u) (by simpa using hu) fun h' st' sb=>?_
    have I1:Inv X pins σ H { s with heap:=h' }:=I.turned (t':=s.toks) (fun b o hb e=>(sb.2 b hb).trans e) f0 f1 f3 f4 f5
    obtain ⟨o,e,c,d⟩:=id st'
    exact ⟨u,rfl,znt (s:={ s with heap:=h' }) e c d (by decide) ⟨x,H,I1,ru,⟨rfl,fun ys hy=>by rw [I.list_inj hy hq]; exact hx⟩,st',fun b hb=>(hf b hb).1⟩⟩
  done:=by
    intro X hP hw hK hc i pins s σ H E I hf st hg
    subst hP hw hK
    obtain ⟨xs,hq,hx⟩:=hg
    obtain ⟨its,rv,p,hz⟩:=I.list hq
    obtain ⟨f0,f1,f2,f3,f4,f5⟩:=hf it (by simp)
    have hl:=rv.length
    exact wpAny_pyNext_list_end (I.ok.hd hc) st p.isList (by simp; omega) fun h' eb=>⟨rfl,I.turned (t':=s.toks) (fun b o hb e=>eb b o hb e) f0 f1 f3 f4 f5⟩
  self:=fun _ _ _ _ _ st h=>wpAny_pyIter_listiter st h
theorem zjJ {P:Program} {w:World} {K:PySem.W.Frag} {tg:Expr} (it:Addr) (lo:Int) (n:Nat):Turn P w K tg (Itr lo n) [it] it (fun i h=>IsRangeIter h it (lo + (i:Nat) * 1) ((n:Int) - (i:Nat)) 1) where
  mem:=by simp
  obj:=fun i h st b hb=>by
    have e:b=it:=by simpa using hb
    subst e
    exact ⟨_,st,fun v z=>by
      have z':Data.fields _=Data.cell v:=z
      cases z'⟩
  keep:=fun i h h' st k=>k it (by simp) _ st
  item:=by
    intro X hP hw hK hc i pins s σ H E I hf st hg
    subst hP hw hK
    obtain ⟨f0,f1,f2,f3,f4,f5⟩:=hf it (by simp)
    have W:=Walks.range (prog:=X.prog) (w:=X.w) (I.ok.hd hc) it lo 1 n
    refine W.item i s _ _ hg st fun v h' tk hv st' kk=>?_
    obtain ⟨t,rfl⟩:=hv
    have I1:Inv X pins σ H { s with heap:=h',toks:=tk }:=I.turned (fun b o hb e=>kk b o (by simpa using hb) e) f0 f1 f3 f4 f5
    refine ⟨_,rfl,znt (s:={ s with heap:=h',toks:=tk }) (n:="range_iterator") st' rfl rfl (by decide) ⟨.int (lo + i),H,I1,⟨t,?_⟩,⟨rfl,rfl⟩,st',fun b hb=>(hf b hb).1⟩⟩
    rw [Int.mul_one]
  done:=by
    intro X hP hw hK hc i pins s σ H E I hf st hg
    subst hP hw hK
    obtain ⟨f0,f1,f2,f3,f4,f5⟩:=hf it (by simp)
    exact wpAny_pyNext_range_end (I.ok.hd hc) st (by have:n ≤ i:=hg; omega) fun h' eb=>⟨rfl,I.turned (t':=s.toks) (fun b o hb e=>eb b o hb e) f0 f1 f3 f4 f5⟩
  self:=fun _ _ _ _ _ st h=>wpAny_pyIter_rangeiter st h
end L2
namespace L2
open PySem PySem.Spec PyProof.Rows
section
variable {X:Cx} {tg:Expr}
def zj4 (K:PySem.W.Frag) (tl:TE):TI:=fun σ H R=>tl σ H fun x H1=>∃ a,x = .ref a∧(∃ xs,SqL K H1 a xs)∧R (Itl K a) H1
theorem zbR {l:Expr} {tl:TE} (hl:PE X l tl):PI X tg l (zj4 X.K tl):=by
  intro pins s σ H R I h
  refine thn (hl pins s σ H _ I h) fun v s1 ⟨x,H1,I1,r1,q1⟩=>?_
  obtain ⟨a,e,⟨xs,hq⟩,q⟩:=q1
  subst e
  cases r1
  obtain ⟨its,rv,p,hz⟩:=I1.list hq
  refine wpAny_pyIter_list p.isList ?_
  refine ⟨s1.heap.objs.size,[s1.heap.objs.size],_,_,H1,rfl,I1.kept (t':=s1.toks) fun b o e=>Heap.get?_push_of_some _ e,zlB a _,⟨_,Heap.get?_push_size _ rfl,rfl,rfl⟩,fun b hb=>?_,q⟩
  have e:b=s1.heap.objs.size:=by simpa using hb
  subst e
  exact I1.fpOk (Nat.le_refl _) (I1.hok.fresh (Nat.le_refl _))
theorem zmG {pins:List (Addr × Obj)} {σ:St} {H:Hp} {s:Shared} {R:It→Hp→Prop} {E:Value→Shared→Prop} {lo hi:Int} {t u v:Tok} {tk:Nat} (I:Inv X pins σ H s) (h1 : -(2 ^ 62) ≤ lo) (h2:lo < 2 ^ 62) (h3 : -(2 ^ 62) ≤ hi) (h4:hi < 2 ^ 62)
    (q:R (Itr lo (hi - lo).toNat) H):wpAny (model X.prog X.w) X.A (pyIter (.ref s.heap.objs.size)) (PIE X pins σ tg R) E { s with heap:=s.heap.push { cls:=.type "range",data:=.fields #[.int lo t,.int hi u,.int 1 v] },toks:=tk }:=by
  refine wpAny_pyIter_range (IsRange.new ..) (small_one h1 h2 h3 h4) ?_
  have I1:Inv X pins σ H { s with heap:=s.heap.push { cls:=.type "range",data:=.fields #[.int lo t,.int hi u,.int 1 v] },toks:=tk }:=I.kept fun b o e=>Heap.get?_push_of_some _ e
  refine ⟨(s.heap.push { cls:=.type "range",data:=.fields #[.int lo t,.int hi u,.int 1 v] }).objs.size,[(s.heap.push { cls:=.type "range",data:=.fields #[.int lo t,.int hi u,.int 1 v] }).objs.size],_,_,H,rfl,
    I1.kept (t':=tk) fun b o e=>Heap.get?_push_of_some _ e,zjJ _ lo (hi - lo).toNat,?_,fun b hb=>?_,q⟩
  · have e1:lo + ((0:Nat):Int) * 1=lo:=by simp
    have e2:(((hi - lo).toNat:Nat):Int) - ((0:Nat):Int)=Builtin.Range.rangeSize lo hi 1:=by rw [rangeSize_one]; split <;> omega
    show IsRangeIter _ _ (lo + ((0:Nat):Int) * 1) ((((hi - lo).toNat:Nat):Int) - ((0:Nat):Int)) 1
    rw [e1,e2]
    exact Heap.get?_push_size _ rfl
  · have e:b=(s.heap.push { cls:=.type "range",data:=.fields #[.int lo t,.int hi u,.int 1 v] }).objs.size:=by simpa using hb
    subst e
    exact I1.fpOk (Nat.le_refl _) (I1.hok.fresh (Nat.le_refl _))
def zoi (ta:TA):TI:=fun σ H R=>ta σ H fun vs H1=>∃ j:Int,vs = [.int j]∧-(2 ^ 62) ≤ j∧j < 2 ^ 62∧R (Itr 0 j.toNat) H1
theorem zc2 {a:Expr} {ta:TA} {p pos:Pos} (hg:Gl X "range") (hm:X.mg "range"=none) (ha:PA X [a] ta) (hs:starEach [a] X.env = [(false,eval a X.env)]:=by rfl):PI X tg (.Call (.Name "range" p) [a] [] pos) (zoi ta):=by
  intro pins s σ H R I h
  refine Call_ (zeh I hg hm boot_range (PyProof.Rows.callWith_type1 (thn (ha pos pins s σ H _ I h) fun us s1 ⟨vs,H1,I1,r1,q1⟩=>?_) hs rfl))
  obtain ⟨j,e,q1,q2,q⟩:=q1
  subst e
  cases r1 with
  | cons r rr =>
    cases rr
    obtain ⟨t,rfl⟩:=r
    exact call_range_1 (zmG I1 (by omega) (by omega) q1 q2 (by simpa using q))
def tFor (wi:TI) (g:TG) (tb:TS):TS:=fun D σ H=>wi σ H fun J H1=>∃ W:Nat→Nat→St→Hp→Prop,(∃ m,W 0 m σ H1)∧∀ i m σ H,W i m σ H →
  (J.stop i H∧D.nx σ H)∨(J.go i H∧∃ N:St→Hp→Prop,(∀ σ' H',N σ' H'→∃ m',m' < m∧W (i + 1) m' σ' H')∧∀ x H',J.yld i H x H'→g x σ H' fun σ2 H2=>tb { D with nx:=N,ct:=N,bk:=D.nx } σ2 H2)
def zgF (fp:List Addr) (h:Heap):List (Addr × Obj):=fp.filterMap fun b=>(h.get? b).map fun o=>(b,o)
theorem zc4 {fp:List Addr} {h:Heap} {b:Addr} {o:Obj} (hb:b ∈ fp) (e:h.get? b=some o):(b,o) ∈ zgF fp h:=List.mem_filterMap.mpr ⟨b,hb,by rw [e]; rfl⟩
theorem zj6 {fp:List Addr} {h:Heap} {p:Addr × Obj} (hp:p ∈ zgF fp h):p.1 ∈ fp∧h.get? p.1=some p.2:=by
  obtain ⟨b,hb,e⟩:=List.mem_filterMap.mp hp
  cases q:h.get? b with
  | none=>rw [q] at e; cases e
  | some o =>
    rw [q] at e
    have e':(b,o)=p:=Option.some.inj e
    subst e'
    exact ⟨hb,q⟩
theorem Inv.pinned {pins:List (Addr × Obj)} {σ:St} {H:Hp} {s:Shared} {fp:List Addr} (I:Inv X pins σ H s) (hf:∀ b ∈ fp,FpOk X pins H b) (ho:∀ b ∈ fp,∃ o,s.heap.get? b=some o∧∀ v,o.data ≠ .cell v):Inv X (pins ++ zgF fp s.heap) σ H s :=
  I.pins_of fun p hp=>(List.mem_append.mp hp).elim (fun z=>I.pin p (List.mem_append_right _ z)) fun z=>by
    obtain ⟨hb,e⟩:=zj6 z
    obtain ⟨f0,f1,f2,_⟩:=hf p.1 hb
    obtain ⟨o,e',d⟩:=ho p.1 hb
    rw [e] at e'; cases e'
    exact ⟨e,f0,f1,f2,d⟩
theorem Inv.unpinned {pins pl:List (Addr × Obj)} {σ:St} {H:Hp} {s:Shared} (I:Inv X (pins ++ pl) σ H s):Inv X pins σ H s:=I.pins_of fun p hp=>I.pin p (List.mem_append_right _ (List.mem_append_left _ hp))
theorem zcH {iter:Expr} {body:List Stmt} {wi:TI} {g:TG} {tb:TS} {pos:Pos} (hp:PassesOwn (model X.prog X.w) X.A X.env X.xe) (hc:X.calm=true) (hi:PI X tg iter wi) (hg:PG X tg g) (hb:PSs X body tb)
    (hs:∀ x,foldedSetIterable iter X.env x=pure x:=by intro _; rfl):PS X (.For tg iter body [] pos) (tFor wi g tb):=by
  intro pins s σ H D I h
  refine wpAny_For (thn (hi pins s σ H _ I h) fun v s1 h1=>thn h1 fun itv s2 h2=>?_) hs
  obtain ⟨it,fp,tn,J,H2,e,I2,T,st2,f2,W,⟨m0,w0⟩,turn⟩:=h2
  subst e
  -- what stays true of the iterator's objects through the loop
  have stat:∀ {H':Hp},(∀ b ∈ fp,H' b=none)→∀ b ∈ fp,FpOk X pins H' b:=fun hn b hb=>⟨hn b hb,(f2 b hb).2⟩
  refine codeAny_forLoop_any (fun n s'=>∃ i σ' H',Inv X pins σ' H' s'∧tn i s'.heap∧(∀ b ∈ fp,H' b=none)∧W i n σ' H') ?_ m0 ⟨0,σ,H2,I2,st2,fun b hb=>(f2 b hb).1,w0⟩
  rintro n s3 ⟨i,σ3,H3,I3,st3,fr3,w3⟩
  rcases turn i n σ3 H3 w3 with ⟨stop,qn⟩ | ⟨go,N,hN,step⟩
  · refine wpAny_passesOwn hp (thn (T.done X rfl rfl rfl hc i pins s3 σ3 H3 X.xe I3 (stat fr3) st3 stop) fun r s4 ⟨hr,I4⟩=>?_)
    subst hr
    exact wpAny_execs_nil ⟨σ3,H3,I4,qn⟩
  · refine wpAny_passesOwn hp (thn (T.item X rfl rfl rfl hc i pins s3 σ3 H3 X.xe I3 (stat fr3) st3 go) fun r s4 ⟨u,hr,h4⟩=>?_)
    subst hr
    refine wpAny_passesOwn hp (thn h4 fun _ s5 ⟨x,H5,I5,r5,y5,st5,fr5⟩=>?_)
    have I5':=I5.pinned (stat fr5) (T.obj _ _ st5)
    refine wpAny_passesOwn hp (thn (hg _ s5 σ3 H5 x u _ I5' r5 (step x H5 y5)) fun _ s6 ⟨σ6,H6,I6,q6⟩=>?_)
    refine wpAny_passesOwn hp (thn (hb _ s6 σ6 H6 _ I6 q6) fun f s7 q7=>?_)
    have again:∀ {σ7:St} {H7:Hp},Inv X (pins ++ zgF fp s5.heap) σ7 H7 s7→N σ7 H7→∃ m,m < n∧∃ i σ' H',Inv X pins σ' H' s7∧tn i s7.heap∧(∀ b ∈ fp,H' b=none)∧W i m σ' H':=fun {σ7 H7} I7 n7=>by
      obtain ⟨m',hm,w7⟩:=hN σ7 H7 n7
      refine ⟨m',hm,i + 1,σ7,H7,I7.unpinned,T.keep _ _ _ st5 fun b hb o e=>(I7.pin (b,o) (List.mem_append_right _ (List.mem_append_right _ (zc4 hb e)))).1,fun b hb=>?_,w7⟩
      obtain ⟨o,e,d⟩:=T.obj _ _ st5 b hb
      exact (I7.pin (b,o) (List.mem_append_right _ (List.mem_append_right _ (zc4 hb e)))).2.1
    cases f with
    | next=>obtain ⟨σ7,H7,I7,n7⟩:=q7; exact again I7 n7
    | cont=>obtain ⟨σ7,H7,I7,n7⟩:=q7; exact again I7 n7
    | brk=>obtain ⟨σ7,H7,I7,q7⟩:=q7; exact ⟨σ7,H7,I7.unpinned,q7⟩
    | ret v=>obtain ⟨x7,σ7,H7,I7,r7,q7⟩:=q7; exact ⟨x7,σ7,H7,I7.unpinned,r7,q7⟩
end
end L2
namespace L2
open PySem PySem.Spec PyProof.Rows
abbrev R2:=V→V→Hp→VK→Prop
def OpR (X:Cx) (f:Value→Value→Sem Value) (r:R2):Prop :=
  ∀ (pins:List (Addr × Obj)) (s:Shared) (σ:St) (H:Hp) (x y:V) (v u:Value) (Q:VK),Inv X pins σ H s→RelV x v→RelV y u→r x y H Q →
    wpAny (model X.prog X.w) X.A (f v u) (EP X pins σ Q) X.xe s
def UnR (X:Cx) (f:Value→Sem Value) (r:V→Hp→VK→Prop):Prop :=
  ∀ (pins:List (Addr × Obj)) (s:Shared) (σ:St) (H:Hp) (x:V) (v:Value) (Q:VK),Inv X pins σ H s→RelV x v→r x H Q →
    wpAny (model X.prog X.w) X.A (f v) (EP X pins σ Q) X.xe s
def zgV (X:Cx) (f:Value) (r:List V→Hp→VK→Prop):Prop :=
  ∀ (pins:List (Addr × Obj)) (s:Shared) (σ:St) (H:Hp) (xs:List V) (us:List Value) (Q:VK),Inv X pins σ H s→Vals xs us→r xs H Q →
    wpAny (model X.prog X.w) X.A (call f us) (EP X pins σ Q) X.xe s
def tOp (r:R2) (ta tb:TE):TE:=fun σ H Q=>ta σ H fun x H1=>tb σ H1 fun y H2=>r x y H2 Q
def tUn (r:V→Hp→VK→Prop) (ta:TE):TE:=fun σ H Q=>ta σ H fun x H1=>r x H1 Q
def rI (C:Int→Int→Prop) (g:Int→Int→V):R2:=fun x y H Q=>∃ i j,x = .int i∧y = .int j∧C i j∧Q (g i j) H
def rI0 (g:Int→Int→V):R2:=fun x y H Q=>∃ i j,x = .int i∧y = .int j∧Q (g i j) H
def rU (g:Int→V):V→Hp→VK→Prop:=fun x H Q=>∃ i,x = .int i∧Q (g i) H
section
variable {X:Cx} {a b c:Expr} {ta tb tc:TE} {pos:Pos}
theorem binT (ha:PE X a ta) (hb:PE X b tb) {pins:List (Addr × Obj)} {s:Shared} {σ:St} {H:Hp} {R:V→V→Hp→Prop} (I:Inv X pins σ H s)
    (h:ta σ H fun x H1=>tb σ H1 fun y H2=>R x y H2) {Q:Value→Shared→Prop} {f:Value→Value→Sem Value}
    (hf:∀ v u s2 x y H2,Inv X pins σ H2 s2→RelV x v→RelV y u→R x y H2→wpAny (model X.prog X.w) X.A (f v u) Q X.xe s2) :
    wpAny (model X.prog X.w) X.A (eval a X.env) (fun v s₁=>wpAny (model X.prog X.w) X.A (eval b X.env) (fun u s₂=>wpAny (model X.prog X.w) X.A (f v u) Q X.xe s₂) X.xe s₁) X.xe s:=by
  refine thn (ha pins s σ H _ I h) fun v s1 ⟨x,H1,I1,r1,q1⟩=>?_
  refine thn (hb pins s1 σ H1 _ I1 q1) fun u s2 ⟨y,H2,I2,r2,q2⟩=>?_
  exact hf v u s2 x y H2 I2 r1 r2 q2
theorem zaX {op:Operator} {r:R2} (ho:OpR X (binaryOp op) r) (ha:PE X a ta) (hb:PE X b tb):PE X (.BinOp a op b pos) (tOp r ta tb):=by
  intro pins s σ H Q I h
  exact wpAny_BinOp (binT ha hb I h fun v u s2 x y H2 I2 rx ry q=>ho pins s2 σ H2 x y v u Q I2 rx ry q)
theorem zqm {op:UnaryOp} {r:V→Hp→VK→Prop} (ho:UnR X (unaryOp op) r) (ha:PE X a ta):PE X (.UnaryOp op a pos) (tUn r ta):=by
  intro pins s σ H Q I h
  exact UnaryOp_ (thn (ha pins s σ H _ I h) fun v s1 ⟨x,H1,I1,r1,q1⟩=>ho pins s1 σ H1 x v Q I1 r1 q1)
theorem opI {f:Value→Value→Sem Value} {C:Int→Int→Prop} {g:Int→Int→Int}
    (rule:∀ (i j:Int) (t u:Tok) (s:Shared) (Q:Value→Shared→Prop) (E:Value→Shared→Prop),C i j→Q (.int (g i j) s.toks) { s with toks:=s.toks + 1 }→wpAny (model X.prog X.w) X.A (f (.int i t) (.int j u)) Q E s) :
    OpR X f (rI C fun i j=>.int (g i j)):=by
  intro pins s σ H x y v u Q I rx ry h
  obtain ⟨i,j,rfl,rfl,hc,q⟩:=h
  obtain ⟨t,rfl⟩:=rx
  obtain ⟨t',rfl⟩:=ry
  exact rule i j t t' s _ _ hc ⟨.int (g i j),H,I.tok _,⟨_,rfl⟩,q⟩
theorem opI0 {f:Value→Value→Sem Value} {g:Int→Int→Int}
    (rule:∀ (i j:Int) (t u:Tok) (s:Shared) (Q:Value→Shared→Prop) (E:Value→Shared→Prop),Q (.int (g i j) s.toks) { s with toks:=s.toks + 1 }→wpAny (model X.prog X.w) X.A (f (.int i t) (.int j u)) Q E s) :
    OpR X f (rI0 fun i j=>.int (g i j)):=by
  intro pins s σ H x y v u Q I rx ry h
  obtain ⟨i,j,rfl,rfl,q⟩:=h
  obtain ⟨t,rfl⟩:=rx
  obtain ⟨t',rfl⟩:=ry
  exact rule i j t t' s _ _ ⟨.int (g i j),H,I.tok _,⟨_,rfl⟩,q⟩
theorem opB0 {f:Value→Value→Sem Value} {g:Int→Int→Bool}
    (rule:∀ (i j:Int) (t u:Tok) (s:Shared) (Q:Value→Shared→Prop) (E:Value→Shared→Prop),Q (.bool (g i j)) s→wpAny (model X.prog X.w) X.A (f (.int i t) (.int j u)) Q E s) :
    OpR X f (rI0 fun i j=>.bl (g i j)):=by
  intro pins s σ H x y v u Q I rx ry h
  obtain ⟨i,j,rfl,rfl,q⟩:=h
  obtain ⟨t,rfl⟩:=rx
  obtain ⟨t',rfl⟩:=ry
  exact rule i j t t' s _ _ ⟨.bl (g i j),H,I,rfl,q⟩
def CPow (i j:Int):Prop:=0 ≤ j∧j ≤ 1000000∧i.natAbs < 2 ^ 64
theorem zdU:OpR X (binaryOp .Add) (rI0 fun i j=>.int (i + j)):=opI0 fun _ _ _ _ _ _ _ q=>add_int q
theorem zkR:OpR X (binaryOp .Sub) (rI0 fun i j=>.int (i - j)):=opI0 fun _ _ _ _ _ _ _ q=>sub_int q
theorem zce:OpR X (binaryOp .Mod) (rI (fun _ j=>0 < j) fun i j=>.int (i % j)):=opI fun i j _ _ _ _ _ hc q=>by
  have h1:(0:Int) < j:=hc
  exact mod_int' (by omega) (by rw [Int.fmod_eq_emod_of_nonneg i (by omega)]; exact q)
theorem ziN:OpR X (binaryOp .Pow) (rI CPow fun i j=>.int (i ^ j.toNat)):=opI fun _ _ _ _ _ _ _ hc q=>pow_int_small hc.1 hc.2.1 hc.2.2 q
theorem zpi:OpR X (binaryOp .LShift) (rI CPow fun i j=>.int (i * 2 ^ j.toNat)):=opI fun _ _ _ _ _ _ _ hc q=>lshift_int_small hc.1 hc.2.1 hc.2.2 q
theorem unI {f:Value→Sem Value} {g:Int→Int}
    (rule:∀ (i:Int) (t:Tok) (s:Shared) (Q:Value→Shared→Prop) (E:Value→Shared→Prop),Q (.int (g i) s.toks) { s with toks:=s.toks + 1 }→wpAny (model X.prog X.w) X.A (f (.int i t)) Q E s) :
    UnR X f (rU fun i=>.int (g i)):=by
  intro pins s σ H x v Q I rx h
  obtain ⟨i,rfl,q⟩:=h
  obtain ⟨t,rfl⟩:=rx
  exact rule i t s _ _ ⟨.int (g i),H,I.tok _,⟨_,rfl⟩,q⟩
theorem zpd:UnR X (unaryOp .USub) (rU fun i=>.int (-i)):=unI fun _ _ _ _ _ q=>neg_int q
end
def scal:V→V→Bool
  | .non,.non=>true | .non,.int _=>true | .int _,.non=>true | .non,.bl _=>true | .bl _,.non=>true | .non,.str _=>true | .str _,.non=>true
  | .int _,.int _=>true | .bl _,.bl _=>true | .str _,.str _=>true | .byt _,.byt _=>true
  | .int _,.str _=>true | .str _,.int _=>true | .bl _,.str _=>true | .str _,.bl _=>true
  | _,_=>false
def rEq:R2:=fun x y H Q=>scal x y=true∧Q (.bl (decide (x=y))) H
def rNe:R2:=fun x y H Q=>scal x y=true∧Q (.bl (!decide (x=y))) H
theorem zkH {i j:Int}:decide (V.int i=V.int j)=(i == j):=by
  rw [Bool.eq_iff_iff]
  simp
theorem zmY {i j:Bool}:decide (V.bl i=V.bl j)=(i == j):=by
  rw [Bool.eq_iff_iff]
  simp
theorem zjX {i j:Str}:decide (V.str i=V.str j)=(i == j):=by
  rw [Bool.eq_iff_iff]
  simp
theorem zk4 {i j:Array UInt8}:decide (V.byt i=V.byt j)=(i.toList == j.toList):=by
  rw [Bool.eq_iff_iff]
  cases i
  cases j
  simp
section
variable {X:Cx} {a b c:Expr} {ta tb tc:TE} {pos:Pos}
theorem za2 {pins:List (Addr × Obj)} {σ:St} {H:Hp} {s:Shared} {Q:VK} {k k':Bool} (I:Inv X pins σ H s) (q:Q (.bl k) H) (e:k=k'):EP X pins σ Q (.bool k') s:=by
  subst e
  exact ⟨.bl k,H,I,rfl,q⟩
theorem zhm:OpR X (compareOp .Eq) rEq:=by
  intro pins s σ H x y v u Q I rx ry h
  obtain ⟨hs,q⟩:=h
  cases x with
  | non =>
    cases rx
    cases y with
    | non=>cases ry; exact PySem.EqNone.eq_none_none (za2 I q (by simp))
    | bl j=>cases ry; exact PySem.EqNone.eq_none_bool (za2 I q (by simp))
    | int j=>obtain ⟨t',rfl⟩:=ry; exact PySem.EqNone.eq_none_int (za2 I q (by simp))
    | str j=>obtain ⟨t',rfl⟩:=ry; exact PySem.EqNone.eq_none_str (za2 I q (by simp))
    | _=>exact absurd (show false=true from hs) Bool.false_ne_true
  | bl i =>
    cases rx
    cases y with
    | non=>cases ry; exact PySem.EqNone.eq_bool_none (za2 I q (by simp))
    | bl j=>cases ry; exact eq_bool (za2 I q zmY)
    | str j=>obtain ⟨t',rfl⟩:=ry; exact PySem.EqMixed.eq_bool_str (za2 I q (by simp))
    | _=>exact absurd (show false=true from hs) Bool.false_ne_true
  | int i =>
    obtain ⟨t,rfl⟩:=rx
    cases y with
    | non=>cases ry; exact PySem.EqNone.eq_int_none (za2 I q (by simp))
    | int j=>obtain ⟨t',rfl⟩:=ry; exact eq_int (za2 I q zkH)
    | str j=>obtain ⟨t',rfl⟩:=ry; exact PySem.EqMixed.eq_int_str (za2 I q (by simp))
    | _=>exact absurd (show false=true from hs) Bool.false_ne_true
  | str i =>
    obtain ⟨t,rfl⟩:=rx
    cases y with
    | non=>cases ry; exact PySem.EqNone.eq_str_none (za2 I q (by simp))
    | bl j=>cases ry; exact PySem.EqMixed.eq_str_bool (za2 I q (by simp))
    | int j=>obtain ⟨t',rfl⟩:=ry; exact PySem.EqMixed.eq_str_int (za2 I q (by simp))
    | str j=>obtain ⟨t',rfl⟩:=ry; exact eq_str (za2 I q zjX)
    | _=>exact absurd (show false=true from hs) Bool.false_ne_true
  | byt i =>
    obtain ⟨t,rfl⟩:=rx
    cases y with
    | byt j=>obtain ⟨t',rfl⟩:=ry; exact PySem.W.eq_bytes (za2 I q zk4)
    | _=>exact absurd (show false=true from hs) Bool.false_ne_true
  | _=>cases y <;> exact absurd (show false=true from hs) Bool.false_ne_true
theorem zo5:OpR X (compareOp .NotEq) rNe:=by
  intro pins s σ H x y v u Q I rx ry h
  obtain ⟨hs,q⟩:=h
  cases x with
  | non =>
    cases rx
    cases y with
    | non=>cases ry; exact PySem.EqNone.ne_none_none (za2 I q (by simp))
    | bl j=>cases ry; exact PySem.EqNone.ne_none_bool (za2 I q (by simp))
    | int j=>obtain ⟨t',rfl⟩:=ry; exact PySem.EqNone.ne_none_int (za2 I q (by simp))
    | str j=>obtain ⟨t',rfl⟩:=ry; exact PySem.EqNone.ne_none_str (za2 I q (by simp))
    | _=>exact absurd (show false=true from hs) Bool.false_ne_true
  | bl i =>
    cases rx
    cases y with
    | non=>cases ry; exact PySem.EqNone.ne_bool_none (za2 I q (by simp))
    | bl j=>cases ry; exact ne_bool (za2 I q (congrArg not zmY))
    | str j=>obtain ⟨t',rfl⟩:=ry; exact PySem.EqMixed.ne_bool_str (za2 I q (by simp))
    | _=>exact absurd (show false=true from hs) Bool.false_ne_true
  | int i =>
    obtain ⟨t,rfl⟩:=rx
    cases y with
    | non=>cases ry; exact PySem.EqNone.ne_int_none (za2 I q (by simp))
    | int j=>obtain ⟨t',rfl⟩:=ry; exact ne_int (za2 I q (congrArg not zkH))
    | str j=>obtain ⟨t',rfl⟩:=ry; exact PySem.EqMixed.ne_int_str (za2 I q (by simp))
    | _=>exact absurd (show false=true from hs) Bool.false_ne_true
  | str i =>
    obtain ⟨t,rfl⟩:=rx
    cases y with
    | non=>cases ry; exact PySem.EqNone.ne_str_none (za2 I q (by simp))
    | bl j=>cases ry; exact PySem.EqMixed.ne_str_bool (za2 I q (by simp))
    | int j=>obtain ⟨t',rfl⟩:=ry; exact PySem.EqMixed.ne_str_int (za2 I q (by simp))
    | str j=>obtain ⟨t',rfl⟩:=ry; exact ne_str (za2 I q (congrArg not zjX))
    | _=>exact absurd (show false=true from hs) Bool.false_ne_true
  | byt i =>
    obtain ⟨t,rfl⟩:=rx
    cases y with
    | byt j=>obtain ⟨t',rfl⟩:=ry; exact PySem.W.ne_bytes (za2 I q (congrArg not zk4))
    | _=>exact absurd (show false=true from hs) Bool.false_ne_true
  | _=>cases y <;> exact absurd (show false=true from hs) Bool.false_ne_true
theorem zp8:OpR X (compareOp .Lt) (rI0 fun i j=>.bl (decide (i < j))):=opB0 fun _ _ _ _ _ _ _ q=>lt_int q
theorem zp7:OpR X (compareOp .LtE) (rI0 fun i j=>.bl (decide (i ≤ j))):=opB0 fun _ _ _ _ _ _ _ q=>le_int q
theorem znr:OpR X (compareOp .Gt) (rI0 fun i j=>.bl (decide (j < i))):=opB0 fun _ _ _ _ _ _ _ q=>gt_int q
theorem zqh:OpR X (compareOp .GtE) (rI0 fun i j=>.bl (decide (j ≤ i))):=opB0 fun _ _ _ _ _ _ _ q=>ge_int q
theorem zmT:OpR X (compareOp .Is) (fun x y H Q=>y = .non∧Q (.bl (decide (x = .non))) H):=by
  intro pins s σ H x y v u Q I rx ry h
  obtain ⟨rfl,q⟩:=h
  cases ry
  refine is_none_gen (za2 I q ?_)
  cases x <;> first
    | (cases rx; rfl)
    | (obtain ⟨t,rfl⟩:=rx; rfl)
theorem zoo:OpR X (compareOp .IsNot) (fun x y H Q=>y = .non∧Q (.bl (!decide (x = .non))) H):=by
  intro pins s σ H x y v u Q I rx ry h
  obtain ⟨rfl,q⟩:=h
  cases ry
  refine isnot_none_gen (za2 I q ?_)
  cases x <;> first
    | (cases rx; rfl)
    | (obtain ⟨t,rfl⟩:=rx; rfl)
def isObj:HO→Bool
  | .lst _=>true
  | .ins _ _ _=>true
  | _=>false
theorem zbN (b:Expr) {op:CmpOp} (h:op ≠ .In:=by decide) (h2:op ≠ .NotIn:=by decide):behindInMarks op b=false:=by
  have e1:(op == CmpOp.In)=false:=by cases op <;> first | rfl | exact absurd rfl h
  have e2:(op == CmpOp.NotIn)=false:=by cases op <;> first | rfl | exact absurd rfl h2
  cases b <;> simp [behindInMarks,e1,e2]
theorem zn3 {op:CmpOp} {r:R2} (ho:OpR X (compareOp op) r) (ha:PE X a ta) (hb:PE X b tb) (hm:behindInMarks op b=false):PE X (.Compare a [op] [b] pos) (tOp r ta tb):=by
  intro pins s σ H Q I h
  exact wpAny_Compare1 (binT ha hb I h fun v u s2 x y H2 I2 rx ry q=>ho pins s2 σ H2 x y v u Q I2 rx ry q) hm
def zpl (t:TE):TT:=fun σ H Q=>t σ H fun x H'=>∃ k,x = .bl k∧Q k H'
theorem zbb {op:CmpOp} {r:R2} (ho:OpR X (compareOp op) r) (ha:PE X a ta) (hb:PE X b tb) (hm:behindInMarks op b=false):PT X (.Compare a [op] [b] pos) (zpl (tOp r ta tb)):=by
  intro pins s σ H Q I h
  refine wpAny_isTrue_Compare1 (thn (ha pins s σ H _ I h) fun v s1 ⟨x,H1,I1,r1,q1⟩=>thn (hb pins s1 σ H1 _ I1 q1) fun u s2 ⟨y,H2,I2,r2,q2⟩ =>
    thn (ho pins s2 σ H2 x y v u _ I2 r1 r2 q2) fun c s3 ⟨z,H3,I3,r3,k,e,q3⟩=>?_) hm
  subst e
  cases r3
  exact wpAny_truthy_bool ⟨H3,I3,q3⟩
theorem zlx:(sizeLine:Nat) < 2 ^ 63:=by rw [sizeLine_eq]; decide
theorem zgq {x:V} {us:List Value} (r:Vals [x] us):∃ u,us = [u]∧RelV x u:=by
  cases r with
  | cons r1 r2=>cases r2; exact ⟨_,rfl,r1⟩
theorem zoC {x y:V} {us:List Value} (r:Vals [x,y] us):∃ u w',us = [u,w']∧RelV x u∧RelV y w':=by
  cases r with
  | cons r1 r2 =>
    cases r2 with
    | cons r3 r4=>cases r4; exact ⟨_,_,rfl,r1,r3⟩
theorem zkc (hc:X.calm=true):zgV X (.builtin "min") (fun xs H Q=>∃ i j,xs = [.int i,.int j]∧Q (.int (if j < i then j else i)) H):=by
  intro pins s σ H xs us Q I r h
  obtain ⟨i,j,rfl,q⟩:=h
  obtain ⟨u,w',rfl,⟨t,rfl⟩,⟨t',rfl⟩⟩:=zoC r
  refine min_two_ints (I.ok.hd hc) fun h' tk k=>⟨_,H,I.kept k,?_,q⟩
  by_cases hj:j < i
  · rw [if_pos hj,if_pos hj]; exact ⟨_,rfl⟩
  · rw [if_neg hj,if_neg hj]; exact ⟨_,rfl⟩
end
end L2
namespace L2
open PySem PySem.Spec PyProof.Rows
structure ObjM (h:Heap) (x dx C:Addr) (mA:Str→Option Value):Prop where
  obj:h.get? x=some (PySem.W.instObj C dx)
  ns:h.Ns1 dx mA
  ne:dx ≠ x
theorem zlK {h:Heap} {dx:Addr} {mA:Str→Option Value} (n:h.Ns1 dx mA):∃ od,h.get? dx=some od∧∀ name,PySem.W.lookIn name od=some (mA name):=by
  obtain ⟨o,es,ep,ho,hd,hk,_,hm⟩:=n
  refine ⟨o,ho,fun name=>?_⟩
  have e:=hm name
  unfold nsFind findBy at e
  rw [← Array.find?_toList] at e
  unfold PySem.W.lookIn
  rw [hd]
  dsimp only
  split
  · rename_i y q
    rw [q] at e
    exact congrArg some e
  · rename_i q
    rw [q] at e
    have a:es.toList.any (·.refKey)=false:=by
      rw [List.any_eq_false]
      intro y hy
      obtain ⟨z,t,hkey⟩:=hk y (Array.mem_toList_iff.mp hy)
      simp [DictEntry.refKey,hkey]
    have a':¬ es.toList.any (·.refKey)=true:=by rw [a]; exact Bool.false_ne_true
    rw [if_neg a']
    exact congrArg some e
theorem ObjM.look {h:Heap} {x dx C:Addr} {mA:Str→Option Value} (I:ObjM h x dx C mA):∃ od,PySem.W.InstAt h x (PySem.W.instObj C dx) C (some od)∧∀ name,PySem.W.lookIn name od=some (mA name) :=
  let ⟨od,ho,hl⟩:=zlK I.ns
  ⟨od,⟨I.obj,rfl,rfl,ho⟩,hl⟩
section
variable {prog:Program} {w:World} {A:Around} {E:Value→Shared→Prop} {s:Shared} {K:PySem.W.Frag} {x dx C f:Addr} {mA:Str→Option Value} {name:Str} {v:Value}
theorem znN {expr:Bool} {Q:Value→Shared→Prop} (X:K.In s.heap) (I:ObjM s.heap x dx C mA) (hg:PySem.W.plainGet K C name=true) (hh:PySem.W.hasDictIn K C=true)
    (ha:PySem.W.findIn K (.ref C) name=some none) (hv:mA name=some v) (hv':PySem.W.handedIn v=true) (h:Q v { s with toks:=s.toks + 1 }) :
    wpAny (model prog w) A (getAttr (.ref x) name expr) Q E s:=by
  obtain ⟨od,J,hl⟩:=I.look
  exact PySem.W.get_value X J (PySem.W.plainGet_of hg).1 (PySem.W.findObj_own hh ha rfl (by rw [hl,hv])) hv' h
theorem zmm {pl:Sem Bool} {Q:Value × List Value→Shared→Prop} (X:K.In s.heap) (I:ObjM s.heap x dx C mA) (hg:PySem.W.plainGet K C name=true)
    (hf:PySem.W.findIn K (.ref C) name=some (some (.ref f))) (ht:PySem.W.isFn K (.ref f)=true) (hv:mA name=none) (h:Q (.ref f,[.ref x]) s) :
    wpAny (model prog w) A (getMethod (.ref x) name pl) Q E s:=by
  obtain ⟨od,J,hl⟩:=I.look
  exact PySem.W.method_fn X J (PySem.W.plainGet_of hg).1 (PySem.W.plainGet_of hg).2 hf (beq_iff_eq.mp ht) (by show (PySem.W.lookIn name od).map (·.isSome)=some false; rw [hl,hv]; rfl) h
theorem zn1 {ns:List Str} {Q:Unit→Shared→Prop} (X:K.In s.heap) (I:ObjM s.heap x dx C mA)
    (hs:PySem.W.findIn K (.ref C) "__setattr__"=some (some (.builtin "object.__setattr__"))) (hp:PySem.W.plainOver K C=true) (ht:PySem.W.takerIn K C name=some none) (hh:PySem.W.hasDictIn K C=true)
    (hw:PySem.Within mA ns) (hsz:ns.length ≤ sizeLine)
    (h:∀ h',ObjM h' x dx C (fun y=>if y=name then some v else mA y)→Heap.SameBut dx s.heap h'→Q () { s with heap:=h',toks:=s.toks + 2 }) :
    wpAny (model prog w) A (setAttr (.ref x) name v) Q E s:=by
  obtain ⟨od,J,hl⟩:=I.look
  refine PySem.W.set_plain X J hs (PySem.W.osa_open (s:={ s with toks:=s.toks + 1 }) (r:=none) X J hp ht fun b=>?_)
  obtain ⟨cd,hc,hd'⟩:=PySem.W.any_some hh
  have hx:s.heap.get? x=some ⟨.ref C,some dx,.plain,#[]⟩:=I.obj
  refine wpAny_bind (wpAny_pure (wpAny_bind (wpAny_bind (wpAny_loadPart hx (wpAny_bind (PySem.W.Looks.here (s:={ s with toks:=s.toks + 1 }) (PySem.W.looks_clsIn X hc) ?_))))))
  rw [hd']
  refine wpAny_pure (a:=some dx) (wpAny_bind (wpAny_pure (wpAny_bind ?_)))
  refine wpAny_nsSet1 (s:={ s with toks:=s.toks + 1 }) I.ns fun h' hn2 hs2=>?_
  obtain ⟨oD,esD,epD,hoD,hdD,hcD⟩:=hn2.count (PySem.Within.cons name v hw)
  refine wpAny_bind (wpAny_lookBehind hoD (by rw [hdD]; exact pastItsLine_dict (Nat.le_trans hcD (by rw [List.length_cons]; omega))) ?_)
  exact wpAny_pure (h _ ⟨(hs2.2 _ (Ne.symm I.ne)).trans I.obj,hn2,I.ne⟩ hs2)
theorem zmN {R:Result→Shared→Prop} {vs:List Value} {kw:List (Str × Value)} (X:K.In s.heap) (hm:PySem.W.makesIn K C=true)
    (hi:PySem.W.findIn K (.ref C) "__init__"=some (some (.ref f))) (hf:PySem.W.typeIn K (.ref f)=some (.type "function"))
    (h:codeAny (model prog w) (A.under (.builtin "type.__call__" ⟨.ref C :: vs,kw⟩)) (.call (.ref f) ⟨.ref (s.heap.objs.size + 1) :: vs,kw⟩) (PySem.W.InitBack (s.heap.objs.size + 1) R)
      { s with heap:=(s.heap.push PySem.W.emptyDict).push (PySem.W.instObj C s.heap.objs.size) }) :
    codeAny (model prog w) A (.call (.ref C) ⟨vs,kw⟩) R s:=by
  obtain ⟨hh,g,d,t,os⟩:=s
  exact PySem.W.make_core (PySem.W.makes_of X hm) (PySem.W.looks_findIn X hi) (fun self=>PySem.W.bind_fn X self hf) (.inl rfl) h
end
def putF (f:Str) (v:V):List (Str × V)→List (Str × V)
  | []=>[(f,v)]
  | (g,x) :: r=>if g=f then (g,v) :: r else (g,x) :: putF f v r
theorem zfA (f g:Str) (v:V):∀ fs:List (Str × V),(putF f v fs).lookup g=if g=f then some v else fs.lookup g
  | []=>by
    show List.lookup g [(f,v)]=_
    by_cases h:g=f
    · have hb:(g == f)=true:=beq_iff_eq.mpr h
      simp only [List.lookup,hb,if_pos h]
    · have hb:(g == f)=false:=beq_eq_false_iff_ne.mpr h
      simp only [List.lookup,hb,if_neg h]
  | (k,x) :: r=>by
    have ih:=zfA f g v r
    rw [show putF f v ((k,x) :: r)=(if k=f then (k,v) :: r else (k,x) :: putF f v r) from rfl]
    by_cases hk:k=f
    · rw [if_pos hk]
      by_cases h:g=k
      · have hb:(g == k)=true:=beq_iff_eq.mpr h
        simp only [List.lookup,hb,if_pos (h.trans hk)]
      · have hb:(g == k)=false:=beq_eq_false_iff_ne.mpr h
        simp only [List.lookup,hb,if_neg (fun e:g=f=>h (e.trans hk.symm))]
    · rw [if_neg hk]
      by_cases h:g=k
      · have hb:(g == k)=true:=beq_iff_eq.mpr h
        simp only [List.lookup,hb,if_neg (fun e:g=f=>hk (h.symm.trans e))]
      · have hb:(g == k)=false:=beq_eq_false_iff_ne.mpr h
        simp only [List.lookup,hb]
        exact ih
theorem zf4 (f:Str) (v:V):∀ fs:List (Str × V),f ∈ (putF f v fs).map (·.1)∧∀ g,g ∈ fs.map (·.1)→g ∈ (putF f v fs).map (·.1)
  | []=>⟨by simp [putF],fun g h=>by simp at h⟩
  | (k,x) :: r=>by
    obtain ⟨i1,i2⟩:=zf4 f v r
    rw [show putF f v ((k,x) :: r)=(if k=f then (k,v) :: r else (k,x) :: putF f v r) from rfl]
    by_cases hk:k=f
    · rw [if_pos hk]
      subst hk
      exact ⟨by simp,fun g h=>by simpa using h⟩
    · rw [if_neg hk]
      refine ⟨?_,fun g h=>?_⟩
      · rw [List.map_cons]
        exact List.mem_cons_of_mem _ i1
      · rw [List.map_cons] at h ⊢
        rcases List.mem_cons.mp h with e | e
        · exact List.mem_cons.mpr (.inl e)
        · exact List.mem_cons_of_mem _ (i2 g e)
theorem zfR (f:Str) (v:V):∀ fs:List (Str × V),(putF f v fs).length ≤ fs.length + 1
  | []=>by simp [putF]
  | (k,x) :: r=>by
    have ih:=zfR f v r
    rw [show putF f v ((k,x) :: r)=(if k=f then (k,v) :: r else (k,x) :: putF f v r) from rfl]
    by_cases hk:k=f
    · rw [if_pos hk,List.length_cons,List.length_cons]; omega
    · rw [if_neg hk,List.length_cons,List.length_cons]; omega
theorem RelO.some_of {v:V} {o:Option Value} (r:RelO (some v) o):∃ u,o=some u∧RelV v u:=by
  cases o with
  | none=>exact (show False from r).elim
  | some u=>exact ⟨u,rfl,r⟩
theorem RelO.none_of {o:Option Value} (r:RelO none o):o=none:=by
  cases o with
  | none=>rfl
  | some u=>exact (show False from r).elim
theorem zll {v:V} {u:Value} (r:RelV v u):PySem.W.handedIn u=true:=by
  cases v with
  | non=>cases (show u=Value.none from r); rfl
  | bl b=>cases (show u=Value.bool b from r); rfl
  | int i=>obtain ⟨t,e⟩:=(show ∃ t,u=Value.int i t from r); cases e; rfl
  | str x=>obtain ⟨t,e⟩:=(show ∃ t,u=Value.str x t from r); cases e; rfl
  | byt b=>obtain ⟨t,e⟩:=(show ∃ t,u=Value.bytes b t from r); cases e; rfl
  | flt b=>obtain ⟨t,e⟩:=(show ∃ t,u=Value.float b t from r); cases e; rfl
  | ref a=>cases (show u=Value.ref a from r); rfl
  | ty n=>cases (show u=Value.type n from r); rfl
section
variable {P:Program} {w:World} {H H':Hp} {h h':Heap} {a C dx:Addr} {fs fs':List (Str × V)}
theorem zit (hok:HOk P w H h) (e:H a=some (.ins C dx fs)):∃ mA,ObjM h a dx C mA∧(∀ f,RelO (fs.lookup f) (mA f))∧PySem.Within mA (fs.map (·.1))∧fs.length ≤ 1000∧H dx=some (.own a):=by
  obtain ⟨d,z,ne,ob,mA,n,r,q⟩:=(show ObjOk P w H h a (.ins C dx fs) from hok a _ e)
  exact ⟨mA,⟨ob,n,ne⟩,r,q,z,d⟩
end
structure Cls (K:PySem.W.Frag) (C:Addr):Prop where
  pg:PySem.W.plainGet K C Str.empty=true
  hd:PySem.W.hasDictIn K C=true
  po:PySem.W.plainOver K C=true
  sa:PySem.W.findIn K (.ref C) "__setattr__"=some (some (.builtin "object.__setattr__"))
theorem Cls.get {K:PySem.W.Frag} {C:Addr} (c:Cls K C) (f:Str):PySem.W.plainGet K C f=true:=c.pg
def NoAttr (K:PySem.W.Frag) (C:Addr) (f:Str):Prop:=PySem.W.findIn K (.ref C) f=some none
theorem NoAttr.taker {K:PySem.W.Frag} {C:Addr} {f:Str} (n:NoAttr K C f):PySem.W.takerIn K C f=some none:=by
  unfold PySem.W.takerIn
  rw [show PySem.W.findIn K (.ref C) f=some none from n]
  rfl
structure Meth (K:PySem.W.Frag) (C:Addr) (m:Str) (f:Addr):Prop where
  at_:PySem.W.findIn K (.ref C) m=some (some (.ref f))
  fn:PySem.W.isFn K (.ref f)=true
  kp:PySem.W.keepIn K (.ref f)=true
section
variable {X:Cx} {pins:List (Addr × Obj)} {σ:St} {H:Hp} {s:Shared} {a C dx:Addr} {fs:List (Str × V)} {f:Str} {v:V} {A:Around} {E:Value→Shared→Prop}
theorem zjH {b:Bool} {Q:Value→Shared→Prop} (I:Inv X pins σ H s) (e:H a=some (.ins C dx fs)) (c:Cls X.K C) (n:NoAttr X.K C f) (l:fs.lookup f=some v)
    (h:∀ u s',Inv X pins σ H s'→RelV v u→Q u s'):wpAny (model X.prog X.w) A (getAttr (.ref a) f b) Q E s:=by
  obtain ⟨mA,O,r,_,_,_⟩:=zit I.hok e
  obtain ⟨u,hu,ru⟩:=RelO.some_of (v:=v) (o:=mA f) (by rw [← l]; exact r f)
  exact znN I.kIn O (c.get f) c.hd n hu (zll ru) (h u _ (I.tok _) ru)
theorem zgC {m:Str} {g:Addr} {pl:Sem Bool} {Q:Value × List Value→Shared→Prop} (I:Inv X pins σ H s) (e:H a=some (.ins C dx fs)) (c:Cls X.K C) (k:Meth X.K C m g) (l:fs.lookup m=none)
    (h:Q (.ref g,[.ref a]) s):wpAny (model X.prog X.w) A (getMethod (.ref a) m pl) Q E s:=by
  obtain ⟨mA,O,r,_,_,_⟩:=zit I.hok e
  have hn:mA m=none:=RelO.none_of (by rw [← l]; exact r m)
  exact zmm I.kIn O (c.get m) k.at_ k.fn hn h
theorem zje {y:V} {u:Value} {Q:Unit→Shared→Prop} (I:Inv X pins σ H s) (e:H a=some (.ins C dx fs)) (c:Cls X.K C) (n:NoAttr X.K C f) (hl:fs.length < 1000) (ry:RelV y u)
    (h:∀ s',Inv X pins σ (upd H a (.ins C dx (putF f y fs))) s'→Q () s'):wpAny (model X.prog X.w) A (setAttr (.ref a) f u) Q E s:=by
  obtain ⟨mA,O,r,wi,_,ho⟩:=zit I.hok e
  have hz:(fs.map (·.1)).length ≤ sizeLine:=by rw [List.length_map,sizeLine_eq]; omega
  refine zn1 I.kIn O c.sa c.po n.taker c.hd wi hz fun h' O' sb=>h _ ?_
  have hd:∃ o,h'.get? dx=some o:=let ⟨o,_,_,e',_⟩:=O'.ns; ⟨o,e'⟩
  refine I.write (x:=a) (e:=dx) (by rw [e]; exact True.intro) (.inr ho) (fun b q hb z=>(sb.2 b hb).trans z) hd ?_
  refine ⟨by rw [zag O.ne]; exact ho,?_,O.ne,O'.obj,_,O'.ns,fun g=>?_,fun g hg=>?_⟩
  · have:=zfR f y fs; omega
  · show RelO ((putF f y fs).lookup g) (if g=f then some u else mA g)
    rw [zfA]
    by_cases q:g=f
    · rw [if_pos q,if_pos q]; exact ry
    · rw [if_neg q,if_neg q]; exact r g
  · by_cases q:g=f
    · rw [q]; exact (zf4 f y fs).1
    · refine (zf4 f y fs).2 g (wi g fun z=>hg ?_)
      show (if g=f then some u else mA g)=none
      rw [if_neg q]; exact z
theorem Inv.made (I:Inv X pins σ H s):Inv X pins σ (upd (upd H s.heap.objs.size (.own (s.heap.objs.size + 1))) (s.heap.objs.size + 1) (.ins C s.heap.objs.size []))
    { s with heap:=(s.heap.push PySem.W.emptyDict).push (PySem.W.instObj C s.heap.objs.size) }:=by
  have e1:(s.heap.push PySem.W.emptyDict).get? s.heap.objs.size=some PySem.W.emptyDict:=Heap.get?_push_size s.heap rfl
  have e2:((s.heap.push PySem.W.emptyDict).push (PySem.W.instObj C s.heap.objs.size)).get? (s.heap.objs.size + 1)=some (PySem.W.instObj C s.heap.objs.size):=by
    have:=Heap.get?_push_size (s.heap.push PySem.W.emptyDict) (o:=PySem.W.instObj C s.heap.objs.size) rfl
    rwa [Heap.size_push] at this
  have e3:(s.heap.push PySem.W.emptyDict).Ns s.heap.objs.size (fun _=>none):=⟨PySem.W.emptyDict,#[],_,e1,rfl,(fun e he=>absurd he (by simp)),fun _=>rfl⟩
  have I1:=I.laid (a:=s.heap.objs.size) (o:=.own (s.heap.objs.size + 1)) (h':=s.heap.push PySem.W.emptyDict) (t':=s.toks) (fun b u q=>Heap.get?_push_of_some _ q) (Nat.le_refl _) ⟨_,e1⟩
  refine I1.laid (a:=s.heap.objs.size + 1) (o:=.ins C s.heap.objs.size []) (t':=s.toks) (fun b u q=>Heap.get?_push_of_some _ q) (Nat.le_of_eq (Heap.size_push _ _)) ?_
  have ne:s.heap.objs.size ≠ s.heap.objs.size + 1:=Nat.ne_of_lt (Nat.lt_succ_self _)
  refine ⟨by rw [zag ne,zai],Nat.zero_le _,ne,e2,fun _=>none,(Heap.Ns1.of_empty e3).at fun o q=>Heap.get?_push_of_some _ q,fun _=>True.intro,fun y hy=>absurd rfl hy⟩
theorem znx {prog:Program} {w:World} {env:Env} {e:Expr} {f:Str} {pos:Pos} {s:Shared} {Q:Value→Shared→Prop} (hb:attributeBase e f env (eval e env)=eval e env)
    (h:wpAny (model prog w) A (eval e env) (fun o s₁=>wpAny (model prog w) A (getAttr o f true) Q E s₁) E s):wpAny (model prog w) A (eval (.Attribute e f pos) env) Q E s :=
  Attribute_any_ h (by rw [arm_eval_Attribute,hb])
end
def tFld (K:PySem.W.Frag) (ta:TE) (f:Str):TE:=fun σ H Q=>ta σ H fun x H1=>∃ a C dx fs v,x = .ref a∧H1 a=some (.ins C dx fs)∧Cls K C∧NoAttr K C f∧fs.lookup f=some v∧Q v H1
def sFld (K:PySem.W.Frag) (ta tv:TE) (f:Str):TS:=fun D σ H=>tv σ H fun y H1=>ta σ H1 fun x H2=>∃ a C dx fs,x = .ref a∧H2 a=some (.ins C dx fs)∧Cls K C∧NoAttr K C f∧fs.length < 1000 ∧
  D.nx σ (upd H2 a (.ins C dx (putF f y fs)))
section
variable {X:Cx} {o e value:Expr} {f:Str} {pos pos' tpos:Pos} {ta tv:TE}
theorem zcU (he:PE X e ta) (hb:attributeBase e f X.env (eval e X.env)=eval e X.env):PE X (.Attribute e f pos) (tFld X.K ta f):=by
  intro pins s σ H Q I h
  refine znx hb (thn (he pins s σ H _ I h) fun u s1 ⟨x,H1,I1,rx,a,C,dx,fs,v,ex,ea,c,n,l,q⟩=>?_)
  subst ex
  obtain rfl:u=Value.ref a:=rx
  exact zjH I1 ea c n l fun u' s2 I2 ru=>⟨v,H1,I2,ru,q⟩
theorem zhO (ha:PE X o ta) (hv:PE X value tv) (hs:swapsWith value (some (.Attribute o f pos')) pos.line X.env=pure false):PS X (.Assign [.Attribute o f pos'] value pos) (sFld X.K ta tv f):=by
  intro pins s σ H D I h
  refine plainObj_wpAny_Assign_Attribute (thn (hv pins s σ H _ I h) fun u s1 ⟨y,H1,I1,ry,q⟩=>thn (ha pins s1 σ H1 _ I1 q) fun ov s2 ⟨x,H2,I2,rx,a,C,dx,fs,ex,ea,c,n,l,q2⟩=>?_) hs
  subst ex
  obtain rfl:ov=Value.ref a:=rx
  exact zje I2 ea c n l ry fun s3 I3=>⟨σ,_,I3,q2⟩
end
section
variable {X:Cx} {pins:List (Addr × Obj)} {σ:St} {H:Hp} {s:Shared} {A:Around} {E:Value→Shared→Prop} {Q:Value→Shared→Prop} {c:Value} {b:Bool}
end
end L2
namespace L2
open PySem PySem.Spec PyProof.Rows
structure Room (k:Nat) (A:Around):Prop where
  hd:A.handled=none
  dp:A.depth + 3 * k + 5 < recursionLimit
  un:A.units + 16 * k + 200 < cLine
theorem Room.mono {j k:Nat} {A:Around} (r:Room k A) (h:j ≤ k):Room j A:=⟨r.hd,by have:=r.dp; omega,by have:=r.un; omega⟩
theorem Room.deeper {k:Nat} {A:Around} (r:Room (k + 1) A) (env:Env):Room k (A.deeper env) :=
  ⟨r.hd,by have:=r.dp; show A.depth + 1 + 3 * k + 5 < _; omega,by have:=r.un; show A.units + 3 + 16 * k + 200 < _; omega⟩
theorem zi9 {A:Around} {C:Addr} {us:List Value} {kw:List (Str × Value)}:(A.under (.builtin "type.__call__" ⟨.ref C :: us,kw⟩)).depth=A.depth + 1:=by
  first | rfl | simp [Around.under,Code.weight,Code.isCreation,Code.isGuard,Code.isCaller,Code.frames,Code.isFrame,guardIds]
theorem zi8 {A:Around} {C:Addr} {us:List Value} {kw:List (Str × Value)}:(A.under (.builtin "type.__call__" ⟨.ref C :: us,kw⟩)).units=A.units + 1:=by
  first | rfl | simp [Around.under,Code.cUnits,Code.frames,Code.isFrame]
theorem Room.make {k:Nat} {A:Around} (r:Room (k + 1) A) (C:Addr) (us:List Value) (kw:List (Str × Value)):Room k (A.under (.builtin "type.__call__" ⟨.ref C :: us,kw⟩)) :=
  ⟨r.hd,by have:=r.dp; rw [zi9]; omega,by have:=r.un; rw [zi8]; omega⟩
theorem Room.depth {k:Nat} {A:Around} (r:Room k A):A.depth < recursionLimit:=by have:=r.dp; omega
theorem Room.units {k:Nat} {A:Around} (r:Room k A):A.units + 64 < cLine:=by have:=r.un; omega
def tNil:TA:=fun _ H Q=>Q [] H
def zci (ta:TE) (tr:TA):TA:=fun σ H Q=>ta σ H fun x H1=>tr σ H1 fun xs H2=>Q (x :: xs) H2
section
variable {X:Cx} {e:Expr} {es:List Expr} {te:TE} {t:TA} {pos:Pos}
theorem zaf:PA X [] tNil:=fun _ _ _ _ H Q I h=>Calls.spliced_nil ⟨[],H,I,.nil,h⟩
theorem zaa (ha:PE X e te) (hr:PA X es t) (hs:starEach (e :: es) X.env=(false,eval e X.env) :: starEach es X.env:=by rfl):PA X (e :: es) (zci te t):=by
  intro pos pins s σ H Q I h
  rw [hs]
  show wpAny _ _ (spliced ((false,eval e X.env) :: backTo pos (starEach es X.env))) _ _ s
  refine Calls.spliced_cons (thn (ha pins s σ H _ I h) fun u s1 ⟨x,H1,I1,r1,q1⟩=>?_)
  exact thn (hr pos pins s1 σ H1 _ I1 q1) fun us s2 ⟨xs,H2,I2,r2,q2⟩=>⟨x :: xs,H2,I2,.cons r1 r2,q2⟩
def tTup (t:TA):TE:=fun σ H Q=>t σ H fun xs H1=>xs.length ≤ sizeLine∧∀ p,H1 p=none→Q (.ref p) (upd H1 p (.tup xs))
def tLst (t:TA):TE:=fun σ H Q=>t σ H fun xs H1=>xs.length ≤ sizeLine∧∀ p,H1 p=none→Q (.ref p) (upd H1 p (.lst xs))
theorem zfh {x1} (h:PA X es t):PE X (.Tuple es x1 pos) (tTup t):=by
  intro pins s σ H Q I hq
  refine wpAny_Tuple_spliced (thn (h pos pins s σ H _ I hq) fun us s1 ⟨xs,H1,I1,r,z,q⟩=>⟨by rw [← r.length]; exact z,?_⟩)
  have hf:H1 s1.heap.objs.size=none:=I1.hok.fresh (Nat.le_refl _)
  refine ⟨.ref s1.heap.objs.size,upd H1 s1.heap.objs.size (.tup xs),I1.laid (t':=s1.toks) (fun b u e=>Heap.get?_push_of_some _ e) (Nat.le_refl _) ?_,rfl,q _ hf⟩
  exact ⟨z,us,r,⟨_,Heap.get?_push_size _ rfl,rfl,_,rfl⟩⟩
theorem zeq (h:PA X es t):PE X (.List es pos) (tLst t):=by
  intro pins s σ H Q I hq
  refine wpAny_List_spliced (thn (h pos pins s σ H _ I hq) fun us s1 ⟨xs,H1,I1,r,z,q⟩=>⟨by rw [← r.length]; exact z,?_⟩)
  have hf:H1 s1.heap.objs.size=none:=I1.hok.fresh (Nat.le_refl _)
  refine ⟨.ref s1.heap.objs.size,upd H1 s1.heap.objs.size (.lst xs),I1.laid (t':=s1.toks) (fun b u e=>Heap.get?_push_of_some _ e) (Nat.le_refl _) ?_,rfl,q _ hf⟩
  exact ⟨z,us,0,r,Heap.get?_push_size _ rfl⟩
end
abbrev Sp:=List V→Hp→VK→XK→Prop
abbrev CXT:=List Env→Hp→Shared→XK→Value→Shared→Prop
structure Env0 (P:Program) (w:World) (K:PySem.W.Frag) (mg:Str→Option Value) (base:Heap) (A:Around) (outer:List Env) (s:Shared) (H:Hp):Prop where
  frames:A.frames=some outer
  mod:Mod K mg base
  bs:∀ b o,base.get? b=some o→s.heap.get? b=some o∧H b=none
  bsz:base.objs.size ≤ s.heap.objs.size
  funs:s.heap.FunFrames base outer
  frf:∀ b ∈ frs outer,H b=none
  hok:HOk P w H s.heap
  bare:AllBare s.gens
  tb:TbAt K H
def CE (outer:List Env) (P:Program) (w:World) (H:Hp) (s:Shared) (Q:VK) (u:Value) (s':Shared):Prop :=
  ∃ v H',s'.os=s.os∧AllBare s'.gens∧Un (frs outer) [] H H' s.heap s'.heap∧HOk P w H' s'.heap∧RelV v u∧Q v H'
def CR (CX:CXT) (outer:List Env) (P:Program) (w:World) (H:Hp) (s:Shared) (Q:VK) (E:XK) (r:Result) (s':Shared):Prop :=
  match r with
  | .ok (.ret u)=>CE outer P w H s Q u s'
  | .ok _=>False
  | .error e=>CX outer H s E e s'
structure FnOk (P:Program) (w:World) (K:PySem.W.Frag) (mg:Str→Option Value) (base:Heap) (CX:CXT) (k:Nat) (f:Addr) (fd:FuncData) (ps:List Str) (sp:Sp):Prop where
  len:∀ vs H Q E,sp vs H Q E→vs.length=ps.length
  run:∀ (A:Around) (outer:List Env) (s:Shared) (H:Hp) (args:Args) (us:List Value) (vs:List V) (Q:VK) (E:XK),Room k A→Env0 P w K mg base A outer s H→BindsTo s fd args (ps.zip us)→Vals vs us→sp vs H Q E →
    codeAny (model P w) A (.call (.ref f) args) (CR CX outer P w H s Q E) s
theorem Env0.make {P:Program} {w:World} {K:PySem.W.Frag} {mg:Str→Option Value} {base:Heap} {A:Around} {outer:List Env} {s:Shared} {H:Hp} (e:Env0 P w K mg base A outer s H) (C:Addr) (us:List Value) (kw:List (Str × Value)) :
    Env0 P w K mg base (A.under (.builtin "type.__call__" ⟨.ref C :: us,kw⟩)) outer s H:=⟨by first | exact e.frames | (simpa [Around.under,Code.envs,Code.isFrame,pushEnvs] using e.frames),e.mod,e.bs,e.bsz,e.funs,e.frf,e.hok,e.bare,e.tb⟩
section
variable {X:Cx} {pins:List (Addr × Obj)} {σ:St} {H:Hp} {s s':Shared}
theorem Inv.env0 (I:Inv X pins σ H s):Env0 X.prog X.w X.K X.mg X.base X.A X.stack s H :=
  ⟨I.ok.frames,I.ok.mod,I.bs,Nat.le_trans I.ok.bsz I.sz,I.stack,I.stkFree,I.hok,I.bare,I.ok.tb.grown I.base.tbls⟩
theorem Inv.after {Q:VK} {u:Value} (I:Inv X pins σ H s) (h:CE X.stack X.prog X.w H s Q u s'):EP X pins σ Q u s':=by
  obtain ⟨v,H',os,bare,un,hok,r,q⟩:=h
  obtain ⟨hh,g,d,t,os'⟩:=s'
  obtain rfl:os'=s.os:=os
  exact ⟨v,H',I.call (h':=hh) (g':=g) (d':=d) (t':=t) (ch:=[]) un hok bare (fun b z=>absurd z (by simp)),r,q⟩
end
def zhY (sp:Sp) (dvs:List V) (E:XK) (t:TA):TE:=fun σ H Q=>t σ H fun vs H1=>sp (vs ++ dvs) H1 Q E
def zjB (C:Addr) (m:Str) (sp:Sp) (dvs:List V) (E:XK) (ta:TE) (t:TA):TE:=fun σ H Q=>ta σ H fun x H1=>∃ a dx fs,x = .ref a∧H1 a=some (.ins C dx fs)∧fs.lookup m=none ∧
  t σ H1 fun vs H2=>sp (x :: (vs ++ dvs)) H2 Q E
def znE (C:Addr) (sp:Sp) (dvs:List V) (E:XK) (t:TA):TE:=fun σ H Q=>t σ H fun vs H1=>∀ x dx,H1 x=none→H1 dx=none→dx ≠ x →
  sp (.ref x :: (vs ++ dvs)) (upd (upd H1 dx (.own x)) x (.ins C dx [])) (fun v H2=>v = .non∧Q (.ref x) H2) E
def Binds (K:PySem.W.Frag) (fd:FuncData) (ps:List Str) (ds:List Value):Prop :=
  ∀ (s:Shared) (us:List Value),K.In s.heap→(us ++ ds).length=ps.length→BindsTo s fd ⟨us,[]⟩ (ps.zip (us ++ ds))
theorem Binds.all {K:PySem.W.Frag} {fd:FuncData} {ps:List Str} (h:∀ us:List Value,us.length=ps.length→bindArgs fd ⟨us,[]⟩=pure (ps.zip us)):Binds K fd ps []:=fun s us _ hl=>by
  rw [List.append_nil] at hl ⊢
  exact .of_eq (h us hl)
def zcJ (CX:CXT) (X:Cx) (E:XK):Prop:=∀ (pins:List (Addr × Obj)) (σ:St) (H:Hp) (s:Shared) (e:Value) (s':Shared),Inv X pins σ H s→CX X.stack H s E e s'→X.xe e s'
section
variable {X:Cx} {CX:CXT} {k:Nat} {f C:Addr} {fd:FuncData} {ps:List Str} {sp:Sp} {dvs:List V} {ds:List Value} {E:XK} {x m:Str} {p pos apos:Pos} {e o:Expr} {es:List Expr} {ta:TE} {t:TA}
theorem zk3 {pins:List (Addr × Obj)} {σ:St} {H:Hp} {s:Shared} {Q:VK} {us:List Value} {vs:List V} (F:FnOk X.prog X.w X.K X.mg X.base CX k f fd ps sp) (hr:Room k X.A) (hb:Binds X.K fd ps ds) (hd:Vals dvs ds) (hx:zcJ CX X E)
    (I:Inv X pins σ H s) (r:Vals vs us) (h:sp (vs ++ dvs) H Q E):wpAny (model X.prog X.w) X.A (call (.ref f) us) (EP X pins σ Q) X.xe s:=by
  have r2:Vals (vs ++ dvs) (us ++ ds):=r.append hd
  have hl:(us ++ ds).length=ps.length:=by rw [← r2.length]; exact F.len _ _ _ _ h
  refine wpAny_call (codeAny_mono (F.run X.A X.stack s H ⟨us,[]⟩ (us ++ ds) (vs ++ dvs) Q E hr I.env0 (hb s us I.kIn hl) r2 h) fun r s' hq=>?_)
  cases r with
  | error e=>exact hx pins σ H s e s' I hq
  | ok fl =>
    cases fl with
    | ret u=>exact I.after hq
    | next=>exact False.elim hq
    | brk=>exact False.elim hq
    | cont=>exact False.elim hq
theorem zly (F:FnOk X.prog X.w X.K X.mg X.base CX k f fd ps sp) (hr:Room k X.A) (hg:Gl X x) (hm:X.mg x=some (.ref f)) (hk:PySem.W.keepIn X.K (.ref f)=true) (hb:Binds X.K fd ps ds) (hd:Vals dvs ds) (hx:zcJ CX X E)
    (ha:PA X (e :: es) t) (hdb:(x == ("__debug__" : Str))=false:=by decide) (he:starEach (e :: es) X.env=(false,eval e X.env) :: starEach es X.env:=by rfl) (hpl:(backTo pos (starEach es X.env)).any (·.1)=false:=by rfl) :
    PE X (.Call (.Name x p) (e :: es) [] pos) (zhY sp dvs E t):=by
  intro pins s σ H Q I h
  refine wpAny_Call_Name_kw (zdL I hg hm ?_ hdb)
  refine PySem.W.callWith_K (h₀:=X.base) I.ok.mod.kin hk (thn (ha pos pins s σ H _ I h) fun us s1 ⟨vs,H1,I1,r,q⟩=>⟨I1.kIn,?_⟩) he hpl
  exact zk3 F hr hb hd hx I1 r q
theorem znG {pl:Sem Bool} (he:PE X o ta) (c:Cls X.K C) (hm:Meth X.K C m f) (F:FnOk X.prog X.w X.K X.mg X.base CX k f fd ps sp) (hr:Room k X.A) (hb:Binds X.K fd ps ds) (hd:Vals dvs ds) (hx:zcJ CX X E) (ha:PA X (e :: es) t)
    (hst:starEach (e :: es) X.env=(false,eval e X.env) :: starEach es X.env:=by rfl) (hpl:(backTo pos (starEach es X.env)).any (·.1)=false:=by rfl)
    (ht:eval (.Call (.Attribute o m apos) (e :: es) [] pos) X.env=(do
      let ov ← eval o X.env
      standAt apos.atName
      let (f,first) ← holding [ov] (getMethod ov m pl)
      callWith pos f first (backTo pos (starEach (e :: es) X.env)) (backToKw pos (keywordEach [] X.env))):=by rfl) :
    PE X (.Call (.Attribute o m apos) (e :: es) [] pos) (zjB C m sp dvs E ta t):=by
  intro pins s σ H Q I h
  refine PySem.W.methodCall_KW (pl:=pl) (thn (he pins s σ H _ I h) fun u s1 ⟨x,H1,I1,rx,a,dx,fs,ex,ea,l,q⟩=>?_) ht
  subst ex
  obtain rfl:u=Value.ref a:=rx
  refine zgC I1 ea c hm l ?_
  refine PySem.W.callWith_K (first:=[.ref a]) (h₀:=X.base) I.ok.mod.kin hm.kp (thn (ha pos pins s1 σ H1 _ I1 q) fun us s2 ⟨vs,H2,I2,r,q2⟩=>⟨I2.kIn,?_⟩) hst hpl
  exact zk3 (us:=.ref a :: us) (vs:=.ref a :: vs) F hr hb hd hx I2 (.cons rfl r) q2
theorem zmE {pl:Sem Bool} (he:PE X o ta) (c:Cls X.K C) (hm:Meth X.K C m f) (F:FnOk X.prog X.w X.K X.mg X.base CX k f fd ps sp) (hr:Room k X.A) (hb:Binds X.K fd ps ds) (hd:Vals dvs ds) (hx:zcJ CX X E)
    (ht:eval (.Call (.Attribute o m apos) [] [] pos) X.env=(do
      let ov ← eval o X.env
      standAt apos.atName
      let (f,first) ← holding [ov] (getMethod ov m pl)
      callWith pos f first (backTo pos (starEach [] X.env)) (backToKw pos (keywordEach [] X.env))):=by rfl) :
    PE X (.Call (.Attribute o m apos) [] [] pos) (zjB C m sp dvs E ta tNil):=by
  intro pins s σ H Q I h
  refine PySem.W.methodCall_KW (pl:=pl) (thn (he pins s σ H _ I h) fun u s1 ⟨x,H1,I1,rx,a,dx,fs,ex,ea,l,q⟩=>?_) ht
  subst ex
  obtain rfl:u=Value.ref a:=rx
  refine zgC I1 ea c hm l ?_
  exact PySem.W.callWith_K0 (first:=[.ref a]) I1.kIn hm.kp (zk3 (us:=[.ref a]) (vs:=[.ref a]) F hr hb hd hx I1 (.cons rfl .nil) q)
structure Mk (K:PySem.W.Frag) (C f:Addr):Prop where
  makes:PySem.W.makesIn K C=true
  init:PySem.W.findIn K (.ref C) "__init__"=some (some (.ref f))
  fn:PySem.W.isFn K (.ref f)=true
  kp:PySem.W.keepIn K (.ref C)=true
theorem zmB {pins:List (Addr × Obj)} {σ:St} {H:Hp} {s:Shared} {Q:VK} {us:List Value} {vs:List V} (M:Mk X.K C f) (F:FnOk X.prog X.w X.K X.mg X.base CX k f fd ps sp) (hr:Room (k + 1) X.A) (hb:Binds X.K fd ps ds) (hd:Vals dvs ds)
    (hx:zcJ CX X E) (I:Inv X pins σ H s) (r:Vals vs us)
    (h:∀ x dx,H x=none→H dx=none→dx ≠ x→sp (.ref x :: (vs ++ dvs)) (upd (upd H dx (.own x)) x (.ins C dx [])) (fun v H2=>v = .non∧Q (.ref x) H2) E) :
    wpAny (model X.prog X.w) X.A (call (.ref C) us) (EP X pins σ Q) X.xe s:=by
  have hq:=h (s.heap.objs.size + 1) s.heap.objs.size (I.hok.fresh (Nat.le_succ _)) (I.hok.fresh (Nat.le_refl _)) (Nat.ne_of_lt (Nat.lt_succ_self _))
  have I2:=Inv.made (C:=C) I
  have r2:Vals (V.ref (s.heap.objs.size + 1) :: (vs ++ dvs)) (Value.ref (s.heap.objs.size + 1) :: (us ++ ds)):=.cons rfl (r.append hd)
  have hl:(Value.ref (s.heap.objs.size + 1) :: us ++ ds).length=ps.length:=by
    have e:=r2.length
    rw [F.len _ _ _ _ hq] at e
    exact e.symm
  refine wpAny_call (zmN (f:=f) I.kIn M.makes M.init (beq_iff_eq.mp M.fn) (codeAny_mono (F.run _ X.stack _ _ ⟨Value.ref (s.heap.objs.size + 1) :: us,[]⟩ (Value.ref (s.heap.objs.size + 1) :: (us ++ ds)) _ _ E (hr.make C us [])
    (I2.env0.make C us []) (hb _ (Value.ref (s.heap.objs.size + 1) :: us) I2.kIn hl) r2 hq) fun r s' hq'=>?_))
  cases r with
  | error e=>exact hx pins σ _ _ e s' I2 hq'
  | ok fl =>
    cases fl with
    | ret u =>
      obtain ⟨v,H',I3,rv,ev,q3⟩:=I2.after hq'
      subst ev
      exact ⟨rv,⟨V.ref (s.heap.objs.size + 1),H',I3,rfl,q3⟩⟩
    | next=>exact False.elim hq'
    | brk=>exact False.elim hq'
    | cont=>exact False.elim hq'
theorem zns (M:Mk X.K C f) (F:FnOk X.prog X.w X.K X.mg X.base CX k f fd ps sp) (hr:Room (k + 1) X.A) (hg:Gl X x) (hm:X.mg x=some (.ref C)) (hb:Binds X.K fd ps ds) (hd:Vals dvs ds) (hx:zcJ CX X E)
    (ha:PA X (e :: es) t) (hdb:(x == ("__debug__" : Str))=false:=by decide) (he:starEach (e :: es) X.env=(false,eval e X.env) :: starEach es X.env:=by rfl) (hpl:(backTo pos (starEach es X.env)).any (·.1)=false:=by rfl) :
    PE X (.Call (.Name x p) (e :: es) [] pos) (znE C sp dvs E t):=by
  intro pins s σ H Q I h
  refine wpAny_Call_Name_kw (zdL I hg hm ?_ hdb)
  refine PySem.W.callWith_K (h₀:=X.base) I.ok.mod.kin M.kp (thn (ha pos pins s σ H _ I h) fun us s1 ⟨vs,H1,I1,r,q⟩=>⟨I1.kIn,?_⟩) he hpl
  exact zmB M F hr hb hd hx I1 r q
end
def PK (X:Cx) (kws:List Keyword) (t:TA):Prop :=
  ∀ (pos:Pos) (pins:List (Addr × Obj)) (s:Shared) (σ:St) (H:Hp) (Q:List V→Hp→Prop),Inv X pins σ H s→t σ H Q→wpAny (model X.prog X.w) X.A (evalAll ((backToKw pos (keywordEach kws X.env)).map (·.2))) (AP X pins σ Q) X.xe s
section
variable {X:Cx} {CX:CXT} {k:Nat} {f C:Addr} {fd:FuncData} {ps ks:List Str} {sp:Sp} {E:XK} {x m:Str} {p pos apos kpos:Pos} {e o:Expr} {es:List Expr} {kws:List Keyword} {te ta:TE} {t tk:TA} {nm:Option Str}
theorem zpn:PK X [] tNil:=fun _ _ _ _ H Q I h=>wpAny_evalAll_nil ⟨[],H,I,.nil,h⟩
theorem znQ (ha:PE X e te) (hr:PK X kws t):PK X (⟨nm,e,kpos⟩ :: kws) (zci te t):=by
  intro pos pins s σ H Q I h
  show wpAny _ _ (evalAll ((do let v ← eval e X.env; standAt pos; pure v) :: (backToKw pos (keywordEach kws X.env)).map (·.2))) _ _ s
  refine wpAny_evalAll_cons (wpAny_bind (thn (ha pins s σ H _ I h) fun u s1 ⟨x,H1,I1,r1,q1⟩=>wpAny_bind (wpAny_standAt (wpAny_pure ?_))))
  exact thn (hr pos pins s1 σ H1 _ I1 q1) fun us s2 ⟨xs,H2,I2,r2,q2⟩=>⟨x :: xs,H2,I2,.cons r1 r2,q2⟩
variable {g:List Value→List Value→List Value} {gV:List V→List V→List V}
end
structure FnScope (N P:List Str) (sc:Scope):Prop where
  kind:sc.kind = .function
  co:sc.isCoroutine=false
  gen:sc.isGenerator=false
  nd:N.Nodup
  pre:N.take P.length=P
  par:∀ x ∈ P,sc.names.lookup x=some .local∨sc.names.lookup x=some .cell
  nofree:∀ y ∈ sc.names,y.2 ≠ .free
theorem zhf {kindOf:Str→Option NameKind} {x:Str}:∀ {binds:List (Str × Value)} {m:Str→Option Value},(∀ v,(x,v) ∉ binds)→bindL kindOf binds m x=m x
  | [],_,_=>rfl
  | (n,v) :: r,m,h=>by
    unfold bindL
    rw [zhf fun w hw=>h w (List.mem_cons_of_mem _ hw)]
    split
    · have:x ≠ n:=by rintro rfl; exact h v List.mem_cons_self
      simp [this]
    · rfl
theorem zhq {kindOf:Str→Option NameKind} {x:Str}:∀ {binds:List (Str × Value)} {m:Str→Option Value},(∀ v,(x,v) ∉ binds)→bindC kindOf binds m x=m x
  | [],_,_=>rfl
  | (n,v) :: r,m,h=>by
    unfold bindC
    rw [zhq fun w hw=>h w (List.mem_cons_of_mem _ hw)]
    split
    · rfl
    · have:x ≠ n:=by rintro rfl; exact h v List.mem_cons_self
      simp [this]
theorem zhK {kindOf:Str→Option NameKind} {x:Str} {v:Value}:∀ {P:List Str} {vs:List Value} {i:Nat} {m:Str→Option Value},P.Nodup→P[i]?=some x→vs[i]?=some v→kindOf x=some .local →
    bindL kindOf (P.zip vs) m x=some v
  | [],_,_,_,_,h,_,_=>by simp at h
  | _ :: _,[],_,_,_,_,h,_=>by simp at h
  | p :: P,w :: vs,0,m,nd,h1,h2,hk=>by
    simp at h1 h2; subst h1; subst h2
    show bindL kindOf ((p,w) :: P.zip vs) m p=_
    unfold bindL
    rw [zhf fun v hv=>(List.nodup_cons.mp nd).1 (List.of_mem_zip hv).1,if_pos hk]
    simp
  | p :: P,w :: vs,i + 1,m,nd,h1,h2,hk=>by
    show bindL kindOf ((p,w) :: P.zip vs) m x=_
    unfold bindL
    exact zhK (i:=i) (List.nodup_cons.mp nd).2 (by simpa using h1) (by simpa using h2) hk
theorem zhC {kindOf:Str→Option NameKind} {x:Str} {v:Value}:∀ {P:List Str} {vs:List Value} {i:Nat} {m:Str→Option Value},P.Nodup→P[i]?=some x→vs[i]?=some v→kindOf x ≠ some .local →
    bindC kindOf (P.zip vs) m x=some v
  | [],_,_,_,_,h,_,_=>by simp at h
  | _ :: _,[],_,_,_,_,h,_=>by simp at h
  | p :: P,w :: vs,0,m,nd,h1,h2,hk=>by
    simp at h1 h2; subst h1; subst h2
    show bindC kindOf ((p,w) :: P.zip vs) m p=_
    unfold bindC
    rw [zhq fun v hv=>(List.nodup_cons.mp nd).1 (List.of_mem_zip hv).1,if_neg hk]
    simp
  | p :: P,w :: vs,i + 1,m,nd,h1,h2,hk=>by
    show bindC kindOf ((p,w) :: P.zip vs) m x=_
    unfold bindC
    exact zhC (i:=i) (List.nodup_cons.mp nd).2 (by simpa using h1) (by simpa using h2) hk
def start (N:List Str) (vs:List V):St:=vs.map some ++ List.replicate (N.length - vs.length) none
def cxOf (CX:CXT) (P:Program) (w:World) (K:PySem.W.Frag) (mg:Str→Option Value) (base:Heap) (N:List Str) (qual:Str) (scope:Scope) (f:Addr) (cd:Value) (A:Around) (outer:List Env) (s:Shared) (H:Hp) (E:XK):Cx where
  prog:=P
  w:=w
  K:=K
  mg:=mg
  base:=base
  A:=A.deeper (envOfC qual scope s.heap.objs.size f cd)
  N:=N
  s₀:=s
  H₀:=H
  env:=envOfC qual scope s.heap.objs.size f cd
  outer:=outer
  stack:=envOfC qual scope s.heap.objs.size f cd :: outer
  ex:=[]
  calm:=true
  fn:=fun _=>true
  pn:=[]
  xe:=fun e s'=>wpAny (model P w) (A.deeper (envOfC qual scope s.heap.objs.size f cd)) (leaving (envOfC qual scope s.heap.objs.size f cd) e) (fun _ s''=>CX outer H s E e s'') (fun e' s''=>CX outer H s E e' s'') s'
theorem ziO {sc:Scope} {n:Nat} {x:Str} (h:sc.names.lookup x=some .cell):∃ c,(cellsFrom n sc.names []).lookup x=some c:=by
  have q:=PySem.W.cellsFrom_some sc.names n [] (.inl h)
  exact Option.isSome_iff_exists.mp q
theorem zkE {CX:CXT} {P:Program} {w:World} {K:PySem.W.Frag} {mg:Str→Option Value} {base:Heap} {N ps:List Str} {qual:Str} {scope:Scope} {f:Addr} {cd:Value} {A:Around} {outer:List Env} {s s1:Shared} {H:Hp} {E:XK} {us:List Value} {vs:List V}
    (S:FnScope N ps scope) (hd:A.handled=none) (e0:Env0 P w K mg base A outer s H) (hl:vs.length=ps.length) (r:Vals vs us)
    (x:InCallC s s.heap.objs.size (bindL (envOfC qual scope s.heap.objs.size f cd).kindOf (ps.zip us) fun _=>none) (cellsFrom (s.heap.objs.size + 1) scope.names []) (bindC (envOfC qual scope s.heap.objs.size f cd).kindOf (ps.zip us) fun _=>none) s1) :
    Inv (cxOf CX P w K mg base N qual scope f cd A outer s H E) [] (start N vs) H s1:=by
  have hpl:ps.length ≤ N.length:=by have:=congrArg List.length S.pre; rw [List.length_take] at this; omega
  obtain ⟨h1,tk,rfl,hk⟩:=x.done
  have noA:∀ b:Addr,b ∉ (cxOf CX P w K mg base N qual scope f cd A outer s H E).ex:=fun b z=>absurd (show b ∈ ([]:List Addr) from z) (by simp)
  refine ⟨⟨e0.mod,S.kind,rfl,rfl,Nat.le_refl _,fun y z c h1 h2=>?_,fun y hy=>?_,fun y c _ h=>?_,fun _=>hd,Around.frames_deeper e0.frames,.inr ⟨rfl,rfl⟩,fun b z=>absurd z (noA b),e0.bs,e0.bsz,fun b _ _=>noA b,fun b z=>absurd z (noA b),e0.funs,e0.frf,e0.tb⟩,
    rfl,e0.bare,Un.kept hk,⟨_,x.toInCall.ns,fun i y v h1 h2 h3=>?_⟩,fun y c h=>⟨_,x.cell y c h⟩,e0.hok.fresh (Nat.le_refl _),fun y c h=>?_,fun p hp=>absurd (show p ∈ ([]:List (Addr × Obj)) from hp) (by simp),e0.hok.kept hk,?_⟩
  · exact name_of_addr x.apart (PySem.mem_of_lookup h1) (PySem.mem_of_lookup h2)
  · have hy:scope.names.lookup y=some .cell∨scope.names.lookup y=some .free:=hy
    rcases hy with hy | hy
    · exact ziO hy
    · exact absurd rfl (S.nofree _ (PySem.mem_of_lookup hy))
  · exact Nat.le_of_lt (x.above y c (PySem.mem_of_lookup h))
  · have hi:i < vs.length:=by
      unfold start at h2
      by_cases hi:i < vs.length
      · exact hi
      · rw [List.getElem?_append_right (by simpa using hi)] at h2
        rw [List.getElem?_replicate] at h2
        split at h2 <;> cases h2
    have ha:vs[i]?=some v:=by
      unfold start at h2
      rw [List.getElem?_append_left (by simpa using hi),List.getElem?_map] at h2
      cases e:vs[i]? with
      | none=>rw [e] at h2; cases h2
      | some a=>rw [e] at h2; cases h2; rfl
    obtain ⟨u,hu,rv⟩:=r.get ha
    have hp:ps[i]?=some y:=by
      rw [← S.pre,List.getElem?_take_of_lt (by omega)]; exact h1
    have ndP:ps.Nodup:=by rw [← S.pre]; exact S.nd.sublist (List.take_sublist _ _)
    refine ⟨u,rv,?_⟩
    rcases S.par y (List.mem_of_getElem? hp) with k | k
    · exact .inl ⟨k,zhK ndP hp hu k⟩
    · obtain ⟨c,e⟩:=ziO (n:=s.heap.objs.size + 1) k
      refine .inr ⟨.inl k,c,e,?_⟩
      have q:=x.cell y c e
      rw [zhC ndP hp hu (by show scope.names.lookup y ≠ _; rw [k]; decide)] at q
      exact q
  · exact e0.hok.fresh (Nat.le_of_lt (x.above y c (PySem.mem_of_lookup h)))
  · unfold start
    show _=N.length
    rw [List.length_append,List.length_map,List.length_replicate]
    omega
theorem zn6 {CX:CXT} {P:Program} {w:World} {K:PySem.W.Frag} {mg:Str→Option Value} {base:Heap} {k:Nat} {f:Addr} {name qual:Str} {params:Arguments} {body:List Stmt} {scope:Scope} {dV kV doc pm cdv ct oc:Value} {an od:Option Addr}
    {osl:Array (Option Value)} {N ps:List Str} {sp:Sp} (lk:K.lookup f=some ⟨oc,od,.func (PySem.W.fnOf name qual params body scope dV kV doc pm an cdv ct),osl⟩) (hcd:PySem.W.codeIn K cdv qual=true) (S:FnScope N ps scope)
    (len:∀ vs H Q E,sp vs H Q E→vs.length=ps.length)
    (hbody:∀ (A:Around) (outer:List Env) (s:Shared) (H:Hp) (vs:List V) (Q:VK) (E:XK),Room k (A.deeper (envOfC qual scope s.heap.objs.size f cdv))→sp vs H Q E →
      ∃ t,PSs (cxOf CX P w K mg base N qual scope f cdv A outer s H E) body t∧t { nx:=fun _ H'=>Q .non H',rt:=Q } (start N vs) H) :
    FnOk P w K mg base CX (k + 1) f (PySem.W.fnOf name qual params body scope dV kV doc pm an cdv ct) ps sp:=by
  refine ⟨len,fun A outer s H args us vs Q E hr e0 hb r hsp=>?_⟩
  have hl:=len _ _ _ _ hsp
  have KX:K.In s.heap:=e0.mod.kin.keeps fun b o e=>(e0.bs b o e).1
  have lim:s.heap.NoLimit:=e0.mod.nolimit.keeps fun b o e=>(e0.bs b o e).1
  have hkind:∀ y ∈ ps.zip us,scope.names.lookup y.1=some .local∨(scope.names.lookup y.1=some .cell∧((cellsFrom (s.heap.objs.size + 1) scope.names []).lookup y.1).isSome=true):=fun ⟨n,v⟩ hy=>by
    rcases S.par n (List.of_mem_zip hy).1 with q | q
    · exact .inl q
    · exact .inr ⟨q,PySem.W.cellsFrom_some _ _ _ (.inl q)⟩
  refine codeAny_call_function hr.depth (KX _ _ lk) rfl S.co S.gen rfl (PySem.W.codeRec_of KX hcd) (hb _ _ _ _ ?_)
  refine wpAny_newFunctionEnv_cells S.kind hkind fun env he s1 x=>?_
  subst he
  refine ⟨lim.keeps x.toInCall.keep,codeAny_func ?_⟩
  obtain ⟨t,ht,hq⟩:=hbody A outer s H vs Q E (hr.deeper _) hsp
  have I:Inv (cxOf CX P w K mg base N qual scope f cdv A outer s H E) [] (start N vs) H s1:=zkE S hr.hd e0 hl r x
  refine wpAny_mono (ht [] s1 (start N vs) H _ I hq) (fun fl s' hs=>?_) fun e s' hs=>hs
  have fin:∀ {σ':St} {H':Hp} {v:V} {u:Value},Inv (cxOf CX P w K mg base N qual scope f cdv A outer s H E) [] σ' H' s'→RelV v u→Q v H'→CE outer P w H s Q u s' :=
    fun {σ' H' v u} J rv q=>⟨v,H',J.os,J.bare,J.base,J.hok,rv,q⟩
  cases fl with
  | ret u =>
    obtain ⟨v,σ',H',J,rv,q⟩:=hs
    exact fin J rv q
  | next =>
    obtain ⟨σ',H',J,q⟩:=hs
    exact fin (v:=V.non) (u:=Value.none) J rfl q
  | brk =>
    obtain ⟨_,_,_,q⟩:=hs
    exact False.elim q
  | cont =>
    obtain ⟨_,_,_,q⟩:=hs
    exact False.elim q
end L2
namespace L2
open PySem PySem.Spec PyProof.Rows
section
variable {X:Cx} {x:Str} {p pos:Pos} {e:Expr} {es:List Expr} {t:TA} {id T:String} {r:List V→Hp→VK→Prop}
def tCB (r:List V→Hp→VK→Prop) (t:TA):TE:=fun σ H Q=>t σ H fun vs H1=>r vs H1 Q
theorem zaO (hc:zgV X (.builtin id) r) (hg:Gl X x) (hm:X.mg x=none) (hv:bootBuiltins x=some (.builtin id)) (ha:PA X (e :: es) t) (hn:x ≠ "__name__":=by decide) (hdb:(x == ("__debug__" : Str))=false:=by decide)
    (he:starEach (e :: es) X.env=(false,eval e X.env) :: starEach es X.env:=by rfl) (hpl:(backTo pos (starEach es X.env)).any (·.1)=false:=by rfl):PE X (.Call (.Name x p) (e :: es) [] pos) (tCB r t):=by
  intro pins s σ H Q I h
  refine wpAny_Call_Name_kw (zeh I hg hm hv ?_ hn hdb)
  exact PyProof.Rows.callWith_builtin1 (thn (ha pos pins s σ H _ I h) fun us s1 ⟨vs,H1,I1,r1,q1⟩=>hc pins s1 σ H1 vs us Q I1 r1 q1) he hpl
theorem zf7 (hc:zgV X (.type T) r) (hg:Gl X x) (hm:X.mg x=none) (hv:bootBuiltins x=some (.type T)) (ha:PA X (e :: es) t) (hn:x ≠ "__name__":=by decide) (hdb:(x == ("__debug__" : Str))=false:=by decide)
    (he:starEach (e :: es) X.env=(false,eval e X.env) :: starEach es X.env:=by rfl) (hpl:(backTo pos (starEach es X.env)).any (·.1)=false:=by rfl):PE X (.Call (.Name x p) (e :: es) [] pos) (tCB r t):=by
  intro pins s σ H Q I h
  refine wpAny_Call_Name_kw (zeh I hg hm hv ?_ hn hdb)
  exact PyProof.Rows.callWith_type1 (thn (ha pos pins s σ H _ I h) fun us s1 ⟨vs,H1,I1,r1,q1⟩=>hc pins s1 σ H1 vs us Q I1 r1 q1) he hpl
end
end L2
namespace HT
open PySem PyProof.Rows
section
open PySem.SeqAt
open PySem.AutoSeq1 (wpAny_loadPart')
open PySem.MeetsSeq PySem.MeetsSeq2 PySem.MeetsSeq3
end
section
variable {prog:Program} {w:World} {A:Around} {E:Value→Shared→Prop} {s:Shared}
theorem cat_tup {t b:Addr} {vs ws:List Value} {Q:Value→Shared→Prop} (ht:IsTup s.heap t vs.toArray) (hb:IsTup s.heap b ws.toArray) (hv:vs ≠ [])
    (h1:ws = []→Q (.ref t) s) (h2:ws ≠ []→Q (.ref s.heap.objs.size) { s with heap:=s.heap.push { cls:=.type "tuple",data:=.seq (vs ++ ws).toArray } })
    (hsz:vs.length + ws.length ≤ sizeLine):wpAny (model prog w) A (binaryOp .Add (.ref t) (.ref b)) Q E s:=by
  obtain ⟨⟨cls,dd,data,sl⟩,ho,hc,n,hd⟩:=id ht
  obtain ⟨⟨cls2,dd2,data2,sl2⟩,ho2,hc2,n2,hd2⟩:=id hb
  simp only at hc hd hc2 hd2
  subst hc hd hc2 hd2
  have e:vs.toArray ++ ws.toArray=(vs ++ ws).toArray:=by simp
  by_cases hw:ws = []
  · exact concat_meets ⟨_,ho,rfl⟩ ⟨_,ho2,rfl⟩ noFill_tuple_add seq_tuple_add PySem.F.slot_tuple_add PySem.F.entry_tuple_add (PySem.F.args_tuple_add_2 _ _)
      (tuple_addW1 t b vs.toArray ws.toArray n n2 dd dd2 sl sl2 (by simpa using hv) (by simp [hw])) ⟨ho,ho2,h1 hw⟩
  · refine concat_meets ⟨_,ho,rfl⟩ ⟨_,ho2,rfl⟩ noFill_tuple_add seq_tuple_add PySem.F.slot_tuple_add PySem.F.entry_tuple_add (PySem.F.args_tuple_add_2 _ _)
      (tuple_addW2 t b vs.toArray ws.toArray n n2 dd dd2 sl sl2 (by simpa using hv) (by simpa using hw) (by rw [List.size_toArray,List.size_toArray]; exact hsz)) ⟨ho,ho2,?_⟩
    rw [e]
    exact h2 hw
def sIx (n d:Nat):Option Int→Nat
  | none=>d
  | some v=>if v < 0 then (v + (n:Int)).toNat else min v.toNat n
theorem zpb (n d:Nat) (hd:d ≤ n) (o:Option Int):sIx n d o ≤ n:=by
  cases o with
  | none=>exact hd
  | some v =>
    show (if v < 0 then (v + (n:Int)).toNat else min v.toNat n) ≤ n
    by_cases hv:v < 0
    · rw [if_pos hv]; omega
    · rw [if_neg hv]; exact Nat.min_le_right _ _
theorem zkl (v:Int) (n d:Nat):(if v < 0 then max (v + (n:Int)) 0 else min v (n:Int))=((sIx n d (some v):Nat):Int):=by
  show (if v < 0 then max (v + (n:Int)) 0 else min v (n:Int))=(((if v < 0 then (v + (n:Int)).toNat else min v.toNat n):Nat):Int)
  by_cases hv:v < 0
  · simp only [if_pos hv]; omega
  · simp only [if_neg hv]; omega
theorem zjD (lo hi:Option Int) (n:Nat):Builtin.Slice.sliceAdjust lo hi 1 (n:Int)=(((sIx n 0 lo:Nat):Int),((sIx n n hi:Nat):Int)):=by
  have h1:¬ ((1:Int) < 0):=by omega
  unfold Builtin.Slice.sliceAdjust
  simp only [h1,if_false]
  refine Prod.ext ?_ ?_
  · cases lo with
    | none=>rfl
    | some v=>exact zkl v n 0
  · cases hi with
    | none=>rfl
    | some v=>exact zkl v n n
theorem zjj (i j:Nat):Builtin.Slice.slicePlaces (i:Int) (j:Int) 1=j - i:=by
  unfold Builtin.Slice.slicePlaces
  have h1:(1:Int) > 0:=by omega
  simp only [h1,if_true,Int.ediv_one]
  split <;> omega
theorem zgs {v:Value} {o:Option Int} {Q:Option Int→Shared→Prop} (p:IsPart v o) (h:Q o s):wpAny (model prog w) A (Builtin.Slice.slicePartIndex v) Q E s:=by
  cases p with
  | none=>exact slicePart_none h
  | int i t=>exact slicePart_int h
theorem zdv {sl:Addr} {vl vu:Value} {lo hi:Option Int} {n:Nat} {Q:Int × Int × Nat→Shared→Prop} (hs:s.heap.IsSliceOf sl vl vu .none) (pl:IsPart vl lo) (pu:IsPart vu hi)
    (h:Q (((sIx n 0 lo:Nat):Int),1,sIx n n hi - sIx n 0 lo) s):wpAny (model prog w) A (Builtin.Slice.sliceApplied (.ref sl) (pure (n:Int))) Q E s:=by
  obtain ⟨os,hos,hcs,hds⟩:=id hs
  unfold Builtin.Slice.sliceApplied Builtin.Slice.sliceFields
  refine wpAny_bind (wpAny_bind (wpAny_field hos hds (x:=vl) rfl (wpAny_bind (wpAny_field hos hds (x:=vu) rfl (wpAny_bind (wpAny_field hos hds (x:=.none) rfl (wpAny_pure ?_)))))))
  refine wpAny_bind (slicePart_none ?_)
  show wpAny _ _ (if ((1:Int) == 0)=true then _ else _) _ _ s
  rw [if_neg (by decide)]
  refine wpAny_bind (zgs pl (wpAny_bind (zgs pu (wpAny_bind (wpAny_pure ?_)))))
  show wpAny _ _ (match Builtin.Slice.sliceAdjust lo hi 1 (n:Int) with | (lo,hi)=>pure (lo,(1:Int),Builtin.Slice.slicePlaces lo hi 1)) _ _ s
  rw [zjD lo hi n]
  show wpAny _ _ (pure (((sIx n 0 lo:Nat):Int),(1:Int),Builtin.Slice.slicePlaces ((sIx n 0 lo:Nat):Int) ((sIx n n hi:Nat):Int) 1)) _ _ s
  rw [zjj]
  exact wpAny_pure h
theorem zms (xs:Array Value) (i k:Nat):((List.range k).filterMap fun (m:Nat)=>xs[((i:Int) + (m:Int) * 1).toNat]?).toArray=((xs.toList.drop i).take k).toArray:=by
  have e:(fun (m:Nat)=>xs[((i:Int) + (m:Int) * 1).toNat]?)=fun m=>xs[i + m]?:=by
    funext m
    have:((i:Int) + (m:Int) * 1).toNat=i + m:=by omega
    rw [this]
  rw [e]
  have:=pick_run xs i k
  rw [List.filterMap_map] at this
  have e2:((fun x=>xs[x]?) ∘ fun x=>i + x)=fun m=>xs[i + m]?:=rfl
  rw [e2] at this
  rw [this]
theorem getItem_tuple_cut {t sl:Addr} {items:Array Value} {vl vu:Value} {lo hi:Option Int} {Q:Value→Shared→Prop} (ht:IsTup s.heap t items) (hs:s.heap.IsSliceOf sl vl vu .none) (pl:IsPart vl lo) (pu:IsPart vu hi)
    (hw:¬ (sIx items.size 0 lo=0∧sIx items.size items.size hi=items.size))
    (h:Q (.ref s.heap.objs.size) { s with heap:=s.heap.push { cls:=.type "tuple",data:=.seq ((items.toList.drop (sIx items.size 0 lo)).take (sIx items.size items.size hi - sIx items.size 0 lo)).toArray } })
    (hsz:items.size ≤ sizeLine):wpAny (model prog w) A (getItem (.ref t) (.ref sl)) Q E s:=by
  have htake:sizeOk (.seq ((items.toList.drop (sIx items.size 0 lo)).take (sIx items.size items.size hi - sIx items.size 0 lo)).toArray):=by
    show ((items.toList.drop (sIx items.size 0 lo)).take (sIx items.size items.size hi - sIx items.size 0 lo)).toArray.size ≤ sizeLine
    rw [List.size_toArray,List.length_take,List.length_drop,Array.length_toList]
    omega
  have hj:sIx items.size items.size hi ≤ items.size:=zpb _ _ (Nat.le_refl _) hi
  obtain ⟨os,hos,hcs,hds⟩:=id hs
  have hTs:s.TypeIs (.ref sl) "slice":=⟨os,hos,hcs⟩
  unfold getItem
  try with_reducible refine wpAny_holding ?_
  first | refine wpAny_bind (wpAny_pure ?_) | skip
  refine wpAny_bind (wpAny_sequenceKey ht.typeIs (by decide) ?_)
  refine wpAny_bind (wpAny_callSpecial?_slot (name:=Str.ofString "__getitem__") ht.typeIs PyProof.Rows.slot_tuple_getitem
    (wpAny_call_entry PyProof.Rows.slot_tuple_getitem ht.typeIs entry_tuple_getitem ?_ (args_tuple_getitem _ _)))
  show wpAny _ _ (Builtin.Tuple.tupleItemsOf (.ref t) >>= _) _ _ s
  refine wpAny_bind (tupleItemsOf_ ht ?_)
  refine wpAny_bind (wpAny_typeOf hTs ?_)
  rw [if_pos (by decide)]
  refine wpAny_bind (zdv hs pl pu ?_)
  have hno:¬ ((((sIx items.size 0 lo:Nat):Int) == 0 && (1:Int) == 1 && (sIx items.size items.size hi - sIx items.size 0 lo) == items.size)=true):=by
    intro q
    rw [Bool.and_eq_true,Bool.and_eq_true] at q
    have q1:((sIx items.size 0 lo:Nat):Int)=0:=eq_of_beq q.1.1
    have q2:sIx items.size items.size hi - sIx items.size 0 lo=items.size:=eq_of_beq q.2
    exact hw ⟨by omega,by omega⟩
  show wpAny _ _ (if (((sIx items.size 0 lo:Nat):Int) == 0 && (1:Int) == 1 && (sIx items.size items.size hi - sIx items.size 0 lo) == items.size)=true then _ else _) _ _ s
  rw [if_neg hno,zms]
  first
    | exact wpAny_bind (m:=Builtin.Tuple.tupleExact _) (wpAny_newObj_type (wpAny_pure ⟨_,rfl,wpAny_pure h⟩) htake)
    | exact wpAny_bind (m:=Builtin.Tuple.tupleExact _) (wpAny_newObj_type (wpAny_bind (wpAny_pure (wpAny_pure ⟨_,rfl,wpAny_pure h⟩))) htake)
    | exact wpAny_bind (wpAny_bind (m:=Builtin.Tuple.tupleExact _) (wpAny_newObj_type (wpAny_pure (wpAny_pure ⟨_,rfl,wpAny_pure h⟩)) htake))
    | exact wpAny_bind (wpAny_bind (m:=Builtin.Tuple.tupleExact _) (wpAny_newObj_type (wpAny_pure ⟨_,rfl,wpAny_pure h⟩) htake))
end
end HT
namespace L2
open PySem PySem.Spec PyProof.Rows
abbrev TO:=St→Hp→(Option Int→Hp→Prop)→Prop
def PO (X:Cx) (e:Option Expr) (t:TO):Prop :=
  ∀ (pins:List (Addr × Obj)) (s:Shared) (σ:St) (H:Hp) (Q:Option Int→Hp→Prop),Inv X pins σ H s→t σ H Q →
    wpAny (model X.prog X.w) X.A (evalPart e X.env) (fun u s'=>∃ o H',Inv X pins σ H' s'∧IsPart u o∧Q o H') X.xe s
def zlC:TO:=fun _ H Q=>Q none H
def znv (t:TE):TO:=fun σ H Q=>t σ H fun x H1=>∃ i,x = .int i∧Q (some i) H1
section
variable {X:Cx} {e:Expr} {te:TE} {lo hi:Option Expr} {tl th:TO} {pos p2:Pos}
theorem zod:PO X none zlC:=by
  intro pins s σ H Q I h
  rw [evalPart_none]
  exact wpAny_pure ⟨none,H,I,.none,h⟩
theorem zgd (h:PE X e te):PO X (some e) (znv te):=by
  intro pins s σ H Q I hw
  rw [evalPart_some]
  refine thn (h pins s σ H _ I hw) fun u s1 ⟨x,H1,I1,r1,q1⟩=>?_
  obtain ⟨i,rfl,q⟩:=q1
  obtain ⟨t,rfl⟩:=r1
  exact ⟨some i,H1,I1,.int i t,q⟩
def SlR (X:Cx) (r:V→Option Int→Option Int→Hp→VK→Prop):Prop :=
  ∀ (pins:List (Addr × Obj)) (s:Shared) (σ:St) (H:Hp) (x:V) (v vl vu:Value) (lo hi:Option Int) (sl:Addr) (Q:VK),Inv X pins σ H s→RelV x v→s.heap.IsSliceOf sl vl vu .none→IsPart vl lo→IsPart vu hi→r x lo hi H Q →
    ∃ T id,typeLookup (.type T) "__getitem__"=pure (some (.builtin id))∧s.TypeIs v T∧wpAny (model X.prog X.w) X.A (getItem v (.ref sl)) (EP X pins σ Q) X.xe s
def tSl (r:V→Option Int→Option Int→Hp→VK→Prop) (te:TE) (tl th:TO):TE:=fun σ H Q=>te σ H fun x H1=>tl σ H1 fun l H2=>th σ H2 fun u H3=>r x l u H3 Q
theorem zg8 {r:V→Option Int→Option Int→Hp→VK→Prop} (hr:SlR X r) (he:PE X e te) (hl:PO X lo tl) (hu:PO X hi th):PE X (.Subscript e (.Slice lo hi none p2) pos) (tSl r te tl th):=by
  intro pins s σ H Q I h
  refine Subscript_ (thn (he pins s σ H _ I h) fun v s1 ⟨x,H1,I1,r1,q1⟩=>?_)
  refine wpAny_Slice (thn (hl pins s1 σ H1 _ I1 q1) fun vl s2 ⟨l,H2,I2,pl,q2⟩=>thn (hu pins s2 σ H2 _ I2 q2) fun vu s3 ⟨u,H3,I3,pu,q3⟩=>?_)
  rw [evalPart_none]
  refine wpAny_pure ?_
  have I4:Inv X pins σ H3 { s3 with heap:=s3.heap.push { cls:=.type "slice",data:=.fields #[vl,vu,.none] } }:=I3.kept (t':=s3.toks) fun b ob q=>Heap.get?_push_of_some _ q
  obtain ⟨T,id,hT,ht,hg⟩:=hr pins { s3 with heap:=s3.heap.push { cls:=.type "slice",data:=.fields #[vl,vu,.none] } } σ H3 x v vl vu l u s3.heap.objs.size Q I4 r1 (Heap.IsSliceOf.new ..) pl pu q3
  show wpAny (model X.prog X.w) X.A (subscriptTail e (.Slice lo hi none p2) v (.ref s3.heap.objs.size)) (EP X pins σ Q) X.xe { s3 with heap:=s3.heap.push { cls:=.type "slice",data:=.fields #[vl,vu,.none] } }
  exact tail_any (ops:=[.ref s3.heap.objs.size,v]) ht hT hg (by with_unfolding_all rfl)
def cutV (xs:List V) (lo hi:Option Int):List V:=(xs.drop (HT.sIx xs.length 0 lo)).take (HT.sIx xs.length xs.length hi - HT.sIx xs.length 0 lo)
theorem zge (xs:List V) (lo hi:Option Int):(cutV xs lo hi).length ≤ xs.length:=by
  unfold cutV
  rw [List.length_take,List.length_drop]
  omega
def rSlT (K:PySem.W.Frag):V→Option Int→Option Int→Hp→VK→Prop:=fun x lo hi H Q=>∃ a xs,x = .ref a∧SqT K H a xs ∧
  ¬ (HT.sIx xs.length 0 lo=0∧HT.sIx xs.length xs.length hi=xs.length)∧∀ p,H p=none→Q (.ref p) (upd H p (.tup (cutV xs lo hi)))
theorem zpQ:SlR X (rSlT X.K):=by
  intro pins s σ H x v vl vu lo hi sl Q I rx hs pl pu h
  obtain ⟨a,xs,rfl,hx,hw,q⟩:=h
  cases rx
  obtain ⟨its,r,ht,hz⟩:=I.tuple hx
  have hlen:its.toArray.size=xs.length:=by rw [List.size_toArray]; exact r.length.symm
  refine ⟨"tuple",_,PyProof.Rows.slot_tuple_getitem.lookup,ht.typeIs,?_⟩
  refine HT.getItem_tuple_cut ht hs pl pu (by rw [hlen]; exact hw) ?_ (by rw [hlen]; exact hz)
  rw [hlen]
  refine ⟨.ref s.heap.objs.size,_,I.laid (t':=s.toks) (o:=.tup (cutV xs lo hi)) (fun b ob q=>Heap.get?_push_of_some _ q) (Nat.le_refl _) ?_,rfl,q _ (I.hok.fresh (Nat.le_refl _))⟩
  exact ⟨Nat.le_trans (zge xs lo hi) hz,_,(r.drop (HT.sIx xs.length 0 lo)).take (HT.sIx xs.length xs.length hi - HT.sIx xs.length 0 lo),IsTup.new _ _⟩
def zqx (K:PySem.W.Frag):R2:=fun x y H Q=>∃ a b xs ys,x = .ref a∧y = .ref b∧SqT K H a xs∧SqT K H b ys∧xs ≠ []∧xs.length + ys.length ≤ sizeLine ∧
  (ys = []→Q (.ref a) H)∧(ys ≠ []→∀ p,H p=none→Q (.ref p) (upd H p (.tup (xs ++ ys))))
theorem Vals.nil_iff {xs:List V} {us:List Value} (r:Vals xs us):us = [] ↔ xs = []:=by
  cases r with
  | nil=>simp
  | cons _ _=>simp
theorem znB:OpR X (binaryOp .Add) (zqx X.K):=by
  intro pins s σ H x y v u Q I rx ry h
  obtain ⟨a,b,xs,ys,rfl,rfl,ha,hb,hx,hz,q1,q2⟩:=h
  cases rx
  cases ry
  obtain ⟨its,r1,p1,_⟩:=I.tuple ha
  obtain ⟨its2,r2,p2,_⟩:=I.tuple hb
  refine HT.cat_tup p1 p2 (fun z=>hx (r1.nil_iff.mp z)) (fun z=>⟨.ref a,H,I,rfl,q1 (r2.nil_iff.mp z)⟩) (fun z=>?_) (by rw [← r1.length,← r2.length]; exact hz)
  refine ⟨.ref s.heap.objs.size,_,I.laid (t':=s.toks) (o:=.tup (xs ++ ys)) (fun b ob q=>Heap.get?_push_of_some _ q) (Nat.le_refl _) ?_,rfl,q2 (fun w=>z (r2.nil_iff.mpr w)) _ (I.hok.fresh (Nat.le_refl _))⟩
  exact ⟨by rw [List.length_append]; exact hz,_,r1.append r2,IsTup.new _ _⟩
end
end L2
namespace L2
open PySem PySem.Spec PyProof.Rows
def ixN (n:Nat) (i:Int):Option Nat:=if 0 ≤ i then (if i < n then some i.toNat else none) else if -(n:Int) ≤ i then some (i + n).toNat else none
def atI {α:Type} (xs:List α) (i:Int):Option α:=(ixN xs.length i).bind fun j=>xs[j]?
theorem zoy {n:Nat} {i:Int} {j:Nat} (h:ixN n i=some j):seqIndex? i n=some j∧j < n∧-(n:Int) ≤ i∧i < n:=by
  unfold ixN at h
  by_cases h0:0 ≤ i
  · rw [if_pos h0] at h
    by_cases h1:i < n
    · rw [if_pos h1] at h
      have e:i.toNat=j:=Option.some.inj h
      exact ⟨by rw [seqIndex_of h0 h1,e],by omega,by omega,h1⟩
    · rw [if_neg h1] at h; cases h
  · rw [if_neg h0] at h
    by_cases h1 : -(n:Int) ≤ i
    · rw [if_pos h1] at h
      have e:(i + n).toNat=j:=Option.some.inj h
      exact ⟨by rw [seqIndex_neg (by omega) h1,e],by omega,h1,by omega⟩
    · rw [if_neg h1] at h; cases h
theorem zkO {α:Type} {xs:List α} {i:Int} {v:α} (h:atI xs i=some v):∃ j,seqIndex? i xs.length=some j∧xs[j]?=some v∧j < xs.length∧-(xs.length:Int) ≤ i∧i < xs.length:=by
  unfold atI at h
  cases e:ixN xs.length i with
  | none=>rw [e] at h; cases h
  | some j =>
    rw [e] at h
    obtain ⟨h1,h2,h3,h4⟩:=zoy e
    exact ⟨j,h1,h,h2,h3,h4⟩
theorem atI_nat {α:Type} {xs:List α} {j:Nat} {v:α} (h:xs[j]?=some v):atI xs (j:Int)=some v:=by
  have hj:j < xs.length:=(List.getElem?_eq_some_iff.mp h).1
  have e:ixN xs.length (j:Int)=some j:=by
    unfold ixN
    rw [if_pos (by omega),if_pos (by omega)]; simp
  unfold atI; rw [e]; exact h
def znW (b:Expr):Prop:=∀ o i,subscripted b false o i=operate [o,i] (getItem o i)
def IxR (X:Cx) (r:R2):Prop :=
  ∀ (value slice:Expr) (pins:List (Addr × Obj)) (s:Shared) (σ:St) (H:Hp) (x y:V) (v u:Value) (Q:VK),Inv X pins σ H s→RelV x v→RelV y u→r x y H Q →
    subscripted slice false v u=operate [v,u] (getItem v u)→wpAny (model X.prog X.w) X.A (subscriptTail value slice v u) (EP X pins σ Q) X.xe s
def MtR (X:Cx) (id:String) (r:V→List V→Hp→VK→Prop):Prop :=
  ∀ (pins:List (Addr × Obj)) (s:Shared) (σ:St) (H:Hp) (x:V) (xs:List V) (v:Value) (us:List Value) (Q:VK),Inv X pins σ H s→RelV x v→Vals xs us→r x xs H Q →
    wpAny (model X.prog X.w) X.A (call (.builtin id) (v :: us)) (EP X pins σ Q) X.xe s
section
variable {X:Cx} {a b:Expr} {ta tb:TE} {pos:Pos}
theorem zcX {r:R2} (hr:IxR X r) (ha:PE X a ta) (hb:PE X b tb) (hs:znW b):PE X (.Subscript a b pos) (tOp r ta tb):=by
  intro pins s σ H Q I h
  exact Subscript_ (binT ha hb I h fun v u s2 x y H2 I2 rx ry q=>hr a b pins s2 σ H2 x y v u Q I2 rx ry q (hs _ _))
def rIxL (K:PySem.W.Frag):R2:=fun x y H Q=>∃ p xs i v,x = .ref p∧y = .int i∧SqL K H p xs∧atI xs i=some v∧Q v H
def rIxT (K:PySem.W.Frag):R2:=fun x y H Q=>∃ p xs i v,x = .ref p∧y = .int i∧SqT K H p xs∧atI xs i=some v∧Q v H
theorem zcS:IxR X (rIxL X.K):=by
  intro value slice pins s σ H x y v u Q I rx ry h hs
  obtain ⟨p,xs,i,z,rfl,rfl,hq,he,q⟩:=h
  cases rx
  obtain ⟨t,rfl⟩:=ry
  obtain ⟨its,r,pl,hz⟩:=I.list hq
  obtain ⟨j,h1,h2,h3,h4,h5⟩:=zkO he
  obtain ⟨w,ew,rw'⟩:=r.get h2
  have hl:=r.length
  have hn:=zlx
  have fin:EP X pins σ Q w s:=⟨z,H,I,rw',q⟩
  by_cases h0:0 ≤ i
  · have hj:i.toNat=j:=by
      rw [seqIndex_of h0 h5] at h1
      exact Option.some.inj h1
    exact item_listR pl.isList h0 (by omega) (by rw [hj]; simpa using ew) fin hs
  · have hj:(i + (its.toArray.size:Int)).toNat=j:=by
      rw [seqIndex_neg (by omega) h4] at h1
      rw [List.size_toArray,← hl]
      exact Option.some.inj h1
    exact subscriptTail_builtinR (x:=w) pl.isList.typeIs slot_list_getitem.lookup
      (wpAny_getItem_list_neg (Q:=fun r s'=>r=w∧EP X pins σ Q r s') pl.isList (by omega) (by rw [List.size_toArray] <;> omega) (by omega) (by rw [hj]; simpa using ew) ⟨rfl,fin⟩) hs
theorem zel:IxR X (rIxT X.K):=by
  intro value slice pins s σ H x y v u Q I rx ry h hs
  obtain ⟨p,xs,i,z,rfl,rfl,hq,he,q⟩:=h
  cases rx
  obtain ⟨t,rfl⟩:=ry
  obtain ⟨its,r,pl,hz⟩:=I.tuple hq
  obtain ⟨j,h1,h2,h3,h4,h5⟩:=zkO he
  obtain ⟨w,ew,rw'⟩:=r.get h2
  have hl:=r.length
  have hn:=zlx
  have fin:EP X pins σ Q w s:=⟨z,H,I,rw',q⟩
  exact subscriptTail_builtinR (x:=w) pl.typeIs slot_tuple_getitem.lookup
    (getItem_tuple (j:=j) (Q:=fun r s'=>r=w∧EP X pins σ Q r s') pl (by omega) (by omega) (by rw [List.size_toArray,← hl]; exact h1) (by simpa using ew) ⟨rfl,fin⟩) hs
theorem zhG (lo hi:Option Int) (n:Nat):(sliceBounds lo hi none n).1=((HT.sIx n 0 lo:Nat):Int)∧(sliceBounds lo hi none n).2.1=((HT.sIx n n hi:Nat):Int)∧(sliceBounds lo hi none n).2.2=1:=by
  refine ⟨?_,?_,rfl⟩
  · cases lo with
    | none=>simp [sliceBounds,HT.sIx]
    | some i =>
      simp only [sliceBounds,HT.sIx,Option.getD_none,show (1:Int) > 0 by decide,if_true]
      by_cases h:i < 0
      · simp only [h,if_true] <;> omega
      · simp only [h,if_false] <;> omega
  · cases hi with
    | none=>simp [sliceBounds,HT.sIx]
    | some i =>
      simp only [sliceBounds,HT.sIx,Option.getD_none,show (1:Int) > 0 by decide,if_true]
      by_cases h:i < 0
      · simp only [h,if_true] <;> omega
      · simp only [h,if_false] <;> omega
theorem zgW (its:List Value) (lo hi:Option Int):slicePick its.toArray lo hi none=((its.drop (HT.sIx its.length 0 lo)).take (HT.sIx its.length its.length hi - HT.sIx its.length 0 lo)).toArray:=by
  obtain ⟨h1,h2,h3⟩:=zhG lo hi its.toArray.size
  unfold slicePick
  rw [h1,h2,h3]
  simp only [sliceRange_one,pick_run,List.size_toArray] <;> rfl
def rSlL (K:PySem.W.Frag):V→Option Int→Option Int→Hp→VK→Prop:=fun x lo hi H Q=>∃ a xs,x = .ref a∧SqL K H a xs∧∀ p,H p=none→Q (.ref p) (upd H p (.lst (cutV xs lo hi)))
theorem zkQ:SlR X (rSlL X.K):=by
  intro pins s σ H x v vl vu lo hi sl Q I rx hs pl pu h
  obtain ⟨a,xs,rfl,hx,q⟩:=h
  cases rx
  obtain ⟨its,r,ht,hz⟩:=I.list hx
  have hlen:=r.length
  refine ⟨"list",_,slot_list_getitem.lookup,ht.isList.typeIs,?_⟩
  refine wpAny_getItem_list_slice ht.isList hs pl pu .none (by simp) ?_ (by rw [List.size_toArray] <;> omega)
  rw [zgW,← hlen]
  refine ⟨.ref s.heap.objs.size,_,I.laid (t':=s.toks) (o:=.lst (cutV xs lo hi)) (fun b ob q=>Heap.get?_push_of_some _ q) (Nat.le_refl _) ?_,rfl,q _ (I.hok.fresh (Nat.le_refl _))⟩
  exact ⟨Nat.le_trans (zge xs lo hi) hz,_,0,(r.drop (HT.sIx xs.length 0 lo)).take (HT.sIx xs.length xs.length hi - HT.sIx xs.length 0 lo),Heap.get?_push_size _ rfl⟩
def zgJ:V→Bool
  | .non=>true
  | .bl _=>true
  | .int _=>true
  | .str _=>true
  | _=>false
def eqV:V→V→Bool
  | .non,.non=>true
  | .bl a,.bl b=>a == b
  | .bl a,.int b=>(if a then 1 else 0) == b
  | .int a,.bl b=>a == (if b then 1 else 0)
  | .int a,.int b=>a == b
  | .str a,.str b=>a == b
  | _,_=>false
theorem zpz {A:Around} {s:Shared} {y x:V} {u v:Value} (ry:RelV y u) (rx:RelV x v) (fy:zgJ y=true) (fx:zgJ x=true):SeqAt.EqAt A s u v (eqV y x):=by
  cases y with
  | non =>
    cases ry
    cases x with
    | non=>cases rx; exact SeqAt.EqAt.same _
    | bl b=>cases rx; exact SeqAt.EqAt.none_bool b
    | int b=>obtain ⟨t,rfl⟩:=rx; exact SeqAt.EqAt.none_int b t
    | str b=>obtain ⟨t,rfl⟩:=rx; exact SeqAt.EqAt.none_str b t
    | _=>exact absurd (show false=true from fx) Bool.false_ne_true
  | bl a =>
    cases ry
    cases x with
    | non=>cases rx; exact SeqAt.EqAt.bool_none a
    | bl b=>cases rx; exact SeqAt.EqAt.bool_bool a b
    | int b=>obtain ⟨t,rfl⟩:=rx; exact SeqAt.EqAt.bool_int a b t
    | str b=>obtain ⟨t,rfl⟩:=rx; exact SeqAt.EqAt.bool_str a b t
    | _=>exact absurd (show false=true from fx) Bool.false_ne_true
  | int a =>
    obtain ⟨t',rfl⟩:=ry
    cases x with
    | non=>cases rx; exact SeqAt.EqAt.int_none a t'
    | bl b=>cases rx; exact SeqAt.EqAt.int_bool a t' b
    | int b=>obtain ⟨t,rfl⟩:=rx; exact SeqAt.EqAt.int_int a t' b t
    | str b=>obtain ⟨t,rfl⟩:=rx; exact SeqAt.EqAt.int_str a t' b t
    | _=>exact absurd (show false=true from fx) Bool.false_ne_true
  | str a =>
    obtain ⟨t',rfl⟩:=ry
    cases x with
    | non=>cases rx; exact SeqAt.EqAt.str_none a t'
    | bl b=>cases rx; exact SeqAt.EqAt.str_bool a t' b
    | int b=>obtain ⟨t,rfl⟩:=rx; exact SeqAt.EqAt.str_int a t' b t
    | str b=>obtain ⟨t,rfl⟩:=rx; exact SeqAt.EqAt.str_str a t' b t
    | _=>exact absurd (show false=true from fx) Bool.false_ne_true
  | _=>exact absurd (show false=true from fy) Bool.false_ne_true
def eqU (x:V) (u:Value):Bool:=match u with
  | .none=>eqV .non x
  | .bool b=>eqV (.bl b) x
  | .int i _=>eqV (.int i) x
  | .str z _=>eqV (.str z) x
  | _=>false
theorem zmU {x y:V} {u:Value} (r:RelV y u) (f:zgJ y=true):eqU x u=eqV y x:=by
  cases y with
  | non=>cases r; rfl
  | bl b=>cases r; rfl
  | int i=>obtain ⟨t,rfl⟩:=r; rfl
  | str z=>obtain ⟨t,rfl⟩:=r; rfl
  | _=>exact absurd (show false=true from f) Bool.false_ne_true
theorem zio {x:V}:∀ {xs:List V} {us:List Value},Vals xs us→xs.all zgJ=true→us.any (eqU x)=xs.any fun y=>eqV y x
  | _,_,.nil,_=>rfl
  | y :: xs,u :: us,.cons r t,f=>by
    rw [List.all_cons,Bool.and_eq_true] at f
    rw [List.any_cons,List.any_cons,zmU r f.1,zio t f.2]
theorem zhb {A:Around} {s:Shared} {x:V} {v:Value} (rx:RelV x v) (fx:zgJ x=true):∀ {xs:List V} {us:List Value},Vals xs us→xs.all zgJ=true→∀ u ∈ us,SeqAt.EqAt A s u v (eqU x u)
  | _,_,.nil,_=>fun u hu=>by cases hu
  | y :: xs,u :: us,.cons r t,f=>fun u' hu=>by
    rw [List.all_cons,Bool.and_eq_true] at f
    rcases List.mem_cons.mp hu with rfl | hu
    · rw [zmU r f.1]; exact zpz r rx f.1 fx
    · exact zhb rx fx t f.2 u' hu
def inV (x:V) (xs:List V):Bool:=xs.any fun y=>eqV y x
def rIn (K:PySem.W.Frag) (neg:Bool):R2:=fun x y H Q=>∃ p xs,y = .ref p∧(SqL K H p xs∨SqT K H p xs)∧zgJ x=true∧xs.all zgJ=true∧Q (.bl (if neg then !inV x xs else inV x xs)) H
theorem zlk:OpR X (compareOp .In) (rIn X.K false):=by
  intro pins s σ H x y v u Q I rx ry h
  obtain ⟨p,xs,rfl,hq,fx,fs,q⟩:=h
  cases ry
  rcases hq with hq | hq
  · obtain ⟨its,r,pl,hz⟩:=I.list hq
    refine SeqAt.in_listAt (eqU x) pl.isList (fun w hw=>zhb rx fx r fs w (by simpa using hw)) ⟨.bl _,H,I,rfl,?_⟩
    rw [show its.toArray.any (eqU x)=its.any (eqU x) by simp,zio r fs]
    exact q
  · obtain ⟨its,r,pl,hz⟩:=I.tuple hq
    refine SeqAt.in_tupleAt (eqU x) pl (fun w hw=>zhb rx fx r fs w (by simpa using hw)) ⟨.bl _,H,I,rfl,?_⟩
    rw [show its.toArray.any (eqU x)=its.any (eqU x) by simp,zio r fs]
    exact q
theorem za1:zgV X (.builtin "len") (fun xs H Q=>∃ p ys,xs = [.ref p]∧(SqL X.K H p ys∨SqT X.K H p ys)∧Q (.int ys.length) H):=by
  intro pins s σ H xs us Q I r h
  obtain ⟨p,ys,rfl,hq,q⟩:=h
  obtain ⟨u,rfl,rx⟩:=zgq r
  cases rx
  have hn:=zlx
  rcases hq with hq | hq
  · obtain ⟨its,r',pl,hz⟩:=I.list hq
    have hlen:=r'.length
    exact Calls.call_len_list pl.isList (by simp only [List.size_toArray] <;> omega) ⟨.int ys.length,H,I.tok _,⟨s.toks + 1,by rw [List.size_toArray,hlen]⟩,q⟩
  · obtain ⟨its,r',pl,hz⟩:=I.tuple hq
    have hlen:=r'.length
    exact len_tuple pl (by simp only [List.size_toArray] <;> omega) ⟨.int ys.length,H,I.tok _,⟨s.toks + 1,by rw [List.size_toArray,hlen]⟩,q⟩
theorem zfi:zgV X (.type "list") (fun xs H Q=>∃ p ys,xs = [.ref p]∧(SqL X.K H p ys∨SqT X.K H p ys)∧∀ l,H l=none→Q (.ref l) (upd H l (.lst ys))):=by
  intro pins s σ H xs us Q I r h
  obtain ⟨p,ys,rfl,hq,q⟩:=h
  obtain ⟨u,rfl,rx⟩:=zgq r
  cases rx
  have fin:∀ (its:List Value),Vals ys its→ys.length ≤ sizeLine→∀ (h':Heap) (c':Nat),(∀ b o',s.heap.get? b=some o'→h'.get? b=some o') →
      h'.get? s.heap.objs.size=some { cls:=.type "list",dict:=none,data:=.seq its.toArray c',slots:=#[] }→EP X pins σ Q (.ref s.heap.objs.size) { s with heap:=h' }:=fun its r' hz h' c' kp e =>
    ⟨.ref s.heap.objs.size,_,I.laid (t':=s.toks) kp (Nat.le_refl _) (show ObjOk X.prog X.w _ h' _ (.lst ys) from ⟨hz,its,c',r',e⟩),rfl,q _ (I.hok.fresh (Nat.le_refl _))⟩
  rcases hq with hq | hq
  · obtain ⟨its,r',pl,hz⟩:=I.list hq
    have hlen:=r'.length
    obtain ⟨o,ho,hc,n,hd⟩:=pl.isList
    exact call_list_seq p (.inl rfl) ho hc hd (fun h' c' kp e=>fin its r' hz h' c' kp e) (by simp only [List.size_toArray] <;> omega)
  · obtain ⟨its,r',pl,hz⟩:=I.tuple hq
    have hlen:=r'.length
    obtain ⟨o,ho,hc,n,hd⟩:=pl
    exact call_list_seq p (.inr rfl) ho hc hd (fun h' c' kp e=>fin its r' hz h' c' kp e) (by simp only [List.size_toArray] <;> omega)
def tyV (K:PySem.W.Frag) (T:String) (x:V) (H:Hp):Prop:=match x with
  | .str _=>T = "str"
  | .int _=>T = "int"
  | .ref p=>(T = "list"∧∃ xs,SqL K H p xs)∨(T = "tuple"∧∃ o,K.lookup p=some o∧o.cls = .type "tuple"∧o.dict=none) ∨
      (T = "dict"∧((∃ kvs,H p=some (.dK kvs))∨∃ kvs,H p=some (.dT kvs)))∨(T = "set"∧∃ S n,H p=some (.set S n))
  | _=>False
theorem zno {pins:List (Addr × Obj)} {σ:St} {H:Hp} {s:Shared} {T:String} {x:V} {v:Value} (I:Inv X pins σ H s) (r:RelV x v) (ty:tyV X.K T x H) :
    s.TypeIs v T∧∀ a,v = .ref a→∃ ob,s.heap.get? a=some ob∧ob.dict=none:=by
  cases x with
  | str z =>
    obtain ⟨t,rfl⟩:=r
    cases (show T = "str" from ty)
    exact ⟨typeIs_str s z t,fun _ e=>nomatch e⟩
  | int i =>
    obtain ⟨t,rfl⟩:=r
    cases (show T = "int" from ty)
    exact ⟨typeIs_int s i t,fun _ e=>nomatch e⟩
  | ref p =>
    cases r
    rcases ty with ⟨rfl,xs,hq⟩ | ⟨rfl,o,hk,hc,hd⟩ | ⟨rfl,hk⟩ | ⟨rfl,S,n,hk⟩
    · obtain ⟨its,_,pl,_⟩:=I.list hq
      refine ⟨pl.isList.typeIs,fun a e=>?_⟩
      cases e
      obtain ⟨o,n,e,c,hd,_⟩:=pl
      exact ⟨o,e,hd⟩
    · refine ⟨⟨o,I.kIn p o hk,hc⟩,fun a e=>?_⟩
      cases e
      exact ⟨o,I.kIn _ o hk,hd⟩
    · have z:∃ o,s.heap.get? p=some o∧o.ExactDict:=by
        rcases hk with ⟨kvs,hk⟩ | ⟨kvs,hk⟩
        · obtain ⟨_,_,_,_,o,_,_,e,ex,_⟩:=I.hok p _ hk
          exact ⟨o,e,ex⟩
        · obtain ⟨_,_,_,_,o,_,_,e,ex,_⟩:=I.hok p _ hk
          exact ⟨o,e,ex⟩
      obtain ⟨o,e,ex⟩:=z
      refine ⟨⟨o,e,ex.1⟩,fun a e2=>?_⟩
      cases e2
      exact ⟨o,e,ex.2.1⟩
    · obtain ⟨o,_,_,_,e,ex,_⟩:=I.hok p _ hk
      refine ⟨⟨o,e,ex.1⟩,fun a e2=>?_⟩
      cases e2
      exact ⟨o,e,ex.2.1⟩
  | _=>exact False.elim ty
def tBM0 (K:PySem.W.Frag) (T:String) (r:V→List V→Hp→VK→Prop) (to:TE):TE:=fun σ H Q=>to σ H fun x H1=>tyV K T x H1∧r x [] H1 Q
def tBM (K:PySem.W.Frag) (T:String) (r:V→List V→Hp→VK→Prop) (to:TE) (t:TA):TE:=fun σ H Q=>to σ H fun x H1=>tyV K T x H1∧t σ H1 fun xs H2=>r x xs H2 Q
variable {o e:Expr} {es:List Expr} {to:TE} {t:TA} {name:Str} {apos cpos:Pos} {T id:String} {r:V→List V→Hp→VK→Prop}
theorem zo6 (pa:PlainAttrs T) (slot:Slot T name id) (hty:typeOf (.builtin id)=pure (.type "method_descriptor")) (hm:MtR X id r) (ho:PE X o to)
    (hbase:attributeBase o name X.env (eval o X.env)=eval o X.env:=by rfl) (hline:(apos.endLine == cpos.line)=true:=by rfl):PE X (.Call (.Attribute o name apos) [] [] cpos) (tBM0 X.K T r to):=by
  intro pins s σ H Q I h
  refine wpAny_Call_method0_late hbase hline (thn (ho pins s σ H _ I h) fun v s1 ⟨x,H1,I1,r1,ty,q1⟩=>?_)
  obtain ⟨h1,h2⟩:=zno I1 r1 ty
  exact ⟨T,id,pa,slot,hty,h1,h2,Calls.callWith_builtin rfl (PySem.evalArgs_none (hm pins s1 σ H1 x [] v [] Q I1 r1 .nil q1))⟩
theorem zjw (pa:PlainAttrs T) (slot:Slot T name id) (hty:typeOf (.builtin id)=pure (.type "method_descriptor")) (hm:MtR X id r) (ho:PE X o to) (ha:PA X (e :: es) t)
    (hbase:attributeBase o name X.env (eval o X.env)=eval o X.env:=by rfl)
    (hfew:((backTo cpos (starEach (e :: es) X.env)).all (fun x=>!x.1) && (backToKw cpos (keywordEach [] X.env)).all (fun x=>x.1.isSome)
      && decide ((e :: es).length + ([]:List Keyword).length + (if ([]:List Keyword).isEmpty then 0 else 1) < 30))=true:=by rfl)
    (hline:(apos.endLine == cpos.line)=true:=by rfl) (hs:starEach (e :: es) X.env=(false,eval e X.env) :: starEach es X.env:=by rfl) (hplain:(backTo cpos (starEach es X.env)).any (·.1)=false:=by rfl) :
    PE X (.Call (.Attribute o name apos) (e :: es) [] cpos) (tBM X.K T r to t):=by
  intro pins s σ H Q I h
  refine wpAny_Call_method_late hbase hfew hline rfl (thn (ho pins s σ H _ I h) fun v s1 ⟨x,H1,I1,r1,ty,q1⟩=>?_)
  obtain ⟨h1,h2⟩:=zno I1 r1 ty
  refine ⟨T,id,pa,slot,hty,h1,h2,?_⟩
  have hA:=ha cpos pins s1 σ H1 _ I1 q1
  rw [hs] at hA ⊢
  refine Calls.callWith_builtin (by show (false || (backTo cpos (starEach es X.env)).any (·.1))=false; rw [hplain] <;> rfl) (Calls.evalArgs_plain ?_)
  exact thn hA fun us s2 ⟨vs,H2,I2,r2,q2⟩=>hm pins s2 σ H2 x vs v us Q I2 r1 r2 q2
end
end L2
namespace L2
open PySem PySem.Spec PyProof.Rows
def MtM (X:Cx) (id:String) (r:V→List V→Hp→VK→Prop):Prop :=
  ∀ (pins:List (Addr × Obj)) (s:Shared) (σ:St) (H:Hp) (x:V) (xs:List V) (v:Value) (us:List Value) (Q:VK),Inv X pins σ H s→RelV x v→Vals xs us→r x xs H Q →
    wpAny (model X.prog X.w) X.A (call (.builtin id) (v :: us)) (EP X pins σ Q) X.xe s
theorem Vals.one:∀ {x:V} {us:List Value},Vals [x] us→∃ u,us = [u]∧RelV x u
  | _,_,.cons r .nil=>⟨_,rfl,r⟩
theorem Vals.zero:∀ {us:List Value},Vals [] us→us = []
  | _,.nil=>rfl
theorem Vals.dropLast {xs:List V} {us:List Value} (h:Vals xs us):Vals xs.dropLast us.dropLast:=by
  induction h with
  | nil=>exact .nil
  | cons r t ih =>
    cases t with
    | nil=>exact .nil
    | cons q t'=>exact .cons r ih
theorem Vals.reverse {xs:List V} {us:List Value} (h:Vals xs us):Vals xs.reverse us.reverse:=by
  induction h with
  | nil=>exact .nil
  | cons r t ih=>rw [List.reverse_cons,List.reverse_cons]; exact Vals.append ih (.cons r .nil)
theorem zjc {α:Type} (l:List α):l.eraseIdx (l.length - 1)=l.dropLast:=by
  induction l with
  | nil=>rfl
  | cons a r ih =>
    cases r with
    | nil=>rfl
    | cons b r =>
      have e:(a :: b :: r).length - 1=((b :: r).length - 1) + 1:=by
        have h1:(a :: b :: r).length=r.length + 2:=rfl
        have h2:(b :: r).length=r.length + 1:=rfl
        omega
      rw [e,List.eraseIdx_cons_succ,ih]
      all_goals rfl
section
variable {X:Cx} {pins:List (Addr × Obj)} {σ:St} {H:Hp} {s:Shared} {l b:Addr} {xs ys zs:List V}
theorem Inv.lset {its its':List Value} {n:Nat} {f:Array Value→Array Value} {t':Nat} (I:Inv X pins σ H s) (hH:H l=some (.lst xs))
    (e:s.heap.get? l=some { cls:=.type "list",data:=.seq its.toArray n }) (hf:f its.toArray=its'.toArray) (hv:Vals ys its') (hz:ys.length ≤ sizeLine) :
    Inv X pins σ (upd H l (.lst ys)) { s with heap:=s.heap.update l (Obj.mapSeq f),toks:=t' }:=by
  have q:=PySem.IsL.update e f
  rw [hf] at q
  refine I.write (x:=l) (e:=l) (by rw [hH]; exact trivial) (.inl rfl) (fun b' u hb hu=>(Heap.get?_update_other s.heap (Obj.mapSeq f) (Ne.symm hb)).trans hu) ⟨_,q⟩ ?_
  exact ⟨hz,its',_,hv,q⟩
theorem Inv.lnew {its:List Value} {t':Nat} (I:Inv X pins σ H s) (hv:Vals ys its) (hz:ys.length ≤ sizeLine) :
    Inv X pins σ (upd H s.heap.objs.size (.lst ys)) { s with heap:=s.heap.push { cls:=.type "list",data:=.seq its.toArray },toks:=t' } :=
  I.laid (fun _ _ q=>Heap.get?_push_of_some _ q) (Nat.le_refl _) ⟨hz,its,0,hv,Heap.get?_push_size _ rfl⟩
theorem Inv.fresh (I:Inv X pins σ H s):H s.heap.objs.size=none:=I.hok.fresh (Nat.le_refl _)
theorem Inv.lstM (I:Inv X pins σ H s) (hH:H l=some (.lst xs)):xs.length ≤ sizeLine∧∃ (its:List Value) (n:Nat),Vals xs its∧xs.length=its.length∧s.heap.get? l=some { cls:=.type "list",data:=.seq its.toArray n }:=by
  obtain ⟨z,its,n,r,e⟩:=I.hok l _ hH
  exact ⟨z,its,n,r,r.length,e⟩
theorem zmf {n:Nat} (h:n ≤ sizeLine):Builtin.List.listTooLong n=false:=by
  unfold Builtin.List.listTooLong
  exact decide_eq_false (by omega)
end
section
variable {X:Cx}
def zkB:V→List V→Hp→VK→Prop:=fun x vs H Q=>∃ l xs y,x = .ref l∧vs = [y]∧H l=some (.lst xs)∧xs.length < sizeLine∧Q .non (upd H l (.lst (xs ++ [y])))
theorem zcY:MtM X "list.append" zkB:=by
  intro pins s σ H x vs v us Q I rx rv h
  obtain ⟨l,xs,y,rfl,rfl,hH,hz,q⟩:=h
  cases rx
  obtain ⟨u,rfl,ru⟩:=rv.one
  obtain ⟨z,its,n,r,hl,e⟩:=I.lstM hH
  refine call_meets F.slot_list_append ⟨_,e,rfl⟩ F.entry_list_append (F.args_list_append_2 _ _) (PySem.list_append l its.toArray n u (by rw [List.size_toArray]; omega)) ⟨e,?_⟩
  refine ⟨.non,_,I.lset (its':=its ++ [u]) hH e (by simp) (r.append (.cons ru .nil)) ?_,rfl,q⟩
  rw [List.length_append,List.length_singleton]
  omega
def zk5:V→List V→Hp→VK→Prop:=fun x vs H Q=>∃ l b xs zs,x = .ref l∧vs = [.ref b]∧H l=some (.lst xs)∧H b=some (.lst zs)∧xs.length + zs.length ≤ sizeLine∧Q .non (upd H l (.lst (xs ++ zs)))
theorem zkP:MtM X "list.extend" zk5:=by
  intro pins s σ H x vs v us Q I rx rv h
  obtain ⟨l,b,xs,zs,rfl,rfl,hH,hB,hz,q⟩:=h
  cases rx
  obtain ⟨u,rfl,ru⟩:=rv.one
  cases ru
  obtain ⟨z,its,n,r,hl,e⟩:=I.lstM hH
  obtain ⟨z2,its2,n2,r2,hl2,e2⟩:=I.lstM hB
  have hsz:its.toArray.size + its2.toArray.size ≤ sizeLine:=by rw [List.size_toArray,List.size_toArray]; omega
  have hlong:¬ (!its.toArray.isEmpty && Builtin.List.listTooLong (its.toArray.size + its2.toArray.size))=true:=by
    rw [zmf hsz,Bool.and_false]
    exact Bool.false_ne_true
  refine call_meets F.slot_list_extend ⟨_,e,rfl⟩ F.entry_list_extend (F.args_list_extend_2 _ _)
    (AutoSeq1.list_extend_list_list_0 l its.toArray n b its2.toArray n2 hlong (by rw [List.size_toArray]; omega) (by omega)) ⟨e,e2,?_⟩
  refine ⟨.non,_,I.lset (its':=its ++ its2) hH e (by simp) (r.append r2) ?_,rfl,q⟩
  rw [List.length_append]
  omega
def rPop:V→List V→Hp→VK→Prop:=fun x vs H Q=>∃ l xs y,x = .ref l∧vs = []∧H l=some (.lst xs)∧xs[xs.length - 1]?=some y∧Q y (upd H l (.lst xs.dropLast))
theorem zpS:MtM X "list.pop" rPop:=by
  intro pins s σ H x vs v us Q I rx rv h
  obtain ⟨l,xs,y,rfl,rfl,hH,hy,q⟩:=h
  cases rx
  have hus:=rv.zero
  subst hus
  obtain ⟨z,its,n,r,hl,e⟩:=I.lstM hH
  obtain ⟨u,hu,ru⟩:=r.get hy
  have hy':its.toArray[its.toArray.size - 1]?=some u:=by
    show its.toArray[its.length - 1]?=some u
    rw [← Array.getElem?_toList,← hl]
    exact hu
  refine call_meets F.slot_list_pop ⟨_,e,rfl⟩ F.entry_list_pop (F.args_list_pop_1 _) (MeetsSeq.list_pop_last l its.toArray n u hy' (by rw [List.size_toArray]; omega)) ⟨e,?_⟩
  refine ⟨y,_,I.lset (its':=its.dropLast) hH e ?_ r.dropLast ?_,ru,q⟩
  · show its.toArray.eraseIdxIfInBounds (its.toArray.size - 1)=its.dropLast.toArray
    rw [List.size_toArray,List.eraseIdxIfInBounds_toArray,zjc]
  · rw [List.length_dropLast]
    omega
end
section
variable {prog:Program} {w:World} {A:Around} {E:Value→Shared→Prop} {s:Shared}
end
section
variable {X:Cx}
end
end L2
namespace L2
open PySem PySem.Spec PyProof.Rows
section
variable {κ:Type} [DecidableEq κ]
def valV (kvs:List (κ × V)) (k:κ):Option V:=(kvs.find? fun kv=>decide (kv.1=k)).map (·.2)
def putK (kvs:List (κ × V)) (k:κ) (v:V):List (κ × V) :=
  if (kvs.any fun kv=>decide (kv.1=k))=true then kvs.map (fun kv=>if kv.1=k then (kv.1,v) else kv) else kvs ++ [(k,v)]
theorem zgY {p:κ × V} {r:List (κ × V)} {k:κ} (e:p.1=k):valV (p :: r) k=some p.2:=by simp [valV,List.find?_cons,e]
theorem zgL {p:κ × V} {r:List (κ × V)} {k:κ} (e:¬ p.1=k):valV (p :: r) k=valV r k:=by simp [valV,List.find?_cons,e]
theorem ziG (k:κ):∀ kvs:List (κ × V),(kvs.any fun kv=>decide (kv.1=k))=(valV kvs k).isSome
  | []=>rfl
  | p :: r=>by
    rw [List.any_cons]
    by_cases e:p.1=k
    · simp only [zgY e,decide_eq_true e,Bool.true_or,Option.isSome_some]
    · rw [zgL e,decide_eq_false e,Bool.false_or]; exact ziG k r
theorem zfV (kvs:List (κ × V)) (k:κ) (v:V):(putK kvs k v).length ≤ kvs.length + 1:=by
  unfold putK
  split
  · rw [List.length_map]; omega
  · rw [List.length_append,List.length_cons,List.length_nil]; omega
theorem RelO.isSome_eq {o:Option V} {u:Option Value} (r:RelO o u):o.isSome=u.isSome:=by
  cases o with
  | none=>cases u with
    | none=>rfl
    | some _=>exact (show False from r).elim
  | some _=>cases u with
    | none=>exact (show False from r).elim
    | some _=>rfl
theorem RelO.getD {o:Option V} {u:Option Value} {d:V} {d':Value} (r:RelO o u) (rd:RelV d d'):RelV (o.getD d) (u.getD d'):=by
  cases o with
  | none=>cases u with
    | none=>exact rd
    | some _=>exact (show False from r).elim
  | some _=>cases u with
    | none=>exact (show False from r).elim
    | some _=>exact r
theorem KV.val {kvs:List (κ × V)} {vs:List (κ × Value)} (r:KV kvs vs) (k:κ):RelO (valV kvs k) (valueAt vs k):=by
  unfold KV at r
  induction r with
  | nil=>exact True.intro
  | @cons p q ps qs h t ih =>
    obtain ⟨h1,h2⟩:=h
    by_cases e:p.1=k
    · have e':q.1=k:=h1.symm.trans e
      have b:valueAt (q :: qs) k=some q.2:=by simp [valueAt,List.find?_cons,e']
      rw [zgY e,b]; exact h2
    · have e':¬ q.1=k:=fun z=>e (h1.trans z)
      have b:valueAt (q :: qs) k=valueAt qs k:=by simp [valueAt,List.find?_cons,e']
      rw [zgL e,b]; exact ih
theorem KV.any {kvs:List (κ × V)} {vs:List (κ × Value)} (r:KV kvs vs) (k:κ):(kvs.any fun kv=>decide (kv.1=k))=vs.any fun kv=>decide (kv.1=k):=by
  unfold KV at r
  induction r with
  | nil=>rfl
  | cons h t ih=>rw [List.any_cons,List.any_cons,ih,h.1]
theorem KV.repl {kvs:List (κ × V)} {vs:List (κ × Value)} (r:KV kvs vs) (k:κ) {y:V} {u:Value} (ry:RelV y u) :
    KV (kvs.map fun kv=>if kv.1=k then (kv.1,y) else kv) (vs.map fun kv=>if kv.1=k then (kv.1,u) else kv):=by
  unfold KV at r ⊢
  induction r with
  | nil=>exact .nil
  | @cons p q ps qs h t ih =>
    rw [List.map_cons,List.map_cons]
    refine .cons ?_ ih
    obtain ⟨h1,h2⟩:=h
    by_cases e:p.1=k
    · rw [if_pos e,if_pos (h1.symm.trans e)]; exact ⟨h1,ry⟩
    · rw [if_neg e,if_neg (fun z=>e (h1.trans z))]; exact ⟨h1,h2⟩
theorem KV.put {kvs:List (κ × V)} {vs:List (κ × Value)} (r:KV kvs vs) (k:κ) {y:V} {u:Value} (ry:RelV y u):KV (putK kvs k y) (stored vs k u):=by
  unfold putK stored
  rw [r.any k]
  by_cases e:(vs.any fun kv=>decide (kv.1=k))=true
  · rw [if_pos e,if_pos e]; exact r.repl k ry
  · rw [if_neg e,if_neg e]; exact Paired.snoc r ⟨rfl,ry⟩
theorem KV.length {kvs:List (κ × V)} {vs:List (κ × Value)} (r:KV kvs vs):kvs.length=vs.length:=Paired.length r
end
theorem zmi {P:Program} {w:World} {k:Key} {u:Value} (r:RelV (kV k) u):(zbM P w).is k u=true:=by
  cases k with
  | inl i=>obtain ⟨t,e⟩:=(show ∃ t,u=Value.int i t from r); subst e; exact zia P w i t
  | inr x=>obtain ⟨t,e⟩:=(show ∃ t,u=Value.str x t from r); subst e; exact zh7 P w x t
theorem zhF {P:Program} {w:World}:∀ {ks:List Key} {us:List Value},Vals (ks.map kV) us→ItemsAre (zbM P w) ks us
  | [],_,r=>by rw [List.map_nil] at r; cases r; exact .nil
  | k :: ks,_,r=>by
    rw [List.map_cons] at r
    cases r with
    | cons h t=>exact .cons (zmi h) (zhF t)
abbrev KT (H:Hp):List (List Key × V)→List (List Key × Addr × Value)→Prop:=Paired fun p q=>p.1=q.1∧H q.2.1=some (.tup (p.1.map kV))∧RelV p.2 q.2.2
theorem KT.val {H:Hp} {kvs:List (List Key × V)} {xs:List (List Key × Addr × Value)} (r:KT H kvs xs) (k:List Key):RelO (valV kvs k) ((atKey xs k).map (·.2)):=by
  induction r with
  | nil=>exact True.intro
  | @cons p q ps qs h t ih =>
    obtain ⟨h1,_,h2⟩:=h
    by_cases e:p.1=k
    · have e':q.1=k:=h1.symm.trans e
      have b:atKey (q :: qs) k=some q.2:=by simp [atKey,List.find?_cons,e']
      rw [zgY e,b]; exact h2
    · have e':¬ q.1=k:=fun z=>e (h1.trans z)
      have b:atKey (q :: qs) k=atKey qs k:=by simp [atKey,List.find?_cons,e']
      rw [zgL e,b]; exact ih
theorem KT.repl {H:Hp} {kvs:List (List Key × V)} {xs:List (List Key × Addr × Value)} (r:KT H kvs xs) (k:List Key) {y:V} {u:Value} (ry:RelV y u) :
    KT H (kvs.map fun kv=>if kv.1=k then (kv.1,y) else kv) (xs.map (putAt k u)):=by
  induction r with
  | nil=>exact .nil
  | @cons p q ps qs h t ih =>
    rw [List.map_cons,List.map_cons]
    refine .cons ?_ ih
    obtain ⟨h1,h2,h3⟩:=h
    unfold putAt
    by_cases e:p.1=k
    · rw [if_pos e,if_pos (h1.symm.trans e)]; exact ⟨h1,h2,ry⟩
    · rw [if_neg e,if_neg (fun z=>e (h1.trans z))]; exact ⟨h1,h2,h3⟩
theorem KT.put {H:Hp} {kvs:List (List Key × V)} {xs:List (List Key × Addr × Value)} (r:KT H kvs xs) (k:List Key) {b:Addr} {y:V} {u:Value} (hb:H b=some (.tup (k.map kV))) (ry:RelV y u) :
    KT H (putK kvs k y) (storedH xs k b u):=by
  have e:(kvs.any fun kv=>decide (kv.1=k))=(atKey xs k).isSome:=by
    rw [ziG,(r.val k).isSome_eq,Option.isSome_map]
  unfold putK storedH
  rw [e]
  by_cases q:(atKey xs k).isSome=true
  · rw [if_pos q,if_pos q]; exact r.repl k ry
  · rw [if_neg q,if_neg q]; exact Paired.snoc r ⟨rfl,hb,ry⟩
theorem KT.keeps {H H':Hp} {kvs:List (List Key × V)} {xs:List (List Key × Addr × Value)} (r:KT H kvs xs) (ht:∀ b ys,H b=some (.tup ys)→H' b=some (.tup ys)):KT H' kvs xs :=
  Paired.mapP r fun _ _ z=>⟨z.1,ht _ _ z.2.1,z.2.2⟩
section
variable {P:Program} {w:World} {H:Hp} {h:Heap} {a:Addr}
theorem zpY {u:HO} (ok:HOk P w H h) (e:Rd H a u):ObjOk P w H h a u:=e.ok ok
theorem zkA {kvs:List (Key × V)} (ok:HOk P w H h) (e:Rd H a (.dK kvs)):kvs.length ≤ sizeLine∧(a == sysModules)=false∧∃ vs,KV kvs vs∧h.DictOf (zbM P w) a vs :=
  show ObjOk P w H h a (.dK kvs) from zpY ok e
theorem zqi {kvs:List (Key × V)} (ok:HOk P w H h) (e:H a=some (.dK kvs)):kvs.length ≤ sizeLine∧(a == sysModules)=false∧∃ vs,KV kvs vs∧h.DictOf (zbM P w) a vs:=zkA ok (.inl e)
theorem ziI {ks:List Key} (ok:HOk P w H h) (e:H a=some (.tup (ks.map kV))):(tupleKind (zbM P w)).is h ks a:=by
  obtain ⟨_,its,r,o,h1,h2,n,h3⟩:=(show ObjOk P w H h a (.tup (ks.map kV)) from ok a _ e)
  exact ⟨o,its.toArray,n,h1,h2,h3,by simpa using zhF r⟩
theorem zma {kvs:List (List Key × V)} (ok:HOk P w H h) (e:Rd H a (.dT kvs)):kvs.length ≤ sizeLine∧(a == sysModules)=false ∧
    ∃ xs,KT H kvs xs∧h.DictOfH (tupleKind (zbM P w)) a xs:=by
  obtain ⟨z,y,xs,r,o,es,ep,h1,h2,h3,h4,h5⟩:=(show ObjOk P w H h a (.dT kvs) from zpY ok e)
  refine ⟨z,y,xs,r,o,es,ep,h1,h2,h3,h4,fun x hx=>?_,h5⟩
  have all:∀ {l:List (List Key × V)} {m:List (List Key × Addr × Value)},KT H l m→∀ x ∈ m,(tupleKind (zbM P w)).is h x.1 x.2.1:=by
    intro l m q
    induction q with
    | nil=>intro x hx; exact nomatch hx
    | @cons p q ps qs hq t ih =>
      intro x hx
      rcases List.mem_cons.mp hx with e | hx
      · subst e
        exact ziI ok (by rw [← hq.1]; exact hq.2.1)
      · exact ih x hx
  exact all r x hx
theorem zpA {kvs:List (List Key × V)} (ok:HOk P w H h) (e:H a=some (.dT kvs)):kvs.length ≤ sizeLine∧(a == sysModules)=false ∧
    ∃ xs,KT H kvs xs∧h.DictOfH (tupleKind (zbM P w)) a xs:=zma ok (.inl e)
end
def DGet (H:Hp) (a:Addr) (y:V) (r:Option V):Prop :=
  (∃ kvs k,Rd H a (.dK kvs)∧y=kV k∧r=valV kvs k)∨∃ kvs k b,Rd H a (.dT kvs)∧y = .ref b∧H b=some (.tup (k.map kV))∧r=valV kvs k
def DPut (H:Hp) (a:Addr) (y v:V) (H':Hp):Prop :=
  (∃ kvs k,H a=some (.dK kvs)∧y=kV k∧kvs.length < sizeLine∧H'=upd H a (.dK (putK kvs k v))) ∨
  ∃ kvs k b,H a=some (.dT kvs)∧y = .ref b∧H b=some (.tup (k.map kV))∧kvs.length < sizeLine∧H'=upd H a (.dT (putK kvs k v))
theorem DGet.k {H:Hp} {a:Addr} {kvs:List (Key × V)} {k:Key} (e:H a=some (.dK kvs)):DGet H a (kV k) (valV kvs k):=.inl ⟨kvs,k,.inl e,rfl,rfl⟩
theorem DPut.k {H:Hp} {a:Addr} {kvs:List (Key × V)} {k:Key} {v:V} (e:H a=some (.dK kvs)) (hl:kvs.length < sizeLine):DPut H a (kV k) v (upd H a (.dK (putK kvs k v))):=.inl ⟨kvs,k,e,rfl,hl,rfl⟩
theorem DPut.t {H:Hp} {a b:Addr} {kvs:List (List Key × V)} {k:List Key} {v:V} (e:H a=some (.dT kvs)) (eb:H b=some (.tup (k.map kV))) (hl:kvs.length < sizeLine) :
    DPut H a (.ref b) v (upd H a (.dT (putK kvs k v))):=.inr ⟨kvs,k,b,e,rfl,eb,hl,rfl⟩
section
variable {X:Cx} {pins:List (Addr × Obj)} {σ:St} {H:Hp} {s:Shared} {a:Addr} {y v:V} {u r:Value} {o:Option V} {A:Around} {E:Value→Shared→Prop}
theorem Inv.big (I:Inv X pins σ H s):sysModules < s.heap.objs.size:=by
  have h:mainGlobals < s.heap.objs.size:=(I.mod.glob.keeps I.bk).lt
  exact Nat.lt_trans (by decide) h
theorem zop {Q:Value→Shared→Prop} (hu:A.units + 1 < cLine) (I:Inv X pins σ H s) (g:DGet H a y o) (ry:RelV y u) (h:∀ s',Inv X pins σ H s'→Q (.bool (!o.isSome)) s') :
    wpAny (model X.prog X.w) A (compareOp .NotIn u (.ref a)) Q E s:=by
  rcases g with ⟨kvs,k,e,ey,l⟩ | ⟨kvs,k,b,e,ey,eb,l⟩
  · subst ey
    obtain ⟨z,hd,vs,rel,dd⟩:=zkA I.hok e
    refine wpAny_notIn_of (zmi ry) hd dd.mapOf ?_
    rw [← (rel.val k).isSome_eq,← l]
    exact h _ (I.tok _)
  · subst ey
    cases (show u=Value.ref b from ry)
    obtain ⟨z,hd,xs,rel,dd⟩:=zma I.hok e
    refine wpAny_notIn_heap (tupleKind_room_in1 hu) (ziI I.hok eb) hd dd ?_
    have q:=(rel.val k).isSome_eq
    rw [Option.isSome_map] at q
    rw [← q,← l]
    exact h _ (I.tok _)
theorem zk7 {h':Heap} {t':Nat} {ob:HO} (I:Inv X pins σ H s) (mu:Mut (H a)) (hs:Heap.SameBut a s.heap h') (he:∃ q,h'.get? a=some q) (new:ObjOk X.prog X.w (upd H a ob) h' a ob) :
    Inv X pins σ (upd H a ob) { s with heap:=h',toks:=t' } :=
  I.write (x:=a) (e:=a) mu (.inl rfl) (fun b q hb z=>(hs.2 b hb).trans z) he new
theorem znc {P:Program} {w:World} {H':Hp} {h':Heap} {kvs:List (Key × V)} {vs:List (Key × Value)} (z:kvs.length ≤ sizeLine) (hd:(a == sysModules)=false) (rel:KV kvs vs) (dd:h'.DictOf (zbM P w) a vs) :
    ObjOk P w H' h' a (.dK kvs):=⟨z,hd,vs,rel,dd⟩
theorem zkq {H':Hp} {Q:Unit→Shared→Prop} (hu:A.units + 1 < cLine) (I:Inv X pins σ H s) (g:DPut H a y v H') (ry:RelV y u) (rv:RelV v r) (h:∀ s',Inv X pins σ H' s'→Q () s') :
    wpAny (model X.prog X.w) A (setItem (.ref a) u r) Q E s:=by
  rcases g with ⟨kvs,k,e,ey,l,eH⟩ | ⟨kvs,k,b,e,ey,eb,l,eH⟩
  · subst ey eH
    obtain ⟨z,hd,vs,rel,dd⟩:=zqi I.hok e
    have hz:vs.length ≤ sizeLine:=by rw [← rel.length]; exact z
    have hl:(putK kvs k v).length ≤ sizeLine:=by have:=zfV kvs k v; omega
    refine wpAny_setItem_pairs (hsz:=hz) (zmi ry) dd fun h' dd' hs=>h _ ?_
    have he:∃ q,h'.get? a=some q:=let ⟨q,_,_,hq,_⟩:=dd'; ⟨q,hq⟩
    exact zk7 I (by rw [e]; exact True.intro) hs he (znc hl hd (rel.put k rv) dd')
  · subst ey eH
    cases (show u=Value.ref b from ry)
    obtain ⟨z,hd,xs,rel,dd⟩:=zpA I.hok e
    have hz:xs.length ≤ sizeLine:=by rw [← Paired.length rel]; exact z
    have hl:(putK kvs k v).length ≤ sizeLine:=by have:=zfV kvs k v; omega
    refine wpAny_setItem_heap (hsz:=hz) (tupleKind_room_in1 hu) (ziI I.hok eb) dd fun h' dd' hs=>h _ ?_
    obtain ⟨q,es,ep,hq,h2,h3,h4,_,h5⟩:=dd'
    refine zk7 I (by rw [e]; exact True.intro) hs ⟨q,hq⟩ ⟨hl,hd,_,(rel.put k eb rv).keeps fun c ys ec=>?_,q,es,ep,hq,h2,h3,h4,h5⟩
    rw [zag (zqp ec e (fun z=>nomatch z))]
    exact ec
end
section
variable {X:Cx} {pins:List (Addr × Obj)} {σ:St} {H:Hp} {s:Shared} {a:Addr} {kvs:List (Key × V)} {k:Key} {u:Value} {A:Around} {E:Value→Shared→Prop}
end
def zjQ (ty td:TE):TE:=fun σ H Q=>ty σ H fun y H1=>td σ H1 fun x H2=>∃ a o,x = .ref a∧DGet H2 a y o∧Q (.bl (!o.isSome)) H2
def znX (td ty tv:TE):TS:=fun D σ H=>tv σ H fun v H1=>td σ H1 fun x H2=>ty σ H2 fun y H3=>∃ a H4,x = .ref a∧DPut H3 a y v H4∧D.nx σ H4
section
variable {X:Cx} {o i e value:Expr} {pos pos' tpos:Pos} {td ty tv:TE}
theorem zeH (hu:X.A.units + 1 < cLine) (hi:PE X i ty) (ho:PE X o td):PC X .NotIn i o (zjQ ty td):=by
  intro pins s σ H Q I h
  refine thn (hi pins s σ H _ I h) fun iv s1 ⟨y,H1,I1,ry,q1⟩=>thn (ho pins s1 σ H1 _ I1 q1) fun u s2 ⟨x,H2,I2,rx,a,ov,ex,g,q2⟩=>?_
  subst ex
  obtain rfl:u=Value.ref a:=rx
  exact zop hu I2 g ry fun s3 I3=>⟨.bl (!ov.isSome),H2,I3,rfl,q2⟩
theorem zfN (hu:X.A.units + 1 < cLine) (ho:PE X o td) (hi:PE X i ty) (hv:PE X value tv) (hs:swapsWith value (some (.Subscript o i pos')) pos.line X.env=pure false) :
    PS X (.Assign [.Subscript o i pos'] value pos) (znX td ty tv):=by
  intro pins s σ H D I h
  refine wpAny_Assign_Subscript (thn (hv pins s σ H _ I h) fun r s1 ⟨v,H1,I1,rv,q1⟩=>thn (ho pins s1 σ H1 _ I1 q1) fun u s2 ⟨x,H2,I2,rx,q2⟩=>thn (hi pins s2 σ H2 _ I2 q2) fun iv s3 ⟨y,H3,I3,ry,a,H4,ex,g,q3⟩=>?_) hs
  subst ex
  obtain rfl:u=Value.ref a:=rx
  exact zkq hu I3 g ry rv fun s4 I4=>⟨σ,H4,I4,q3⟩
end
theorem zl3 {P:Program} {w:World} {H:Hp} (h:Heap) (hb:sysModules < h.objs.size):ObjOk P w H (h.push { cls:=.type "dict",data:=.dict #[] }) h.objs.size (.dK []) :=
  ⟨Nat.zero_le _,beq_eq_false_iff_ne.mpr (Ne.symm (Nat.ne_of_lt hb)),[],.nil,Heap.DictOf.new h⟩
theorem zmp {P:Program} {w:World} {H:Hp} (h:Heap) (hb:sysModules < h.objs.size):ObjOk P w H (h.push { cls:=.type "dict",data:=.dict #[] }) h.objs.size (.dT []) :=
  ⟨Nat.zero_le _,beq_eq_false_iff_ne.mpr (Ne.symm (Nat.ne_of_lt hb)),[],.nil,_,#[],0,Heap.get?_push_size _ rfl,⟨rfl,rfl,rfl⟩,rfl,rfl,List.nodup_nil⟩
def znm:TE:=fun _ H Q=>∀ p,H p=none→Q (.ref p) (upd H p (.dK []))
def znk:TE:=fun _ H Q=>∀ p,H p=none→Q (.ref p) (upd H p (.dT []))
section
variable {X:Cx} {pos:Pos}
theorem zfv:PE X (.Dict [] [] pos) znm:=fun pins s σ H Q I h =>
  wpAny_Dict_empty ⟨.ref s.heap.objs.size,_,I.laid (a:=s.heap.objs.size) (o:=.dK []) (t':=s.toks) (fun _ _ q=>Heap.get?_push_of_some _ q) (Nat.le_refl _) (zl3 s.heap I.big),rfl,h _ (I.hok.fresh (Nat.le_refl _))⟩
theorem zmx:PE X (.Dict [] [] pos) znk:=fun pins s σ H Q I h =>
  wpAny_Dict_empty ⟨.ref s.heap.objs.size,_,I.laid (a:=s.heap.objs.size) (o:=.dT []) (t':=s.toks) (fun _ _ q=>Heap.get?_push_of_some _ q) (Nat.le_refl _) (zmp s.heap I.big),rfl,h _ (I.hok.fresh (Nat.le_refl _))⟩
end
structure M2 (X:Cx) (o:Expr) (m:Str) (apos:Pos) (e f:Expr) (cpos:Pos):Prop where
  base:attributeBase o m X.env (eval o X.env)=eval o X.env
  few:((backTo cpos (starEach [e,f] X.env)).all (fun x=>!x.1) && (backToKw cpos (keywordEach [] X.env)).all (fun x=>x.1.isSome)
    && decide (([e,f]:List Expr).length + ([]:List Keyword).length + (if ([]:List Keyword).isEmpty then 0 else 1) < 30))=true
  line:(apos.endLine == cpos.line)=true
  trees:backTo cpos (starEach [e,f] X.env) = [(false,eval e X.env),(false,eval f X.env)]
def IsD (H:Hp) (a:Addr):Prop:=(∃ kvs,Rd H a (.dK kvs))∨∃ kvs,Rd H a (.dT kvs)
theorem zpj {X:Cx} {pins:List (Addr × Obj)} {σ:St} {H:Hp} {s:Shared} {a:Addr} (I:Inv X pins σ H s) (d:IsD H a) :
    s.TypeIs (.ref a) "dict"∧(∀ b,Value.ref a = .ref b→∃ ob,s.heap.get? b=some ob∧ob.dict=none)∧(a == sysModules)=false:=by
  rcases d with ⟨kvs,e⟩ | ⟨kvs,e⟩
  · obtain ⟨_,hd,vs,_,dd⟩:=zkA I.hok e
    refine ⟨dd.typeIs,fun b q=>?_,hd⟩
    cases q
    obtain ⟨ob,_,_,h1,h2,_⟩:=dd
    exact ⟨ob,h1,h2.2.1⟩
  · obtain ⟨_,hd,xs,_,dd⟩:=zma I.hok e
    refine ⟨dd.typeIs,fun b q=>?_,hd⟩
    cases q
    obtain ⟨ob,_,_,h1,h2,_⟩:=dd
    exact ⟨ob,h1,h2.2.1⟩
section
variable {X:Cx} {pins:List (Addr × Obj)} {σ:St} {H:Hp} {s:Shared} {a:Addr} {y d:V} {u r:Value} {o:Option V} {A:Around} {E:Value→Shared→Prop}
theorem zpx {Q:Value→Shared→Prop} (hu:A.units + 1 < cLine) (I:Inv X pins σ H s) (g:DGet H a y o) (ry:RelV y u) (rd:RelV d r) (h:∀ w' s',Inv X pins σ H s'→RelV (o.getD d) w'→Q w' s') :
    wpAny (model X.prog X.w) A (call (.builtin "dict.get") [.ref a,u,r]) Q E s:=by
  rcases g with ⟨kvs,k,e,ey,l⟩ | ⟨kvs,k,b,e,ey,eb,l⟩
  · subst ey
    obtain ⟨z,hd,vs,rel,dd⟩:=zkA I.hok e
    refine call_meetsIn PySem.F.slot_dict_get dd.typeIs PySem.F.entry_dict_get (PySem.F.args_dict_get_3 _ _ _) (meets_dict_get_default (zbM X.prog X.w) a (zmi ry) hd r) ⟨_,dd.mapOf,h _ _ (I.tok _) ?_⟩
    rw [l]
    exact (rel.val k).getD rd
  · subst ey
    cases (show u=Value.ref b from ry)
    obtain ⟨z,hd,xs,rel,dd⟩:=zma I.hok e
    refine call_meetsIn PySem.F.slot_dict_get dd.typeIs PySem.F.entry_dict_get (PySem.F.args_dict_get_3 _ _ _) (meetsH_dict_get_default (tupleKind (zbM X.prog X.w)) a b hd r) ⟨tupleKind_room_in1 hu,k,xs,ziI I.hok eb,dd,h _ _ (I.tok _) ?_⟩
    rw [l]
    exact (rel.val k).getD rd
end
def zm4 (td ty tx:TE):TE:=fun σ H Q=>td σ H fun x H1=>∃ a,x = .ref a∧IsD H1 a∧ty σ H1 fun y H2=>tx σ H2 fun z H3=>∃ o,DGet H3 a y o∧Q (o.getD z) H3
section
variable {X:Cx} {o e f:Expr} {apos cpos:Pos} {td ty tx:TE}
theorem ziF (hu:X.A.units + 1 < cLine) (ho:PE X o td) (he:PE X e ty) (hf:PE X f tx) (m:M2 X o "get" apos e f cpos):PE X (.Call (.Attribute o "get" apos) [e,f] [] cpos) (zm4 td ty tx):=by
  intro pins s σ H Q I h
  refine wpAny_Call_method m.base m.few m.line PySem.F.plainAttrs_dict PySem.F.slot_dict_get PySem.F.type_dict_get (thn (ho pins s σ H _ I h) fun u s1 ⟨x,H1,I1,rx,a,ex,d,q1⟩=>?_)
  subst ex
  obtain rfl:u=Value.ref a:=rx
  obtain ⟨t1,t2,_⟩:=zpj I1 d
  refine ⟨t1,t2,?_⟩
  rw [m.trees]
  refine Calls.callWith_builtin rfl (Calls.evalArgs_plain (Calls.spliced_cons (thn (he pins s1 σ H1 _ I1 q1) fun iv s2 ⟨y,H2,I2,ry,q2⟩ =>
    Calls.spliced_cons (thn (hf pins s2 σ H2 _ I2 q2) fun fv s3 ⟨z,H3,I3,rz,ov,g,q3⟩=>Calls.spliced_nil ?_))))
  exact zpx hu I3 g ry rz fun w' s4 I4 rw'=>⟨_,H3,I4,rw',q3⟩
end
section
variable {X:Cx} {pins:List (Addr × Obj)} {σ:St} {H:Hp} {s:Shared} {a:Addr} {kvs:List (Key × V)} {A:Around} {E:Value→Shared→Prop}
end
section
variable {X:Cx} {pins:List (Addr × Obj)} {σ:St} {H:Hp} {s:Shared} {a:Addr} {y:V} {u:Value} {A:Around} {E:Value→Shared→Prop}
end
end L2
namespace Att
open PySem PySem.W PySem.Calls PyProof.Rows
theorem zfS {P:Params} {h:Heap}:∀ (ns:List Int) (vs:List Value),WellAll P h vs (ns.map WData.int)→IntsAre vs ns:=by
  intro ns
  induction ns with
  | nil =>
    intro vs w
    rw [List.map_nil] at w
    cases w
    exact .nil
  | cons n ns ih =>
    intro vs w
    rw [List.map_cons] at w
    cases w with
    | cons a b =>
      cases a
      exact .cons _ _ (ih _ b)
theorem zlw {l:OpenLaw} {n:Nat} (hn:l.most=some n) {P:Params} {h:Heap} {args:List WData} {vals:List Value}
    (hpre:l.row.toRowW.claim.pre args=true) (hwl:WellAll P h vals args) :
    ∃ a vs ns,vals = [Value.ref a]∧args = [WData.list (ns.map WData.int)]∧h.get? a=some { cls:=.type "list",data:=.seq vs.toArray }∧IntsAre vs ns∧ns.length ≤ n:=by
  have hsh:WShape.hasAll [] args [.list .int]=true:=(pre_splitW hpre).1
  have hc:l.pre.holds [] { args:=args }=true:=(pre_splitW hpre).2
  obtain ⟨d,r,rfl,h1,h2⟩:=hasAllW_cons hsh
  obtain rfl:=hasAllW_nil h2
  obtain ⟨xs,rfl,h3⟩:=hasW_list h1
  obtain ⟨ns,rfl⟩:=items_int h3
  have hlen:ns.length ≤ n:=by
    unfold OpenLaw.pre at hc
    have h4:(WTm.not (.lt (.lit (.int (n:Int))) (.len (.arg 0)))).holds [] { args:=[.list (ns.map .int)] }=true:=by
      have h4:=(holds_andW hc).1
      rw [hn] at h4
      exact h4
    have h5:=condW_of h4 (w_not (w_lt w_lit (w_len_list (w_arg rfl))))
    rw [List.length_map] at h5
    refine Nat.le_of_not_lt fun q=>?_
    have q':(n:Int) < ((ns.length:Nat):Int):=by omega
    first
      | (rw [decide_eq_true q'] at h5; exact absurd h5 (by decide))
      | (simp at h5; omega)
  cases hwl with
  | cons w1 w2 =>
    cases w2
    cases w1 with
    | list ho hall=>exact ⟨_,_,ns,rfl,rfl,ho,zfS ns _ hall,hlen⟩
theorem zj7 (l:OpenLaw) (args:List WData):l.row.toRowW.claim.post args (.bool true) args=true :=
  postW_of (r:=l.row.toRowW) (X:=(true == true))
    (show WShape.has [] (.bool true) .bool=true by first | rfl | decide | simp [WShape.has,WShape.arms,WShape.armsAll])
    (show (WTm.eq .res (.lit (.bool true))).value [] { args:=args,res:=some (.bool true),after:=args }=some (.bool (true == true)) from w_eq_bool (w_res rfl) w_lit) rfl
theorem attach_call {l:OpenLaw} {n:Nat} {q:Program} {loose:List Str} {XP:(Str→Option Value)→Heap→Prop} {YP:World→Heap→Prop} {d:DefRec}
    (hn:l.most=some n) (hdf:d.params.defaults = [])
    (call:∀ (w:World) (s₀ s₁:Shared) (mg mb:Str→Option Value) (fa:Addr) (o:Obj) (pm cd doc:Value) (a:Addr) (vs:List Value) (ns:List Int),
      Ground q loose [] XP w s₀ mg mb s₁.heap→YP w s₁.heap →
      s₁.heap.get? fa=some o→o.data = .func (docDef d.name d.params d.body d.scope pm cd doc)→s₁.heap.CodeRec cd d.name→mg d.name=some (.ref fa) →
      s₁.heap.get? a=some { cls:=.type "list",data:=.seq vs.toArray }→IntsAre vs ns→ns.length ≤ n→s₁.gens = #[] →
      codeAny (model l.prog w) callerA (.call (.ref fa) ⟨[.ref a],[]⟩) (fun r s'=>r = .ok (.ret (.bool true))∧OldK s₁.heap s'.heap∧s'.os=s₁.os∧AllBare s'.gens) s₁) :
    WalkO q loose XP YP l.row.toRowW d [] (fun f vs=>PySem.call f vs):=by
  intro w s₀ s₁ mg mb G Y fa o pm cd doc dV kV ho hd hcd hD hmg hg args vals as hpre hlay hrd hwl hlo
  obtain rfl:dV = .none:=Dflts.none hD hdf
  obtain rfl:kV = .none:=Dflts.noKw hD
  obtain ⟨a,vs,ns,rfl,rfl,hobj,hints,hlen⟩:=zlw hn hpre hwl
  refine enter_call (codeAny_mono (call w s₀ s₁ mg mb fa o pm cd doc a vs ns G Y ho (fd_plain hd) hcd hmg hobj hints hlen hg) fun r s' hq=>?_)
  obtain ⟨rfl,h2,h3,h4⟩:=hq
  exact ⟨.inl ⟨.bool true,.bool true,[],rfl,fun _=>rfl,.bool true,zj7 l _,fun _=>⟨List.Pairwise.nil,fun _ hm=>(nomatch hm)⟩⟩,h2,h3,h4⟩
section
variable {prog:Program} {w:World} {A:Around} {E:Value→Shared→Prop} {s:Shared} {K:Frag}
end
end Att
namespace L2
open PySem PySem.Spec PyProof.Rows
theorem zhe:∀ {vs:List Value} {ns:List Int},IntsAre vs ns→Vals (ns.map V.int) vs
  | _,_,.nil=>.nil
  | _,_,.cons n t h=>.cons ⟨t,rfl⟩ (zhe h)
def Only (H:Hp):Prop:=∀ b,H b=none∨∃ o xs,H b=some (.frz o (.lst xs))
theorem zlV {P:Program} {w:World} {K:PySem.W.Frag} {mg mb:Str→Option Value} {CX:CXT} {k:Nat} {fa a:Addr} {fd:FuncData} {x:Str} {sp:Sp} {s₁:Shared} {vs:List Value} {ns:List Int}
    (KX:K.In s₁.heap) (hT0:zlr K=none) (hns:s₁.heap.Ns mainGlobals mg) (hb:s₁.heap.Ns builtinsNs mb) (hbb:∀ x:Str,x ≠ "__name__"→mb x=bootBuiltins x) (hlim:s₁.heap.NoLimit) (hg:s₁.gens = #[])
    (ha:s₁.heap.get? a=some { cls:=.type "list",data:=.seq vs.toArray }) (hi:IntsAre vs ns) (hl:ns.length ≤ sizeLine) (hr:Room k callerA)
    (F:∀ base:Heap,K.In base→base.Ns mainGlobals mg→FnOk P w K mg base CX k fa fd [x] sp) (hbind:∀ (s:Shared) (u:Value),BindsTo s fd ⟨[u],[]⟩ [(x,u)])
    (hsp:∀ H:Hp,Only H→SqL K H a (ns.map V.int)→sp [.ref a] H (fun v _=>v = .bl true) fun _ _ _=>False)
    (hCX:∀ H e s',CX [] H s₁ (fun _ _ _=>False) e s'→False) :
    codeAny (model P w) callerA (.call (.ref fa) ⟨[.ref a],[]⟩) (fun r s'=>r = .ok (.ret (.bool true))∧OldK s₁.heap s'.heap∧s'.os=s₁.os∧AllBare s'.gens) s₁:=by
  have rv:=zhe hi
  have lenV:=hi.length
  -- from an abstract heap in which nothing but the script may be tracked
  have core:∀ H:Hp,Only H→SqL K H a (ns.map V.int)→HOk P w H s₁.heap→(∀ b,H b ≠ none→b=a)→(H a ≠ none→K.lookup a=none) →
      codeAny (model P w) callerA (.call (.ref fa) ⟨[.ref a],[]⟩) (fun r s'=>r = .ok (.ret (.bool true))∧OldK s₁.heap s'.heap∧s'.os=s₁.os∧AllBare s'.gens) s₁:=by
    intro H hO hS hok hA hK
    have base_of:∀ {b:Addr} {o:Obj},s₁.heap.get? b=some o→H b=none→(hidT s₁.heap H).get? b=some o:=fun e n=>zmk e n
    have noA:∀ {b:Addr} {o:Obj} {es:Array DictEntry} {ep:Nat},s₁.heap.get? b=some o→o.data = .dict es ep→H b=none:=fun {b o es ep} e d=>by
      cases q:H b with
      | none=>rfl
      | some u =>
        have e':b=a:=hA b (by rw [q]; simp)
        subst e'
        rw [ha] at e; cases e
        have d':Data.seq vs.toArray _=Data.dict es ep:=d
        cases d'
    have nsK:∀ {b:Addr} {m:Str→Option Value},s₁.heap.Ns b m→(hidT s₁.heap H).Ns b m:=fun {b m} ⟨o,es,ep,e,d,r⟩=>⟨o,es,ep,base_of e (noA e d),d,r⟩
    have hKb:K.In (hidT s₁.heap H):=fun b o e=>base_of (KX b o e) (by
      cases q:H b with
      | none=>rfl
      | some u =>
        have e':b=a:=hA b (by rw [q]; simp)
        subst e'
        rw [hK (by rw [q]; simp)] at e; cases e)
    have hM:Mod K mg (hidT s₁.heap H):=⟨hKb,nsK hns,⟨mb,nsK hb,hbb⟩,let ⟨mc,h1,h2⟩:=hlim; ⟨mc,nsK h1,h2⟩⟩
    have e0:Env0 P w K mg (hidT s₁.heap H) callerA [] s₁ H:=⟨rfl,hM,fun b o e=>zoA e,Nat.le_of_eq (zlA _ _),trivial,fun b hb=>absurd (show b ∈ ([]:List Addr) from hb) (by simp),hok,.of_eq hg,.none hT0⟩
    refine codeAny_mono ((F _ hKb (nsK hns)).run callerA [] s₁ H ⟨[.ref a],[]⟩ [.ref a] [.ref a] _ _ hr e0 (hbind s₁ (.ref a)) (.cons rfl .nil) (hsp H hO hS)) fun r s' h=>?_
    cases r with
    | error e=>exact (hCX H e s' h).elim
    | ok fl =>
      cases fl with
      | next=>exact False.elim h
      | brk=>exact False.elim h
      | cont=>exact False.elim h
      | ret u =>
        obtain ⟨v,H',os,bare,un,hok',r',q⟩:=h
        have q':v = .bl true:=q
        subst q'
        obtain rfl:u=Value.bool true:=r'
        refine ⟨rfl,OldK.of_keep fun b o e=>?_,os,bare⟩
        cases q:H b with
        | none=>exact un.keep b o e q (by intro z; exact absurd (show b ∈ ([]:List Addr) from z) (by simp)) (by simp)
        | some u =>
          rcases hO b with z | ⟨ob,xs,z⟩
          · rw [q] at z; cases z
          · have z2:=un.frzs b ob _ z
            obtain ⟨e1,_⟩:=hok b _ z
            obtain ⟨e2,_⟩:=hok' b _ z2
            rw [e] at e1; cases e1
            exact e2
  cases hk:K.lookup a with
  | some o =>
    -- the script is one of the module's own objects
    have e:=KX a o hk
    rw [ha] at e
    cases e
    refine core (fun _=>none) (fun _=>.inl rfl) (.inr ⟨_,vs.toArray,_,hk,rfl,rfl,rfl,by rw [List.size_toArray,lenV]; exact hl,by simpa using rv⟩) (fun b u z=>by have z':(none:Option HO)=some u:=z; cases z') (fun b z=>absurd rfl z) fun z=>absurd rfl z
  | none =>
    refine core (fun b=>if b=a then some (.frz { cls:=.type "list",data:=.seq vs.toArray } (.lst (ns.map V.int))) else none) (fun b=>?_) (.inl (.inr ⟨{ cls:=.type "list",data:=.seq vs.toArray },if_pos rfl⟩)) (fun b u z=>?_) (fun b z=>?_) fun _=>hk
    · by_cases hb:b=a
      · exact .inr ⟨_,_,if_pos hb⟩
      · exact .inl (if_neg hb)
    · by_cases hb:b=a
      · have z':=(if_pos hb).symm.trans z
        cases z'
        subst hb
        exact ⟨ha,by rw [List.length_map]; exact hl,vs,_,rv,ha⟩
      · have z':=(if_neg hb).symm.trans z
        cases z'
    · by_cases hb:b=a
      · exact hb
      · exact absurd (if_neg hb) z
end L2
namespace L2
open PySem PySem.Spec PyProof.Rows
theorem walk_of {l:PySem.W.OpenLaw} {n k:Nat} {q:Program} {loose:List Str} {XP:(Str→Option Value)→Heap→Prop} {YP:World→Heap→Prop} {d:DefRec} {K:Params→PySem.W.Frag} {CX:World→CXT} {sp:World→Sp} {x:Str}
    (hn:l.most=some n) (hn2:n ≤ sizeLine) (hdf:d.params.defaults = []) (hr:Room k callerA)
    (hY:∀ (w:World) (h:Heap),YP w h→(K w.params).In h) (hT0:∀ w:World,zlr (K w.params)=none)
    (F:∀ (w:World) (mg:Str→Option Value) (fa:Addr) (h:Heap),(K w.params).In h→h.Ns mainGlobals mg→mg d.name=some (.ref fa) →
      ∃ fd:FuncData,(∀ (s:Shared) (u:Value),BindsTo s fd ⟨[u],[]⟩ [(x,u)]) ∧
        ∀ base:Heap,(K w.params).In base→base.Ns mainGlobals mg→FnOk l.prog w (K w.params) mg base (CX w) k fa fd [x] (sp w))
    (hsp:∀ (w:World) (H:Hp) (a:Addr) (ns:List Int),ns.length ≤ n→Only H→SqL (K w.params) H a (ns.map V.int)→sp w [.ref a] H (fun v _=>v = .bl true) fun _ _ _=>False)
    (hCX:∀ (w:World) (H:Hp) (s:Shared) (e:Value) (s':Shared),CX w [] H s (fun _ _ _=>False) e s'→False) :
    PySem.W.WalkO q loose XP YP l.row.toRowW d [] (fun f vs=>PySem.call f vs):=by
  refine Att.attach_call hn hdf fun w s₀ s₁ mg mb fa o pm cd doc a vs ns G Y ho hd hcd hmg hobj hints hlen hg=>?_
  have KX:=hY w _ Y
  obtain ⟨fd,hb,hF⟩:=F w mg fa _ KX G.T.g hmg
  exact zlV KX (hT0 w) G.T.g G.T.b G.T.builtins G.T.nolimit hg hobj hints (Nat.le_trans hlen hn2) hr hF hb (fun H hO hS=>hsp w H a ns hlen hO hS) fun H e s'=>hCX w H s₁ e s'
end L2
namespace L2
open PySem PySem.Spec PyProof.Rows
def zde (s:Stmt) (j:Nat):Stmt:=match s with
  | .ClassDef _ _ _ body _ _ _ _ _ _ _=>body.getD j (.Pass ⟨0,0,0,0⟩)
  | _=>.Pass ⟨0,0,0,0⟩
def zbU (s:Stmt):Arguments:=match s with
  | .FunctionDef _ a _ _ _ _ _ _ _ _=>a
  | _=>{ posonlyargs:=[],args:=[],vararg:=none,kwonlyargs:=[],kw_defaults:=[],kwarg:=none,defaults:=[] }
def zbu (s:Stmt):List Stmt:=match s with
  | .FunctionDef _ _ b _ _ _ _ _ _ _=>b
  | _=>[]
def zah (s:Stmt):Scope:=match s with
  | .FunctionDef _ _ _ _ _ _ sc _ _ _=>sc
  | _=>{ kind:=.function,names:=[],isGenerator:=false,isCoroutine:=false }
abbrev CX0:CXT:=fun _ _ _ _ _ _=>False
abbrev E0:XK:=fun _ _ _=>False
theorem zbA {X:Cx}:zcJ CX0 X E0:=fun _ _ _ _ _ _ _ h=>h.elim
structure Fun (K:PySem.W.Frag) (x qual:Str) (st:Stmt) (f:Addr) (fd:FuncData):Prop where
  ex:∃ (oc:Value) (od:Option Addr) (kV doc pm:Value) (an:Option Addr) (cdv ct:Value) (osl:Array (Option Value)),
    fd=PySem.W.fnOf x qual (zbU st) (zbu st) (zah st) .none kV doc pm an cdv ct∧K.lookup f=some ⟨oc,od,.func fd,osl⟩∧PySem.W.codeIn K cdv qual=true
  kp:PySem.W.keepIn K (.ref f)=true
section
variable {P:Program} {w:World} {K:PySem.W.Frag} {mg:Str→Option Value} {base:Heap}
theorem Fun.ok {x qual:Str} {st:Stmt} {f:Addr} {fd:FuncData} {N ps:List Str} {k:Nat} {sp:Sp} (F:Fun K x qual st f fd) (S:FnScope N ps (zah st)) (len:∀ vs H Q E,sp vs H Q E→vs.length=ps.length)
    (hbody:∀ (cdv:Value) (A:Around) (outer:List Env) (s:Shared) (H:Hp) (vs:List V) (Q:VK) (E:XK),Room k (A.deeper (envOfC qual (zah st) s.heap.objs.size f cdv))→sp vs H Q E →
      ∃ t,PSs (cxOf CX0 P w K mg base N qual (zah st) f cdv A outer s H E).nox (zbu st) t∧t { nx:=fun _ H'=>Q .non H',rt:=Q } (start N vs) H):FnOk P w K mg base CX0 (k + 1) f fd ps sp:=by
  obtain ⟨oc,od,kV,doc,pm,an,cdv,ct,osl,rfl,lk,hcd⟩:=F.ex
  refine zn6 lk hcd S len fun A outer s H vs Q E hr hsp=>?_
  obtain ⟨t,h,q⟩:=hbody cdv A outer s H vs Q E hr hsp
  exact ⟨t,h.nox,q⟩
theorem Fun.binds {x qual:Str} {st:Stmt} {f:Addr} {fd:FuncData} {ps:List Str} (F:Fun K x qual st f fd)
    (h:∀ (kV doc pm:Value) (an:Option Addr) (cdv ct:Value) (us:List Value),us.length=ps.length→bindArgs (PySem.W.fnOf x qual (zbU st) (zbu st) (zah st) .none kV doc pm an cdv ct) ⟨us,[]⟩=pure (ps.zip us)):Binds K fd ps []:=by
  obtain ⟨oc,od,kV,doc,pm,an,cdv,ct,osl,rfl,lk,hcd⟩:=F.ex
  exact .all (h kV doc pm an cdv ct)
theorem zi2 {x qual:Str} {st:Stmt} {f:Addr} {oc:Value} {od an:Option Addr} {osl:Array (Option Value)} {kV doc pm cdv ct:Value} (l:K.lookup f=some ⟨oc,od,.func (PySem.W.fnOf x qual (zbU st) (zbu st) (zah st) .none kV doc pm an cdv ct),osl⟩)
    (c:PySem.W.codeIn K cdv qual=true) (k:PySem.W.keepIn K (.ref f)=true):Fun K x qual st f (PySem.W.fnOf x qual (zbU st) (zbu st) (zah st) .none kV doc pm an cdv ct):=⟨⟨oc,od,kV,doc,pm,an,cdv,ct,osl,rfl,l,c⟩,k⟩
end
theorem zcn {A:Around} {k:Nat} (hr:Room k A):A.units + 1 < cLine:=Nat.lt_of_le_of_lt (Nat.add_le_add_left (by decide:1 ≤ 64) _) hr.units
section
variable {X:Cx}
theorem pv (i:Nat) {x:Str} {pos:Pos} (hN:X.N[i]?=some x:=by rfl) (hv:Vis X.env.scope x:=by first | exact Or.inl rfl | exact Or.inr (Or.inl rfl) | exact Or.inr (Or.inr rfl)) (hd:(x == ("__debug__" : Str))=false:=by decide)
    (hcd:(x == ("__classdict__" : Str))=false:=by decide):PE X (.Name x pos) (tVar i):=zpK hN hv hd hcd
end
def Same (H H':Hp):Prop:=∀ b o,H b=some o→H' b=some o
theorem Same.refl (H:Hp):Same H H:=fun _ _ h=>h
theorem Same.trans {H H1 H2:Hp} (a:Same H H1) (b:Same H1 H2):Same H H2:=fun c o h=>b c o (a c o h)
theorem Same.free {H H':Hp} (e:Same H H') {l:Addr} (h:H' l=Option.none):H l=Option.none:=by
  cases q:H l with
  | none=>rfl
  | some o =>
    rw [e l o q] at h
    cases h
theorem Same.seq {K:PySem.W.Frag} {H H':Hp} {a:Addr} {xs:List V} (e:Same H H') (h:SqL K H a xs):SqL K H' a xs:=by
  rcases h with (h | ⟨o,h⟩) | h
  · exact .inl (.inl (e _ _ h))
  · exact .inl (.inr ⟨o,e _ _ h⟩)
  · exact .inr h
section
variable {κ:Type} [DecidableEq κ]
end
end L2
namespace L2
open PySem PySem.Spec PyProof.Rows
def Fit (i:Int):Prop:=i.natAbs < 2 ^ 8000
theorem log2_lt {n k:Nat} (hk:0 < k) (h:n < 2 ^ k):n.log2 < k:=by
  by_cases h0:n=0
  · subst h0; simpa using hk
  · exact (Nat.log2_lt h0).mpr h
theorem Fit.log {i:Int} (h:Fit i):i.natAbs.log2 < 8000:=log2_lt (by decide) h
theorem Fit.bits {i:Int} (h:Fit i):Builtin.Int.intBits i ≤ 2 ^ 20:=by
  have h1:=h.log
  have h2:(8000:Nat) ≤ 2 ^ 20:=by decide
  unfold Builtin.Int.intBits
  split <;> omega
section
variable {X:Cx}
theorem zh8:OpR X (binaryOp .Mult) (rI (fun i j=>Fit i∧Fit j) fun i j=>.int (i * j)):=opI fun _ _ _ _ _ _ _ hc q=>mul_int q (.of_bits hc.1.bits hc.2.bits)
theorem zb1:OpR X (binaryOp .FloorDiv) (rI (fun _ j=>j ≠ 0∧Fit j) fun i j=>.int (i.fdiv j)):=opI fun _ _ _ _ _ _ _ hc q =>
  floordiv_int hc.1 q (.inl (PyProof.noPylong_of_log2 (Nat.lt_trans hc.2.log (by decide))))
end
def clsV:V→Option Value
  | .ty n=>some (.type n)
  | .ref a=>some (.ref a)
  | _=>none
section
variable {X:Cx}
theorem zmt {c:V} {cv u:Value} (h:clsV c=some cv) (r:RelV c u):u=cv:=by
  cases c with
  | ty n=>cases h; exact r
  | ref a=>cases h; exact r
  | _=>cases h
end
def Ite (K:PySem.W.Frag) (a:Addr):It :=
  ⟨fun i H=>∃ xs x,SqL K H a xs∧xs[i]?=some x,fun i H x H'=>∃ p y,x = .ref p∧H p=none∧H'=upd H p (.tup [.int i,y])∧∀ xs,SqL K H a xs→xs[i]?=some y,fun i H=>∃ xs,SqL K H a xs∧xs.length ≤ i⟩
theorem zkD {P:Program} {w:World} {K:PySem.W.Frag} {es:List Expr} {k} {pos:Pos} (a e it:Addr) (hne:e ≠ it) :
    Turn P w K (.Tuple es k pos) (Ite K a) [e,it] e (fun i h=>(∃ old,IsEnum h e it i old)∧h.IsListIter it a i) where
  mem:=by simp
  obj:=fun i h st b hb=>by
    obtain ⟨⟨old,h1⟩,o,h2,c,d⟩:=st
    rcases List.mem_cons.mp hb with rfl | hb
    · exact ⟨_,h1,fun v z=>by cases (show Data.fields _=Data.cell v from z)⟩
    · have e':b=it:=by simpa using hb
      subst e'
      exact ⟨o,h2,fun v z=>by rw [d] at z; cases z⟩
  keep:=fun i h h' st k=>by
    obtain ⟨⟨old,h1⟩,h2⟩:=st
    exact ⟨⟨old,k e (by simp) _ h1⟩,h2.at fun o q=>k it (by simp) o q⟩
  item:=by
    intro X hP hw hK hc i pins s σ H E I hf st hg
    subst hP hw hK
    obtain ⟨xs,x,hq,hx⟩:=hg
    obtain ⟨its,rv,p,hz⟩:=I.list hq
    obtain ⟨u,hu,ru⟩:=rv.get hx
    obtain ⟨⟨old,he⟩,hit⟩:=st
    obtain ⟨f0,f1,f2,f3,f4,f5⟩:=hf e (by simp)
    obtain ⟨g0,g1,g2,g3,g4,g5⟩:=hf it (by simp)
    have hT:H s.heap.objs.size=none:=I.hok.fresh (Nat.le_refl _)
    have eT:e ≠ s.heap.objs.size:=Nat.ne_of_lt (Heap.lt_size he)
    have iT:it ≠ s.heap.objs.size:=by obtain ⟨_,z,_⟩:=hit; exact Nat.ne_of_lt (Heap.lt_size z)
    refine wpAny_pyNext_enum_item he hit p.isList (x:=u) (by simpa using hu) hne fun h' ho hit' ht hsz hk=>⟨_,rfl,?_⟩
    refine wpAny_letOwnedTupleGo_enum ho fun h'' he'' hs''=>?_
    have hs2:Heap.SameBut e h' h'':=hs''
    have ht2:h''.get? s.heap.objs.size=some { cls:=.type "tuple",data:=.seq #[.int i s.toks,u] }:=(hs2.2 _ eT.symm).trans ht
    have hk2:∀ b o,b ≠ e→b ≠ it→s.heap.get? b=some o→h''.get? b=some o:=fun b o z1 z2 q=>(hs2.2 b z1).trans (hk b o z1 z2 q)
    have nH:∀ b o,H b=some o→b ≠ e∧b ≠ it:=fun b o q=>⟨(fun z=>by rw [z,f0] at q; cases q),(fun z=>by rw [z,g0] at q; cases q)⟩
    refine ⟨.ref s.heap.objs.size,upd H s.heap.objs.size (.tup [.int i,x]),?_,rfl,⟨_,x,rfl,hT,rfl,fun ys hy=>by rw [I.list_inj hy hq]; exact hx⟩,⟨⟨_,by simpa using he''⟩,hit'.at fun o q=>(hs2.2 it hne.symm).trans q⟩,fun b hb=>?_⟩
    · show Inv X pins σ (upd H s.heap.objs.size (.tup [.int i,x])) { s with heap:=h'',toks:=s.toks + 1 }
      refine I.step (h':=h'') (g':=s.gens) (d':=s.drawn) (t':=s.toks + 1) (ch:=[e,it]) (fun b hb=>?_) (fun b o _ _ hb q _=>?_) (fun b o _ _ hb q _=>⟨o.slots,?_⟩) (fun b o hb q n=>?_) (fun b o hb q=>⟨o,?_⟩) (fun b ys q=>?_) (fun b o ys q=>?_) (fun b ps q=>⟨#[],?_⟩) (fun m hm=>?_) ?_ I.bare
      · rcases List.mem_cons.mp hb with rfl | hb
        · exact ⟨f3,f1,f4,f5⟩
        · have z:b=it:=by simpa using hb
          subst z
          exact ⟨g3,g1,g4,g5⟩
      · exact hk2 b o (fun z=>hb (by simp [z])) (fun z=>hb (by simp [z])) q
      · exact hk2 b o (fun z=>hb (by simp [z])) (fun z=>hb (by simp [z])) q
      · rw [zag (Nat.ne_of_lt (Heap.lt_size q))]; exact n
      · exact hk2 b o (fun z=>hb (by simp [z])) (fun z=>hb (by simp [z])) q
      · rw [zag (zak q hT)]; exact q
      · rw [zag (zak q hT)]; exact q
      · rw [zag (zak q hT),q]; simp
      · obtain ⟨o,es',ep,ho',r⟩:=hm
        exact ⟨o,es',ep,hk2 _ o (Ne.symm f1) (Ne.symm g1) ho',r⟩
      · intro b o q
        by_cases hb:b=s.heap.objs.size
        · subst hb
          rw [zai] at q; cases q
          exact ⟨by show 2 ≤ sizeLine; decide,[.int i s.toks,u],.cons ⟨_,rfl⟩ (.cons ru .nil),⟨_,ht2,rfl,_,rfl⟩⟩
        · rw [zag hb] at q
          refine (I.hok b o q).stay (fun c v hc' q'=>?_) (fun c q'=>by rw [zag (zak q' hT)]; exact q') fun c ys q'=>by rw [zag (zak q' hT)]; exact q'
          rcases hc' with rfl | hc'
          · exact hk2 _ v (nH _ _ q).1 (nH _ _ q).2 q'
          · exact hk2 _ v (nH _ _ hc').1 (nH _ _ hc').2 q'
    · rcases List.mem_cons.mp hb with rfl | hb
      · rw [zag eT]; exact f0
      · have z:b=it:=by simpa using hb
        subst z
        rw [zag iT]; exact g0
  done:=by
    intro X hP hw hK hc i pins s σ H E I hf st hg
    subst hP hw hK
    obtain ⟨xs,hq,hx⟩:=hg
    obtain ⟨its,rv,p,hz⟩:=I.list hq
    obtain ⟨⟨old,he⟩,hit⟩:=st
    obtain ⟨g0,g1,g2,g3,g4,g5⟩:=hf it (by simp)
    have hl:=rv.length
    exact wpAny_pyNext_enum_end (I.ok.hd hc) he hit p.isList (by simp; omega) fun h' eb=>⟨rfl,I.turned (t':=s.toks) (fun b o hb q=>eb b o hb q) g0 g1 g3 g4 g5⟩
  self:=fun _ _ _ _ _ st h=>by
    obtain ⟨⟨old,he⟩,_⟩:=st
    exact wpAny_pyIter_enum he h
section
variable {X:Cx}
def zoQ (K:PySem.W.Frag) (ta:TA):TI:=fun σ H R=>ta σ H fun vs H1=>∃ a,vs = [.ref a]∧(∃ xs,SqL K H1 a xs)∧R (Ite K a) H1
theorem zj2 {es:List Expr} {k} {tp:Pos} {l:Expr} {ta:TA} {p pos:Pos} (hg:Gl X "enumerate") (hm:X.mg "enumerate"=none) (ha:PA X [l] ta) (hs:starEach [l] X.env = [(false,eval l X.env)]:=by rfl) :
    PI X (.Tuple es k tp) (.Call (.Name "enumerate" p) [l] [] pos) (zoQ X.K ta):=by
  intro pins s σ H R I h
  refine Call_ (zeh I hg hm boot_enumerate (PyProof.Rows.callWith_type1 (thn (ha pos pins s σ H _ I h) fun us s1 ⟨vs,H1,I1,r1,q1⟩=>?_) hs rfl))
  obtain ⟨a,e,⟨xs,hq⟩,q⟩:=q1
  subst e
  obtain ⟨u,rfl,rx⟩:=zgq r1
  cases rx
  obtain ⟨its,rv,pl,hz⟩:=I1.list hq
  refine call_enumerate_list pl.isList fun h' he hit hsz hk=>?_
  have I2:Inv X pins σ H1 { s1 with heap:=h' }:=I1.kept (t':=s1.toks) hk
  have hne:s1.heap.objs.size + 1 ≠ s1.heap.objs.size:=by omega
  refine wpAny_pyIter_enum he ⟨s1.heap.objs.size + 1,[s1.heap.objs.size + 1,s1.heap.objs.size],_,_,H1,rfl,I2,zkD a _ _ hne,⟨⟨_,he⟩,hit⟩,fun b hb=>?_,q⟩
  have hb':s1.heap.objs.size ≤ b:=by
    rcases List.mem_cons.mp hb with rfl | hb
    · omega
    · have z:b=s1.heap.objs.size:=by simpa using hb
      exact Nat.le_of_eq z.symm
  exact I1.fpOk hb' (I1.hok.fresh hb')
end
end L2
namespace L2
open PySem PySem.Spec PyProof.Rows
theorem zeX {env:Env}:∀ (names:List (Str × NameKind)) (acc:List (Str × Addr)),(∀ y ∈ names,y.2 = .free→∃ c,env.cells.lookup y.1=some c) →
    ∃ cl,(forIn (m:=Sem) names acc fun (x:Str × NameKind) (cs:List (Str × Addr))=>if (x.2 == NameKind.free)=true then do let c ← cellOf env x.1; pure (ForInStep.yield ((x.1,c) :: cs)) else pure (ForInStep.yield cs))=pure cl ∧
      (∀ p ∈ cl,p ∈ acc∨env.cells.lookup p.1=some p.2)∧(∀ p ∈ acc,p ∈ cl)∧∀ y ∈ names,y.2 = .free→∃ c,(y.1,c) ∈ cl
  | [],acc,_=>⟨acc,by simp,fun p hp=>.inl hp,fun p hp=>hp,fun y hy=>by cases hy⟩
  | (n,k) :: r,acc,h=>by
    by_cases hk:k = .free
    · subst hk
      obtain ⟨c,hc⟩:=h (n,.free) List.mem_cons_self rfl
      obtain ⟨cl,e,h1,h2,h3⟩:=zeX r ((n,c) :: acc) fun y hy=>h y (List.mem_cons_of_mem _ hy)
      refine ⟨cl,?_,fun p hp=>?_,fun p hp=>h2 p (List.mem_cons_of_mem _ hp),fun y hy hf=>?_⟩
      · have hco:cellOf env n=pure c:=by unfold cellOf; rw [hc]
        rw [List.forIn_cons]
        simp only [beq_self_eq_true,if_true,hco,pure_bind]
        exact e
      · rcases h1 p hp with z | z
        · rcases List.mem_cons.mp z with rfl | z
          · exact .inr hc
          · exact .inl z
        · exact .inr z
      · rcases List.mem_cons.mp hy with rfl | hy
        · exact ⟨c,h2 _ List.mem_cons_self⟩
        · exact h3 y hy hf
    · obtain ⟨cl,e,h1,h2,h3⟩:=zeX r acc fun y hy=>h y (List.mem_cons_of_mem _ hy)
      refine ⟨cl,?_,h1,h2,fun y hy hf=>?_⟩
      · have hb:(k == NameKind.free)=false:=by simpa using hk
        rw [List.forIn_cons]
        simp only [hb,Bool.false_eq_true,if_false,pure_bind]
        exact e
      · rcases List.mem_cons.mp hy with rfl | hy
        · exact absurd hf hk
        · exact h3 y hy hf
theorem zeT {f:Str→Option Addr}:∀ {cl:List (Str × Addr)} {x:Str} {c:Addr},(∀ p ∈ cl,f p.1=some p.2)→(x,c) ∈ cl→cl.lookup x=some c
  | [],_,_,_,h=>by cases h
  | (n,d) :: r,x,c,h,hm=>by
    rw [List.lookup_cons]
    cases e:x == n with
    | true =>
      have e':x=n:=by simpa using e
      subst e'
      have z1:=h (x,d) List.mem_cons_self
      have z2:=h (x,c) hm
      rw [z1] at z2
      simpa using z2
    | false =>
      rcases List.mem_cons.mp hm with z | z
      · cases z; simp at e
      · exact zeT (fun p hp=>h p (List.mem_cons_of_mem _ hp)) z
theorem zeQ {scope:Scope} {env:Env} (h:∀ y ∈ scope.names,y.2 = .free→∃ c,env.cells.lookup y.1=some c) :
    ∃ cl,closureFor scope env=pure cl∧(∀ x c,cl.lookup x=some c→env.cells.lookup x=some c)∧∀ y ∈ scope.names,y.2 = .free→cl.lookup y.1=env.cells.lookup y.1:=by
  obtain ⟨cl,e,h1,_,h3⟩:=zeX scope.names [] h
  have all:∀ p ∈ cl,env.cells.lookup p.1=some p.2:=fun p hp=>(h1 p hp).elim (fun z=>by cases z) id
  refine ⟨cl,?_,fun x c z=>all (x,c) (PySem.mem_of_lookup z),fun y hy hf=>?_⟩
  · simp only [closureFor]
    rw [e]
    rfl
  · obtain ⟨c,hc⟩:=h3 y hy hf
    rw [all _ hc]
    exact zeT (f:=fun x=>env.cells.lookup x) all hc
end L2
namespace L2
open PySem PySem.Spec PyProof.Rows
section
variable {prog:Program} {w:World} {A:Around} {R:Result→Shared→Prop} {s:Shared}
theorem zhx {elt target iter:Expr} {ifs:List Expr} {scope:Scope} {pos:Pos} {it acc:Value} {env:Env} (I:Nat→Shared→Prop)
    (turn:∀ n s,I n s→wpAny (model prog w) A (pyNext it) (fun r s₁=>match r with
      | none=>R (.ok .next) s₁
      | some v=>wpAny (model prog w) A (letOwnedTupleGo target it v) (fun _ s₁'=>wpAny (model prog w) A (assign target env v) (fun _ s₂ =>
          wpAny (model prog w) A (forIn ifs true fun c r=>if r=true then do let ok ← isTrue c env (eval c env); pure (ForInStep.yield ok) else pure (ForInStep.yield r)) (fun ok s₃ =>
            if ok=true then wpAny (model prog w) A (eval elt env) (fun x s₄ =>
              wpAny (model prog w) A (call (.builtin "list.append") [acc,x]) (fun _ s₅=>∃ m,m < n∧I m s₅) (fun _ _=>False) s₄) (fun _ _=>False) s₃
            else ∃ m,m < n∧I m s₃) (fun _ _=>False) s₂) (fun _ _=>False) s₁') (fun _ _=>False) s₁) (fun _ _=>False) s)
    (n:Nat) (h:I n s) :
    codeAny (model prog w) A (.compLoop (.ListComp elt [⟨target,iter,ifs,0⟩] scope pos) 0 it acc env) R s:=by
  refine codeAny_loop rfl I (fun n s hI=>?_) n h
  show wpAny _ A ((compTurn (.ListComp elt [⟨target,iter,ifs,0⟩] scope pos) 0 it acc env).onRaise (fun x=>do noteFrame x env; theTreesLotGoes x)) _ _ s
  refine wpAny_noted ?_
  rw [compTurn_list]
  refine wpAny_bind (wpAny_standAt (wpAny_bind (wpAny_mono (turn n s hI) (fun r s₁ h₁=>?_) fun _ _ h'=>h'.elim)))
  cases r with
  | none=>exact wpAny_pure h₁
  | some v =>
    refine wpAny_bind (wpAny_mono h₁ (fun _ s₁' h₁'=>?_) fun _ _ h'=>h'.elim)
    refine wpAny_bind (wpAny_mono h₁' (fun _ s₂ h₂=>wpAny_bind (wpAny_mono h₂ (fun ok s₃ h₃=>?_) fun _ _ h'=>h'.elim)) fun _ _ h'=>h'.elim)
    cases ok with
    | false=>exact wpAny_pure ⟨rfl,h₃⟩
    | true =>
      exact wpAny_bind (wpAny_bind (wpAny_mono h₃ (fun x s₄ h₄=>wpAny_bind (wpAny_mono h₄ (fun _ s₅ h₅=>wpAny_pure (wpAny_pure ⟨rfl,h₅⟩)) fun _ _ h'=>h'.elim)) fun _ _ h'=>h'.elim))
end
def Cx.comp (X:Cx) (scope:Scope) (cl:List (Str × Addr)) (C:Addr) (N':List Str) (s:Shared) (H:Hp) (fp:List Addr) (pins:List (Addr × Obj)):Cx :=
  { X with N:=N',s₀:=s,H₀:=H,env:=compEnvC scope cl C X.env,outer:=X.stack,stack:=X.stack,ex:=fp,fn:=fun x=>scope.names.lookup x == some .cell,pn:=X.pn ++ pins,xe:=fun _ _=>False }
def zcw (σ:St) (ix:List Nat) (n:Nat):St:=ix.map (fun i=>(σ[i]?).getD none) ++ List.replicate n none
def zlJ:Option TT→TT
  | none=>fun _ H Q=>Q true H
  | some t=>t
def zoW (D:Addr) (J:It) (g:TG) (tc:Option TT) (te:TE) (Q:VK) (σ0:St) (H0:Hp):Prop :=
  ∃ W:Nat→Nat→List V→St→Hp→Prop,(∃ m,W 0 m [] σ0 H0)∧∀ i m ys σ2 H2,W i m ys σ2 H2→H2 D=some (.lst ys) ∧
    ((J.stop i H2∧Q (.ref D) H2)∨(J.go i H2∧∃ N:List V→St→Hp→Prop,(∀ ys' σ' H',N ys' σ' H'→∃ m',m' < m∧W (i + 1) m' ys' σ' H') ∧
      ∀ x H',J.yld i H2 x H'→g x σ2 H' fun σ3 H3=>zlJ tc σ3 H3 fun b H4=>if b=true then te σ3 H4 fun y H5=>H5 D=some (.lst ys)∧ys.length < sizeLine∧N (ys ++ [y]) σ3 (upd H5 D (.lst (ys ++ [y]))) else N ys σ3 H4))
def zlU (wi:TI) (ix:List Nat) (n:Nat) (g:TG) (tc:Option TT) (te:TE):TE:=fun σ H Q=>wi σ H fun J H1=>∀ D,H1 D=none→zoW D J g tc te Q (zcw σ ix n) (upd H1 D (.lst []))
structure CompOk (X:Cx) (scope:Scope) (N':List Str) (ix:List Nat) (n:Nat) (tg elt:Expr) (ifs:List Expr) (g:TG) (tc:Option TT) (te:TE):Prop where
  kind:scope.kind = .function
  nocell:∀ y ∈ scope.names,y.2 = .free→(y.1,NameKind.cell) ∉ scope.names
  names:∀ y ∈ scope.names,y.2 = .local→scope.names.lookup y.1=some .local
  free:∀ y ∈ scope.names,y.2 = .free→X.env.kindOf y.1=some .cell∨X.env.kindOf y.1=some .free
  len:ix.length + n=N'.length
  take:∀ (j i:Nat),ix[j]?=some i→∃ x,N'[j]?=some x∧X.N[i]?=some x∧scope.names.lookup x=some .free
  tgt:∀ (cl:List (Str × Addr)) (C:Addr) (s:Shared) (H:Hp) (fp:List Addr) (pins:List (Addr × Obj)),PG (X.comp scope cl C N' s H fp pins) tg g
  elt:∀ (cl:List (Str × Addr)) (C:Addr) (s:Shared) (H:Hp) (fp:List Addr) (pins:List (Addr × Obj)),PE (X.comp scope cl C N' s H fp pins) elt te
  test:(ifs = []∧tc=none)∨∃ c t,ifs = [c]∧tc=some t∧∀ (cl:List (Str × Addr)) (C:Addr) (s:Shared) (H:Hp) (fp:List Addr) (pins:List (Addr × Obj)),PT (X.comp scope cl C N' s H fp pins) c t
theorem zcx {env:Env}:∀ {names:List (Str × NameKind)} {x:Str},names.lookup x=some .free →
    (names.map fun (n,k)=>if (k == NameKind.free && env.scope.kind == .function && env.kindOf n == some .cell) then (n,NameKind.cell) else (n,k)).lookup x=some .cell ∨
    (names.map fun (n,k)=>if (k == NameKind.free && env.scope.kind == .function && env.kindOf n == some .cell) then (n,NameKind.cell) else (n,k)).lookup x=some .free
  | [],_,h=>by simp at h
  | (n,k) :: r,x,h=>by
    have ih:=@zcx env r x
    show List.lookup x ((if (k == NameKind.free && env.scope.kind == .function && env.kindOf n == some .cell)=true then (n,NameKind.cell) else (n,k)) :: _)=_∨List.lookup x ((if (k == NameKind.free && env.scope.kind == .function && env.kindOf n == some .cell)=true then (n,NameKind.cell) else (n,k)) :: _)=_
    cases hx:x == n with
    | true =>
      simp only [List.lookup_cons,hx] at h
      cases h
      by_cases hc:(NameKind.free == NameKind.free && env.scope.kind == .function && env.kindOf n == some .cell)=true
      · rw [if_pos hc]; left; simp only [List.lookup_cons,hx]
      · rw [if_neg hc]; right; simp only [List.lookup_cons,hx]
    | false =>
      simp only [List.lookup_cons,hx] at h
      by_cases hc:(k == NameKind.free && env.scope.kind == .function && env.kindOf n == some .cell)=true
      · rw [if_pos hc]; simp only [List.lookup_cons,hx]; exact ih h
      · rw [if_neg hc]; simp only [List.lookup_cons,hx]; exact ih h
theorem zfk {env:Env}:∀ {names:List (Str × NameKind)} {x:Str},
    ((names.map fun (n,k)=>if (k == NameKind.free && env.scope.kind == .function && env.kindOf n == some .cell) then (n,NameKind.cell) else (n,k)).lookup x=some .cell ∨
    (names.map fun (n,k)=>if (k == NameKind.free && env.scope.kind == .function && env.kindOf n == some .cell) then (n,NameKind.cell) else (n,k)).lookup x=some .free)→(x,NameKind.free) ∈ names∨(names.lookup x=some .cell∧(x,NameKind.cell) ∈ names)
  | [],_,h=>by simp at h
  | (n,k) :: r,x,h=>by
    have ih:=@zfk env r x
    cases hx:x == n with
    | true =>
      have e:x=n:=by simpa using hx
      subst e
      by_cases hc:(k == NameKind.free && env.scope.kind == .function && env.kindOf x == some .cell)=true
      · have hk:k = .free:=by
          have:(k == NameKind.free)=true:=by
            simp only [Bool.and_eq_true] at hc
            exact hc.1.1
          simpa using this
        subst hk
        exact .inl List.mem_cons_self
      · rw [List.map_cons] at h
        have e2:(match (x,k) with | (n,k)=>if (k == NameKind.free && env.scope.kind == .function && env.kindOf n == some .cell)=true then (n,NameKind.cell) else (n,k))=(x,k):=if_neg hc
        rw [e2] at h
        simp only [List.lookup_cons,beq_self_eq_true] at h
        rcases h with h | h
        · cases h; exact .inr ⟨by simp only [List.lookup_cons,beq_self_eq_true],List.mem_cons_self⟩
        · cases h; exact .inl List.mem_cons_self
    | false =>
      refine (ih ?_).imp (List.mem_cons_of_mem _) fun z=>⟨by simp only [List.lookup_cons,hx]; exact z.1,List.mem_cons_of_mem _ z.2⟩
      rw [List.map_cons] at h
      by_cases hc:(k == NameKind.free && env.scope.kind == .function && env.kindOf n == some .cell)=true
      · have e2:(match (n,k) with | (n,k)=>if (k == NameKind.free && env.scope.kind == .function && env.kindOf n == some .cell)=true then (n,NameKind.cell) else (n,k))=(n,NameKind.cell):=if_pos hc
        rw [e2] at h
        simpa only [List.lookup_cons,hx] using h
      · have e2:(match (n,k) with | (n,k)=>if (k == NameKind.free && env.scope.kind == .function && env.kindOf n == some .cell)=true then (n,NameKind.cell) else (n,k))=(n,k):=if_neg hc
        rw [e2] at h
        simpa only [List.lookup_cons,hx] using h
theorem zds {x:Str} {c:Addr}:∀ (names:List (Str × NameKind)) (n:Nat) (acc:List (Str × Addr)),(x,NameKind.cell) ∈ names→(cellsFrom n names acc).lookup x=some c→(∀ y,acc.lookup x=some y→n ≤ y∨True)→n ≤ c
  | [],_,_,h,_,_=>by cases h
  | (y,k) :: r,n,acc,h,e,_=>by
    unfold cellsFrom at e
    by_cases hr:(x,NameKind.cell) ∈ r
    · split at e
      · exact Nat.le_of_succ_le (zds r (n + 1) _ hr e fun _ _=>.inr trivial)
      · exact zds r n _ hr e fun _ _=>.inr trivial
    · rcases List.mem_cons.mp h with z | z
      · cases z
        rw [if_pos (by rfl)] at e
        have key:∀ (r:List (Str × NameKind)) (n':Nat) (acc:List (Str × Addr)),(x,NameKind.cell) ∉ r→(cellsFrom n' r acc).lookup x=acc.lookup x:=by
          intro r
          induction r with
          | nil=>intro _ _ _; rfl
          | cons p r ih =>
            intro n' acc hp
            obtain ⟨y',k'⟩:=p
            unfold cellsFrom
            split
            · rename_i hk
              have hk':k' = .cell:=by simpa using hk
              subst hk'
              have ne:¬ x=y':=fun z=>hp (by rw [z]; exact List.mem_cons_self)
              rw [ih _ _ fun z=>hp (List.mem_cons_of_mem _ z),List.lookup_cons,show (x == y')=false by simpa using ne]
            · exact ih _ _ fun z=>hp (List.mem_cons_of_mem _ z)
        rw [key r _ _ hr] at e
        simp only [List.lookup_cons,beq_self_eq_true] at e
        cases e; exact Nat.le_refl _
      · exact absurd z hr
theorem zcm {x:Str}:∀ (names:List (Str × NameKind)) (n:Nat) (acc:List (Str × Addr)),(x,NameKind.cell) ∉ names→(cellsFrom n names acc).lookup x=acc.lookup x
  | [],_,_,_=>rfl
  | (y,k) :: r,n,acc,h=>by
    unfold cellsFrom
    split
    · rename_i hk
      have hk':k = .cell:=by simpa using hk
      subst hk'
      have ne:¬ x=y:=fun z=>h (by rw [z]; exact List.mem_cons_self)
      rw [zcm r _ _ fun z=>h (List.mem_cons_of_mem _ z),List.lookup_cons,show (x == y)=false by simpa using ne]
    · exact zcm r _ _ fun z=>h (List.mem_cons_of_mem _ z)
theorem zdq:∀ (names:List (Str × NameKind)) (n:Nat) (acc:List (Str × Addr)),(∀ x c,acc.lookup x=some c→c < n)→(∀ x y c,acc.lookup x=some c→acc.lookup y=some c→x=y) →
    ∀ x y c,(cellsFrom n names acc).lookup x=some c→(cellsFrom n names acc).lookup y=some c→x=y
  | [],_,_,_,h=>h
  | (z,k) :: r,n,acc,h1,h2=>by
    unfold cellsFrom
    split
    · have lk:∀ x c,((z,n) :: acc).lookup x=some c→(x=z∧c=n)∨acc.lookup x=some c:=fun x c h=>by
        rw [List.lookup_cons] at h
        cases hb:x == z with
        | true=>rw [hb] at h; cases h; exact .inl ⟨by simpa using hb,rfl⟩
        | false=>rw [hb] at h; exact .inr h
      refine zdq r (n + 1) _ (fun x c h=>?_) fun x y c e1 e2=>?_
      · rcases lk x c h with ⟨_,z⟩ | z
        · rw [z]; exact Nat.lt_succ_self _
        · exact Nat.lt_succ_of_lt (h1 x c z)
      · rcases lk x c e1 with ⟨a1,a2⟩ | a <;> rcases lk y c e2 with ⟨b1,b2⟩ | b
        · rw [a1,b1]
        · have:=h1 y c b; rw [a2] at this; exact absurd this (Nat.lt_irrefl _)
        · have:=h1 x c a; rw [b2] at this; exact absurd this (Nat.lt_irrefl _)
        · exact h2 x y c a b
    · exact zdq r n acc h1 h2
theorem zic {M:Model} {A:Around} {E:Value→Shared→Prop} {s:Shared} {scope:Scope} {globals:Addr} {cl:List (Str × Addr)} {qual:Str} {env:Env} {Q:Env→Shared→Prop}
    (hQ:Q (newEnv scope s.heap.objs.size globals (cellsFrom (s.heap.objs.size + 1) scope.names cl) qual none .none (some env) builtinsNs) { s with heap:=pushCells (s.heap.push { cls:=.type "dict",data:=.dict #[] }) scope.names }) :
    wpAny M A (newFunctionEnv scope globals cl [] qual none .none (some env)) Q E s:=by
  simp only [newFunctionEnv,Option.isSome_some,if_true]
  refine wpAny_bind (wpAny_alloc ?_)
  refine wpAny_bind (wpAny_layCells _ (fun name kind cells=>by cases hkc:kind == NameKind.cell <;> simp [hkc]) _ _ _ _ ?_)
  rw [show ({ s with heap:=s.heap.push { cls:=.type "dict",data:=.dict #[] } }:Shared).heap.objs.size=s.heap.objs.size + 1 from Heap.size_push ..]
  refine wpAny_bind ?_
  rw [List.forIn_nil]
  exact wpAny_pure (wpAny_pure hQ)
section
variable {X:Cx} {scope:Scope} {N':List Str} {ix:List Nat} {n:Nat} {tg elt iter:Expr} {ifs:List Expr} {g:TG} {tc:Option TT} {te:TE} {pos:Pos}
theorem zji {pins:List (Addr × Obj)} {σ:St} {H:Hp} {s:Shared} {fp:List Addr} {cl:List (Str × Addr)} {h1:Heap} {tk:Nat} {m:Str→Option Value} (B:CompOk X scope N' ix n tg elt ifs g tc te) (I:Inv X pins σ H s)
    (hf:∀ b ∈ fp,FpOk X pins H b) (hfo:∀ b ∈ fp,∃ o,s.heap.get? b=some o) (hcl:∀ x c,cl.lookup x=some c→X.env.cells.lookup x=some c∨(s.heap.objs.size + 1 < c∧∃ v,h1.IsCell c v)) (hcf:∀ y ∈ scope.names,y.2 = .free→cl.lookup y.1=X.env.cells.lookup y.1)
    (hinj:∀ x y c,cl.lookup x=some c→cl.lookup y=some c→x=y) (hown:∀ x,scope.names.lookup x=some .cell→∃ c,cl.lookup x=some c) (hnew:∀ x c,scope.names.lookup x=some .cell→cl.lookup x=some c→s.heap.objs.size + 1 < c)
    (hk:∀ b o,s.heap.get? b=some o→h1.get? b=some o) (hD:h1.get? s.heap.objs.size=some { cls:=.type "list",data:=.seq #[] 0 }) (hC:h1.Ns (s.heap.objs.size + 1) m) :
    Inv (X.comp scope cl (s.heap.objs.size + 1) N' s H fp pins) [] (zcw σ ix n) (upd H s.heap.objs.size (.lst [])) { s with heap:=h1,toks:=tk }:=by
  have hn:H s.heap.objs.size=none:=I.hok.fresh (Nat.le_refl _)
  have lt:∀ {b:Addr} {o:Obj},s.heap.get? b=some o→b ≠ s.heap.objs.size∧b ≠ s.heap.objs.size + 1:=fun e=>⟨Nat.ne_of_lt (Heap.lt_size e),Nat.ne_of_lt (Nat.lt_succ_of_lt (Heap.lt_size e))⟩
  have cellLt:∀ x c,X.env.cells.lookup x=some c→c < s.heap.objs.size:=fun x c e=>by
    obtain ⟨v,o,ho,_⟩:=I.cell x c e
    exact Heap.lt_size ho
  have fpLt:∀ b ∈ fp,b ≠ s.heap.objs.size + 1:=fun b hb=>by
    obtain ⟨o,e⟩:=hfo b hb
    exact (lt e).2
  · have keep:Un (frs X.stack) fp H (upd H s.heap.objs.size (.lst [])) s.heap h1:=Un.laid hk (Nat.le_refl _) hn
    refine ⟨⟨I.ok.mod, ?_, I.ok.glob, I.ok.blt, Nat.le_succ _, hinj, fun x hx => ?_, fun x c z e => Nat.le_of_lt (Nat.lt_trans (Nat.lt_succ_self _) (hnew x c (by simpa using (show (scope.names.lookup x == some NameKind.cell) = true from z)) e)), I.ok.hd, I.ok.frames, .inl rfl, fun b hb => ⟨fpLt b hb, fun x c e => (hcl x c e).elim (fun z => (hf b hb).2.2.2.2.1 x c z) fun z w => by
          obtain ⟨o,ho⟩:=hfo b hb
          have:=Heap.lt_size ho
          rw [← w] at this; exact Nat.lt_irrefl _ (Nat.lt_trans (Nat.lt_trans (Nat.lt_succ_self _) z.1) this)⟩,
        I.bs,Nat.le_trans I.ok.bsz I.sz,fun b o e hb=>?_,fun b hb z=>?_,I.stack,I.stkFree,I.ok.tb.grown I.base.tbls⟩,
      rfl,I.bare,keep,⟨m,hC,fun i x v e1 e2 e3=>?_⟩,fun x c e=>?_,?_,fun x c e=>?_,fun p hp=>?_,?_,?_⟩
    · show (relabel scope X.env).kind = .function
      exact B.kind
    · show ∃ c,cl.lookup x=some c
      rcases zfk hx with hx' | hx'
      case inr=>exact hown x hx'.1
      have z:=hcf _ hx' rfl
      dsimp only at z
      rw [z]
      exact I.ok.has x (B.free _ hx' rfl)
    · obtain ⟨_,_,_,f3,_⟩:=hf b hb
      rcases f3 with z | z
      · exact I.ok.noex b o e z
      · exact absurd (Nat.lt_of_lt_of_le (Heap.lt_size e) (Nat.le_trans I.ok.bsz z)) (Nat.lt_irrefl _)
    · rcases List.mem_cons.mp (I.stkSub b z) with e | e
      · exact (hf b hb).2.1 e
      · exact (hf b hb).2.2.1 e
    · have hj:i < ix.length:=by
        unfold zcw at e2
        by_cases hj:i < ix.length
        · exact hj
        · rw [List.getElem?_append_right (by simpa using hj),List.getElem?_replicate] at e2
          split at e2 <;> cases e2
      obtain ⟨j,hj2⟩:∃ j,ix[i]?=some j:=⟨ix[i],by simp [hj]⟩
      obtain ⟨y,y1,y2,y3⟩:=B.take i j hj2
      have exy:x=y:=by
        have z:N'[i]?=some x:=e1
        rw [y1] at z
        exact (Option.some.inj z).symm
      subst exy
      have ev:σ[j]?=some (some v):=by
        unfold zcw at e2
        rw [List.getElem?_append_left (by simpa using hj),List.getElem?_map,hj2] at e2
        have z:(σ[j]?).getD none=some v:=Option.some.inj e2
        cases q:σ[j]? with
        | none=>rw [q] at z; cases z
        | some w=>rw [q] at z; exact congrArg some z
      obtain ⟨m0,hn0,hl⟩:=I.loc
      have hm:(x,NameKind.free) ∈ scope.names:=PySem.mem_of_lookup y3
      have kx:=B.free _ hm rfl
      have vis:Vis X.env.scope x:=kx.elim (fun z=>.inr (.inl z)) fun z=>.inr (.inr z)
      obtain ⟨u,ru,lu⟩:=hl j x v y2 ev vis
      refine ⟨u,ru,.inr ⟨?_,?_⟩⟩
      · exact zcx y3
      · rcases lu with ⟨z,_⟩ | ⟨_,c,hc,hcell⟩
        · rcases kx with w | w <;> (rw [w] at z; cases z)
        · refine ⟨c,?_,?_⟩
          · show cl.lookup x=some c
            rw [hcf _ hm rfl]
            exact hc
          · obtain ⟨o,ho,hd⟩:=hcell
            exact ⟨o,hk c o ho,hd⟩
    · rcases hcl x c e with z | ⟨_,z⟩
      · obtain ⟨v,o,ho,hd⟩:=I.cell x c z
        exact ⟨v,o,hk c o ho,hd⟩
      · exact z
    · show upd H s.heap.objs.size (.lst []) (s.heap.objs.size + 1)=none
      rw [zag (Nat.succ_ne_self _)]
      exact I.hok.fresh (Nat.le_succ _)
    · rcases hcl x c e with z | ⟨z,_⟩
      · have:=cellLt x c z
        rw [zag (Nat.ne_of_lt this)]
        exact I.freeC x c z
      · rw [zag (Nat.ne_of_gt (Nat.lt_trans (Nat.lt_succ_self _) z))]
        exact I.hok.fresh (Nat.le_of_lt (Nat.lt_trans (Nat.lt_succ_self _) z))
    · rw [List.append_nil] at hp
      obtain ⟨q1,q2,q3,q4,q5⟩:=I.pin p hp
      refine ⟨hk _ _ q1,by rw [zag (lt q1).1]; exact q2,(lt q1).2,fun z=>?_,q5⟩
      rcases List.mem_cons.mp (I.stkSub _ z) with e | e
      · exact q3 e
      · exact q4 e
    · exact I.hok.laid hk (Nat.le_refl _) ⟨Nat.zero_le _,[],0,.nil,hD⟩
    · show (zcw σ ix n).length=N'.length
      unfold zcw
      rw [List.length_append,List.length_map,List.length_replicate]
      exact B.len
theorem zli {pins:List (Addr × Obj)} {σ σ':St} {H H':Hp} {s s':Shared} {fp:List Addr} {cl:List (Str × Addr)} {C:Addr} (I:Inv X pins σ H s) (hf:∀ b ∈ fp,FpOk X pins H b)
    (J:Inv (X.comp scope cl C N' s H fp pins) [] σ' H' s'):Inv X pins σ H' s':=by
  obtain ⟨hh,g,d,t,os'⟩:=s'
  obtain rfl:os'=s.os:=J.os
  exact I.call (h':=hh) (g':=g) (d':=d) (t':=t) (ch:=fp) J.base J.hok J.bare fun b hb=>⟨(hf b hb).2.2.2.1,(hf b hb).2.1,(hf b hb).2.2.2.2.1,(hf b hb).2.2.2.2.2⟩
theorem ziX {pins:List (Addr × Obj)} {σ:St} {H:Hp} {s:Shared} {Q:VK} {it:Addr} {fp:List Addr} {tn:Nat→Heap→Prop} {J:It} {cl:List (Str × Addr)} {RR:Value→Addr→Result→Shared→Prop} {E:Value→Shared→Prop}
    (B:CompOk X scope N' ix n tg elt ifs g tc te) (hc:X.calm=true) (I:Inv X pins σ H s) (T:Turn X.prog X.w X.K tg J fp it tn) (st:tn 0 s.heap) (hf:∀ b ∈ fp,FpOk X pins H b)
    (hcl:∀ x c,cl.lookup x=some c→X.env.cells.lookup x=some c) (hcf:∀ y ∈ scope.names,y.2 = .free→cl.lookup y.1=X.env.cells.lookup y.1)
    (body:∀ D,H D=none→zoW D J g tc te Q (zcw σ ix n) (upd H D (.lst [])))
    (hRR:∀ D C H' s' m,Inv X pins σ H' s'→s'.heap.Ns C m→FpOk X pins H' C→Q (.ref D) H'→RR (.ref D) C (.ok .next) s') :
    wpAny (model X.prog X.w) X.A (newList []) (fun acc s₃=>wpAny (model X.prog X.w) X.A (newFunctionEnv scope X.env.globals cl [] X.env.qual none .none (some X.env)) (fun cenv s₄ =>
      codeAny (model X.prog X.w) X.A (.compStart (.ListComp elt [⟨tg,iter,ifs,0⟩] scope pos) 0 (.ref it) acc { cenv with scope:=relabel scope X.env }) (RR acc cenv.locals) s₄) E s₃) E s:=by
  refine wpAny_newObj_type (zic ?_)
  dsimp only
  generalize hH2:s.heap.push { cls:=.type "list",dict:=none,data:=.seq ([]:List Value).toArray }=H2
  have hC:H2.objs.size=s.heap.objs.size + 1:=by rw [← hH2,Heap.size_push]
  obtain ⟨cs,ecs⟩:∃ cs,cs=cellsFrom (H2.objs.size + 1) scope.names cl:=⟨_,rfl⟩
  rw [← ecs]
  obtain ⟨h₁,eh⟩:∃ h₁,h₁=pushCells (H2.push { cls:=.type "dict",data:=.dict #[] }) scope.names:=⟨_,rfl⟩
  rw [← eh]
  have kp:∀ b o,H2.get? b=some o→h₁.get? b=some o:=fun b o e=>by rw [eh]; exact pushCells_keeps _ _ b o (Heap.get?_push_of_some _ e)
  have hns₁:h₁.Ns H2.objs.size fun _=>none:=by rw [eh]; exact (Heap.Ns.new H2 (.type "dict")).keeps (pushCells_keeps _ _)
  have below:∀ b,b < s.heap.objs.size→b ≠ H2.objs.size:=fun b hb=>by rw [hC]; exact Nat.ne_of_lt (Nat.lt_succ_of_lt hb)
  have old:∀ b o,s.heap.get? b=some o→h₁.get? b=some o:=fun b o e=>kp b o (hH2 ▸ Heap.get?_push_of_some _ e)
  have hacc:h₁.get? s.heap.objs.size=some { cls:=.type "list",data:=.seq #[] 0 }:=kp _ _ (hH2 ▸ Heap.get?_push_size _ rfl)
  have clt:∀ x c,cl.lookup x=some c→c < s.heap.objs.size:=fun x c e=>by
    obtain ⟨v,o,ho,_⟩:=I.cell x c (hcl x c e)
    exact Heap.lt_size ho
  have own:∀ x c,(x,NameKind.cell) ∈ scope.names→cs.lookup x=some c→s.heap.objs.size + 1 < c:=fun x c h e=>by
    rw [ecs] at e
    have:=zds scope.names _ cl h e fun _ _=>.inr trivial
    omega
  have hcl2:∀ x c,cs.lookup x=some c→X.env.cells.lookup x=some c∨(s.heap.objs.size + 1 < c∧∃ v,h₁.IsCell c v):=fun x c e=>by
    by_cases hx:(x,NameKind.cell) ∈ scope.names
    · refine .inr ⟨own x c hx e,none,?_⟩
      have okc:=cellsFrom_ok scope.names (H2.push { cls:=.type "dict",data:=.dict #[] }) 0 [] ⟨fun _ _ hm=>(nomatch hm),List.Pairwise.nil⟩ (Nat.zero_le _)
      have e2:(cellsFrom (H2.objs.size + 1) scope.names []).lookup x=some c:=by
        have gen:∀ (names:List (Str × NameKind)) (n:Nat) (acc:List (Str × Addr)),(x,NameKind.cell) ∈ names→(cellsFrom n names acc).lookup x=(cellsFrom n names []).lookup x:=by
          have gen2:∀ (names:List (Str × NameKind)) (n:Nat) (acc acc':List (Str × Addr)),(x,NameKind.cell) ∈ names∨acc.lookup x=acc'.lookup x→(cellsFrom n names acc).lookup x=(cellsFrom n names acc').lookup x:=by
            intro names
            induction names with
            | nil=>intro n acc acc' h; exact h.elim (fun z=>by cases z) id
            | cons p r ih =>
              intro n acc acc' h
              obtain ⟨y,k⟩:=p
              unfold cellsFrom
              split
              · rename_i hk
                have hk':k = .cell:=by simpa using hk
                subst hk'
                refine ih _ _ _ ?_
                by_cases exy:x=y
                · subst exy; exact .inr (by simp only [List.lookup_cons,beq_self_eq_true])
                · rcases h with z | z
                  · rcases List.mem_cons.mp z with w | w
                    · cases w; exact absurd rfl exy
                    · exact .inl w
                  · exact .inr (by simp only [List.lookup_cons,show (x == y)=false by simpa using exy]; exact z)
              · rename_i hk
                refine ih _ _ _ ?_
                rcases h with z | z
                · rcases List.mem_cons.mp z with w | w
                  · cases w; exact absurd rfl hk
                  · exact .inl w
                · exact .inr z
          exact fun names n acc h=>gen2 names n acc [] (.inl h)
        rw [← gen scope.names _ cl hx,← ecs]; exact e
      rw [Heap.size_push] at okc
      rw [eh]
      exact (okc.empty x c (PySem.mem_of_lookup e2)).1
    · rw [ecs,zcm _ _ _ hx] at e
      exact .inl (hcl x c e)
  have hcf2:∀ y ∈ scope.names,y.2 = .free→cs.lookup y.1=X.env.cells.lookup y.1:=fun y hy hf=>by
    rw [ecs,zcm _ _ _ (B.nocell y hy hf)]
    exact hcf y hy hf
  have hinj:∀ x y c,cs.lookup x=some c→cs.lookup y=some c→x=y:=by
    rw [ecs]
    exact zdq scope.names _ cl (fun x c e=>Nat.lt_of_lt_of_le (clt x c e) (by rw [hC]; omega)) fun x y c e1 e2=>I.ok.inj x y c (hcl x c e1) (hcl y c e2)
  have hown:∀ x,scope.names.lookup x=some .cell→∃ c,cs.lookup x=some c:=fun x h=>by
    rw [ecs]
    exact Option.isSome_iff_exists.mp (PySem.W.cellsFrom_some scope.names _ cl (.inl h))
  have hnew:∀ x c,scope.names.lookup x=some .cell→cs.lookup x=some c→s.heap.objs.size + 1 < c:=fun x c h e=>own x c (PySem.mem_of_lookup h) e
  have cne:∀ b,b < s.heap.objs.size→(∀ x c,X.env.cells.lookup x=some c→c ≠ b)→∀ x c,cs.lookup x=some c→c ≠ b:=fun b hb hold x c e z=>by
    rcases hcl2 x c e with w | ⟨w,_⟩
    · exact hold x c w z
    · rw [z] at w; exact Nat.lt_irrefl _ (Nat.lt_trans (Nat.lt_trans (Nat.lt_succ_self _) w) hb)
  have hfo:∀ b ∈ fp,∃ o,s.heap.get? b=some o:=fun b hb=>let ⟨o,e,_⟩:=T.obj 0 _ st b hb; ⟨o,e⟩
  have st1:tn 0 h₁:=T.keep 0 _ _ st fun b _ o e=>old b o e
  have hD0:H s.heap.objs.size=none:=I.hok.fresh (Nat.le_refl _)
  obtain ⟨W,⟨m0,w0⟩,turn⟩:=body _ hD0
  have J0:Inv (X.comp scope cs H2.objs.size N' s H fp pins) [] (zcw σ ix n) (upd H s.heap.objs.size (.lst [])) { s with heap:=h₁ }:=by
    rw [hC] at hns₁ ⊢
    exact zji (tk:=s.toks) B I hf hfo hcl2 hcf2 hinj hown hnew old hacc hns₁
  have fpOk:∀ {H':Hp},(∀ b ∈ fp,H' b=none)→∀ b ∈ fp,FpOk (X.comp scope cs H2.objs.size N' s H fp pins) [] H' b:=fun hn b hb=>by
    obtain ⟨f0,f1,f2,f3,f4,f5⟩:=hf b hb
    obtain ⟨o,e⟩:=hfo b hb
    refine ⟨hn b hb,below b (Heap.lt_size e),fun z=>?_,.inl hb,cne b (Heap.lt_size e) f4,fun p hp=>f5 p ?_⟩
    · rcases List.mem_cons.mp (I.stkSub b z) with q | q
      · exact f1 q
      · exact f2 q
    · rw [List.append_nil] at hp
      exact hp
  have fp0:∀ b ∈ fp,upd H s.heap.objs.size (.lst []) b=none:=fun b hb=>by
    obtain ⟨o,e⟩:=hfo b hb
    rw [zag (Nat.ne_of_lt (Heap.lt_size e))]
    exact (hf b hb).1
  have loop:∀ s₃:Shared,s₃ = { s with heap:=h₁ } →
      codeAny (model X.prog X.w) X.A (.compLoop (.ListComp elt [⟨tg,iter,ifs,0⟩] scope pos) 0 (.ref it) (.ref s.heap.objs.size) (compEnvC scope cs H2.objs.size X.env)) (RR (.ref s.heap.objs.size) H2.objs.size) s₃:=by
    rintro s₃ rfl
    refine zhx (fun k s'=>∃ i ys σ2 H3,Inv (X.comp scope cs H2.objs.size N' s H fp pins) [] σ2 H3 s'∧tn i s'.heap∧(∀ b ∈ fp,H3 b=none)∧W i k ys σ2 H3) ?_ m0 ⟨0,[],_,_,J0,st1,fp0,w0⟩
    rintro k s3 ⟨i,ys,σ3,H3,I3,st3,fr3,w3⟩
    obtain ⟨hD3,alt⟩:=turn i k ys σ3 H3 w3
    rcases alt with ⟨stop,q⟩ | ⟨go,N,hN,step⟩
    · refine thn (T.done (X.comp scope cs H2.objs.size N' s H fp pins) rfl rfl rfl hc i [] s3 σ3 H3 _ I3 (fpOk fr3) st3 stop) fun r s4 ⟨hr,I4⟩=>?_
      subst hr
      obtain ⟨m4,hn4,_⟩:=I4.loc
      refine hRR _ _ H3 s4 m4 (zli I hf I4) hn4 ⟨I4.free,fun z=>?_,fun z=>?_,.inr (Nat.le_trans I.sz (by omega)),fun x c e z=>?_,fun p hp z=>?_⟩ q
      · have lt:=I.lt
        rw [← z,hC] at lt
        exact absurd lt (Nat.not_lt.mpr (Nat.le_succ _))
      · exact I.nofs (show s.heap.objs.size ≤ H2.objs.size by omega) z
      · obtain ⟨v,o,ho,_⟩:=I.cell x c e
        have lt:=Heap.lt_size ho
        rw [z,hC] at lt
        exact absurd lt (Nat.not_lt.mpr (Nat.le_succ _))
      · have lt:=Heap.lt_size (I.pin p hp).1
        rw [z,hC] at lt
        exact absurd lt (Nat.not_lt.mpr (Nat.le_succ _))
    · refine thn (T.item (X.comp scope cs H2.objs.size N' s H fp pins) rfl rfl rfl hc i [] s3 σ3 H3 _ I3 (fpOk fr3) st3 go) fun r s4 ⟨u,hr,h4⟩=>?_
      subst hr
      refine thn h4 fun _ s5 ⟨x,H5,I5,r5,y5,st5,fr5⟩=>?_
      have I5':=I5.pinned (fpOk fr5) (T.obj _ _ st5)
      have back:∀ {σ7:St} {H7:Hp} {s7:Shared} {ys':List V},Inv (X.comp scope cs H2.objs.size N' s H fp pins) ([] ++ zgF fp s5.heap) σ7 H7 s7→N ys' σ7 H7 →
          ∃ m,m < k∧∃ i ys σ2 H3,Inv (X.comp scope cs H2.objs.size N' s H fp pins) [] σ2 H3 s7∧tn i s7.heap∧(∀ b ∈ fp,H3 b=none)∧W i m ys σ2 H3:=fun {σ7 H7 s7 ys'} I7 n7=>by
        obtain ⟨m',hm,w7⟩:=hN ys' σ7 H7 n7
        refine ⟨m',hm,i + 1,ys',σ7,H7,I7.unpinned,T.keep _ _ _ st5 fun b hb o e=>(I7.pin (b,o) (List.mem_append_right _ (List.mem_append_right _ (zc4 hb e)))).1,fun b hb=>?_,w7⟩
        obtain ⟨o,e,d⟩:=T.obj _ _ st5 b hb
        exact (I7.pin (b,o) (List.mem_append_right _ (List.mem_append_right _ (zc4 hb e)))).2.1
      refine thn (B.tgt cs H2.objs.size s H fp pins _ s5 σ3 H5 x u _ I5' r5 (step x H5 y5)) fun _ s6 ⟨σ6,H6,I6,q6⟩=>?_
      have fin:∀ (b:Bool) (s7:Shared),TP (X.comp scope cs H2.objs.size N' s H fp pins) ([] ++ zgF fp s5.heap) σ6
          (fun b H4=>if b=true then te σ6 H4 fun y H5=>H5 s.heap.objs.size=some (.lst ys)∧ys.length < sizeLine∧N (ys ++ [y]) σ6 (upd H5 s.heap.objs.size (.lst (ys ++ [y]))) else N ys σ6 H4) b s7 →
          if b=true then wpAny (model X.prog X.w) X.A (eval elt (compEnvC scope cs H2.objs.size X.env)) (fun x s₄ =>
              wpAny (model X.prog X.w) X.A (call (.builtin "list.append") [.ref s.heap.objs.size,x]) (fun _ s₅=>∃ m,m < k∧∃ i ys σ2 H3,Inv (X.comp scope cs H2.objs.size N' s H fp pins) [] σ2 H3 s₅∧tn i s₅.heap∧(∀ b ∈ fp,H3 b=none)∧W i m ys σ2 H3) (fun _ _=>False) s₄) (fun _ _=>False) s7
            else ∃ m,m < k∧∃ i ys σ2 H3,Inv (X.comp scope cs H2.objs.size N' s H fp pins) [] σ2 H3 s7∧tn i s7.heap∧(∀ b ∈ fp,H3 b=none)∧W i m ys σ2 H3:=by
        rintro b s7 ⟨H7,I7,q7⟩
        cases b with
        | false =>
          rw [if_neg Bool.false_ne_true] at q7 ⊢
          exact back I7 q7
        | true =>
          rw [if_pos rfl] at q7 ⊢
          refine thn (B.elt cs H2.objs.size s H fp pins _ s7 σ6 H7 _ I7 q7) fun y s8 ⟨yv,H8,I8,r8,hD8,hz,n8⟩=>?_
          refine thn (zcY _ s8 σ6 H8 (.ref s.heap.objs.size) [yv] (.ref s.heap.objs.size) [y] (fun _ H9=>N (ys ++ [yv]) σ6 H9) I8 rfl (.cons r8 .nil) ⟨_,ys,yv,rfl,rfl,hD8,hz,n8⟩) fun _ s9 ⟨_,H9,I9,_,n9⟩=>?_
          exact back I9 n9
      rcases B.test with ⟨e1,e2⟩ | ⟨c,t,e1,e2,ht⟩
      · subst e1; subst e2
        exact wpAny_tests_nil (fin true s6 ⟨H6,I6,q6⟩)
      · subst e1; subst e2
        exact wpAny_tests_one (thn (ht cs H2.objs.size s H fp pins _ s6 σ6 H6 _ I6 q6) fun b s7 z=>fin b s7 z)
  exact codeAny_compStart_list (loop _ rfl) (T.self X.A 0 _ _ _ st1 (loop _ rfl))
theorem zcK {wi:TI} (hc:X.calm=true) (hi:PI X tg iter wi) (B:CompOk X scope N' ix n tg elt ifs g tc te) (hs:∀ x,foldedSetIterable iter X.env x=pure x:=by intro _; rfl) :
    PE X (.ListComp elt [⟨tg,iter,ifs,0⟩] scope pos) (zlU wi ix n g tc te):=by
  intro pins s σ H Q I h
  rw [eval_ListComp]
  obtain ⟨cl,hclos,hcl,hcf⟩:=zeQ (scope:=scope) (env:=X.env) fun y hy hf=>I.ok.has _ (B.free y hy hf)
  refine wpAny_comprehension_free (use:=none) rfl hs hclos B.kind B.names (thn (hi pins s σ H _ I h) fun v s1 h1=>thn h1 fun itv s2 h2=>?_)
  obtain ⟨it,fp,tn,J,H2,rfl,I2,T,st2,f2,body⟩:=h2
  refine ziX (RR:=fun acc C=>compPost (model X.prog X.w) X.A X.xe none (EP X pins σ Q) acc C) B hc I2 T st2 f2 hcl hcf body fun D C H' s' m I' hn hC q=>⟨m,hn,fun h' hs'=>?_⟩
  obtain ⟨f0,f1,f2',f3,f4,f5⟩:=hC
  exact ⟨.ref D,H',I'.turned (t':=s'.toks) (fun b o hb e=>(hs'.2 b hb).trans e) f0 f1 f3 f4 f5,rfl,q⟩
theorem znz {wi:TI} {i:Nat} {y:Str} {py spos:Pos} (hN:X.N.Nodup) (hiN:X.N[i]?=some y) (hy:Loc X.env.scope y) (hc:X.calm=true) (hi:PI X tg iter wi) (B:CompOk X scope N' ix n tg elt ifs g tc te)
    (hsw:swapsWith (.ListComp elt [⟨tg,iter,ifs,0⟩] scope pos) (some (.Name y py)) spos.line X.env=pure true) (hf:X.fn y=true∨X.env.scope.names.lookup y=some .local:=by first | exact .inl rfl | exact .inr rfl | assumption)
    (hs:∀ x,foldedSetIterable iter X.env x=pure x:=by intro _; rfl) :
    PS X (.Assign [.Name y py] (.ListComp elt [⟨tg,iter,ifs,0⟩] scope pos) spos) (tAsg (zlU wi ix n g tc te) (zgj i)):=by
  intro pins s σ H D I h
  rw [exec_Assign_Name_used _ _ _ _ hsw]
  refine wpAny_bind (wpAny_standAt (wpAny_bind ?_))
  show wpAny _ X.A (do let _ ← comprehension (.ListComp elt [⟨tg,iter,ifs,0⟩] scope pos) scope X.env _ (newList []) false (eval iter X.env) (some (assign (.Name y py) X.env))) _ _ s
  obtain ⟨cl,hclos,hcl,hcf⟩:=zeQ (scope:=scope) (env:=X.env) fun y hy hf=>I.ok.has _ (B.free y hy hf)
  refine wpAny_bind (wpAny_mono (wpAny_comprehension_free (use:=some (assign (.Name y py) X.env)) (Q:=fun _ s'=>SP X pins D .next s') rfl hs hclos B.kind B.names
    (thn (hi pins s σ H _ I h) fun v s1 h1=>thn h1 fun itv s2 h2=>?_)) (fun _ s' hq=>wpAny_pure (wpAny_pure hq)) fun _ _ e=>e)
  obtain ⟨it,fp,tn,J,H2,rfl,I2,T,st2,f2,body⟩:=h2
  refine ziX (Q:=fun x H1=>zgj i x σ H1 D.nx) (RR:=fun acc C=>compPost (model X.prog X.w) X.A X.xe (some (assign (.Name y py) X.env)) (fun _ s'=>SP X pins D .next s') acc C) B hc I2 T st2 f2 hcl hcf body fun D' C H' s' m I' hn hC q=>?_
  obtain ⟨f0,f1,f2',f3,f4,f5⟩:=hC
  have Ip := I'.pinned (fp := [C]) (fun b hb => by have e : b = C := by simpa using hb
                                                   subst e; exact ⟨f0,f1,f2',f3,f4,f5⟩) (fun b hb=>by
    have e:b=C:=by simpa using hb
    subst e
    obtain ⟨o,es,ep,ho,hd,_⟩:=hn
    exact ⟨o,ho,fun v z=>by rw [hd] at z; cases z⟩)
  refine wpAny_assign_Name (zd8 Ip hN hiN hy (v:=.ref D') rfl (fun s'' I''=>?_) hf)
  obtain ⟨o,es,ep,ho,hd,hr⟩:=hn
  have pinC:=I''.pin (C,o) (List.mem_append_right _ (List.mem_append_right _ (zc4 (by simp) ho)))
  refine ⟨m,⟨o,es,ep,pinC.1,hd,hr⟩,fun h' hs'=>?_⟩
  exact ⟨_,H',(I''.unpinned).turned (t':=s''.toks) (fun b o hb e=>(hs'.2 b hb).trans e) pinC.2.1 f1 f3 f4 f5,q⟩
end
end L2
namespace L2
open PySem PySem.Spec PyProof.Rows
section
variable {X:Cx} {scope:Scope} {tg elt:Expr} {ifs:List Expr} {g:TG} {tc:Option TT} {te:TE}
theorem zdX (osc:Scope) (oN N':List Str) (ix:List Nat) (n:Nat) (hosc:X.env.scope=osc) (hoN:X.N=oN) (kind:scope.kind = .function) (nocell:(scope.names.all fun y=>y.2 != .free || scope.names.all fun z=>!(z.1 == y.1) || z.2 != .cell)=true) (names:∀ y ∈ scope.names,y.2 = .local→scope.names.lookup y.1=some .local)
    (free:(scope.names.all fun y=>y.2 != .free || (osc.names.lookup y.1 == some .cell || osc.names.lookup y.1 == some .free))=true) (len:ix.length + n=N'.length)
    (take:((List.range ix.length).all fun j=>match N'[j]?,oN[ix.getD j 0]? with | some x,some y=>x == y && scope.names.lookup x == some .free | _,_=>false)=true)
    (tgt:∀ (cl:List (Str × Addr)) (C:Addr) (s:Shared) (H:Hp) (fp:List Addr) (pins:List (Addr × Obj)),PG (X.comp scope cl C N' s H fp pins) tg g)
    (elt':∀ (cl:List (Str × Addr)) (C:Addr) (s:Shared) (H:Hp) (fp:List Addr) (pins:List (Addr × Obj)),PE (X.comp scope cl C N' s H fp pins) elt te)
    (test:(ifs = []∧tc=none)∨∃ c t,ifs = [c]∧tc=some t∧∀ (cl:List (Str × Addr)) (C:Addr) (s:Shared) (H:Hp) (fp:List Addr) (pins:List (Addr × Obj)),PT (X.comp scope cl C N' s H fp pins) c t) :
    CompOk X scope N' ix n tg elt ifs g tc te :=
  ⟨kind,fun y hy e hc=>by
    have z:=List.all_eq_true.mp nocell y hy
    rw [e] at z
    have z2:(scope.names.all fun w=>!(w.1 == y.1) || w.2 != .cell)=true:=by simpa using z
    have z3:=List.all_eq_true.mp z2 _ hc
    simp at z3,names,fun y hy e=>by
    have z:=List.all_eq_true.mp free y hy
    rw [e] at z
    have z':(osc.names.lookup y.1 == some .cell || osc.names.lookup y.1 == some .free)=true:=by simpa using z
    show X.env.scope.names.lookup y.1=_∨X.env.scope.names.lookup y.1=_
    rw [hosc]
    simpa using z',len,fun j i e=>by
    obtain ⟨hj,_⟩:=List.getElem?_eq_some_iff.mp e
    have e2:ix.getD j 0=i:=by
      rw [List.getD_eq_getElem?_getD,e]
      rfl
    have z:=List.all_eq_true.mp take j (List.mem_range.mpr hj)
    rw [e2] at z
    cases h1:N'[j]? with
    | none=>rw [h1] at z; cases z
    | some x =>
      cases h2:oN[i]? with
      | none=>rw [h1,h2] at z; cases z
      | some y =>
        rw [h1,h2] at z
        have z':x=y∧scope.names.lookup x=some .free:=by simpa using z
        obtain ⟨rfl,z2⟩:=z'
        exact ⟨x,rfl,by rw [hoN]; exact h2,z2⟩,tgt,elt',test⟩
end
structure Has (P:Program) (w:World) (K:PySem.W.Frag) (mg:Str→Option Value) (base:Heap) (CX:CXT) (k:Nat) (x:Str) (ps:List Str) (sp:Sp):Prop where
  ex:∃ (f:Addr) (fd:FuncData),FnOk P w K mg base CX k f fd ps sp∧mg x=some (.ref f)∧PySem.W.keepIn K (.ref f)=true∧Binds K fd ps []
section
variable {X:Cx} {CX:CXT} {k:Nat} {x:Str} {ps:List Str} {sp:Sp} {E:XK} {p pos:Pos} {e:Expr} {es:List Expr} {t:TA}
theorem zbd (G:Has X.prog X.w X.K X.mg X.base CX k x ps sp) (hr:Room k X.A) (hg:Gl X x) (hx:zcJ CX X E)
    (ha:PA X (e :: es) t) (hdb:(x == ("__debug__" : Str))=false:=by decide) (he:starEach (e :: es) X.env=(false,eval e X.env) :: starEach es X.env:=by rfl) (hpl:(backTo pos (starEach es X.env)).any (·.1)=false:=by rfl) :
    PE X (.Call (.Name x p) (e :: es) [] pos) (zhY sp [] E t):=by
  obtain ⟨f,fd,F,hm,hk,hb⟩:=G.ex
  exact zly F hr hg hm hk hb .nil hx ha hdb he hpl
end
structure DefAt (K:PySem.W.Frag) (x:Str) (st:Stmt) (f:Addr) (fd:FuncData):Prop where
  ns:PySem.W.nsIn K mainGlobals x=some (some (.ref f))
  fn:Fun K x x st f fd
theorem defAt_mk {K:PySem.W.Frag} {x:Str} {st:Stmt} {f:Addr} {oc:Value} {od an:Option Addr} {osl:Array (Option Value)} {kV doc pm cdv ct:Value} (a:PySem.W.nsIn K mainGlobals x=some (some (.ref f)))
    (l:K.lookup f=some ⟨oc,od,.func (PySem.W.fnOf x x (zbU st) (zbu st) (zah st) .none kV doc pm an cdv ct),osl⟩) (c:PySem.W.codeIn K cdv x=true) (k:PySem.W.keepIn K (.ref f)=true):∃ f fd,DefAt K x st f fd :=
  ⟨f,_,a,zi2 l c k⟩
theorem DefAt.has {P:Program} {w:World} {K:PySem.W.Frag} {mg:Str→Option Value} {base h:Heap} {CX:CXT} {k:Nat} {x:Str} {st:Stmt} {f:Addr} {fd:FuncData} {ps:List Str} {sp:Sp} (D:DefAt K x st f fd) (X:K.In h) (G:h.Ns mainGlobals mg)
    (ok:FnOk P w K mg base CX k f fd ps sp) (b:Binds K fd ps []):Has P w K mg base CX k x ps sp:=⟨f,fd,ok,PySem.W.mg_of X G D.ns,D.fn.kp,b⟩
theorem zoO {H:Hp} {a b:Addr} {o u:HO} (hn:H b=none) (h:H a=some o):upd H b u a=some o:=(zag (zak h hn)).trans h
theorem Same.upd {H:Hp} {b:Addr} {u:HO} (hn:H b=none):Same H (upd H b u):=fun _ _ h=>zoO hn h
end L2
namespace L2
open PySem PySem.Spec PyProof.Rows
section
variable {X:Cx} {pos:Pos}
end
end L2
namespace L2
open PySem PySem.Spec PyProof.Rows
end L2
namespace L2
open PySem PySem.Spec PyProof.Rows
structure Tr (h:Heap) (e T:Addr) (cls:Value) (dct:Option Addr) (fl:Value):Prop where
  ex:∃ (oe:Obj) (vs:Array Value) (oT:Obj) (ts:Array Value),h.get? e=some oe∧oe.cls=cls∧oe.dict=dct∧oe.data = .fields vs∧vs[1]?=some (.ref T)∧h.get? T=some oT∧oT.data = .fields ts∧ts[3]?=some fl
  ne:T ≠ e
structure FlyD (B:Heap) (l:List Env) (e:Addr) (cls:Value) (dct:Option Addr) (fl:Value) (h:Heap):Prop where
  stays:B.StaysIn h
  out:B.get? e=none
  fun':h.FunFrames B l
  tr:∃ T,B.get? T=none∧Tr h e T cls dct fl
theorem Obj.dict_mapFields (o:Obj) (f):(o.mapFields f).dict=o.dict:=by
  obtain ⟨c,d,dt,sl⟩:=o
  cases dt <;> rfl
theorem zb7 {h:Heap} {a b:Addr} {o u:Obj} {vs:Array Value} (ha:h.get? a=some o) (hd:o.data = .fields vs) (hb:h.get? b=some u) (hn:∀ ws,u.data ≠ .fields ws):b ≠ a:=by
  intro z
  subst z
  rw [ha] at hb
  cases hb
  exact hn vs hd
section
variable {M:Model} {A:Around} {E:Value→Shared→Prop} {s:Shared} {B:Heap} {env:Env} {outer l:List Env} {L e:Addr} {cls:Value} {dct:Option Addr} {Q:Unit→Shared→Prop}
theorem zkh {oe:Obj} {vs:Array Value} {head:Value} {had:Bool} (hfr:A.frames=some (env :: outer)) (hl:s.heap.FunFrames B (env :: outer)) (hf:env.frame=some L) (he:s.heap.get? e=some oe) (hd:oe.data = .fields vs) (hsz:1 < vs.size)
    (hst:B.StaysIn s.heap) (hen:B.get? e=none) (h:∀ h',FlyD B (env :: outer) e oe.cls oe.dict (rawInt L) h'→s.heap.UpToSlots h'→Q () { s with heap:=h' }) :
    wpAny M A (do let a ← frameOf env; let pl ← entryPlaceOf L had; let b ← EntryCells.newEntry head a .none (rawInt L) .none pl; setField (.ref e) 1 b) Q E s:=by
  have noF:e ∉ (env :: outer).filterMap (·.frame):=fun hm=>by
    obtain ⟨_,o,ho,hn⟩:=hl.mem hm
    exact zb7 he hd ho hn rfl
  refine wpAny_bind (wpAny_frameOf_fun hfr hl hf fun h₁ hs₁=>wpAny_bind (wpAny_entryPlaceOf fun pl hpl=>?_))
  have e1:h₁.get? e=some oe:=(hs₁.2.1 e noF).trans he
  have st1:B.StaysIn h₁:=fun b o q=>(hs₁.2.1 b fun hm=>by rw [(hl.mem hm).1] at q; cases q).trans (hst b o q)
  unfold EntryCells.newEntry newFields
  refine wpAny_bind (wpAny_newObj_type ?_ (hpl.sizeOk5 _ _ _ _ _))
  generalize hto:({ cls:=.type "traceback",dict:=none,data:=.fields ([head,.ref L,.none,rawInt L,.none] ++ (if pl.isEmpty then List.replicate 6 Value.none else pl)).toArray }:Obj)=ot
  have td:∃ ts,ot.data = .fields ts∧ts[3]?=some (rawInt L):=by
    subst hto
    refine ⟨_,rfl,?_⟩
    rcases hpl with rfl | ⟨_,_,_,_,_,_,_,rfl⟩ <;> simp
  have nfr:ot.isFreed=false:=by
    obtain ⟨ts,d,_⟩:=td
    exact Obj.isFreed_of_fields d
  have e2:(h₁.push ot).get? e=some oe:=Heap.get?_push_of_some _ e1
  refine wpAny_setField e2 hd hsz (h _ ?_ ?_)
  · have ne1:h₁.objs.size ≠ e:=Nat.ne_of_gt (Heap.lt_size e1)
    have kp:∀ b o,b ≠ e→h₁.get? b=some o→((h₁.push ot).update e (Obj.mapFields (·.setIfInBounds 1 (Value.ref h₁.objs.size)))).get? b=some o:=fun b o hb q=>by
      rw [Heap.get?_update_other _ _ (Ne.symm hb)]
      exact Heap.get?_push_of_some _ q
    have d3:=Obj.data_mapFields hd (·.setIfInBounds 1 (Value.ref h₁.objs.size))
    refine ⟨fun b o q=>kp b o (fun z=>by rw [z,hen] at q; cases q) (st1 b o q),hen,hl.of_keeps fun b o hb hn=>?_,h₁.objs.size,st1.fresh,⟨?_,ne1⟩⟩
    · obtain ⟨sl,q⟩:=hs₁.2.2 b o hb
      exact ⟨_,kp b _ (zb7 he hd hb hn) q,rfl⟩
    · obtain ⟨ts,t1,t2⟩:=td
      refine ⟨_,_,ot,ts,Heap.get?_update_self _ e2 (Obj.isFreed_of_fields d3),Obj.cls_mapFields _ _,Obj.dict_mapFields _ _,d3,by simp [hsz],?_,t1,t2⟩
      rw [Heap.get?_update_other _ _ (Ne.symm ne1)]
      exact Heap.get?_push_size _ nfr
  · intro b o hb hn
    obtain ⟨sl,q⟩:=hs₁.2.2 b o hb
    refine ⟨sl,?_⟩
    rw [Heap.get?_update_other _ _ (Ne.symm (zb7 he hd hb hn))]
    exact Heap.get?_push_of_some _ q
theorem zlh {fl:Value} (F:FlyD B l e cls dct fl s.heap) (h:∀ h',FlyD B l e cls dct .none h'→s.heap.UpToSlots h'→Q () { s with heap:=h' }):wpAny M A (setFlight (.ref e) none) Q E s:=by
  obtain ⟨T,bT,⟨oe,vs,oT,ts,he,hc,hdc,hd,h1,hT,hdT,h3⟩,ne⟩:=F.tr
  have sz:3 < ts.size:=(Array.getElem?_eq_some_iff.mp h3).1
  have oth:∀ b o,b ≠ T→s.heap.get? b=some o→(s.heap.update T (Obj.mapFields (·.setIfInBounds 3 Value.none))).get? b=some o:=fun b o hb q=>by
    rw [Heap.get?_update_other _ _ (Ne.symm hb)]
    exact q
  unfold setFlight
  refine wpAny_bind (wpAny_field he hd h1 ?_)
  rw [if_pos (show (Value.ref T != Value.none)=true by simp)]
  refine wpAny_setField hT hdT sz (h _ ⟨fun b o q=>oth b o (fun z=>by rw [z,bT] at q; cases q) (F.stays b o q),F.out,F.fun'.of_keeps fun b o hb hn=>⟨o,oth b o (zb7 hT hdT hb hn) hb,rfl⟩,T,bT,⟨?_,ne⟩⟩ fun b o hb hn=>⟨o.slots,oth b o (zb7 hT hdT hb hn) hb⟩)
  exact ⟨oe,vs,_,_,oth e oe (Ne.symm ne) he,hc,hdc,hd,h1,Heap.get?_update_self _ hT (Obj.isFreed_of_fields (Obj.data_mapFields hdT _)),Obj.data_mapFields hdT _,by simp [sz]⟩
theorem zl5 {h:Heap} {args:List Value} (hfr:A.frames=some (env :: outer)) (hf:env.frame=some L) (hst:B.StaysIn h) (hl:h.FunFrames B (env :: outer)) (hx:Heap.MadeExcOf h s.heap e cls args)
    (k:∀ h',FlyD B (env :: outer) e cls none (rawInt L) h'→s.heap.UpToSlots h'→Q () { s with heap:=h' }):wpAny M A (noteFrame (.ref e) env) Q E s:=by
  obtain ⟨t,he,_,_⟩:=hx.there
  have oe:B.get? e=none:=by
    cases q:B.get? e with
    | none=>rfl
    | some o=>have z:=hst e o q; rw [hx.new] at z; cases z
  unfold noteFrame
  simp only [hf]
  refine wpAny_bind (wpAny_field he rfl (x:=Value.none) rfl ?_)
  rw [if_neg (by decide)]
  exact zkh hfr (hl.of_keeps fun b o hb _=>⟨o,hx.keeps b o hb,rfl⟩) hf he rfl (by simp) (fun b o q=>hx.keeps b o (hst b o q)) oe k
theorem zna (hfr:A.frames=some (env :: outer)) (hf:env.frame=some L) (F:FlyD B (env :: outer) e cls dct .none s.heap)
    (k:∀ h',FlyD B (env :: outer) e cls dct (rawInt L) h'→s.heap.UpToSlots h'→Q () { s with heap:=h' }):wpAny M A (noteFrame (.ref e) env) Q E s:=by
  obtain ⟨T,bT,⟨oe,vs,oT,ts,he,hc,hdc,hd,h1,hT,hdT,h3⟩,ne⟩:=F.tr
  have sz:3 < ts.size:=(Array.getElem?_eq_some_iff.mp h3).1
  have oth:∀ b o,b ≠ T→s.heap.get? b=some o→(s.heap.update T (Obj.mapFields (·.setIfInBounds 3 Value.none))).get? b=some o:=fun b o hb q=>by
    rw [Heap.get?_update_other _ _ (Ne.symm hb)]
    exact q
  subst hc
  subst hdc
  unfold noteFrame
  simp only [hf]
  refine wpAny_bind (wpAny_field he hd h1 ?_)
  rw [if_pos (show (Value.ref T != Value.none)=true by simp)]
  refine wpAny_bind (wpAny_field hT hdT h3 ?_)
  rw [if_neg (show ¬ ((Value.none == rawInt L)=true) by simp [rawInt])]
  refine wpAny_bind (wpAny_setField hT hdT sz ?_)
  refine zkh hfr (F.fun'.of_keeps fun b o hb hn=>⟨o,oth b o (zb7 hT hdT hb hn) hb,rfl⟩) hf (oth e oe (Ne.symm ne) he) hd (Array.getElem?_eq_some_iff.mp h1).1 (fun b o q=>oth b o (fun z=>by rw [z,bT] at q; cases q) (F.stays b o q)) F.out fun h' F' up=>?_
  exact k h' F' fun b o hb hn=>up b o (oth b o (zb7 hT hdT hb hn) hb) hn
theorem FlyD.pop {h:Heap} {fl:Value} (F:FlyD B (env :: outer) e cls dct fl h):FlyD B outer e cls dct fl h:=⟨F.stays,F.out,F.fun'.2.2,F.tr⟩
end
end L2
namespace L2
open PySem PySem.Spec PyProof.Rows
structure Fly (P:Program) (w:World) (outer:List Env) (H:Hp) (s:Shared) (e:Addr) (cls:Value) (dct:Option Addr) (H':Hp) (s':Shared):Prop where
  os:s'.os=s.os
  bare:AllBare s'.gens
  un:Un (frs outer) [] H H' s.heap s'.heap
  lay:∃ B,FlyD B outer e cls dct .none s'.heap∧HOk P w H' B∧∀ b o,s.heap.get? b=some o→b ∉ frs outer→∃ o',B.get? b=some o'∧(H b=none→o'=o)
def CX1 (P:Program) (w:World):CXT:=fun outer H s E e s'=>∃ (ea C:Addr) (dct:Option Addr) (H':Hp),e = .ref ea∧Fly P w outer H s ea (.ref C) dct H' s'∧E (.ref C) dct H'
theorem HOk.fly {P:Program} {w:World} {H:Hp} {B h:Heap} (x:HOk P w H B) (st:B.StaysIn h):HOk P w H h:=x.kept fun b u q=>st b u q
theorem HOk.none_of {P:Program} {w:World} {H:Hp} {B:Heap} {a:Addr} (x:HOk P w H B) (n:B.get? a=none):H a=none:=by
  cases q:H a with
  | none=>rfl
  | some o =>
    have z:=x.lt q
    have z2:=(x a o q)
    exfalso
    cases o with
    | lst xs=>obtain ⟨_,_,_,_,e⟩:=z2; rw [n] at e; cases e
    | tup xs=>obtain ⟨_,_,_,o,e,_⟩:=z2; rw [n] at e; cases e
    | dK kvs=>obtain ⟨_,_,_,_,o,_,_,e,_⟩:=z2; rw [n] at e; cases e
    | dT kvs=>obtain ⟨_,_,_,_,o,_,_,e,_⟩:=z2; rw [n] at e; cases e
    | set S n'=>obtain ⟨o,_,_,_,e,_⟩:=z2; rw [n] at e; cases e
    | ins C dx fs=>obtain ⟨_,_,_,e,_⟩:=z2; rw [n] at e; cases e
    | own y=>obtain ⟨_,e⟩:=z2; rw [n] at e; cases e
    | xd fs=>obtain ⟨_,⟨_,_,_,e,_⟩,_⟩:=z2; rw [n] at e; cases e
    | rng lo hi=>obtain ⟨_,_,_,e⟩:=z2; rw [n] at e; cases e
    | frz ob u=>obtain ⟨e,_⟩:=z2; rw [n] at e; cases e
    | tbl ps=>obtain ⟨_,_,_,_,_,_,_,e,_⟩:=z2; rw [n] at e; cases e
    | met f y=>have e:B.get? a=some _:=z2; rw [n] at e; cases e
    | ext φ=>obtain ⟨_,⟨_,e⟩,_⟩:=z2; rw [n] at e; cases e
theorem ziz {fs fr:List Addr} {H0 H1 H2:Hp} {h0 h1 h2 h3 B:Heap} {L:Addr} (U:Un fs [] H0 H1 h0 h1) (V:Un fr [] H1 H2 h1 h2) (hL:h0.objs.size ≤ L) (sub:∀ b ∈ fr,b ∈ L :: fs) (sup:∀ b ∈ fs,b ∈ fr) (frf:∀ b ∈ fs,H0 b=none)
    (ndat:∀ b ∈ fs,∀ o,h2.get? b=some o→∀ vs,o.data ≠ .fields vs) (up:h2.UpToSlots h3) (st:B.StaysIn h3) (all:∀ b o,h1.get? b=some o→b ∉ fr→∃ o',B.get? b=some o'∧(H1 b=none→o'=o)) :
    Un fs [] H0 H2 h0 h3∧∀ b o,h0.get? b=some o→b ∉ fs→∃ o',B.get? b=some o'∧(H0 b=none→o'=o):=by
  have nfr:∀ b o,h0.get? b=some o→b ∉ fs→b ∉ fr:=fun b o e hb hm=>by
    rcases List.mem_cons.mp (sub b hm) with z | z
    · exact absurd (Nat.lt_of_lt_of_le (Heap.lt_size e) hL) (by rw [z]; exact Nat.lt_irrefl _)
    · exact hb z
  have third:∀ b o,h0.get? b=some o→b ∉ fs→∃ o',B.get? b=some o'∧(H0 b=none→o'=o):=fun b o e hb=>by
    obtain ⟨o1,e1⟩:=U.there b o e (by simp)
    obtain ⟨o2,e2,z⟩:=all b o1 e1 (nfr b o e hb)
    refine ⟨o2,e2,fun n=>?_⟩
    have e1':=U.keep b o e n hb (by simp)
    rw [e1] at e1'
    cases e1'
    exact z (U.free b o e n (by simp))
  have slots:∀ b o,h0.get? b=some o→b ∈ fs→∃ sl,h3.get? b=some { o with slots:=sl }:=fun b o e hb=>by
    have n:=frf b hb
    obtain ⟨s1,e1⟩:=U.slot b o e n hb (by simp)
    obtain ⟨s2,e2⟩:=V.slot b _ e1 (U.free b o e n (by simp)) (sup b hb) (by simp)
    obtain ⟨s3,e3⟩:=up b _ e2 (ndat b hb _ e2)
    exact ⟨s3,e3⟩
  refine ⟨⟨fun b o e n hb _=>?_,fun b o e n hb _=>slots b o e hb,fun b o e n _=>?_,fun b o e _=>?_,fun b xs e=>V.tups b xs (U.tups b xs e),fun b o u e=>V.frzs b o u (U.frzs b o u e),fun b ps e=>?_⟩,third⟩
  · obtain ⟨o',e',z⟩:=third b o e hb
    rw [z n] at e'
    exact st b o e'
  · obtain ⟨o1,e1⟩:=U.there b o e (by simp)
    exact V.free b o1 e1 (U.free b o e n (by simp)) (by simp)
  · by_cases hb:b ∈ fs
    · obtain ⟨sl,q⟩:=slots b o e hb
      exact ⟨_,q⟩
    · obtain ⟨o',e',_⟩:=third b o e hb
      exact ⟨o',st b o' e'⟩
  · obtain ⟨m1,e1⟩:=U.tbls b ps e
    obtain ⟨m2,e2⟩:=V.tbls b _ e1
    exact ⟨m1 ++ m2,by rw [e2,Array.append_assoc]⟩
section
variable {P:Program} {w:World} {K:PySem.W.Frag} {mg:Str→Option Value} {base:Heap} {N:List Str} {qual:Str} {scope:Scope} {f:Addr} {cd:Value} {A:Around} {outer:List Env} {s0:Shared} {H0:Hp} {E:XK}
abbrev cx1 (P:Program) (w:World) (K:PySem.W.Frag) (mg:Str→Option Value) (base:Heap) (N:List Str) (qual:Str) (scope:Scope) (f:Addr) (cd:Value) (A:Around) (outer:List Env) (s0:Shared) (H0:Hp) (E:XK):Cx:=cxOf (CX1 P w) P w K mg base N qual scope f cd A outer s0 H0 E
theorem zmP {pins:List (Addr × Obj)} {σ:St} {H:Hp} {s s':Shared} {ea C:Addr} {args:List Value} (I:Inv (cx1 P w K mg base N qual scope f cd A outer s0 H0 E) pins σ H s) (hm:Heap.MadeExcOf s.heap s'.heap ea (.ref C) args)
    (os:s'.os=s.os) (bare:AllBare s'.gens) (q:E (.ref C) none H):(cx1 P w K mg base N qual scope f cd A outer s0 H0 E).xe (.ref ea) s':=by
  have hin:∀ env ∈ (cx1 P w K mg base N qual scope f cd A outer s0 H0 E).stack,∀ a,env.frame=some a→a ∈ frs (cx1 P w K mg base N qual scope f cd A outer s0 H0 E).stack:=fun env he a ha=>List.mem_filterMap.mpr ⟨env,he,ha⟩
  have hstk:=I.stack
  show wpAny (model P w) _ (leaving _ (.ref ea)) _ _ s'
  unfold leaving
  refine wpAny_bind (zl5 (B:=PySem.W.hideAll s.heap (frs (cx1 P w K mg base N qual scope f cd A outer s0 H0 E).stack)) I.ok.frames rfl (fun b o e=>PySem.W.of_hideAll _ e) (PySem.W.funFrames_hide hstk hin) hm fun h1 F1 up1=>?_)
  refine zlh F1 fun h2 F2 up2=>?_
  have keepS:∀ b o,s.heap.get? b=some o→b ∉ frs (cx1 P w K mg base N qual scope f cd A outer s0 H0 E).stack→(PySem.W.hideAll s.heap (frs (cx1 P w K mg base N qual scope f cd A outer s0 H0 E).stack)).get? b=some o:=fun b o e hb=>PySem.W.hideAll_get _ e hb
  obtain ⟨u,third⟩:=ziz (h2:=s.heap) (h3:=h2) (B:=PySem.W.hideAll s.heap (frs (cx1 P w K mg base N qual scope f cd A outer s0 H0 E).stack)) (fr:=frs (cx1 P w K mg base N qual scope f cd A outer s0 H0 E).stack) I.base Un.refl I.ok.above I.stkSub
    (fun b hb=>List.mem_cons_of_mem _ hb) I.ok.frf (fun b hb o e=>by
      obtain ⟨_,o',ho',hn⟩:=hstk.mem (List.mem_cons_of_mem _ hb)
      rw [e] at ho'
      cases ho'
      exact hn) ((Heap.UpToSlots.of_keeps hm.keeps).trans (up1.trans up2)) F2.stays (fun b o e hb=>⟨o,keepS b o e hb,fun _=>rfl⟩)
  refine ⟨ea,C,none,H,rfl,⟨os.trans I.os,bare,u,_,F2.pop,?_,third⟩,q⟩
  intro a o e
  refine (I.hok a o e).stay (fun b v hb q=>keepS b v q fun z=>?_) (fun _ q=>q) fun _ _ q=>q
  have n:=I.stkFree b z
  rcases hb with rfl | hb
  · rw [e] at n; cases n
  · rw [hb] at n; cases n
theorem zmd {pins:List (Addr × Obj)} {σ:St} {H:Hp} {s s':Shared} {e:Value} (I:Inv (cx1 P w K mg base N qual scope f cd A outer s0 H0 E) pins σ H s) (h:CX1 P w (cx1 P w K mg base N qual scope f cd A outer s0 H0 E).stack H s E e s') :
    (cx1 P w K mg base N qual scope f cd A outer s0 H0 E).xe e s':=by
  obtain ⟨ea,C,dct,H',rfl,F,q⟩:=h
  obtain ⟨B,fl,hok,third⟩:=F.lay
  have hstk:=I.stack
  show wpAny (model P w) _ (leaving _ (.ref ea)) _ _ s'
  unfold leaving
  refine wpAny_bind (zna I.ok.frames rfl fl fun h1 F1 up1=>?_)
  refine zlh F1 fun h2 F2 up2=>?_
  obtain ⟨u,third'⟩:=ziz (h3:=h2) (B:=B) I.base F.un I.ok.above I.stkSub (fun b hb=>List.mem_cons_of_mem _ hb) I.ok.frf (fun b hb o e=>by
      obtain ⟨_,o',ho',hn⟩:=fl.fun'.mem (List.mem_cons_of_mem _ hb)
      rw [e] at ho'
      cases ho'
      exact hn) (up1.trans up2) F2.stays third
  exact ⟨ea,C,dct,H',rfl,⟨F.os.trans I.os,F.bare,u,B,F2.pop,hok,third'⟩,q⟩
end
theorem zlE {K:PySem.W.Frag} {h:Heap} {C:Addr} {bmB:List Value} {newId:String} (X:K.In h) (q:PySem.W.excIn K C bmB newId=true) :
    ∃ bm N nm qn bs hdct sn sub ab col dd k0 k1 k2 k3 k5 mN,h.get? C=some (excClassObj nm qn C N bs bm hdct sn sub ab col dd k0 k1 k2 k3 k5 newId)∧h.Ns N mN∧mN "__init__"=none∧OwnTail h bmB bm:=by
  unfold PySem.W.excIn at q
  split at q
  · rename_i dd cd sl ho
    split at q
    · rename_i C' bm k0 k1 k2 k3 n k5 hm hs
      simp only [Bool.and_eq_true,beq_iff_eq,Bool.not_eq_true'] at q
      obtain ⟨⟨⟨⟨⟨rfl,rfl⟩,hdel⟩,ht⟩,hok⟩,hni⟩:=q
      obtain ⟨nm,bs,mro,ns,qn,hd,sn,sub,ab,col,del⟩:=cd
      dsimp only at hm hdel hok hni
      subst hm hdel
      obtain ⟨sll⟩:=sl
      simp only at hs
      subst hs
      exact ⟨bm,ns,nm,qn,bs,hd,sn,sub,ab,col,dd,k0,k1,k2,k3,k5,_,X _ _ ho,.of_isNs (PySem.W.isNs_of_in X hok),PySem.W.nsMap_none_of_in X hok hni,PySem.W.tail_of_in X ht⟩
    · cases q
  · cases q
def Made (X:Cx) (E:St→XK):Prop:=∀ (pins:List (Addr × Obj)) (σ:St) (H:Hp) (s s':Shared) (ea C:Addr) (args:List Value),Inv X pins σ H s→Heap.MadeExcOf s.heap s'.heap ea (.ref C) args→s'.os=s.os→AllBare s'.gens→E σ (.ref C) none H→X.xe (.ref ea) s'
def zg3 (CX:CXT) (X:Cx) (E:St→XK):Prop:=∀ (pins:List (Addr × Obj)) (σ:St) (H:Hp) (s:Shared) (e:Value) (s':Shared),Inv X pins σ H s→CX X.stack H s (E σ) e s'→X.xe e s'
def zni (C:Addr) (E:St→XK) (t:TA):TS:=fun _ σ H=>t σ H fun vs H1=>vs.length ≤ sizeLine∧E σ (.ref C) none H1
section
variable {X:Cx} {x:Str} {np cpos pos:Pos} {e₀:Expr} {rest:List Expr} {C:Addr} {bmB bmN:List Value} {newId Bn B nid inN initId:String} {E:St→XK} {t:TA}
theorem zmc (hc:X.calm=true) (hg:Gl X x) (hmx:X.mg x=some (.ref C)) (hk:PySem.W.excIn X.K C bmB newId=true) (Fn:ExcBaseFacts Bn newId inN bmN) (hBn:bmB.contains (.type Bn)=true) (FB:ExcBaseFacts B nid initId bmB) (hE:Made X E)
    (ha:PA X (e₀ :: rest) t) (he:starEach (e₀ :: rest) X.env=(false,eval e₀ X.env) :: starEach rest X.env:=by rfl) (hplain:(backTo cpos (starEach rest X.env)).any (·.1)=false:=by rfl) (hdb:(x == ("__debug__" : Str))=false:=by decide) :
    PS X (.Raise (some (.Call (.Name x np) (e₀ :: rest) [] cpos)) none pos) (zni C E t):=by
  intro pins s σ H D I h
  obtain ⟨tl,N,nm,qn,bs,hdct,sn,sub,ab,col,dd,k0,k1,k2,k3,k5,mN,hC,hN,hni,T⟩:=zlE I.ok.mod.kin hk
  refine wpAny_Raise_call_subU (C:=C) (nm:=nm) (q:=qn) (N:=N) (bs:=bs) (bm:=tl) (hdct:=hdct) (sn:=sn) (sub:=sub) (ab:=ab) (col:=col) (dd:=dd) (k0:=k0) (k1:=k1) (k2:=k2) (k3:=k3) (k5:=k5)
    Fn hBn FB (mN:=mN) (T.hasType FB.hasBase) (I.ok.hd hc) (by rw [he]; show (false || (backTo cpos (starEach rest X.env)).any (·.1))=false; rw [hplain]; rfl) hni (zdL I hg hmx ⟨rfl,?_⟩ hdb)
  have hA:=ha cpos pins s σ H _ I h
  rw [he] at hA ⊢
  refine Calls.evalArgs_plain (thn hA fun us s1 ⟨vs,H1,I1,r1,z,q⟩=>?_)
  have bk:=I1.bk
  refine ⟨rfl,by rw [← r1.length]; exact z,bk _ _ hC,hN.keeps bk,T.keeps bk,fun h' ea hm=>?_⟩
  exact hE pins σ H1 s1 { s1 with heap:=h' } ea C us I1 hm rfl I1.bare q
end
def zkr (sp:Sp) (E:St→XK) (t:TA):TE:=fun σ H Q=>t σ H fun vs H1=>sp vs H1 Q (E σ)
section
variable {X:Cx} {CX:CXT} {k:Nat} {x:Str} {ps:List Str} {sp:Sp} {E:St→XK} {p pos:Pos} {e:Expr} {es:List Expr} {t:TA}
theorem zkU (G:Has X.prog X.w X.K X.mg X.base CX k x ps sp) (hr:Room k X.A) (hg:Gl X x) (hx:zg3 CX X E)
    (ha:PA X (e :: es) t) (hdb:(x == ("__debug__" : Str))=false:=by decide) (he:starEach (e :: es) X.env=(false,eval e X.env) :: starEach es X.env:=by rfl) (hpl:(backTo pos (starEach es X.env)).any (·.1)=false:=by rfl) :
    PE X (.Call (.Name x p) (e :: es) [] pos) (zkr sp E t):=by
  obtain ⟨f,fd,F,hm,hk,hb⟩:=G.ex
  intro pins s σ H Q I h
  refine wpAny_Call_Name_kw (zdL I hg hm ?_ hdb)
  refine PySem.W.callWith_K (h₀:=X.base) I.ok.mod.kin hk (thn (ha pos pins s σ H _ I h) fun us s1 ⟨vs,H1,I1,r,q⟩=>⟨I1.kIn,?_⟩) he hpl
  have hl:us.length=ps.length:=by rw [← r.length]; exact F.len _ _ _ _ q
  have bd:BindsTo s1 fd ⟨us,[]⟩ (ps.zip us):=by
    have z:=hb s1 us I1.kIn (by rw [List.append_nil]; exact hl)
    rw [List.append_nil] at z
    exact z
  refine wpAny_call (codeAny_mono (F.run X.A X.stack s1 H1 ⟨us,[]⟩ us vs Q (E σ) hr I1.env0 bd r q) fun rs s' hq=>?_)
  cases rs with
  | error e'=>exact hx pins σ H1 s1 e' s' I1 hq
  | ok fl =>
    cases fl with
    | ret u=>exact I1.after hq
    | next=>exact False.elim hq
    | brk=>exact False.elim hq
    | cont=>exact False.elim hq
end
theorem zjP {K:PySem.W.Frag} {M:Model} {A:Around} {E:Value→Shared→Prop} {s:Shared} {Q:Bool→Shared→Prop} {e C D:Addr} {oe:Obj} (X:K.In s.heap) (he:s.heap.get? e=some oe) (hc:oe.cls = .ref C)
    (h1:PySem.W.kitCls K (.ref C) (.ref D)=some true) (h2:PySem.W.mroIn K D (.type "BaseException")=some true) (q:Q true s):wpAny M A (excMatches (.ref e) (.ref D)) Q E s:=by
  obtain ⟨hp,g,d,tk,os⟩:=s
  obtain ⟨l1,l2,l3⟩:=PySem.W.kit_cls (M:=M) X h1
  have l4:=PySem.W.looks_mroIn (M:=M) X h2
  have l5:PySem.W.Looks M hp (isInstance (.ref D) (.type "tuple")) false:=l1.andThen (PySem.W.Looks.of_pure tc_notTuple)
  have l6:PySem.W.Looks M hp (typeOf (.ref e)) (.ref C):=by
    rw [← hc]
    exact (PySem.W.Looks.ld he).andThen .now
  have l7:PySem.W.Looks M hp (isExcClass (.ref D)) true:=l2.andThen (by rw [if_pos rfl]; exact l4)
  unfold excMatches
  repeat (first | with_reducible refine PySem.W.Looks.at l5 ?_ | with_reducible refine PySem.W.Looks.at l6 ?_ | with_reducible refine PySem.W.Looks.at l7 ?_ | with_reducible refine PySem.W.Looks.at l3 ?_ | wp_step)
  exact q
def excO (C:Addr) (dct:Option Addr) (ea:Addr):HO:=.ext fun h=>∃ ob,h.get? ea=some ob∧ob.cls = .ref C∧ob.dict=dct∧∃ vs,ob.data = .fields vs
theorem Inv.track {X:Cx} {pins:List (Addr × Obj)} {σ:St} {H:Hp} {s:Shared} {ea:Addr} {o:HO} (I:Inv X pins σ H s) (hn:H ea=none) (h0:X.s₀.heap.get? ea=none) (hL:ea ≠ X.env.locals) (hc:∀ x c,X.env.cells.lookup x=some c→c ≠ ea)
    (hp:∀ p ∈ X.pn ++ pins,p.1 ≠ ea) (hnew:ObjOk X.prog X.w (upd H ea o) s.heap ea o):Inv X pins σ (upd H ea o) s:=by
  have ne:∀ {b:Addr} {u:HO},H b=some u→b ≠ ea:=fun q z=>by rw [z,hn] at q; cases q
  refine ⟨I.ok,I.os,I.bare,⟨I.base.keep,I.base.slot,fun b ob q n hx=>?_,I.base.there,fun b xs q=>?_,fun b ob u q=>?_,fun b ps q=>?_⟩,I.loc,I.cell,?_,fun x c q=>?_,fun p q=>?_,fun b u q=>?_,I.len⟩
  · rw [zag (fun z=>by rw [z,h0] at q; cases q)]
    exact I.base.free b ob q n hx
  · have z:=I.base.tups b xs q
    rw [zag (ne z)]; exact z
  · have z:=I.base.frzs b ob u q
    rw [zag (ne z)]; exact z
  · obtain ⟨m,z⟩:=I.base.tbls b ps q
    exact ⟨m,by rw [zag (ne z)]; exact z⟩
  · rw [zag (Ne.symm hL)]; exact I.free
  · rw [zag (hc x c q)]; exact I.freeC x c q
  · obtain ⟨a1,a2,a3,a4,a5⟩:=I.pin p q
    exact ⟨a1,by rw [zag (hp p q)]; exact a2,a3,a4,a5⟩
  · by_cases hb:b=ea
    · subst hb
      rw [zai] at q
      cases q
      exact hnew
    · rw [zag hb] at q
      exact (I.hok b u q).stay (fun c v _ z=>z) (fun c z=>by rw [zag (ne z)]; exact z) fun c xs z=>by rw [zag (ne z)]; exact z
def Cx.suite (X:Cx) (ea:Addr):Cx:={ X with A:=X.A.mark (some (.ref ea)),calm:=false,xe:=fun _ _=>False }
theorem Inv.suite {X:Cx} {pins:List (Addr × Obj)} {σ:St} {H:Hp} {s:Shared} (I:Inv X pins σ H s) (ea:Addr):Inv (X.suite ea) pins σ H s :=
  ⟨⟨I.ok.mod,I.ok.kind,I.ok.glob,I.ok.blt,I.ok.above,I.ok.inj,I.ok.has,I.ok.cab,fun z=>(by cases (show false=true from z)),I.ok.frames,I.ok.stk,I.ok.exf,I.ok.bs,I.ok.bsz,I.ok.noex,I.ok.exfs,I.ok.funs,I.ok.frf,I.ok.tb⟩,I.os,I.bare,I.base,I.loc,I.cell,I.free,I.freeC,I.pin,I.hok,I.len⟩
theorem Inv.unsuite {X:Cx} {pins:List (Addr × Obj)} {σ:St} {H:Hp} {s:Shared} {ea:Addr} (ok:X.Ok) (I:Inv (X.suite ea) pins σ H s):Inv X pins σ H s :=
  ⟨ok,I.os,I.bare,I.base,I.loc,I.cell,I.free,I.freeC,I.pin,I.hok,I.len⟩
def tTry (K:PySem.W.Frag) (D':Addr) (tb:(St→XK)→TS) (i:Nat) (th:TS):TS:=fun D σ H =>
  tb (fun σ' cls dct H'=>∃ C,cls = .ref C∧PySem.W.kitCls K (.ref C) (.ref D')=some true∧∀ ea,H' ea=none→th { nx:=fun σ2 H2=>D.nx (σ2.set i none) H2,rt:=D.rt,bk:=fun σ2 H2=>D.bk (σ2.set i none) H2,ct:=fun σ2 H2=>D.ct (σ2.set i none) H2 } (σ'.set i (some (.ref ea))) (upd H' ea (excO C dct ea))) D σ H
section
variable {P:Program} {w:World} {X:Cx} {x n:Str} {np hpos pos:Pos} {body:List Stmt} {b₀:Stmt} {suite:List Stmt} {D':Addr} {tb:(St→XK)→TS} {th:TS} {i:Nat}
theorem zeS {pins:List (Addr × Obj)} {σ:St} {H:Hp} {s:Shared} {Q:Unit→Shared→Prop} (I:Inv X pins σ H s) (hN:X.N.Nodup) (hi:X.N[i]?=some n) (hn:X.env.kindOf n=some .local)
    (k:∀ s',Inv X pins (σ.set i none) H s'→Q () s'):wpAny (model X.prog X.w) X.A (do bindName X.env n .none; unbindBehindTheSuite X.env n hpos) Q X.xe s:=by
  have hk:X.env.scope.names.lookup n=some .local:=hn
  refine wpAny_bind (wpAny_bindName (zd8 I hN hi (.inl hk) (v:=.non) rfl (fun s1 I1=>?_) (.inr hk)))
  obtain ⟨m,hm,hl⟩:=I1.loc
  have li:i < σ.length:=by
    rw [I.len]
    exact (List.getElem?_eq_some_iff.mp hi).1
  obtain ⟨u,ru,lu⟩:=hl i n .non hi (by rw [List.getElem?_set_self li]) (.inl hk)
  have hv:m n=some u:=by
    rcases lu with ⟨_,z⟩ | ⟨z,_⟩
    · exact z
    · rcases z with z | z <;> (rw [hn] at z; cases z)
  unfold unbindBehindTheSuite
  refine wpAny_onRaise (wpAny_unbindName_local hn hm hv (by rw [I.ok.kind]; rfl) fun h' u' hm' hs'=>k _ ?_)
  have I2:Inv X pins (σ.set i none) H s1:=I1.weak (by simp) fun j v e=>by
    by_cases hj:j=i
    · subst hj
      rw [List.getElem?_set_self li] at e
      cases e
    · rw [List.getElem?_set_ne (Ne.symm hj)] at e ⊢
      exact e
  have kp:∀ b o,b ≠ X.env.locals→s1.heap.get? b=some o→h'.get? b=some o:=fun b o hb e=>(hs'.2 b hb).trans e
  have e0:∀ b o,X.s₀.heap.get? b=some o→b ≠ X.env.locals:=fun b o e=>Nat.ne_of_lt (Nat.lt_of_lt_of_le (Heap.lt_size e) I.ok.above)
  refine ⟨I2.ok,I2.os,I2.bare,⟨fun b o e n' hb hx=>kp b o (e0 b o e) (I2.base.keep b o e n' hb hx),fun b o e n' hb hx=>?_,I2.base.free,fun b o e hx=>?_,I2.base.tups,I2.base.frzs,I2.base.tbls⟩,⟨_,hm',fun j y v e1 e2 e3=>?_⟩,fun y c e=>?_,I2.free,I2.freeC,fun p hp=>?_,?_,I2.len⟩
  · obtain ⟨sl,q⟩:=I2.base.slot b o e n' hb hx
    exact ⟨sl,kp b _ (e0 b o e) q⟩
  · obtain ⟨o',q⟩:=I2.base.there b o e hx
    exact ⟨o',kp b o' (e0 b o e) q⟩
  · by_cases hj:j=i
    · subst hj
      rw [List.getElem?_set_self li] at e2
      cases e2
    · rw [List.getElem?_set_ne (Ne.symm hj)] at e2
      have ny:y ≠ n:=fun z=>by
        subst z
        exact hj (zgQ hN e1 hi)
      obtain ⟨u2,r2,l2⟩:=hl j y v e1 (by rw [List.getElem?_set_ne (Ne.symm hj)]; exact e2) e3
      refine ⟨u2,r2,?_⟩
      rcases l2 with ⟨k1,k2⟩ | ⟨k1,c,k2,ob,k3,k4⟩
      · exact .inl ⟨k1,by show (if y=n then u' else m y)=_; rw [if_neg ny]; exact k2⟩
      · exact .inr ⟨k1,c,k2,ob,kp c ob (I1.cne y c k2) k3,k4⟩
  · obtain ⟨v,ob,k3,k4⟩:=I2.cell y c e
    exact ⟨v,ob,kp c ob (I2.cne y c e) k3,k4⟩
  · obtain ⟨a1,a2,a3,a4,a5⟩:=I2.pin p hp
    exact ⟨kp _ _ a3 a1,a2,a3,a4,a5⟩
  · intro a o e
    refine (I2.hok a o e).stay (fun b v hb q=>kp b v (fun z=>?_) q) (fun _ q=>q) fun _ _ q=>q
    have fr:=I2.free
    rcases hb with rfl | hb
    · rw [z,fr] at e; cases e
    · rw [z,fr] at hb; cases hb
def Cx.guard (X:Cx) (pl:List (Addr × Obj)) (xe:Value→Shared→Prop):Cx:={ X with pn:=pl,xe:=xe }
theorem Inv.guard {pins:List (Addr × Obj)} {σ:St} {H:Hp} {s:Shared} (I:Inv X pins σ H s) (xe:Value→Shared→Prop):Inv (X.guard (X.pn ++ pins) xe) [] σ H s :=
  ⟨⟨I.ok.mod,I.ok.kind,I.ok.glob,I.ok.blt,I.ok.above,I.ok.inj,I.ok.has,I.ok.cab,I.ok.hd,I.ok.frames,I.ok.stk,I.ok.exf,I.ok.bs,I.ok.bsz,I.ok.noex,I.ok.exfs,I.ok.funs,I.ok.frf,I.ok.tb⟩,I.os,I.bare,I.base,I.loc,I.cell,I.free,I.freeC,
    fun p hp=>I.pin p (by rw [List.append_nil] at hp; exact hp),I.hok,I.len⟩
theorem Inv.unguard {pins pins':List (Addr × Obj)} {σ:St} {H:Hp} {s:Shared} {xe:Value→Shared→Prop} (ok:X.Ok) (I:Inv (X.guard (X.pn ++ pins) xe) pins' σ H s):Inv X pins σ H s :=
  ⟨ok,I.os,I.bare,I.base,I.loc,I.cell,I.free,I.freeC,fun p hp=>I.pin p (List.mem_append_left _ hp),I.hok,I.len⟩
theorem zpv (hex:X.ex = []) (hst:X.stack=X.env :: X.outer) (hfr:X.env.frame=some X.env.locals) (hN:X.N.Nodup) (hi:X.N[i]?=some n) (hn:X.env.kindOf n=some .local) (hg:Gl X x) (hmx:X.mg x=some (.ref D')) (hD:PySem.W.mroIn X.K D' (.type "BaseException")=some true)
    (hb:∀ (E:St→XK) (pl:List (Addr × Obj)) (xe:Value→Shared→Prop),zg3 (CX1 X.prog X.w) (X.guard pl xe) E→PSs (X.guard pl xe) body (tb E)) (hh:∀ ea,PSs (X.suite ea) (b₀ :: suite) th) (hdb:(x == ("__debug__" : Str))=false:=by decide) :
    PS X (.Try body [.ExceptHandler (some (.Name x np)) (some n) (b₀ :: suite) hpos] [] [] pos) (tTry X.K D' tb i th):=by
  intro pins s σ H D I h
  have ok:=I.ok
  refine wpAny_Try_except ?_
  refine wpAny_mono (hb _ (X.pn ++ pins) (fun e s₁=>wpAny (model X.prog X.w) X.A (noteFrame e X.env) (fun _ s₂=>wpAny (model X.prog X.w) X.A (setFlight e none) (fun _ s₃=>wpAny (model X.prog X.w) X.A (handleBy e X.env [.ExceptHandler (some (.Name x np)) (some n) (b₀ :: suite) hpos]) (SP X pins D) X.xe s₃) X.xe s₂) X.xe s₁) ?_ [] s σ H D (I.guard _) h) (fun f s1 q=>?_) fun _ _ q=>q
  · -- an exception of the body
    intro pins' σ' H1 s1 e s2 I1 hcx
    obtain ⟨ea,C,dct,H',rfl,F,C',hC',hm,hth⟩:=hcx
    cases hC'
    have J1:Inv X pins σ' H1 s1:=I1.unguard ok
    have F':Fly X.prog X.w (X.env :: X.outer) H1 s1 ea (.ref C) dct H' s2:=by
      rw [← hst]
      exact F
    obtain ⟨Fos,Fbare,Fun,B,fl,hok,third⟩:=F'
    have fr2:X.A.frames=some (X.env :: X.outer):=by rw [← hst]; exact ok.frames
    -- whatever the heap behind
    have land:∀ h' ,FlyD B (X.env :: X.outer) ea (.ref C) dct .none h'→s2.heap.UpToSlots h'→Inv X pins σ' H' { s2 with heap:=h' }:=fun h' F' up=>by
      obtain ⟨u,_⟩:=ziz (fs:=frs (X.env :: X.outer)) (fr:=frs (X.env :: X.outer)) (h0:=s1.heap) (h1:=s1.heap) (h3:=h') (B:=B) (L:=s1.heap.objs.size) Un.refl Fun (Nat.le_refl _) (fun b hb=>List.mem_cons_of_mem _ hb) (fun b hb=>hb)
        (fun b hb=>J1.stkFree b (by rw [hst]; exact hb)) (fun b hb o e=>by
          obtain ⟨_,o',ho',hn'⟩:=fl.fun'.mem hb
          rw [e] at ho'
          cases ho'
          exact hn') up F'.stays third
      obtain ⟨hh2,g2,d2,t2,os2⟩:=s2
      obtain rfl:os2=s1.os:=Fos
      show Inv X pins σ' H' { s1 with heap:=h',gens:=g2,drawn:=d2,toks:=t2 }
      exact J1.call (h':=h') (g':=g2) (d':=d2) (t':=t2) (ch:=[]) (by rw [hst]; exact u) (hok.fly F'.stays) Fbare fun b z=>absurd z (by simp)
    show wpAny (model X.prog X.w) X.A (noteFrame (.ref ea) X.env) _ _ s2
    refine zna fr2 hfr fl fun h1 F1 up1=>?_
    refine zlh F1 fun h2 F2 up2=>?_
    have J2:=land h2 F2 (up1.trans up2)
    obtain ⟨T,_,⟨oe,vs,_,_,he,hc,hdc,hd,_⟩,_⟩:=F2.tr
    refine wpAny_handleBy_cons (codeAny_handlers_test (zdL (X:=X.suite ea) (J2.suite ea) hg hmx ?_ hdb)) (by intro z; cases z)
    refine zjP (K:=X.K) J2.kIn he hc hm hD ?_
    refine codeAny_handlers_suite_as ?_
    refine zlh F2 fun h3 F3 up3=>?_
    have J3:=land h3 F3 ((up1.trans up2).trans up3)
    obtain ⟨T3,_,⟨oe3,vs3,_,_,he3,hc3,hdc3,hd3,_⟩,_⟩:=F3.tr
    have nH:H' ea=none:=hok.none_of F3.out
    have nfr:ea ∉ frs X.stack:=fun z=>by
      rw [hst] at z
      obtain ⟨_,o',ho',hn'⟩:=F3.fun'.mem z
      exact zb7 he3 hd3 ho' hn' rfl
    have nB:∀ b o,s1.heap.get? b=some o→b ∉ frs X.stack→b ≠ ea:=fun b o e hb z=>by
      obtain ⟨o',e',_⟩:=third b o e (by rw [← hst]; exact hb)
      rw [z,F3.out] at e'
      cases e'
    have nL:ea ≠ X.env.locals:=fun z=>nfr (by
      rw [hst,z]
      exact List.mem_filterMap.mpr ⟨X.env,List.mem_cons_self,hfr⟩)
    have J4:Inv (X.suite ea) pins σ' (upd H' ea (excO C dct ea)) { s2 with heap:=h3 }:=(J3.suite ea).track nH (by
        cases z:X.s₀.heap.get? ea with
        | none=>exact z
        | some o =>
          obtain ⟨o1,e1⟩:=J1.base.there ea o z (by rw [hex]; simp)
          exact absurd rfl (nB ea o1 e1 nfr)) nL (fun y c e z=>by
        obtain ⟨v,ob,k3,k4⟩:=J3.cell y c e
        rw [z] at k3
        have k3':h3.get? ea=some ob:=k3
        rw [he3] at k3'
        cases k3'
        rw [hd3] at k4
        cases k4) (fun p hp=>by
        obtain ⟨a1,_,a3,a4,_⟩:=J1.pin p hp
        exact nB p.1 p.2 a1 fun z=>(List.mem_cons.mp (J1.stkSub p.1 z)).elim a3 a4)
      ⟨⟨oe3,he3,hc3,hdc3,vs3,hd3⟩,⟨oe3,he3⟩,fun g1 g2 z k=>by
        obtain ⟨ob,z1,z2⟩:=z
        exact ⟨ob,k ob z1,z2⟩⟩
    refine zd8 (X:=X.suite ea) J4 hN hi (.inl hn) (v:=.ref ea) rfl (fun s5 I5=>?_) (.inr hn)
    refine wpAny_mono (hh ea pins s5 _ _ _ I5 (hth ea nH)) (fun f s6 q6=>?_) fun _ _ z=>z.elim
    cases f with
    | next =>
      obtain ⟨σ6,H6,I6,q6⟩:=q6
      exact zeS (I6.unsuite ok) hN hi hn fun s7 I7=>⟨_,_,I7,q6⟩
    | brk =>
      obtain ⟨σ6,H6,I6,q6⟩:=q6
      exact zeS (I6.unsuite ok) hN hi hn fun s7 I7=>⟨_,_,I7,q6⟩
    | cont =>
      obtain ⟨σ6,H6,I6,q6⟩:=q6
      exact zeS (I6.unsuite ok) hN hi hn fun s7 I7=>⟨_,_,I7,q6⟩
    | ret v =>
      obtain ⟨v6,σ6,H6,I6,r6,q6⟩:=q6
      exact zeS (I6.unsuite ok) hN hi hn fun s7 I7=>⟨v6,_,_,I7,r6,q6⟩
  · cases f with
    | next =>
      obtain ⟨σ6,H6,I6,q6⟩:=q
      exact wpAny_execs_nil ⟨σ6,H6,I6.unguard ok,q6⟩
    | brk =>
      obtain ⟨σ6,H6,I6,q6⟩:=q
      exact ⟨σ6,H6,I6.unguard ok,q6⟩
    | cont =>
      obtain ⟨σ6,H6,I6,q6⟩:=q
      exact ⟨σ6,H6,I6.unguard ok,q6⟩
    | ret v =>
      obtain ⟨v6,σ6,H6,I6,r6,q6⟩:=q
      exact ⟨v6,σ6,H6,I6.unguard ok,r6,q6⟩
end
end L2
namespace L2
open PySem PySem.Spec PyProof.Rows
structure ExcCls (K:PySem.W.Frag) (C:Addr):Prop where
  ga:PySem.W.findIn K (.ref C) "__getattribute__"=some (some (.builtin "BaseException.__getattribute__"))
  gn:PySem.W.findIn K (.ref C) "__getattr__"=some none
  hd:PySem.W.hasDictIn K C=true
  ha:PySem.W.findIn K (.ref C) "__class__"=some (some (.builtin "object.__class__"))
  hn:PySem.W.specialIn K (.builtin "object.__class__") "__get__"=some (some (.builtin "getset_descriptor.__get__"))
  htk:PySem.W.takesIn K (.builtin "object.__class__")=some true
  hm:PySem.W.mroIn K C (.type "object")=some true
  hb:PySem.W.mroIn K C (.type "BaseException")=some true
theorem zhT {K:PySem.W.Frag} {C:Addr} {od:Option Obj} {name:Str} {a g:Value} (hc:(PySem.W.clsIn K C).isSome=true) (ha:PySem.W.findIn K (.ref C) name=some (some a)) (hg:PySem.W.specialIn K a "__get__"=some (some g)) (ht:PySem.W.takesIn K a=some true) :
    PySem.W.findObj K C od name=some (.bind g a):=by
  obtain ⟨cd,hc⟩:=Option.isSome_iff_exists.mp hc
  unfold PySem.W.findObj
  rw [hc,Option.bind_some,ha,Option.bind_some]
  simp only [hg]
  show (PySem.W.takesIn K a).bind _=_
  rw [ht]
  rfl
set_option maxHeartbeats 4000000 in
theorem zke {K:PySem.W.Frag} {x C:Addr} {ox:Obj} {od:Option Obj} {prog:Program} {w:World} {A:Around} {E:Value→Shared→Prop} {Q:Option Value→Shared→Prop} {s:Shared} (Z:ExcCls K C) (X:K.In s.heap) (I:PySem.W.InstAt s.heap x ox C od)
    (k:Q (some (.ref C)) { s with toks:=s.toks + 1 }):wpAny (model prog w) A (getAttr? (.ref x) "__class__") Q E s:=by
  have hf:PySem.W.findObj K C od "__class__"=some (.bind (.builtin "getset_descriptor.__get__") (.builtin "object.__class__")):=zhT (by obtain ⟨cd,hc,_⟩:=PySem.W.any_some Z.hd; rw [hc]; rfl) Z.ha Z.hn Z.htk
  have X':=X
  have I':=I
  have Z':=Z
  obtain ⟨hh,g,d,t,os⟩:=s
  have L0:=I.type (M:=model prog w)
  have L1:=PySem.W.looks_findIn (M:=model prog w) X Z.ga
  have L2:=PySem.W.looks_findIn (M:=model prog w) X Z.gn
  have L3:=PySem.W.looks_find (M:=model prog w) X I hf
  have L4:PySem.W.Looks (model prog w) hh (isInstance (.ref x) (.type "BaseException")) true:=L0.andThen (PySem.W.looks_mroIn X Z.hb)
  have f3:=F.attr_ValueError.ga.bind (.ref x)
  have hx0:((false:Bool) && onTheHeap (Value.builtin "BaseException.__getattribute__"))=false:=rfl
  have hx2:(Value.builtin "BaseException.__getattribute__" == Value.builtin "object.__getattribute__")=false:=by decide +kernel
  have hx1:(onTheHeap (Value.ref C) && Value.builtin "BaseException.__getattribute__" == Value.builtin "object.__getattribute__")=false:=by rw [hx2]; rfl
  unfold getAttr? getAttrBy?
  refine wpAny_bind (wpAny_mkText (wpAny_bind (wpAny_attempt ?_)))
  repeat (any_goals (first | assumption | with_reducible refine PySem.W.Looks.at L0 ?_ | with_reducible refine PySem.W.Looks.at L1 ?_ | with_reducible refine PySem.W.Looks.at L2 ?_ | wp_step))
  have hk:builtinKind "BaseException.__getattribute__"=some .slot:=by decide +kernel
  have hsplit:splitId "BaseException.__getattribute__"=some ("BaseException","__getattribute__"):=by decide +kernel
  have har:=F.args_bexc_ga (.ref x) (.str "__class__" t)
  refine codeAny_call_builtin F.attr_ValueError.ga.plain F.entry_bexc_ga ?_
  simp only [checkBuiltinCall,hk,hsplit]
  refine wpAny_bind ?_
  refine PySem.W.Looks.at L4 ?_
  repeat (any_goals (first | assumption | with_reducible refine PySem.W.Looks.at L4 ?_ | with_reducible refine PySem.W.Looks.at L0 ?_ | with_reducible refine PySem.W.Looks.at L3 ?_ | wp_step))
  exact PySem.W.class_get (s:=⟨hh,g,d,t + 1,os⟩) (ox:=ox) (od:=od) X I Z.hm (wpAny_pure (PySem.W.handed_on rfl (wpAny_pure k)))
theorem ziV {K:PySem.W.Frag} {x C:Addr} (Z:ExcCls K C):PySem.W.KitX K (.ref x) (.ref C) (fun h=>∃ ox od,PySem.W.InstAt h x ox C od) where
  ty:=fun _ _ _ I=>by
    obtain ⟨ox,od,I⟩:=I
    exact I.type
  it:=fun _ _ X _=>by
    obtain ⟨cd,hc,_⟩:=PySem.W.any_some Z.hd
    unfold PySem.W.clsIn at hc
    split at hc
    · rename_i ho
      intro A' Q' E' s' k q
      unfold isType loadHead
      exact wpAny_bind (wpAny_loadPart (k _ _ (X _ _ ho)) (wpAny_pure q))
    · cases hc
  ne:=fun h tp dd its n sl X htp=>by
    obtain ⟨cd,hc,_⟩:=PySem.W.any_some Z.hd
    refine Bool.eq_false_iff.mpr fun q=>?_
    have e:C=tp:=Value.ref.inj (beq_iff_eq.mp q)
    subst e
    unfold PySem.W.clsIn at hc
    split at hc
    · rename_i ho
      have z:=(X _ _ ho).symm.trans htp
      cases z
    · cases hc
  ca:=fun {prog w A E Q s} X I k=>by
    obtain ⟨ox,od,I⟩:=I
    exact zke Z X I k
theorem ziq {K:PySem.W.Frag} {C D:Addr} {b:Bool} (h1:PySem.W.hasDictIn K D=true) (h2:PySem.W.typeIn K (.ref D)=some (.type "type")) (h3:PySem.W.mroIn K C (.ref D)=some b):PySem.W.kitCls K (.ref C) (.ref D)=some b:=by
  obtain ⟨cd,hc,_⟩:=PySem.W.any_some h1
  show (if ((PySem.W.clsIn K D).isSome && PySem.W.typeIn K (.ref D) == some (.type "type"))=true then PySem.W.subIn K (.ref C) (.ref D) else none)=some b
  rw [hc,h2,if_pos (by simp)]
  exact h3
theorem zcb {K:PySem.W.Frag} {C D:Addr} {b:Bool} (h1:PySem.W.hasDictIn K D=true) (h2:PySem.W.typeIn K (.ref D)=some (.type "type")) (h3:PySem.W.mroIn K C (.ref D)=some b) (h4:PySem.W.mroIn K C (.ref C)=some true):PySem.W.kitOne K (.ref C) (.ref D)=some b:=by
  unfold PySem.W.kitOne
  by_cases e:C=D
  · subst e
    rw [if_pos (by simp)]
    exact h4.symm.trans h3
  · rw [if_neg (by simpa using e)]
    exact ziq h1 h2 h3
theorem ziD {K:PySem.W.Frag} {C:Addr} {S:String} {b:Bool} (h1:PySem.W.kitMeta S=true) (h2:PySem.W.mroIn K C (.type S)=some b):PySem.W.kitOne K (.ref C) (.type S)=some b:=by
  unfold PySem.W.kitOne
  rw [if_neg (by simp)]
  show (if PySem.W.kitMeta S=true then PySem.W.subIn K (.ref C) (.type S) else none)=some b
  rw [if_pos h1]
  exact h2
theorem zdY:PySem.W.kitMeta "ValueError"=true:=by decide +kernel
section
variable {X:Cx}
def rIsX (K:PySem.W.Frag):List V→Hp→VK→Prop:=fun xs H Q=>∃ a C dct c cv b,xs = [.ref a,c]∧clsV c=some cv∧H a=some (excO C dct a)∧(∀ dx,dct=some dx→∃ fs,H dx=some (.xd fs))∧ExcCls K C∧PySem.W.kitOne K (.ref C) cv=some b∧Q (.bl b) H
theorem zaV:zgV X (.builtin "isinstance") (rIsX X.K):=by
  intro pins s σ H xs us Q I r h
  obtain ⟨a,C,dct,c,cv,b,rfl,hc,hH,hdx,Z,hk,q⟩:=h
  obtain ⟨u,v,rfl,rx,ry⟩:=zoC r
  cases zmt hc ry
  cases (show u=Value.ref a from rx)
  obtain ⟨⟨ob,h1,h2,h3,vs,h4⟩,_⟩:=I.hok a _ hH
  cases dct with
  | none=>exact PySem.W.kia_one (ziV Z) I.kIn ⟨ob,none,h1,h2,by unfold PySem.W.notCls; rw [h4],by rw [h3]; trivial⟩ hk (fun z=>nomatch z) fun tk=>⟨.bl b,H,I.tok _,rfl,q⟩
  | some dx =>
    obtain ⟨fs,efs⟩:=hdx dx rfl
    obtain ⟨_,⟨od,_,_,hod,_⟩,_⟩:=(show ObjOk X.prog X.w H s.heap dx (.xd fs) from I.hok dx _ efs)
    exact PySem.W.kia_one (ziV Z) I.kIn ⟨ob,some od,h1,h2,by unfold PySem.W.notCls; rw [h4],by rw [h3]; exact hod⟩ hk (fun z=>nomatch z) fun tk=>⟨.bl b,H,I.tok _,rfl,q⟩
end
section
variable {P:Program} {w:World} {K:PySem.W.Frag} {mg:Str→Option Value} {base:Heap} {N:List Str} {qual:Str} {scope:Scope} {f:Addr} {cd:Value} {A:Around} {outer:List Env} {s0:Shared} {H0:Hp} {E:XK}
theorem zqe:Made (cx1 P w K mg base N qual scope f cd A outer s0 H0 E) (fun _=>E):=fun _ _ _ _ _ _ _ _ I hm os bare q=>zmP I hm os bare q
theorem zqf:zg3 (CX1 P w) (cx1 P w K mg base N qual scope f cd A outer s0 H0 E) (fun _=>E):=fun _ _ _ _ _ _ I h=>zmd I h
theorem zk8 {X:Cx}:zcJ (CX1 P w) X E0:=fun _ _ _ _ _ _ _ h=>by
  obtain ⟨_,_,_,_,_,_,z⟩:=h
  exact z.elim
theorem Fun.ok1 {x qual:Str} {st:Stmt} {f:Addr} {fd:FuncData} {N ps:List Str} {k:Nat} {sp:Sp} (F:Fun K x qual st f fd) (S:FnScope N ps (zah st)) (len:∀ vs H Q E,sp vs H Q E→vs.length=ps.length)
    (hbody:∀ (cdv:Value) (A:Around) (outer:List Env) (s:Shared) (H:Hp) (vs:List V) (Q:VK) (E:XK),Room k (A.deeper (envOfC qual (zah st) s.heap.objs.size f cdv))→sp vs H Q E →
      ∃ t,PSs (cx1 P w K mg base N qual (zah st) f cdv A outer s H E) (zbu st) t∧t { nx:=fun _ H'=>Q .non H',rt:=Q } (start N vs) H):FnOk P w K mg base (CX1 P w) (k + 1) f fd ps sp:=by
  obtain ⟨oc,od,kV,doc,pm,an,cdv,ct,osl,rfl,lk,hcd⟩:=F.ex
  exact zn6 lk hcd S len fun A outer s H vs Q E hr hsp=>hbody cdv A outer s H vs Q E hr hsp
end
end L2
namespace PM
open PySem L2
inductive D where
  | non | bl (b:Bool) | int (i:Int) | str (x:Str) | tup (l:List D) | lst (l:List D) | dct (ks:List Key) (l:List D) | scr (l:List Int) | exc (c:Nat) | fd (ks:List Key) (l:List D) | obj (c:Nat) (ks:List Str) (l:List D)
structure Kx where
  f:W.Frag
  ca:Nat→Addr
  an:Nat→Str
def XA (K:Kx) (F:Hp) (c:Nat) (dct:Option Addr):Prop:=if c < 16 then dct=none else ∃ dx,dct=some dx∧F dx=some (.xd [(K.an c,.int (((c / 16:Nat):Int) - 1))])
section
variable (K:Kx)
mutual
def Rep (F:Hp):D→V→Prop
  | .non,v=>v = .non
  | .bl b,v=>v = .bl b
  | .int i,v=>v = .int i
  | .str x,v=>v = .str x
  | .scr l,v=>∃ a,v = .ref a∧SqL K.f F a (l.map V.int)
  | .exc c,v=>∃ a dct,v = .ref a∧F a=some (excO (K.ca c) dct a)∧XA K F c dct
  | .tup l,v=>∃ a vs,v = .ref a∧F a=some (.tup vs)∧RepL F l vs
  | .fd ks l,v=>∃ a o kvs,v = .ref a∧F a=some (.frz o (.dK kvs))∧kvs.map (·.1)=ks∧RepL F l (kvs.map (·.2))
  | .obj c ks l,v=>∃ a dx fs,v = .ref a∧F a=some (.ins (K.ca c) dx fs)∧fs.map (·.1)=ks∧RepL F l (fs.map (·.2))
  | .lst l,v=>∃ a vs,v = .ref a∧Rd F a (.lst vs)∧RepL F l vs
  | .dct ks l,v=>∃ a kvs,v = .ref a∧F a=some (.dK kvs)∧kvs.map (·.1)=ks∧RepL F l (kvs.map (·.2))
def RepL (F:Hp):List D→List V→Prop
  | [],vs=>vs = []
  | d :: l,vs=>∃ v r,vs=v :: r∧Rep F d v∧RepL F l r
end
end
def ifC {α:Type} (p:Prop) (a b:α):α:=@ite α p (Classical.propDecidable p) a b
@[simp] theorem zbj {α:Type} {p:Prop} {a b:α} (h:p):ifC p a b=a:=if_pos h
theorem znY {α:Type} {p:Prop} {a b:α} (h:¬ p):ifC p a b=b:=if_neg h
structure Xc where
  c:Nat
inductive R (α:Type) where
  | no | ok (a:α) | ex (x:Xc)
namespace R
def bind {α β:Type}:R α→(α→R β)→R β
  | .no,_=>.no
  | .ok a,f=>f a
  | .ex x,_=>.ex x
@[simp] theorem bind_ok {α β:Type} (a:α) (f:α→R β):(R.ok a).bind f=f a:=rfl
@[simp] theorem zqo {α β:Type} (f:α→R β):(R.no:R α).bind f = .no:=rfl
@[simp] theorem zp0 {α β:Type} (x:Xc) (f:α→R β):(R.ex x:R α).bind f = .ex x:=rfl
end R
inductive Tr where
  | d (x:D) | l (ts:List Tr) | t (ts:List Tr)
mutual
def trD:Tr→D
  | .d x=>x
  | .l ts=>.lst (trDL ts)
  | .t ts=>.tup (trDL ts)
def trDL:List Tr→List D
  | []=>[]
  | t :: ts=>trD t :: trDL ts
end
inductive Sl where
  | no | v (d:D) | o (d:D) | l (d:D) | p (T:Tr)
abbrev En:=List Sl
inductive O where
  | no | nx (δ:En) | rt (d:D) | ro (d:D) | bk (δ:En) | ct (δ:En) | ex (δ:En) (x:Xc)
structure Ext (F H F' H':Hp):Prop where
  ff:Same F F'
  hh:Same H H'
  fh:Same F' H'
  nw:∀ p o,F p=none→H p=some o→F' p=none
theorem Ext.refl {F H:Hp} (s:Same F H):Ext F H F H:=⟨.refl _,.refl _,s,fun _ _ h _=>h⟩
theorem Ext.trans {F H F1 H1 F2 H2:Hp} (a:Ext F H F1 H1) (b:Ext F1 H1 F2 H2):Ext F H F2 H2 :=
  ⟨a.ff.trans b.ff,a.hh.trans b.hh,b.fh,fun p o h1 h2=>b.nw p o (a.nw p o h1 h2) (a.hh p o h2)⟩
theorem Ext.new {F H:Hp} {p:Addr} {o:HO} (s:Same F H) (h:H p=none):Ext F H (upd F p o) (upd H p o):=by
  have hf:=s.free h
  refine ⟨Same.upd hf,Same.upd h,fun b u q=>?_,fun q u h1 h2=>?_⟩
  · by_cases e:b=p
    · subst e; rw [zai] at q ⊢; exact q
    · rw [zag e] at q ⊢; exact s _ _ q
  · rw [zag (zak h2 h)]; exact h1
theorem Ext.newO {F H:Hp} {p:Addr} {o:HO} (s:Same F H) (h:H p=none):Ext F H F (upd H p o):=by
  refine ⟨.refl _,Same.upd h,s.trans (Same.upd h),fun q u h1 h2=>h1⟩
theorem Same.rd {H H':Hp} {a:Addr} {u:HO} (e:Same H H') (h:Rd H a u):Rd H' a u:=h.elim (fun h=>.inl (e _ _ h)) fun ⟨o,h⟩=>.inr ⟨o,e _ _ h⟩
section
variable {K:Kx} {F F' H H':Hp}
theorem XA.mono {c:Nat} {dct:Option Addr} (h:XA K F c dct) (e:Same F F'):XA K F' c dct:=by
  unfold XA at h ⊢
  split
  · rename_i hc; rw [if_pos hc] at h; exact h
  · rename_i hc
    rw [if_neg hc] at h
    obtain ⟨dx,h1,h2⟩:=h
    exact ⟨dx,h1,e _ _ h2⟩
mutual
theorem Rep.mono (e:Same F F'):∀ (d:D) {v:V},Rep K F d v→Rep K F' d v
  | .non,v,h=>by simpa only [Rep] using h
  | .bl b,v,h=>by simpa only [Rep] using h
  | .int b,v,h=>by simpa only [Rep] using h
  | .str b,v,h=>by simpa only [Rep] using h
  | .exc c,v,h=>by
    simp only [Rep] at h ⊢
    obtain ⟨a,dct,h1,h2,h3⟩:=h
    exact ⟨a,dct,h1,e _ _ h2,h3.mono e⟩
  | .fd ks l,v,h=>by
    simp only [Rep] at h ⊢
    obtain ⟨a,o,vs,h1,h2,h0,h3⟩:=h
    exact ⟨a,o,vs,h1,e _ _ h2,h0,RepL.mono e l h3⟩
  | .obj c ks l,v,h=>by
    simp only [Rep] at h ⊢
    obtain ⟨a,o,vs,h1,h2,h0,h3⟩:=h
    exact ⟨a,o,vs,h1,e _ _ h2,h0,RepL.mono e l h3⟩
  | .scr l,v,h=>by
    simp only [Rep] at h ⊢
    obtain ⟨a,h1,h2⟩:=h
    exact ⟨a,h1,e.seq h2⟩
  | .tup l,v,h=>by
    simp only [Rep] at h ⊢
    obtain ⟨a,vs,h1,h2,h3⟩:=h
    exact ⟨a,vs,h1,e _ _ h2,RepL.mono e l h3⟩
  | .lst l,v,h=>by
    simp only [Rep] at h ⊢
    obtain ⟨a,vs,h1,h2,h3⟩:=h
    exact ⟨a,vs,h1,PM.Same.rd e h2,RepL.mono e l h3⟩
  | .dct ks l,v,h=>by
    simp only [Rep] at h ⊢
    obtain ⟨a,vs,h1,h2,h0,h3⟩:=h
    exact ⟨a,vs,h1,e _ _ h2,h0,RepL.mono e l h3⟩
theorem RepL.mono (e:Same F F'):∀ (l:List D) {vs:List V},RepL K F l vs→RepL K F' l vs
  | [],vs,h=>by simpa only [RepL] using h
  | d :: l,vs,h=>by
    simp only [RepL] at h ⊢
    obtain ⟨v,r,h1,h2,h3⟩:=h
    exact ⟨v,r,h1,Rep.mono e d h2,RepL.mono e l h3⟩
end
theorem RepL.length:∀ {l:List D} {vs:List V},RepL K F l vs→vs.length=l.length
  | [],vs,h=>by simp only [RepL] at h; subst h; rfl
  | d :: l,vs,h=>by
    simp only [RepL] at h
    obtain ⟨v,r,rfl,_,h3⟩:=h
    simp [RepL.length h3]
theorem RepL.get:∀ {l:List D} {vs:List V} {i:Nat} {d:D},RepL K F l vs→l[i]?=some d→∃ v,vs[i]?=some v∧Rep K F d v
  | [],vs,i,d,h,e=>by simp at e
  | x :: l,vs,0,d,h,e=>by
    simp only [RepL] at h
    obtain ⟨v,r,rfl,h2,h3⟩:=h
    simp at e; subst e
    exact ⟨v,rfl,h2⟩
  | x :: l,vs,i + 1,d,h,e=>by
    simp only [RepL] at h
    obtain ⟨v,r,rfl,h2,h3⟩:=h
    obtain ⟨u,h4,h5⟩:=RepL.get h3 (i:=i) (d:=d) (by simpa using e)
    exact ⟨u,by simpa using h4,h5⟩
theorem RepL.nil:RepL K F [] []:=by simp only [RepL]
theorem RepL.cons {d:D} {l:List D} {v:V} {vs:List V} (h1:Rep K F d v) (h2:RepL K F l vs):RepL K F (d :: l) (v :: vs):=by
  simp only [RepL]; exact ⟨v,vs,rfl,h1,h2⟩
theorem RepL.append:∀ {l:List D} {vs:List V} {l':List D} {vs':List V},RepL K F l vs→RepL K F l' vs'→RepL K F (l ++ l') (vs ++ vs')
  | [],vs,l',vs',h,h'=>by simp only [RepL] at h; subst h; exact h'
  | d :: l,vs,l',vs',h,h'=>by
    simp only [RepL] at h
    obtain ⟨v,r,rfl,h2,h3⟩:=h
    exact .cons h2 (RepL.append h3 h')
theorem RepL.drop:∀ {l:List D} {vs:List V} (n:Nat),RepL K F l vs→RepL K F (l.drop n) (vs.drop n)
  | l,vs,0,h=>h
  | [],vs,n + 1,h=>by simp only [RepL] at h; subst h; exact .nil
  | d :: l,vs,n + 1,h=>by
    simp only [RepL] at h
    obtain ⟨v,r,rfl,h2,h3⟩:=h
    exact RepL.drop n h3
theorem RepL.take:∀ {l:List D} {vs:List V} (n:Nat),RepL K F l vs→RepL K F (l.take n) (vs.take n)
  | l,vs,0,h=>by simpa using RepL.nil
  | [],vs,n + 1,h=>by simp only [RepL] at h; subst h; exact .nil
  | d :: l,vs,n + 1,h=>by
    simp only [RepL] at h
    obtain ⟨v,r,rfl,h2,h3⟩:=h
    exact .cons h2 (RepL.take n h3)
theorem RepL.ints {ns:List Int}:RepL K F (ns.map .int) (ns.map .int):=by
  induction ns with
  | nil=>exact .nil
  | cons a l ih=>exact .cons rfl ih
end
section
variable (K:Kx)
def Top (F H:Hp):D→V→Prop
  | .lst l,v=>∃ a vs,v = .ref a∧Rd H a (.lst vs)∧RepL K F l vs
  | .dct ks l,v=>∃ a kvs,v = .ref a∧H a=some (.dK kvs)∧kvs.map (·.1)=ks∧RepL K F l (kvs.map (·.2))
  | .obj c ks l,v=>∃ a dx fs,v = .ref a∧H a=some (.ins (K.ca c) dx fs)∧fs.map (·.1)=ks∧RepL K F l (fs.map (·.2))
  | d,v=>Rep K F d v
def Own (F H:Hp):D→Addr→Prop
  | .lst l,a=>∃ vs,H a=some (.lst vs)∧RepL K F l vs
  | .dct ks l,a=>∃ kvs,H a=some (.dK kvs)∧kvs.map (·.1)=ks∧RepL K F l (kvs.map (·.2))
  | .obj c ks l,a=>∃ dx fs,H a=some (.ins (K.ca c) dx fs)∧fs.map (·.1)=ks∧RepL K F l (fs.map (·.2))
  | _,_=>False
mutual
def TrOk (F H:Hp):Tr→V→List Addr→Prop
  | .d x,v,fp=>fp = []∧Rep K F x v
  | .l ts,v,fp=>∃ a vs fs,v = .ref a∧fp=a :: fs∧H a=some (.lst vs)∧TrOkL F H ts vs fs
  | .t ts,v,fp=>∃ a vs,v = .ref a∧F a=some (.tup vs)∧TrOkL F H ts vs fp
def TrOkL (F H:Hp):List Tr→List V→List Addr→Prop
  | [],vs,fp=>vs = []∧fp = []
  | t :: ts,vs,fp=>∃ v r f1 f2,vs=v :: r∧fp=f1 ++ f2∧TrOk F H t v f1∧TrOkL F H ts r f2
end
structure Tab (F H:Hp) (a:Addr) (bs:List Addr) (T:Tr):Prop where
  ok:TrOk K F H T (.ref a) (a :: bs)
  nd:(a :: bs).Nodup
def SlOk (H0 F H:Hp):Option Sl→Option (Option V)→Prop
  | some (.v d),s=>∃ u,s=some (some u)∧Rep K F d u
  | some (.o d),s=>∃ a,s=some (some (.ref a))∧H0 a=none∧F a=none∧Own K F H d a
  | some (.l d),s=>∃ a,s=some (some (.ref a))∧H0 a=none∧F a=none∧Own K F H d a
  | some (.p T),s=>∃ a bs,s=some (some (.ref a))∧Tab K F H a bs T∧∀ b ∈ a :: bs,H0 b=none∧F b=none
  | _,_=>True
end
def Sl.own:Option Sl→Bool
  | some (.o _)=>true
  | some (.l _)=>true
  | some (.p _)=>true
  | _=>false
structure EnvOk (K:Kx) (Λ:List (Nat × Addr × HO)) (F0 H0 F H:Hp) (σ:St) (δ:En):Prop where
  ext:Ext F0 H0 F H
  len:σ.length=δ.length
  slot:∀ i:Nat,SlOk K H0 F H δ[i]? σ[i]?
  dist:∀ (i j:Nat) (a:Addr),i ≠ j→Sl.own δ[i]?=true→Sl.own δ[j]?=true→σ[i]?=some (some (.ref a))→σ[j]?=some (some (.ref a))→False
  lent:∀ x ∈ Λ,(∃ d,δ[x.1]?=some (.l d))∧σ[x.1]?=some (some (.ref x.2.1))∧H x.2.1=some x.2.2
  tabs:∀ (i:Nat) (T:Tr),δ[i]?=some (.p T)→∃ a bs,σ[i]?=some (some (.ref a))∧Tab K F H a bs T∧(∀ b ∈ a :: bs,H0 b=none∧F b=none)∧(∀ (j:Nat) (b:Addr),j ≠ i→Sl.own δ[j]?=true→σ[j]?=some (some (.ref b))→b ∉ a :: bs)∧∀ (j:Nat) (T':Tr),j ≠ i→δ[j]?=some (.p T')→∃ a' bs',σ[j]?=some (some (.ref a'))∧Tab K F H a' bs' T'∧∀ b ∈ a' :: bs',b ∉ a :: bs
section
variable {K:Kx} {Λ:List (Nat × Addr × HO)} {F0 H0 F H F' H' F1 H1:Hp} {σ:St} {δ:En}
theorem Own.mono (e1:Same F F') (e2:Same H H'):∀ {d:D} {a:Addr},Own K F H d a→Own K F' H' d a
  | .lst l,a,h=>let ⟨vs,h1,h2⟩:=h; ⟨vs,e2 _ _ h1,h2.mono e1⟩
  | .dct ks l,a,h=>let ⟨vs,h1,h0,h2⟩:=h; ⟨vs,e2 _ _ h1,h0,h2.mono e1⟩
  | .non,_,h=>h.elim
  | .bl _,_,h=>h.elim
  | .int _,_,h=>h.elim
  | .str _,_,h=>h.elim
  | .tup _,_,h=>h.elim
  | .scr _,_,h=>h.elim
  | .exc _,_,h=>h.elim
  | .fd _ _,_,h=>h.elim
  | .obj c ks l,a,h=>let ⟨dx,vs,h1,h0,h2⟩:=h; ⟨dx,vs,e2 _ _ h1,h0,h2.mono e1⟩
theorem Own.obj:∀ {d:D} {a:Addr},Own K F H d a→∃ o,H a=some o
  | .lst l,a,h=>let ⟨vs,h1,h2⟩:=h; ⟨_,h1⟩
  | .dct ks l,a,h=>let ⟨vs,h1,h2⟩:=h; ⟨_,h1⟩
  | .non,_,h=>h.elim
  | .bl _,_,h=>h.elim
  | .int _,_,h=>h.elim
  | .str _,_,h=>h.elim
  | .tup _,_,h=>h.elim
  | .scr _,_,h=>h.elim
  | .exc _,_,h=>h.elim
  | .fd _ _,_,h=>h.elim
  | .obj c ks l,a,h=>let ⟨dx,vs,h1,h2⟩:=h; ⟨_,h1⟩
theorem Own.at (e:H' a=H a):∀ {d:D},Own K F H d a→Own K F H' d a
  | .lst l,h=>let ⟨vs,h1,h2⟩:=h; ⟨vs,e.trans h1,h2⟩
  | .dct ks l,h=>let ⟨vs,h1,h0,h2⟩:=h; ⟨vs,e.trans h1,h0,h2⟩
  | .non,h=>h.elim
  | .bl _,h=>h.elim
  | .int _,h=>h.elim
  | .str _,h=>h.elim
  | .tup _,h=>h.elim
  | .scr _,h=>h.elim
  | .exc _,h=>h.elim
  | .fd _ _,h=>h.elim
  | .obj c ks l,h=>let ⟨dx,vs,h1,h0,h2⟩:=h; ⟨dx,vs,e.trans h1,h0,h2⟩
theorem Rep.top (s:Same F H):∀ {d:D} {v:V},Rep K F d v→Top K F H d v
  | .lst l,v,h=>by
    simp only [Rep] at h
    obtain ⟨a,vs,h1,h2,h3⟩:=h
    exact ⟨a,vs,h1,PM.Same.rd s h2,h3⟩
  | .dct ks l,v,h=>by
    simp only [Rep] at h
    obtain ⟨a,vs,h1,h2,h3⟩:=h
    exact ⟨a,vs,h1,s _ _ h2,h3⟩
  | .non,_,h=>h
  | .bl _,_,h=>h
  | .int _,_,h=>h
  | .str _,_,h=>h
  | .tup _,_,h=>h
  | .scr _,_,h=>h
  | .exc _,_,h=>h
  | .fd _ _,_,h=>h
  | .obj c ks l,v,h=>by
    simp only [Rep] at h
    obtain ⟨a,dx,vs,h1,h2,h3⟩:=h
    exact ⟨a,dx,vs,h1,s _ _ h2,h3⟩
theorem Own.top:∀ {d:D} {a:Addr},Own K F H d a→Top K F H d (.ref a)
  | .lst l,a,h=>let ⟨vs,h1,h2⟩:=h; ⟨a,vs,rfl,.inl h1,h2⟩
  | .dct ks l,a,h=>let ⟨vs,h1,h2⟩:=h; ⟨a,vs,rfl,h1,h2⟩
  | .non,_,h=>h.elim
  | .bl _,_,h=>h.elim
  | .int _,_,h=>h.elim
  | .str _,_,h=>h.elim
  | .tup _,_,h=>h.elim
  | .scr _,_,h=>h.elim
  | .exc _,_,h=>h.elim
  | .fd _ _,_,h=>h.elim
  | .obj c ks l,a,h=>let ⟨dx,vs,h1,h2⟩:=h; ⟨a,dx,vs,rfl,h1,h2⟩
theorem Top.mono (e1:Same F F') (e2:Same H H'):∀ {d:D} {v:V},Top K F H d v→Top K F' H' d v
  | .lst l,v,h=>let ⟨a,vs,h1,h2,h3⟩:=h; ⟨a,vs,h1,PM.Same.rd e2 h2,h3.mono e1⟩
  | .dct ks l,v,h=>let ⟨a,vs,h1,h2,h0,h3⟩:=h; ⟨a,vs,h1,e2 _ _ h2,h0,h3.mono e1⟩
  | .non,_,h=>h
  | .bl _,_,h=>h
  | .int _,_,h=>h
  | .str _,_,h=>h
  | .tup l,v,h=>Rep.mono e1 (.tup l) h
  | .scr l,v,h=>Rep.mono e1 (.scr l) h
  | .exc l,v,h=>Rep.mono e1 (.exc l) h
  | .fd ks l,v,h=>Rep.mono e1 (.fd ks l) h
  | .obj c ks l,v,h=>let ⟨a,dx,vs,h1,h2,h0,h3⟩:=h; ⟨a,dx,vs,h1,e2 _ _ h2,h0,h3.mono e1⟩
theorem Own.freeze {p:Addr} {d:D} (x:Ext F H F' H') (h0:F' p=none) (h1:H p=none) (o:Own K F' H' d p):∃ F'',Ext F H F'' H'∧Same F' F''∧Rep K F'' d (.ref p):=by
  obtain ⟨u,hu⟩:=o.obj
  have hs:Same F' (upd F' p u):=Same.upd h0
  refine ⟨upd F' p u,⟨x.ff.trans hs,x.hh,fun b w q=>?_,fun q w h2 h3=>?_⟩,hs,?_⟩
  · by_cases e:b=p
    · subst e; rw [zai] at q; cases q; exact hu
    · rw [zag e] at q; exact x.fh _ _ q
  · rw [zag (zak h3 h1)]; exact x.nw q w h2 h3
  · cases d with
    | lst l =>
      obtain ⟨vs,h2,h3⟩:=o
      rw [hu] at h2; cases h2
      simp only [Rep]
      exact ⟨p,vs,rfl,.inl zai,h3.mono hs⟩
    | dct ks l =>
      obtain ⟨vs,h2,h3,h4⟩:=o
      rw [hu] at h2; cases h2
      simp only [Rep]
      exact ⟨p,vs,rfl,zai,h3,h4.mono hs⟩
    | obj c ks l =>
      obtain ⟨dx,vs,h2,h3,h4⟩:=o
      rw [hu] at h2; cases h2
      simp only [Rep]
      exact ⟨p,dx,vs,rfl,zai,h3,h4.mono hs⟩
    | _=>exact o.elim
mutual
theorem TrOk.mono (e:Same F F') (e2:Same H H'):∀ (T:Tr) {v:V} {fp:List Addr},TrOk K F H T v fp→TrOk K F' H' T v fp
  | .d x,v,fp,h=>by
    simp only [TrOk] at h ⊢
    exact ⟨h.1,Rep.mono e x h.2⟩
  | .l ts,v,fp,h=>by
    simp only [TrOk] at h ⊢
    obtain ⟨a,vs,fs,h1,h2,h3,h4⟩:=h
    exact ⟨a,vs,fs,h1,h2,e2 _ _ h3,TrOkL.mono e e2 ts h4⟩
  | .t ts,v,fp,h=>by
    simp only [TrOk] at h ⊢
    obtain ⟨a,vs,h1,h3,h4⟩:=h
    exact ⟨a,vs,h1,e _ _ h3,TrOkL.mono e e2 ts h4⟩
theorem TrOkL.mono (e:Same F F') (e2:Same H H'):∀ (ts:List Tr) {vs:List V} {fp:List Addr},TrOkL K F H ts vs fp→TrOkL K F' H' ts vs fp
  | [],vs,fp,h=>by simpa only [TrOkL] using h
  | t :: ts,vs,fp,h=>by
    simp only [TrOkL] at h ⊢
    obtain ⟨v,r,f1,f2,h1,h2,h3,h4⟩:=h
    exact ⟨v,r,f1,f2,h1,h2,TrOk.mono e e2 t h3,TrOkL.mono e e2 ts h4⟩
end
mutual
theorem TrOk.obj:∀ (T:Tr) {v:V} {fp:List Addr},TrOk K F H T v fp→∀ b ∈ fp,∃ o,H b=some o
  | .d x,v,fp,h,b,hb=>by
    simp only [TrOk] at h
    rw [h.1] at hb; cases hb
  | .l ts,v,fp,h,b,hb=>by
    simp only [TrOk] at h
    obtain ⟨a,vs,fs,h1,h2,h3,h4⟩:=h
    rw [h2] at hb
    rcases List.mem_cons.mp hb with e | hb
    · subst e; exact ⟨_,h3⟩
    · exact TrOkL.obj ts h4 b hb
  | .t ts,v,fp,h,b,hb=>by
    simp only [TrOk] at h
    obtain ⟨a,vs,h1,h3,h4⟩:=h
    exact TrOkL.obj ts h4 b hb
theorem TrOkL.obj:∀ (ts:List Tr) {vs:List V} {fp:List Addr},TrOkL K F H ts vs fp→∀ b ∈ fp,∃ o,H b=some o
  | [],vs,fp,h,b,hb=>by
    simp only [TrOkL] at h
    rw [h.2] at hb; cases hb
  | t :: ts,vs,fp,h,b,hb=>by
    simp only [TrOkL] at h
    obtain ⟨v,r,f1,f2,h1,h2,h3,h4⟩:=h
    rw [h2] at hb
    rcases List.mem_append.mp hb with hb | hb
    · exact TrOk.obj t h3 b hb
    · exact TrOkL.obj ts h4 b hb
end
mutual
theorem TrOk.at':∀ (T:Tr) {v:V} {fp:List Addr},TrOk K F H T v fp→(∀ b ∈ fp,H' b=H b)→TrOk K F H' T v fp
  | .d x,v,fp,h,_=>by simpa only [TrOk] using h
  | .l ts,v,fp,h,e=>by
    simp only [TrOk] at h ⊢
    obtain ⟨a,vs,fs,h1,h2,h3,h4⟩:=h
    subst h2
    exact ⟨a,vs,fs,h1,rfl,(e a (by simp)).trans h3,TrOkL.at' ts h4 fun b hb=>e b (List.mem_cons_of_mem _ hb)⟩
  | .t ts,v,fp,h,e=>by
    simp only [TrOk] at h ⊢
    obtain ⟨a,vs,h1,h3,h4⟩:=h
    exact ⟨a,vs,h1,h3,TrOkL.at' ts h4 e⟩
theorem TrOkL.at':∀ (ts:List Tr) {vs:List V} {fp:List Addr},TrOkL K F H ts vs fp→(∀ b ∈ fp,H' b=H b)→TrOkL K F H' ts vs fp
  | [],vs,fp,h,_=>by simpa only [TrOkL] using h
  | t :: ts,vs,fp,h,e=>by
    simp only [TrOkL] at h ⊢
    obtain ⟨v,r,f1,f2,h1,h2,h3,h4⟩:=h
    subst h2
    exact ⟨v,r,f1,f2,h1,rfl,TrOk.at' t h3 fun b hb=>e b (List.mem_append_left _ hb),TrOkL.at' ts h4 fun b hb=>e b (List.mem_append_right _ hb)⟩
end
theorem Tab.mono {a:Addr} {bs:List Addr} {T:Tr} (e1:Same F F') (e:Same H H') (t:Tab K F H a bs T):Tab K F' H' a bs T:=⟨TrOk.mono e1 e T t.ok,t.nd⟩
theorem Tab.obj {a:Addr} {bs:List Addr} {T:Tr} (t:Tab K F H a bs T):∀ b ∈ a :: bs,∃ o,H b=some o:=TrOk.obj T t.ok
theorem Tab.at' {a:Addr} {bs:List Addr} {T:Tr} (t:Tab K F H a bs T) (e:∀ b ∈ a :: bs,H' b=H b):Tab K F H' a bs T:=⟨TrOk.at' T t.ok e,t.nd⟩
theorem SlOk.mono (e:Ext F H F' H'):∀ {x:Option Sl} {s:Option (Option V)},SlOk K H0 F H x s→SlOk K H0 F' H' x s
  | some (.v d),s,h=>let ⟨u,h1,h2⟩:=h; ⟨u,h1,Rep.mono e.ff d h2⟩
  | some (.o d),s,h=>let ⟨a,h1,h2,h3,h4⟩:=h; let ⟨o,ho⟩:=h4.obj; ⟨a,h1,h2,e.nw a o h3 ho,h4.mono e.ff e.hh⟩
  | some (.l d),s,h=>let ⟨a,h1,h2,h3,h4⟩:=h; let ⟨o,ho⟩:=h4.obj; ⟨a,h1,h2,e.nw a o h3 ho,h4.mono e.ff e.hh⟩
  | some (.p T),s,h=>let ⟨a,bs,h1,h2,h3⟩:=h; ⟨a,bs,h1,h2.mono e.ff e.hh,fun b hb=>let ⟨o,ho⟩:=h2.obj b hb; ⟨(h3 b hb).1,e.nw b o (h3 b hb).2 ho⟩⟩
  | some .no,_,_=>trivial
  | none,_,_=>trivial
mutual
theorem zoN:∀ (T:Tr) {v:V} {f f':List Addr},TrOk K F H T v f→TrOk K F H T v f'→f=f'
  | .d x,v,f,f',h1,h2=>by
    simp only [TrOk] at h1 h2
    rw [h1.1,h2.1]
  | .l ts,v,f,f',h1,h2=>by
    simp only [TrOk] at h1 h2
    obtain ⟨a,vs,fs,rfl,rfl,e1,o1⟩:=h1
    obtain ⟨a',vs',fs',e,rfl,e2,o2⟩:=h2
    cases e
    rw [e1] at e2
    cases e2
    rw [zln ts o1 o2]
  | .t ts,v,f,f',h1,h2=>by
    simp only [TrOk] at h1 h2
    obtain ⟨a,vs,rfl,e1,o1⟩:=h1
    obtain ⟨a',vs',e,e2,o2⟩:=h2
    cases e
    rw [e1] at e2
    cases e2
    exact zln ts o1 o2
theorem zln:∀ (ts:List Tr) {vs:List V} {f f':List Addr},TrOkL K F H ts vs f→TrOkL K F H ts vs f'→f=f'
  | [],vs,f,f',h1,h2=>by
    simp only [TrOkL] at h1 h2
    rw [h1.2,h2.2]
  | t :: ts,vs,f,f',h1,h2=>by
    simp only [TrOkL] at h1 h2
    obtain ⟨v,r,f1,f2,rfl,rfl,o1,o2⟩:=h1
    obtain ⟨v',r',g1,g2,e,rfl,p1,p2⟩:=h2
    cases e
    rw [zoN t o1 p1,zln ts o2 p2]
end
theorem zoZ {a:Addr} {bs bs':List Addr} {T:Tr} (t:Tab K F H a bs T) (t':Tab K F H a bs' T):bs=bs':=(List.cons.inj (zoN T t.ok t'.ok)).2
theorem EnvOk.tab (I:EnvOk K Λ F0 H0 F H σ δ) {i:Nat} {T:Tr} (hx:δ[i]?=some (.p T)):∃ a bs,σ[i]?=some (some (.ref a))∧Tab K F H a bs T∧(∀ b ∈ a :: bs,H0 b=none∧F b=none)∧(∀ (j:Nat) (b:Addr),j ≠ i→Sl.own δ[j]?=true→σ[j]?=some (some (.ref b))→b ∉ a :: bs)∧∀ (j:Nat) (T':Tr),j ≠ i→δ[j]?=some (.p T')→∃ a' bs',σ[j]?=some (some (.ref a'))∧Tab K F H a' bs' T'∧∀ b ∈ a' :: bs',b ∉ a :: bs:=I.tabs i T hx
theorem EnvOk.tabsOf {δ':En} {σ':St} (I:EnvOk K Λ F0 H0 F H σ δ) (h1:∀ (i:Nat) (T:Tr),δ'[i]?=some (.p T)→δ[i]?=some (.p T)∧σ'[i]?=σ[i]?)
    (h2:∀ (i:Nat) (a:Addr) (bs:List Addr) (T:Tr),δ[i]?=some (.p T)→σ[i]?=some (some (.ref a))→Tab K F H a bs T→(∀ b ∈ a :: bs,H0 b=none∧F b=none)→(∀ (j:Nat) (b:Addr),j ≠ i→Sl.own δ[j]?=true→σ[j]?=some (some (.ref b))→b ∉ a :: bs)→Tab K F' H' a bs T∧∀ b ∈ a :: bs,F' b=none)
    (h3:∀ (i j:Nat) (T:Tr) (a b:Addr) (bs:List Addr),δ[i]?=some (.p T)→σ[i]?=some (some (.ref a))→Tab K F H a bs T→j ≠ i→Sl.own δ'[j]?=true→σ'[j]?=some (some (.ref b))→(Sl.own δ[j]?=true∧σ[j]?=some (some (.ref b)))∨b ∉ a :: bs) :
    ∀ (i:Nat) (T:Tr),δ'[i]?=some (.p T)→∃ a bs,σ'[i]?=some (some (.ref a))∧Tab K F' H' a bs T∧(∀ b ∈ a :: bs,H0 b=none∧F' b=none)∧(∀ (j:Nat) (b:Addr),j ≠ i→Sl.own δ'[j]?=true→σ'[j]?=some (some (.ref b))→b ∉ a :: bs)∧∀ (j:Nat) (T':Tr),j ≠ i→δ'[j]?=some (.p T')→∃ a' bs',σ'[j]?=some (some (.ref a'))∧Tab K F' H' a' bs' T'∧∀ b ∈ a' :: bs',b ∉ a :: bs:=by
  intro i T g1
  obtain ⟨d1,d2⟩:=h1 i T g1
  obtain ⟨a,bs,t1,t2,t3,t4,t5⟩:=I.tab d1
  obtain ⟨u1,u2⟩:=h2 i a bs T d1 t1 t2 t3 t4
  refine ⟨a,bs,d2.trans t1,u1,fun b hb=>⟨(t3 b hb).1,u2 b hb⟩,fun j b hj ho hs hb=>?_,fun j T' hj hT=>?_⟩
  · rcases h3 i j T a b bs d1 t1 t2 hj ho hs with ⟨o1,o2⟩ | o
    · exact t4 j b hj o1 o2 hb
    · exact o hb
  · obtain ⟨e1,e2⟩:=h1 j T' hT
    obtain ⟨a',bs',s1,s2,s3⟩:=t5 j T' hj e1
    obtain ⟨a2,bs2,u1,u2,u3,u4,_⟩:=I.tab e1
    rw [s1] at u1
    cases u1
    have eb:=zoZ u2 s2
    subst eb
    exact ⟨a',bs2,e2.trans s1,(h2 j a' bs2 T' e1 s1 s2 u3 u4).1,s3⟩
theorem ziL (e:Ext F H F' H') {a:Addr} {bs:List Addr} {T:Tr} (t:Tab K F H a bs T) (f:∀ b ∈ a :: bs,H0 b=none∧F b=none):Tab K F' H' a bs T∧∀ b ∈ a :: bs,F' b=none :=
  ⟨t.mono e.ff e.hh,fun b hb=>let ⟨o,ho⟩:=t.obj b hb; e.nw b o (f b hb).2 ho⟩
theorem EnvOk.grow (I:EnvOk K Λ F0 H0 F H σ δ) (e:Ext F H F' H'):EnvOk K Λ F0 H0 F' H' σ δ :=
  ⟨I.ext.trans e,I.len,fun i=>(I.slot i).mono e,I.dist,fun x hx=>let ⟨h1,h2,h3⟩:=I.lent x hx; ⟨h1,h2,e.hh _ _ h3⟩,I.tabsOf (fun i T h=>⟨h,rfl⟩) (fun i a bs T _ _ t f _=>ziL e t f) fun i j T a b bs _ _ _ _ ho hs=>.inl ⟨ho,hs⟩⟩
theorem EnvOk.same (I:EnvOk K Λ F0 H0 F H σ δ):Same F H:=I.ext.fh
theorem Ext.base (a:Ext F0 H0 F1 H1) (b:Ext F1 H0 F' H'):Ext F0 H0 F' H' :=
  ⟨a.ff.trans b.ff,b.hh,b.fh,fun p o h1 h2=>b.nw p o (a.nw p o h1 h2) h2⟩
theorem EnvOk.up (I:EnvOk K Λ F0 H0 F H σ δ):EnvOk K Λ F H0 F H σ δ :=
  ⟨⟨.refl _,I.ext.hh,I.ext.fh,fun p o h1 h2=>h1⟩,I.len,I.slot,I.dist,I.lent,I.tabs⟩
theorem EnvOk.down (a:Ext F0 H0 F1 H1) (I:EnvOk K Λ F1 H0 F H σ δ):EnvOk K Λ F0 H0 F H σ δ :=
  ⟨a.base I.ext,I.len,I.slot,I.dist,I.lent,I.tabs⟩
theorem EnvOk.put {i:Nat} {d:D} {v:V} (I:EnvOk K Λ F0 H0 F H σ δ) (hl:∃ x,δ[i]?=some x∧∀ d,x ≠ .l d) (r:Rep K F d v):EnvOk K Λ F0 H0 F H (σ.set i (some v)) (δ.set i (.v d)):=by
  obtain ⟨x,hx,hn⟩:=hl
  have hi:i < δ.length:=(List.getElem?_eq_some_iff.mp hx).1
  have hi':i < σ.length:=by rw [I.len]; exact hi
  refine ⟨I.ext,by simp [I.len],fun j=>?_,fun j k a hjk h1 h2 h3 h4=>?_,fun y hy=>?_,I.tabsOf (fun k ll h=>by
      by_cases e:i=k
      · subst e; rw [List.getElem?_set_self hi] at h; cases h
      · rw [List.getElem?_set_ne e] at h; exact ⟨h,List.getElem?_set_ne e⟩) (fun _ _ _ _ _ _ t f _=>⟨t,fun b hb=>(f b hb).2⟩) fun k j ll a b bs _ _ _ _ ho hs=>.inl (by
      by_cases e:i=j
      · subst e; rw [List.getElem?_set_self hi] at ho; cases ho
      · rw [List.getElem?_set_ne e] at ho hs; exact ⟨ho,hs⟩)⟩
  · by_cases e:i=j
    · subst e
      rw [List.getElem?_set_self hi,List.getElem?_set_self hi']
      exact ⟨v,rfl,r⟩
    · rw [List.getElem?_set_ne e,List.getElem?_set_ne e]
      exact I.slot j
  · have ne:∀ k:Nat,Sl.own (δ.set i (.v d))[k]?=true→i ≠ k:=by
      rintro k h rfl
      rw [List.getElem?_set_self hi] at h
      cases h
    have n1:=ne j h1
    have n2:=ne k h2
    rw [List.getElem?_set_ne n1] at h1 h3
    rw [List.getElem?_set_ne n2] at h2 h4
    exact I.dist j k a hjk h1 h2 h3 h4
  · obtain ⟨⟨d',h1⟩,h2,h3⟩:=I.lent y hy
    have n:i ≠ y.1:=by
      intro e
      rw [← e,hx] at h1
      exact hn d' (Option.some.inj h1)
    exact ⟨⟨d',by rw [List.getElem?_set_ne n]; exact h1⟩,by rw [List.getElem?_set_ne n]; exact h2,h3⟩
theorem EnvOk.putO {i:Nat} {d:D} {p:Addr} (I:EnvOk K Λ F0 H0 F H σ δ) (hl:∃ x,δ[i]?=some x∧∀ d,x ≠ .l d) (e:Ext F H F' H') (h0:F' p=none) (h1:H p=none) (o:Own K F' H' d p) :
    EnvOk K Λ F0 H0 F' H' (σ.set i (some (.ref p))) (δ.set i (.o d)):=by
  obtain ⟨x,hx,hn⟩:=hl
  have hi:i < δ.length:=(List.getElem?_eq_some_iff.mp hx).1
  have hi':i < σ.length:=by rw [I.len]; exact hi
  have fresh:∀ k:Nat,Sl.own δ[k]?=true→σ[k]? ≠ some (some (V.ref p)):=fun k hk e=>by
    have z:=I.slot k
    cases q:δ[k]? with
    | none=>rw [q] at hk; cases hk
    | some y =>
      rw [q] at hk z
      cases y with
      | no=>cases hk
      | v d=>cases hk
      | o d =>
        obtain ⟨a,z1,_,_,z4⟩:=z
        rw [e] at z1; cases z1
        obtain ⟨u,hu⟩:=z4.obj
        rw [h1] at hu; cases hu
      | l d =>
        obtain ⟨a,z1,_,_,z4⟩:=z
        rw [e] at z1; cases z1
        obtain ⟨u,hu⟩:=z4.obj
        rw [h1] at hu; cases hu
      | p ll =>
        obtain ⟨a,bs,z1,z2,_⟩:=z
        rw [e] at z1; cases z1
        obtain ⟨u,hu⟩:=z2.obj p (by simp)
        rw [h1] at hu; cases hu
  have J:=I.grow e
  refine ⟨J.ext,by simp [I.len],fun j=>?_,fun j k a hjk g1 g2 g3 g4=>?_,fun y hy=>?_,I.tabsOf (fun k ll h=>by
      by_cases e:i=k
      · subst e; rw [List.getElem?_set_self hi] at h; cases h
      · rw [List.getElem?_set_ne e] at h; exact ⟨h,List.getElem?_set_ne e⟩) (fun k a bs T _ _ t f _=>ziL e t f) fun k j ll a b bs _ _ t _ ho hs=>by
      by_cases e:i=j
      · subst e
        rw [List.getElem?_set_self hi'] at hs
        cases hs
        refine .inr fun hb=>?_
        obtain ⟨u,hu⟩:=t.obj p hb
        rw [h1] at hu; cases hu
      · rw [List.getElem?_set_ne e] at ho hs; exact .inl ⟨ho,hs⟩⟩
  · by_cases e:i=j
    · subst e
      rw [List.getElem?_set_self hi,List.getElem?_set_self hi']
      exact ⟨p,rfl,I.ext.hh.free h1,h0,o⟩
    · rw [List.getElem?_set_ne e,List.getElem?_set_ne e]
      exact J.slot j
  · by_cases e1:i=j
    · subst e1
      rw [List.getElem?_set_self hi'] at g3
      cases g3
      rw [List.getElem?_set_ne hjk] at g2 g4
      exact fresh k g2 g4
    · by_cases e2:i=k
      · subst e2
        rw [List.getElem?_set_self hi'] at g4
        cases g4
        rw [List.getElem?_set_ne e1] at g1 g3
        exact fresh j g1 g3
      · rw [List.getElem?_set_ne e1] at g1 g3
        rw [List.getElem?_set_ne e2] at g2 g4
        exact I.dist j k a hjk g1 g2 g3 g4
  · obtain ⟨⟨d',g1⟩,g2,g3⟩:=J.lent y hy
    have n:i ≠ y.1:=by
      intro e
      rw [← e,hx] at g1
      exact hn d' (Option.some.inj g1)
    exact ⟨⟨d',by rw [List.getElem?_set_ne n]; exact g1⟩,by rw [List.getElem?_set_ne n]; exact g2,g3⟩
theorem EnvOk.chg {i:Nat} {d d':D} {a:Addr} {u:HO} (I:EnvOk K Λ F0 H0 F H σ δ) (hx:δ[i]?=some (.o d)) (ha:σ[i]?=some (some (.ref a))) (o:Own K F (upd H a u) d' a) :
    EnvOk K Λ F0 H0 F (upd H a u) σ (δ.set i (.o d')):=by
  have hi:i < δ.length:=(List.getElem?_eq_some_iff.mp hx).1
  have z:=I.slot i
  rw [hx] at z
  obtain ⟨a',z1,z2,z3,z4⟩:=z
  rw [ha] at z1; cases z1
  have oth:∀ (k:Nat) (b:Addr),i ≠ k→Sl.own δ[k]?=true→σ[k]?=some (some (.ref b))→b ≠ a:=fun k b hk h1 h2 e=>by
    subst e
    exact I.dist i k b hk (by rw [hx]; rfl) h1 ha h2
  refine ⟨⟨I.ext.ff,fun b w q=>?_,fun b w q=>?_,I.ext.nw⟩,by simp [I.len],fun j=>?_,fun j k b hjk g1 g2 g3 g4=>?_,fun y hy=>?_,I.tabsOf (fun k ll h=>by
      by_cases e:i=k
      · subst e; rw [List.getElem?_set_self hi] at h; cases h
      · rw [List.getElem?_set_ne e] at h; exact ⟨h,rfl⟩) (fun k r bs T g1 g2 t f dj=>by
      have e:i ≠ k:=fun e=>by subst e; rw [hx] at g1; cases g1
      exact ⟨t.at' fun b hb=>zag fun e'=>dj i a e (by rw [hx]; rfl) ha (e' ▸ hb),fun b hb=>(f b hb).2⟩) fun k j ll r b bs _ _ _ _ ho hs=>.inl (by
      by_cases e:i=j
      · subst e; exact ⟨by rw [hx]; rfl,hs⟩
      · rw [List.getElem?_set_ne e] at ho; exact ⟨ho,hs⟩)⟩
  · rw [zag (zak q z2)]; exact I.ext.hh b w q
  · rw [zag (zak q z3)]; exact I.ext.fh b w q
  · by_cases e:i=j
    · subst e
      rw [List.getElem?_set_self hi]
      exact ⟨a,ha,z2,z3,o⟩
    · rw [List.getElem?_set_ne e]
      have w:=I.slot j
      cases q:δ[j]? with
      | none=>trivial
      | some y =>
        rw [q] at w
        cases y with
        | no=>trivial
        | v d=>exact w
        | o d =>
          obtain ⟨b,w1,w2,w3,w4⟩:=w
          exact ⟨b,w1,w2,w3,w4.at (zag (oth j b e (by rw [q]; rfl) w1))⟩
        | l d =>
          obtain ⟨b,w1,w2,w3,w4⟩:=w
          exact ⟨b,w1,w2,w3,w4.at (zag (oth j b e (by rw [q]; rfl) w1))⟩
        | p ll =>
          obtain ⟨r,bs,t1,t2,t3,t4,t5⟩:=I.tab q
          exact ⟨r,bs,t1,t2.at' fun b hb=>zag fun e'=>t4 i a e (by rw [hx]; rfl) ha (e' ▸ hb),t3⟩
  · have ow:∀ k:Nat,Sl.own (δ.set i (.o d'))[k]?=true→Sl.own δ[k]?=true:=by
      intro k h
      by_cases e:i=k
      · subst e; rw [hx]; rfl
      · rw [List.getElem?_set_ne e] at h; exact h
    exact I.dist j k b hjk (ow j g1) (ow k g2) g3 g4
  · obtain ⟨⟨d2,g1⟩,g2,g3⟩:=I.lent y hy
    have n:i ≠ y.1:=by
      intro e
      rw [← e,hx] at g1
      cases g1
    exact ⟨⟨d2,by rw [List.getElem?_set_ne n]; exact g1⟩,g2,by rw [zag (oth y.1 y.2.1 n (by rw [g1]; rfl) g2)]; exact g3⟩
theorem EnvOk.frz {i:Nat} {d:D} (I:EnvOk K Λ F0 H0 F H σ δ) (hx:δ[i]?=some (.o d)):∃ F',Same F F'∧EnvOk K Λ F0 H0 F' H σ (δ.set i (.v d)):=by
  have hi:i < δ.length:=(List.getElem?_eq_some_iff.mp hx).1
  have z:=I.slot i
  rw [hx] at z
  obtain ⟨a,z1,z2,z3,z4⟩:=z
  obtain ⟨u,hu⟩:=z4.obj
  have hs:Same F (upd F a u):=Same.upd z3
  have sl:∀ j:Nat,i ≠ j→Sl.own δ[j]?=true→σ[j]? ≠ some (some (V.ref a)):=fun j hj h e=>I.dist i j a hj (by rw [hx]; rfl) h z1 e
  refine ⟨upd F a u,hs,⟨I.ext.ff.trans hs,I.ext.hh,fun b w q=>?_,fun p o h1 h2=>?_⟩,by simp [I.len],fun j=>?_,fun j k b hjk g1 g2 g3 g4=>?_,fun y hy=>?_,I.tabsOf (fun k ll h=>by
      by_cases e:i=k
      · subst e; rw [List.getElem?_set_self hi] at h; cases h
      · rw [List.getElem?_set_ne e] at h; exact ⟨h,rfl⟩) (fun k r bs T g1 g2 t f dj=>by
      have e:i ≠ k:=fun e=>by subst e; rw [hx] at g1; cases g1
      exact ⟨t.mono hs (.refl _),fun b hb=>by rw [zag (show b ≠ a from fun e'=>dj i a e (by rw [hx]; rfl) z1 (e' ▸ hb))]; exact (f b hb).2⟩) fun k j ll r b bs _ _ _ _ ho hs=>.inl (by
      by_cases e:i=j
      · subst e; rw [List.getElem?_set_self hi] at ho; cases ho
      · rw [List.getElem?_set_ne e] at ho; exact ⟨ho,hs⟩)⟩
  · by_cases e:b=a
    · subst e; rw [zai] at q; cases q; exact hu
    · rw [zag e] at q; exact I.ext.fh _ _ q
  · rw [zag (zak h2 z2)]; exact I.ext.nw p o h1 h2
  · by_cases e:i=j
    · subst e
      rw [List.getElem?_set_self hi]
      refine ⟨.ref a,z1,?_⟩
      cases d with
      | lst l =>
        obtain ⟨vs,h2,h3⟩:=z4
        rw [hu] at h2; cases h2
        simp only [Rep]
        exact ⟨a,vs,rfl,.inl zai,h3.mono hs⟩
      | dct ks l =>
        obtain ⟨vs,h2,h3,h4⟩:=z4
        rw [hu] at h2; cases h2
        simp only [Rep]
        exact ⟨a,vs,rfl,zai,h3,h4.mono hs⟩
      | obj c ks l =>
        obtain ⟨dx,vs,h2,h3,h4⟩:=z4
        rw [hu] at h2; cases h2
        simp only [Rep]
        exact ⟨a,dx,vs,rfl,zai,h3,h4.mono hs⟩
      | _=>exact z4.elim
    · rw [List.getElem?_set_ne e]
      have w:=I.slot j
      cases q:δ[j]? with
      | none=>trivial
      | some y =>
        rw [q] at w
        cases y with
        | no=>trivial
        | v d=>obtain ⟨v,w1,w2⟩:=w; exact ⟨v,w1,Rep.mono hs d w2⟩
        | o d =>
          obtain ⟨b,w1,w2,w3,w4⟩:=w
          exact ⟨b,w1,w2,by rw [zag (show b ≠ a from fun e'=>sl j e (by rw [q]; rfl) (by rw [w1,e']))]; exact w3,w4.mono hs (.refl _)⟩
        | p ll =>
          obtain ⟨r,bs,t1,t2,t3,t4,t5⟩:=I.tab q
          exact ⟨r,bs,t1,t2.mono hs (.refl _),fun b hb=>⟨(t3 b hb).1,by rw [zag (show b ≠ a from fun e'=>t4 i a e (by rw [hx]; rfl) z1 (e' ▸ hb))]; exact (t3 b hb).2⟩⟩
        | l d =>
          obtain ⟨b,w1,w2,w3,w4⟩:=w
          exact ⟨b,w1,w2,by rw [zag (show b ≠ a from fun e'=>sl j e (by rw [q]; rfl) (by rw [w1,e']))]; exact w3,w4.mono hs (.refl _)⟩
  · have ow:∀ k:Nat,Sl.own (δ.set i (.v d))[k]?=true→Sl.own δ[k]?=true:=by
      intro k h
      by_cases e:i=k
      · subst e; rw [List.getElem?_set_self hi] at h; cases h
      · rw [List.getElem?_set_ne e] at h; exact h
    exact I.dist j k b hjk (ow j g1) (ow k g2) g3 g4
  · obtain ⟨⟨d2,g1⟩,g2,g3⟩:=I.lent y hy
    have n:i ≠ y.1:=by
      intro e
      rw [← e,hx] at g1
      cases g1
    exact ⟨⟨d2,by rw [List.getElem?_set_ne n]; exact g1⟩,g2,g3⟩
end
end PM
namespace PM
open PySem L2
abbrev XOT:=Xc→Hp→Hp→Value→Option Addr→Prop
def Aft {α:Type} (E:St→XK) (XO:XOT) (σ:St) (F H:Hp) (P:α→Hp→Hp→Prop):R α→Prop
  | .no=>False
  | .ok a=>∀ F' H',Ext F H F' H'→P a F' H'
  | .ex x=>∀ C dct F' H',Ext F H F' H'→XO x F' H' C dct→E σ C dct H'
section
variable {E:St→XK} {XO:XOT} {σ:St} {F H F1 H1:Hp} {α β:Type} {P P':α→Hp→Hp→Prop}
theorem Aft.mono (e:Ext F H F1 H1):∀ {r:R α},Aft E XO σ F H P r→Aft E XO σ F1 H1 P r
  | .no,h=>h
  | .ok _,h=>fun F' H' e'=>h F' H' (e.trans e')
  | .ex _,h=>fun C dct F' H' e' x=>h C dct F' H' (e.trans e') x
theorem Aft.imp (i:∀ a F1 H1,Ext F H F1 H1→P a F1 H1→P' a F1 H1):∀ {r:R α},Aft E XO σ F H P r→Aft E XO σ F H P' r
  | .no,h=>h
  | .ok _,h=>fun F' H' e'=>i _ F' H' e' (h F' H' e')
  | .ex _,h=>h
theorem Aft.bind {P:β→Hp→Hp→Prop} {f:α→R β}:∀ {r:R α},Aft E XO σ F H P (r.bind f)→Aft E XO σ F H (fun a F1 H1=>Aft E XO σ F1 H1 P (f a)) r
  | .no,h=>h
  | .ok _,h=>fun F' H' e'=>Aft.mono e' h
  | .ex _,h=>h
end
inductive Prd (T:D→V→Prop):List D→List V→Prop where
  | nil:Prd T [] []
  | cons {d:D} {v:V} {ds:List D} {vs:List V}:T d v→Prd T ds vs→Prd T (d :: ds) (v :: vs)
section
variable (K:Kx) (XO:XOT) (E:St→XK)
def SE (t:TE) (m:En→R D):Prop:=∀ Λ F0 H0 F H σ δ Q,EnvOk K Λ F0 H0 F H σ δ→Aft E XO σ F H (fun d F' H'=>∀ v,Rep K F' d v→Q v H') (m δ)→t σ H Q
def SEr (t:TE) (m:En→R D):Prop:=∀ Λ F0 H0 F H σ δ Q,EnvOk K Λ F0 H0 F H σ δ→Aft E XO σ F H (fun d F' H'=>∀ v,Top K F' H' d v→Q v H') (m δ)→t σ H Q
def SEo (t:TE) (m:En→R D):Prop:=∀ Λ F0 H0 F H σ δ Q,EnvOk K Λ F0 H0 F H σ δ→Aft E XO σ F H (fun d F' H'=>∀ p,F' p=none→H p=none→Own K F' H' d p→Q (.ref p) H') (m δ)→t σ H Q
def ST (t:TT) (m:En→R Bool):Prop:=∀ Λ F0 H0 F H σ δ Q,EnvOk K Λ F0 H0 F H σ δ→Aft E XO σ F H (fun b _ H'=>Q b H') (m δ)→t σ H Q
def SA (t:TA) (m:En→R (List D)):Prop:=∀ Λ F0 H0 F H σ δ Q,EnvOk K Λ F0 H0 F H σ δ→Aft E XO σ F H (fun ds F' H'=>∀ vs,RepL K F' ds vs→Q vs H') (m δ)→t σ H Q
def SAr (t:TA) (m:En→R (List D)):Prop:=∀ Λ F0 H0 F H σ δ Q,EnvOk K Λ F0 H0 F H σ δ→Aft E XO σ F H (fun ds F' H'=>∀ vs,Prd (Top K F' H') ds vs→Q vs H') (m δ)→t σ H Q
end
section
variable {K:Kx} {XO:XOT} {E:St→XK} {t ta tb te:TE} {m ma mb me:En→R D}
theorem SE.r (h:SE K XO E t m):SEr K XO E t m:=fun Λ F0 H0 F H σ δ Q I a=>h Λ F0 H0 F H σ δ Q I (a.imp fun d F1 H1 e p v r=>p v (r.top e.fh))
theorem SEo.e (h:SEo K XO E t m):SE K XO E t m:=fun Λ F0 H0 F H σ δ Q I a=>h Λ F0 H0 F H σ δ Q I (by
  cases q:m δ with
  | no=>rw [q] at a; exact a
  | ex x=>rw [q] at a; exact a
  | ok d =>
    rw [q] at a
    intro F1 H1 e p h0 h1 o
    obtain ⟨F2,e2,s2,r⟩:=o.freeze e h0 h1
    exact a F2 H1 e2 _ r)
def mVar (i:Nat) (δ:En):R D:=match δ[i]? with | some (.v d)=>.ok d | _=>.no
def mRd (i:Nat) (δ:En):R D:=match δ[i]? with | some (.v d)=>.ok d | some (.o d)=>.ok d | some (.l d)=>.ok d | _=>.no
theorem zam {i:Nat}:SE K XO E (tVar i) (mVar i):=by
  intro Λ F0 H0 F H σ δ Q I a
  unfold mVar at a
  have z:=I.slot i
  split at a
  · rename_i d q
    rw [q] at z
    obtain ⟨u,h1,h2⟩:=z
    exact ⟨u,h1,a F H (.refl I.same) u h2⟩
  · exact a.elim
theorem zad {i:Nat}:SEr K XO E (tVar i) (mRd i):=by
  intro Λ F0 H0 F H σ δ Q I a
  unfold mRd at a
  have z:=I.slot i
  split at a
  · rename_i d q
    rw [q] at z
    obtain ⟨u,h1,h2⟩:=z
    exact ⟨u,h1,a F H (.refl I.same) u (h2.top I.same)⟩
  · rename_i d q
    rw [q] at z
    obtain ⟨u,h1,_,_,h2⟩:=z
    exact ⟨_,h1,a F H (.refl I.same) _ h2.top⟩
  · rename_i d q
    rw [q] at z
    obtain ⟨u,h1,_,_,h2⟩:=z
    exact ⟨_,h1,a F H (.refl I.same) _ h2.top⟩
  · exact a.elim
def mC (d:D) (_:En):R D:=.ok d
theorem zaj {i:Int}:SE K XO E (tC (.int i)) (mC (.int i)):=fun Λ F0 H0 F H σ δ Q I a=>a F H (.refl I.same) _ (by simp only [Rep])
theorem zg6 {i:Bool}:SE K XO E (tC (.bl i)) (mC (.bl i)):=fun Λ F0 H0 F H σ δ Q I a=>a F H (.refl I.same) _ (by simp only [Rep])
theorem zfB:SE K XO E (tC .non) (mC .non):=fun Λ F0 H0 F H σ δ Q I a=>a F H (.refl I.same) _ (by simp only [Rep])
theorem zph {i:Str}:SE K XO E (tC (.str i)) (mC (.str i)):=fun Λ F0 H0 F H σ δ Q I a=>a F H (.refl I.same) _ (by simp only [Rep])
def R.of {α:Type}:Option α→R α
  | some a=>.ok a
  | none=>.no
@[simp] theorem R.of_some {α:Type} (a:α):R.of (some a) = .ok a:=rfl
@[simp] theorem R.of_none {α:Type}:R.of (none:Option α) = .no:=rfl
def m2 (f:D→D→Option D) (ma mb:En→R D) (δ:En):R D:=(ma δ).bind fun x=>(mb δ).bind fun y=>R.of (f x y)
def m1 (f:D→Option D) (ma:En→R D) (δ:En):R D:=(ma δ).bind fun x=>R.of (f x)
@[simp] theorem zi5 {f:D→D→Option D} {ma mb:En→R D} {δ:En}:m2 f ma mb δ=(ma δ).bind fun x=>(mb δ).bind fun y=>R.of (f x y):=rfl
@[simp] theorem zqu {f:D→Option D} {ma:En→R D} {δ:En}:m1 f ma δ=(ma δ).bind fun x=>R.of (f x):=rfl
variable (K) in
def SR (r:R2) (f:D→D→Option D):Prop:=∀ F H x y dx dy d Q,Same F H→Top K F H dx x→Top K F H dy y→f dx dy=some d→(∀ v F' H',Ext F H F' H'→Rep K F' d v→Q v H')→r x y H Q
variable (K) in
def SRo (r:R2) (f:D→D→Option D):Prop:=∀ F H x y dx dy d Q,Same F H→Top K F H dx x→Top K F H dy y→f dx dy=some d→(∀ p F' H',Ext F H F' H'→F' p=none→H p=none→Own K F' H' d p→Q (.ref p) H')→r x y H Q
theorem zau {r:R2} {f:D→D→Option D} (hr:SR K r f) (ha:SEr K XO E ta ma) (hb:SEr K XO E tb mb):SE K XO E (tOp r ta tb) (m2 f ma mb):=by
  intro Λ F0 H0 F H σ δ Q I a
  refine ha Λ F0 H0 F H σ δ _ I (a.bind.imp fun dx F1 H1 e1 a1 x rx=>?_)
  refine hb Λ F0 H0 F1 H1 σ δ _ (I.grow e1) (a1.bind.imp fun dy F2 H2 e2 a2 y ry=>?_)
  cases q:f dx dy with
  | none=>rw [q] at a2; exact a2.elim
  | some d =>
    rw [q] at a2
    exact hr F2 H2 x y dx dy d Q e2.fh (rx.mono e2.ff e2.hh) ry q fun v F' H' e r=>a2 F' H' e v r
theorem zpc {r:R2} {f:D→D→Option D} (hr:SRo K r f) (ha:SEr K XO E ta ma) (hb:SEr K XO E tb mb):SEo K XO E (tOp r ta tb) (m2 f ma mb):=by
  intro Λ F0 H0 F H σ δ Q I a
  refine ha Λ F0 H0 F H σ δ _ I (a.bind.imp fun dx F1 H1 e1 a1 x rx=>?_)
  refine hb Λ F0 H0 F1 H1 σ δ _ (I.grow e1) (a1.bind.imp fun dy F2 H2 e2 a2 y ry=>?_)
  cases q:f dx dy with
  | none=>rw [q] at a2; exact a2.elim
  | some d =>
    rw [q] at a2
    exact hr F2 H2 x y dx dy d Q e2.fh (rx.mono e2.ff e2.hh) ry q fun p F' H' e h0 h1 o=>a2 F' H' e p h0 (e1.hh.free (e2.hh.free h1)) o
variable (K) in
def SU (r:V→Hp→VK→Prop) (f:D→Option D):Prop:=∀ F H x dx d Q,Same F H→Top K F H dx x→f dx=some d→(∀ v F' H',Ext F H F' H'→Rep K F' d v→Q v H')→r x H Q
theorem zqj {r:V→Hp→VK→Prop} {f:D→Option D} (hr:SU K r f) (ha:SEr K XO E ta ma):SE K XO E (tUn r ta) (m1 f ma):=by
  intro Λ F0 H0 F H σ δ Q I a
  refine ha Λ F0 H0 F H σ δ _ I (a.bind.imp fun dx F1 H1 e1 a1 x rx=>?_)
  cases q:f dx with
  | none=>rw [q] at a1; exact a1.elim
  | some d =>
    rw [q] at a1
    exact hr F1 H1 x dx d Q e1.fh rx q fun v F' H' e r=>a1 F' H' e v r
def mNil (_:En):R (List D):=.ok []
def zab (ma:En→R D) (mr:En→R (List D)) (δ:En):R (List D):=(ma δ).bind fun x=>(mr δ).bind fun l=>.ok (x :: l)
theorem zaq:SA K XO E tNil mNil:=fun Λ F0 H0 F H σ δ Q I a=>a F H (.refl I.same) _ .nil
theorem zac {tr:TA} {mr:En→R (List D)} (ha:SE K XO E ta ma) (hr:SA K XO E tr mr):SA K XO E (zci ta tr) (zab ma mr):=by
  intro Λ F0 H0 F H σ δ Q I a
  refine ha Λ F0 H0 F H σ δ _ I (a.bind.imp fun dx F1 H1 e1 a1 x rx=>?_)
  refine hr Λ F0 H0 F1 H1 σ δ _ (I.grow e1) (a1.bind.imp fun dy F2 H2 e2 a2 y ry=>?_)
  exact a2 F2 H2 (.refl e2.fh) _ (.cons (Rep.mono e2.ff _ rx) ry)
theorem zbw:SAr K XO E tNil mNil:=fun Λ F0 H0 F H σ δ Q I a=>a F H (.refl I.same) _ .nil
theorem za5 {tr:TA} {mr:En→R (List D)} (ha:SEr K XO E ta ma) (hr:SAr K XO E tr mr):SAr K XO E (zci ta tr) (zab ma mr):=by
  intro Λ F0 H0 F H σ δ Q I a
  refine ha Λ F0 H0 F H σ δ _ I (a.bind.imp fun dx F1 H1 e1 a1 x rx=>?_)
  refine hr Λ F0 H0 F1 H1 σ δ _ (I.grow e1) (a1.bind.imp fun dy F2 H2 e2 a2 y ry=>?_)
  exact a2 F2 H2 (.refl e2.fh) _ (.cons (rx.mono e2.ff e2.hh) ry)
def mTup (ml:En→R (List D)) (δ:En):R D:=(ml δ).bind fun l=>ifC (l.length ≤ sizeLine) (.ok (.tup l)) .no
def mLst (ml:En→R (List D)) (δ:En):R D:=(ml δ).bind fun l=>ifC (l.length ≤ sizeLine) (.ok (.lst l)) .no
theorem zfG {tl:TA} {ml:En→R (List D)} (h:SA K XO E tl ml):SE K XO E (tTup tl) (mTup ml):=by
  intro Λ F0 H0 F H σ δ Q I a
  refine h Λ F0 H0 F H σ δ _ I (a.bind.imp fun ds F1 H1 e1 a1 vs r=>?_)
  unfold ifC at a1
  split at a1
  · rename_i hl
    refine ⟨by rw [r.length]; exact hl,fun p hp=>a1 _ _ (.new e1.fh hp) _ ?_⟩
    simp only [Rep]
    exact ⟨p,vs,rfl,zai,r.mono (Same.upd (e1.fh.free hp))⟩
  · exact a1.elim
theorem zcR {tl:TA} {ml:En→R (List D)} (h:SA K XO E tl ml):SEo K XO E (tLst tl) (mLst ml):=by
  intro Λ F0 H0 F H σ δ Q I a
  refine h Λ F0 H0 F H σ δ _ I (a.bind.imp fun ds F1 H1 e1 a1 vs r=>?_)
  unfold ifC at a1
  split at a1
  · rename_i hl
    refine ⟨by rw [r.length]; exact hl,fun p hp=>a1 _ _ (.newO e1.fh hp) _ (e1.fh.free hp) (e1.hh.free hp) ⟨vs,zai,r⟩⟩
  · exact a1.elim
theorem zft:SEo K XO E znm (mC (.dct [] [])):=fun Λ F0 H0 F H σ δ Q I a p hp=>a F _ (.newO I.same hp) p (I.same.free hp) hp ⟨[],zai,rfl,.nil⟩
def asB:D→Option Bool
  | .bl b=>some b
  | _=>none
def zaz (me:En→R D) (δ:En):R Bool:=(me δ).bind fun d=>R.of (asB d)
theorem za8 (h:SE K XO E te me):ST K XO E (zpl te) (zaz me):=by
  intro Λ F0 H0 F H σ δ Q I a
  refine h Λ F0 H0 F H σ δ _ I (a.bind.imp fun d F1 H1 e1 a1 v r=>?_)
  cases d with
  | bl b=>simp only [Rep] at r; exact ⟨b,r,a1 F1 H1 (.refl e1.fh)⟩
  | _=>exact a1.elim
theorem st_b (h:SE K XO E te me):ST K XO E (tB te) (zaz me):=za8 h
variable {tA tB':TT} {nA nB:En→R Bool}
def mAnd (nA nB:En→R Bool) (δ:En):R Bool:=(nA δ).bind fun b=>if b=true then nB δ else .ok false
def mOr (nA nB:En→R Bool) (δ:En):R Bool:=(nA δ).bind fun b=>if b=true then .ok true else nB δ
def mNot (nA:En→R Bool) (δ:En):R Bool:=(nA δ).bind fun b=>.ok (!b)
theorem znh (h:ST K XO E tA nA) (h':ST K XO E tB' nB):ST K XO E (tAnd tA tB') (mAnd nA nB):=by
  intro Λ F0 H0 F H σ δ Q I a
  refine h Λ F0 H0 F H σ δ _ I (a.bind.imp fun b F1 H1 e1 a1=>?_)
  cases b with
  | true=>exact h' Λ F0 H0 F1 H1 σ δ _ (I.grow e1) a1
  | false=>exact a1 F1 H1 (.refl e1.fh)
theorem zjI (h:ST K XO E tA nA) (h':ST K XO E tB' nB):ST K XO E (tOr tA tB') (mOr nA nB):=by
  intro Λ F0 H0 F H σ δ Q I a
  refine h Λ F0 H0 F H σ δ _ I (a.bind.imp fun b F1 H1 e1 a1=>?_)
  cases b with
  | false=>exact h' Λ F0 H0 F1 H1 σ δ _ (I.grow e1) a1
  | true=>exact a1 F1 H1 (.refl e1.fh)
theorem zhk (h:ST K XO E tA nA):ST K XO E (tNot tA) (mNot nA):=by
  intro Λ F0 H0 F H σ δ Q I a
  exact h Λ F0 H0 F H σ δ _ I (a.bind.imp fun b F1 H1 e1 a1=>a1 F1 H1 (.refl e1.fh))
def zom (ma mb:En→R D) (δ:En):R D:=(ma δ).bind fun d=>(R.of (asB d)).bind fun b=>if b=true then mb δ else .ok (.bl false)
def zlR (ma:En→R D) (δ:En):R D:=(ma δ).bind fun d=>(R.of (asB d)).bind fun b=>.ok (.bl (!b))
theorem zo9 (h:SE K XO E ta ma) (h':SE K XO E tb mb):SE K XO E (zpG ta tb) (zom ma mb):=by
  intro Λ F0 H0 F H σ δ Q I a
  refine h Λ F0 H0 F H σ δ _ I (a.bind.imp fun d F1 H1 e1 a1 v r=>?_)
  cases d with
  | bl b =>
    simp only [Rep] at r
    refine ⟨b,r,?_⟩
    cases b with
    | true=>exact h' Λ F0 H0 F1 H1 σ δ _ (I.grow e1) a1
    | false=>exact a1 F1 H1 (.refl e1.fh) _ (by simp only [Rep])
  | _=>exact a1.elim
theorem zm7 (h:SE K XO E ta ma):SE K XO E (zo8 ta) (zlR ma):=by
  intro Λ F0 H0 F H σ δ Q I a
  refine h Λ F0 H0 F H σ δ _ I (a.bind.imp fun d F1 H1 e1 a1 v r=>?_)
  cases d with
  | bl b =>
    simp only [Rep] at r
    exact ⟨b,r,a1 F1 H1 (.refl e1.fh) _ (by simp only [Rep])⟩
  | _=>exact a1.elim
def spM (K:Kx) (XO:XOT) (f:List D→R D):Sp:=fun vs H Q E=>∃ F ds,Same F H∧RepL K F ds vs∧Aft (fun _=>E) XO [] F H (fun d F' H'=>∀ v,Rep K F' d v→Q v H') (f ds)
def zf5 (f:List D→R D) (ml:En→R (List D)) (δ:En):R D:=(ml δ).bind f
def R.nev {α:Type}:R α→R α
  | .ex _=>.no
  | r=>r
@[simp] theorem R.nev_ok {α:Type} (a:α):(R.ok a).nev = .ok a:=rfl
def zap (f:List D→R D) (ml:En→R (List D)) (δ:En):R D:=(ml δ).bind fun l=>(f l).nev
theorem Aft.any {α:Type} {E E':St→XK} {σ σ':St} {F H:Hp} {P:α→Hp→Hp→Prop} {r:R α} (h:Aft E XO σ F H P r.nev):Aft E' XO σ' F H P r:=by
  cases r with
  | no=>exact h
  | ok a=>exact h
  | ex x=>exact h.elim
theorem zg0 {f:List D→R D} {tl:TA} {ml:En→R (List D)} (h:SA K XO E tl ml):SE K XO E (zkr (spM K XO f) E tl) (zf5 f ml):=by
  intro Λ F0 H0 F H σ δ Q I a
  refine h Λ F0 H0 F H σ δ _ I (a.bind.imp fun ds F1 H1 e1 a1 vs r=>⟨F1,ds,e1.fh,r,?_⟩)
  cases q:f ds with
  | no=>rw [q] at a1; exact a1
  | ok d=>rw [q] at a1; exact a1
  | ex x=>rw [q] at a1; exact a1
theorem zaQ {f:List D→R D} {tl:TA} {ml:En→R (List D)} {E':XK} (h:SA K XO E tl ml):SE K XO E (zhY (spM K XO f) [] E' tl) (zap f ml):=by
  intro Λ F0 H0 F H σ δ Q I a
  refine h Λ F0 H0 F H σ δ _ I (a.bind.imp fun ds F1 H1 e1 a1 vs r=>⟨F1,ds,e1.fh,by rw [List.append_nil]; exact r,a1.any⟩)
variable (K) in
def SG (g:TG) (b:D→En→Option En):Prop:=∀ Λ F0 H0 F H σ δ d v δ' Q,EnvOk K Λ F0 H0 F H σ δ→Rep K F d v→b d δ=some δ'→(∀ σ',EnvOk K Λ F0 H0 F H σ' δ'→Q σ' H)→g v σ H Q
variable (K) in
def SGs (g:TGs) (b:List D→En→Option En):Prop:=∀ Λ F0 H0 F H σ δ d v δ' Q,EnvOk K Λ F0 H0 F H σ δ→RepL K F d v→b d δ=some δ'→(∀ σ',EnvOk K Λ F0 H0 F H σ' δ'→Q σ' H)→g v σ H Q
def zat (i:Nat) (d:D) (δ:En):Option En:=match δ[i]? with | none=>none | some (.l _)=>none | some _=>some (δ.set i (.v d))
def zba (i:Nat) (d:D) (δ:En):Option En:=match δ[i]? with | some .no=>some (δ.set i (.v d)) | _=>none
def bNil (l:List D) (δ:En):Option En:=match l with | []=>some δ | _=>none
def zco (b:D→En→Option En) (c:List D→En→Option En) (l:List D) (δ:En):Option En:=match l with | d :: r=>(b d δ).bind (c r) | []=>none
def bTup (n:Nat) (c:List D→En→Option En) (d:D) (δ:En):Option En:=match d with | .tup l=>if l.length=n then c l δ else none | _=>none
theorem zax {i:Nat}:SG K (zgj i) (zat i):=by
  intro Λ F0 H0 F H σ δ d v δ' Q I r e q
  unfold zat at e
  split at e
  · cases e
  · cases e
  · rename_i x h2 h1
    cases e
    exact q _ (I.put ⟨x,h1,fun d' z=>h2 d' (by rw [z])⟩ r)
theorem zbB {i:Nat}:SG K (zgj i) (zba i):=by
  intro Λ F0 H0 F H σ δ d v δ' Q I r e q
  unfold zba at e
  split at e
  · rename_i h1
    cases e
    exact q _ (I.put ⟨_,h1,fun d' z=>by cases z⟩ r)
  · cases e
theorem ze5:SGs K gNil bNil:=by
  intro Λ F0 H0 F H σ δ d v δ' Q I r e q
  cases d with
  | nil=>simp only [RepL] at r; cases e; exact ⟨r,q _ I⟩
  | cons x l=>cases e
theorem zbL {g:TG} {h:TGs} {b:D→En→Option En} {c:List D→En→Option En} (hg:SG K g b) (hh:SGs K h c):SGs K (zoT g h) (zco b c):=by
  intro Λ F0 H0 F H σ δ d v δ' Q I r e q
  cases d with
  | nil=>cases e
  | cons x l =>
    simp only [RepL] at r
    obtain ⟨u,w,rfl,r1,r2⟩:=r
    change (b x δ).bind (c l)=some δ' at e
    cases z:b x δ with
    | none=>rw [z] at e; cases e
    | some δ1 =>
      rw [z] at e
      exact ⟨u,w,rfl,hg Λ F0 H0 F H σ δ x u δ1 _ I r1 z fun σ1 I1=>hh Λ F0 H0 F H σ1 δ1 l w δ' Q I1 r2 e q⟩
theorem zgE {n:Nat} {h:TGs} {c:List D→En→Option En} (hh:SGs K h c):SG K (gTup K.f n h) (bTup n c):=by
  intro Λ F0 H0 F H σ δ d v δ' Q I r e q
  cases d with
  | tup l =>
    simp only [Rep] at r
    obtain ⟨a,vs,rfl,h1,h2⟩:=r
    simp only [bTup] at e
    split at e
    · rename_i hn
      exact ⟨a,vs,rfl,.inl (.inl (I.same _ _ h1)),by rw [h2.length]; exact hn,hh Λ F0 H0 F H σ δ l vs δ' Q I h2 e q⟩
    · cases e
  | _=>cases e
def Weak (δ δ':En):Prop:=δ.length=δ'.length∧∀ i:Nat,δ[i]?=some .no∨δ[i]?=δ'[i]?
theorem Weak.refl (δ:En):Weak δ δ:=⟨rfl,fun _=>.inr rfl⟩
theorem Weak.trans {a b c:En} (h:Weak a b) (h':Weak b c):Weak a c:=⟨h.1.trans h'.1,fun i=>by
  rcases h.2 i with z | z
  · exact .inl z
  · rcases h'.2 i with y | y
    · exact .inl (z.trans y)
    · exact .inr (z.trans y)⟩
def BW (b:D→En→Option En):Prop:=∀ d δ δ',b d δ=some δ'→Weak δ δ'
def BWs (b:List D→En→Option En):Prop:=∀ d δ δ',b d δ=some δ'→Weak δ δ'
theorem zbW {i:Nat}:BW (zba i):=by
  intro d δ δ' e
  unfold zba at e
  split at e
  · rename_i h1
    cases e
    refine ⟨by simp,fun j=>?_⟩
    by_cases h:i=j
    · subst h; exact .inl h1
    · exact .inr (by rw [List.getElem?_set_ne h])
  · cases e
theorem zkb:BWs bNil:=by
  intro d δ δ' e
  cases d with
  | nil=>cases e; exact .refl _
  | cons x l=>cases e
theorem zfr {b:D→En→Option En} {c:List D→En→Option En} (h:BW b) (h':BWs c):BWs (zco b c):=by
  intro d δ δ' e
  cases d with
  | nil=>cases e
  | cons x l =>
    change (b x δ).bind (c l)=some δ' at e
    cases z:b x δ with
    | none=>rw [z] at e; cases e
    | some δ1=>rw [z] at e; exact (h _ _ _ z).trans (h' _ _ _ e)
theorem znd {n:Nat} {c:List D→En→Option En} (h:BWs c):BW (bTup n c):=by
  intro d δ δ' e
  cases d with
  | tup l =>
    simp only [bTup] at e
    split at e
    · exact h _ _ _ e
    · cases e
  | _=>cases e
variable (K) in
def IsIt (J:It) (P:Hp→Hp→Prop) (ds:List D):Prop:=∀ F2 H2,P F2 H2→∀ i:Nat,(∀ d,ds[i]?=some d→J.go i H2∧∀ x H',J.yld i H2 x H'→∃ F3,Ext F2 H2 F3 H'∧Rep K F3 d x)∧(ds[i]?=none→J.stop i H2)
variable (K XO E) in
def SI (wi:TI) (m:En→R (List D)):Prop:=∀ Λ F0 H0 F H σ δ R,EnvOk K Λ F0 H0 F H σ δ→Aft E XO σ F H (fun ds F1 H1=>∀ J,IsIt K J (fun F2 H2=>Same F1 F2∧Same F2 H2) ds→R J H1) (m δ)→wi σ H R
variable (K XO E) in
def SIc (wi:TI) (m:En→R (List D)):Prop:=∀ Λ F0 H0 F H σ δ R,EnvOk K Λ F0 H0 F H σ δ→Aft E XO σ F H (fun ds F1 H1=>∀ J,IsIt K J (fun F2 H2=>Ext F1 H1 F2 H2) ds→R J H1) (m δ)→wi σ H R
theorem SI.c {wi:TI} {m:En→R (List D)} (h:SI K XO E wi m):SIc K XO E wi m:=fun Λ F0 H0 F H σ δ R I a=>h Λ F0 H0 F H σ δ R I (a.imp fun ds F1 H1 e p J hJ=>p J fun F2 H2 x=>hJ F2 H2 ⟨x.ff,x.fh⟩)
def asL:D→Option (List D)
  | .lst l=>some l
  | .scr l=>some (l.map .int)
  | _=>none
def mItL (ml:En→R D) (δ:En):R (List D):=(ml δ).bind fun d=>R.of (asL d)
theorem zc9 {a:Addr} {ds:List D} {vs:List V} {F1:Hp} {P:Hp→Hp→Prop} (r:RepL K F1 ds vs) (h:∀ F2 H2,P F2 H2→Same F1 F2∧Same F2 H2∧SqL K.f H2 a vs):IsIt K (Itl K.f a) P ds:=by
  intro F2 H2 p i
  obtain ⟨s1,s2,q⟩:=h F2 H2 p
  refine ⟨fun d hd=>?_,fun hn=>?_⟩
  · obtain ⟨v,hv,rv⟩:=r.get hd
    refine ⟨⟨vs,v,q,hv⟩,fun x H' y=>?_⟩
    obtain ⟨rfl,y⟩:=y
    have z:=y vs q
    rw [hv] at z; cases z
    exact ⟨F2,.refl s2,Rep.mono s1 _ rv⟩
  · exact ⟨vs,q,by rw [r.length]; exact List.getElem?_eq_none_iff.mp hn⟩
theorem zes (h:SE K XO E te me):SI K XO E (zj4 K.f te) (mItL me):=by
  intro Λ F0 H0 F H σ δ R I a
  refine h Λ F0 H0 F H σ δ _ I (a.bind.imp fun d F1 H1 e1 a1 v r=>?_)
  cases d with
  | lst l =>
    simp only [Rep] at r
    obtain ⟨a,vs,rfl,h1,h2⟩:=r
    exact ⟨a,rfl,⟨vs,.inl (PM.Same.rd e1.fh h1)⟩,a1 F1 H1 (.refl e1.fh) _ (zc9 h2 fun F2 H2 x=>⟨x.1,x.2,.inl (PM.Same.rd x.2 (PM.Same.rd x.1 h1))⟩)⟩
  | scr l =>
    simp only [Rep] at r
    obtain ⟨a,rfl,h1⟩:=r
    exact ⟨a,rfl,⟨_,e1.fh.seq h1⟩,a1 F1 H1 (.refl e1.fh) _ (zc9 .ints fun F2 H2 x=>⟨x.1,x.2,x.2.seq (x.1.seq h1)⟩)⟩
  | _=>exact a1.elim
theorem zeP (h:SEr K XO E te me):SIc K XO E (zj4 K.f te) (mItL me):=by
  intro Λ F0 H0 F H σ δ R I a
  refine h Λ F0 H0 F H σ δ _ I (a.bind.imp fun d F1 H1 e1 a1 v r=>?_)
  cases d with
  | lst l =>
    obtain ⟨a,vs,rfl,h1,h2⟩:=r
    exact ⟨a,rfl,⟨vs,.inl h1⟩,a1 F1 H1 (.refl e1.fh) _ (zc9 h2 fun F2 H2 x=>⟨x.ff,x.fh,.inl (PM.Same.rd x.hh h1)⟩)⟩
  | scr l =>
    simp only [Top,Rep] at r
    obtain ⟨a,rfl,h1⟩:=r
    exact ⟨a,rfl,⟨_,e1.fh.seq h1⟩,a1 F1 H1 (.refl e1.fh) _ (zc9 .ints fun F2 H2 x=>⟨x.ff,x.fh,x.fh.seq (x.ff.seq h1)⟩)⟩
  | _=>exact a1.elim
def zgf (lo:Int) (n:Nat):List D:=(List.range n).map fun (k:Nat)=>D.int (lo + (k:Int))
theorem zju {lo:Int} {n:Nat} {P:Hp→Hp→Prop} (h:∀ F2 H2,P F2 H2→Same F2 H2):IsIt K (Itr lo n) P (zgf lo n):=by
  intro F2 H2 p i
  unfold zgf
  rw [List.getElem?_map]
  have er:(List.range n)[i]?=if i < n then some i else none:=by
    by_cases hi:i < n
    · rw [if_pos hi,List.getElem?_range hi]
    · rw [if_neg hi,List.getElem?_eq_none_iff]; simpa using hi
  rw [er]
  refine ⟨fun d hd=>?_,fun hn=>?_⟩
  · by_cases hi:i < n
    · rw [if_pos hi] at hd
      cases hd
      refine ⟨hi,fun x H' y=>?_⟩
      obtain ⟨rfl,rfl⟩:=y
      exact ⟨F2,.refl (h F2 _ p),by simp only [Rep]⟩
    · rw [if_neg hi] at hd; cases hd
  · by_cases hi:i < n
    · rw [if_pos hi] at hn; cases hn
    · exact Nat.le_of_not_lt hi
def rng (l:List D):Option (List D):=match l with
  | [.int j]=>ifC (-(2 ^ 62) ≤ j∧j < 2 ^ 62) (some (zgf 0 j.toNat)) none
  | [.int i,.int j]=>ifC (-(2 ^ 62) ≤ i∧i < 2 ^ 62∧-(2 ^ 62) ≤ j∧j < 2 ^ 62) (some (zgf i (j - i).toNat)) none
  | _=>none
def mRng (ml:En→R (List D)) (δ:En):R (List D):=(ml δ).bind fun l=>R.of (rng l)
theorem RepL.one {F:Hp} {d:D} {vs:List V} (r:RepL K F [d] vs):∃ v,vs = [v]∧Rep K F d v:=by
  simp only [RepL] at r
  obtain ⟨v,r',rfl,h,rfl⟩:=r
  exact ⟨v,rfl,h⟩
theorem zdJ {tl:TA} {ml:En→R (List D)} (hn:∀ δ l,ml δ = .ok l→l.length=1) (h:SA K XO E tl ml):SI K XO E (zoi tl) (mRng ml):=by
  intro Λ F0 H0 F H σ δ R I a
  unfold mRng at a
  cases hm:ml δ with
  | no=>rw [hm] at a; exact a.elim
  | ex x=>refine h Λ F0 H0 F H σ δ _ I ?_; rw [hm] at a ⊢; exact a
  | ok l =>
    refine h Λ F0 H0 F H σ δ _ I ?_
    rw [hm] at a ⊢
    intro F1 H1 e1 vs r
    have h1:=hn δ l hm
    match l,h1 with
    | [d],_ =>
      obtain ⟨v,rfl,rv⟩:=r.one
      have a1:=Aft.mono e1 a
      cases d with
      | int j =>
        simp only [Rep] at rv
        subst rv
        change Aft E XO σ F1 H1 _ (PM.R.of (ifC (-(2 ^ 62) ≤ j∧j < 2 ^ 62) _ _)) at a1
        by_cases hj : -(2 ^ 62) ≤ j∧j < 2 ^ 62
        · rw [zbj hj] at a1
          exact ⟨j,rfl,hj.1,hj.2,a1 F1 H1 (.refl e1.fh) _ (zju fun F2 H2 x=>x.2)⟩
        · rw [znY hj] at a1; exact a1.elim
      | _=>exact a1.elim
theorem len1 {ma:En→R D}:∀ δ l,zab ma mNil δ = .ok l→l.length=1:=by
  intro δ l h
  unfold zab mNil at h
  cases e:ma δ with
  | ok d=>rw [e] at h; cases h; rfl
  | no=>rw [e] at h; cases h
  | ex x=>rw [e] at h; cases h
def zf3 (l:List D):List D:=l.mapIdx fun i d=>.tup [.int i,d]
theorem zlm {a:Addr} {ds:List D} {vs:List V} {F1:Hp} {P:Hp→Hp→Prop} (r:RepL K F1 ds vs) (h:∀ F2 H2,P F2 H2→Same F1 F2∧Same F2 H2∧SqL K.f H2 a vs):IsIt K (Ite K.f a) P (zf3 ds):=by
  intro F2 H2 p i
  obtain ⟨s1,s2,q⟩:=h F2 H2 p
  unfold zf3
  rw [List.getElem?_mapIdx]
  refine ⟨fun d hd=>?_,fun hn=>?_⟩
  · cases e:ds[i]? with
    | none=>rw [e] at hd; cases hd
    | some x =>
      rw [e] at hd
      cases hd
      obtain ⟨v,hv,rv⟩:=r.get e
      refine ⟨⟨vs,v,q,hv⟩,fun x' H' y=>?_⟩
      obtain ⟨p',y',rfl,hp,rfl,y⟩:=y
      have z:=y vs q
      rw [hv] at z; cases z
      refine ⟨_,.new s2 hp,?_⟩
      simp only [Rep]
      exact ⟨p',_,rfl,zai,.cons (by simp only [Rep]) (.cons (Rep.mono (s1.trans (Same.upd (s2.free hp))) _ rv) .nil)⟩
  · cases e:ds[i]? with
    | none=>exact ⟨vs,q,by rw [r.length]; exact List.getElem?_eq_none_iff.mp e⟩
    | some x=>rw [e] at hn; cases hn
def asL':D→Option (List D)
  | .lst l=>some l
  | _=>none
def zkv:List D→Option (List D)
  | [d]=>(asL' d).map zf3
  | _=>none
def zlc (ml:En→R (List D)) (δ:En):R (List D):=(ml δ).bind fun l=>R.of (zkv l)
theorem zjp {l r:List D} (h:zkv l=some r):∃ x,l = [.lst x]∧r=zf3 x:=by
  cases l with
  | nil=>cases h
  | cons d t =>
    cases t with
    | cons _ _=>cases h
    | nil =>
      cases d with
      | lst x=>cases h; exact ⟨x,rfl,rfl⟩
      | _=>cases h
theorem zj5 {tl:TA} {ml:En→R (List D)} (h:SA K XO E tl ml):SI K XO E (zoQ K.f tl) (zlc ml):=by
  intro Λ F0 H0 F H σ δ R I a
  refine h Λ F0 H0 F H σ δ _ I (a.bind.imp fun ds F1 H1 e1 a1 vs r=>?_)
  cases q:zkv ds with
  | none=>rw [q] at a1; exact a1.elim
  | some z =>
    rw [q] at a1
    obtain ⟨l,rfl,rfl⟩:=zjp q
    obtain ⟨v,rfl,r'⟩:=RepL.one r
    simp only [Rep] at r'
    obtain ⟨a,vs,rfl,h1,h2⟩:=r'
    exact ⟨a,rfl,⟨vs,.inl (PM.Same.rd e1.fh h1)⟩,a1 F1 H1 (.refl e1.fh) _ (zlm h2 fun F2 H2 x=>⟨x.1,x.2,.inl (PM.Same.rd x.2 (PM.Same.rd x.1 h1))⟩)⟩
end
end PM
namespace PM
open PySem L2
section
variable (K:Kx) (XO:XOT) (E:St→XK)
def AftS (Λ:List (Nat × Addr × HO)) (F0 H0:Hp) (Dn:Ends):O→Prop
  | .no=>False
  | .nx δ=>∀ σ F H,EnvOk K Λ F0 H0 F H σ δ→Dn.nx σ H
  | .bk δ=>∀ σ F H,EnvOk K Λ F0 H0 F H σ δ→Dn.bk σ H
  | .ct δ=>∀ σ F H,EnvOk K Λ F0 H0 F H σ δ→Dn.ct σ H
  | .rt d=>∀ v F H,Ext F0 H0 F H→Rep K F d v→Dn.rt v H
  | .ro d=>∀ p F H,Ext F0 H0 F H→F p=none→H0 p=none→Own K F H d p→Dn.rt (.ref p) H
  | .ex δ x=>∀ σ F H C dct,EnvOk K Λ F0 H0 F H σ δ→XO x F H C dct→E σ C dct H
def SS (t:TS) (m:En→O):Prop:=∀ Λ F0 H0 F H σ δ Dn,EnvOk K Λ F0 H0 F H σ δ→AftS K XO E Λ F0 H0 Dn (m δ)→t Dn σ H
end
def R.toO {α:Type} (r:R α) (δ:En) (f:α→O):O:=match r with | .no=>.no | .ok a=>f a | .ex x=>.ex δ x
@[simp] theorem R.toO_ok {α:Type} (a:α) (δ:En) (f:α→O):(R.ok a).toO δ f=f a:=rfl
@[simp] theorem R.toO_no {α:Type} (δ:En) (f:α→O):(R.no:R α).toO δ f = .no:=rfl
@[simp] theorem R.toO_ex {α:Type} (x:Xc) (δ:En) (f:α→O):(R.ex x:R α).toO δ f = .ex δ x:=rfl
section
variable {K:Kx} {XO:XOT} {E:St→XK} {ta tb te:TE} {ma mb me:En→R D} {t u:TS} {m n:En→O} {Λ:List (Nat × Addr × HO)} {F0 H0 F H F1 H1:Hp} {σ:St} {δ:En} {Dn:Ends}
theorem AftS.of {α:Type} {r:R α} {f:α→O} (I:EnvOk K Λ F0 H0 F H σ δ) (a:AftS K XO E Λ F0 H0 Dn (r.toO δ f)):Aft E XO σ F H (fun a _ _=>AftS K XO E Λ F0 H0 Dn (f a)) r:=by
  cases r with
  | no=>exact a
  | ok b=>exact fun _ _ _=>a
  | ex x=>exact fun C dct F' H' e h=>a σ F' H' C dct (I.grow e) h
theorem AftS.up (e:Ext F0 H0 F1 H1):∀ {o:O},AftS K XO E Λ F0 H0 Dn o→AftS K XO E Λ F1 H0 Dn o
  | .no,h=>h
  | .nx _,h=>fun σ F H I=>h σ F H (I.down e)
  | .bk _,h=>fun σ F H I=>h σ F H (I.down e)
  | .ct _,h=>fun σ F H I=>h σ F H (I.down e)
  | .rt _,h=>fun v F H x=>h v F H (e.base x)
  | .ro _,h=>fun p F H x=>h p F H (e.base x)
  | .ex _ _,h=>fun σ F H C d I=>h σ F H C d (I.down e)
def zbm (δ:En):O:=.nx δ
def mSeq (m n:En→O) (δ:En):O:=match m δ with | .nx δ'=>n δ' | r=>r
theorem zbH:SS K XO E zoF zbm:=fun Λ F0 H0 F H σ δ Dn I a=>a σ F H I
theorem zaw (h:SS K XO E t m) (h':SS K XO E u n):SS K XO E (tSeq t u) (mSeq m n):=by
  intro Λ F0 H0 F H σ δ Dn I a
  refine h Λ F0 H0 F H σ δ _ I ?_
  unfold mSeq at a
  cases q:m δ with
  | no=>rw [q] at a; exact a
  | nx δ'=>rw [q] at a; exact fun σ' F' H' I'=>h' Λ F0 H0 F' H' σ' δ' Dn I' a
  | rt d=>rw [q] at a; exact a
  | ro d=>rw [q] at a; exact a
  | bk δ'=>rw [q] at a; exact a
  | ct δ'=>rw [q] at a; exact a
  | ex δ' x=>rw [q] at a; exact a
def mRet (me:En→R D) (δ:En):O:=(me δ).toO δ .rt
theorem zbs (h:SE K XO E te me):SS K XO E (tRet te) (mRet me):=by
  intro Λ F0 H0 F H σ δ Dn I a
  exact h Λ F0 H0 F H σ δ _ I ((AftS.of I a).imp fun d F1 H1 e p v r=>p v F1 H1 (I.ext.trans e) r)
def zd3 (me:En→R D) (δ:En):O:=(me δ).toO δ .ro
theorem zdf (h:SEo K XO E te me):SS K XO E (tRet te) (zd3 me):=by
  intro Λ F0 H0 F H σ δ Dn I a
  exact h Λ F0 H0 F H σ δ _ I ((AftS.of I a).imp fun d F1 H1 e p v h0 h1 o=>p v F1 H1 (I.ext.trans e) h0 (I.ext.hh.free h1) o)
def mDo (me:En→R D) (δ:En):O:=(me δ).toO δ fun _=>.nx δ
theorem zkK (h:SE K XO E te me):SS K XO E (zky te) (mDo me):=by
  intro Λ F0 H0 F H σ δ Dn I a
  exact h Λ F0 H0 F H σ δ _ I ((AftS.of I a).imp fun d F1 H1 e p v r=>p σ F1 H1 (I.grow e))
def mIfS (n:En→R Bool) (m m':En→O) (δ:En):O:=(n δ).toO δ fun b=>if b=true then m δ else m' δ
theorem zdk {tc:TT} {nc:En→R Bool} (h:ST K XO E tc nc) (ha:SS K XO E t m) (hb:SS K XO E u n):SS K XO E (tIfS tc t u) (mIfS nc m n):=by
  intro Λ F0 H0 F H σ δ Dn I a
  refine h Λ F0 H0 F H σ δ _ I ((AftS.of I a).imp fun b F1 H1 e p=>?_)
  cases b with
  | true=>exact ha Λ F0 H0 F1 H1 σ δ Dn (I.grow e) p
  | false=>exact hb Λ F0 H0 F1 H1 σ δ Dn (I.grow e) p
def O.of:Option En→O
  | some δ=>.nx δ
  | none=>.no
@[simp] theorem O.of_some (δ:En):O.of (some δ) = .nx δ:=rfl
@[simp] theorem O.of_none:O.of none = .no:=rfl
def mAsg (me:En→R D) (b:D→En→Option En) (δ:En):O:=(me δ).toO δ fun d=>O.of (b d δ)
theorem zbp {g:TG} {b:D→En→Option En} (h:SE K XO E te me) (hg:SG K g b):SS K XO E (tAsg te g) (mAsg me b):=by
  intro Λ F0 H0 F H σ δ Dn I a
  refine h Λ F0 H0 F H σ δ _ I ((AftS.of I a).imp fun d F1 H1 e p v r=>?_)
  cases q:b d δ with
  | none=>rw [q] at p; exact p.elim
  | some δ'=>rw [q] at p; exact hg Λ F0 H0 F1 H1 σ δ d v δ' _ (I.grow e) r q fun σ' I'=>p σ' F1 H1 I'
def bNew (i:Nat) (d:D) (δ:En):Option En:=match δ[i]? with | none=>none | some (.l _)=>none | some _=>some (δ.set i (.o d))
theorem zeR {i:Nat} (h:SEo K XO E te me):SS K XO E (tAsg te (zgj i)) (mAsg me (bNew i)):=by
  intro Λ F0 H0 F H σ δ Dn I a
  refine h Λ F0 H0 F H σ δ _ I ((AftS.of I a).imp fun d F1 H1 e p v h0 h1 o=>?_)
  unfold bNew at p
  split at p
  · exact p.elim
  · exact p.elim
  · rename_i x h3 h2
    exact p _ F1 H1 (I.putO ⟨x,h2,fun d' z=>h3 d' (by rw [z])⟩ e h0 h1 o)
def mFrz (i:Nat) (m:En→O) (δ:En):O:=match δ[i]? with | some (.o d)=>m (δ.set i (.v d)) | some (.v _)=>m δ | _=>.no
theorem znp {i:Nat} (h:SS K XO E t m):SS K XO E t (mFrz i m):=by
  intro Λ F0 H0 F H σ δ Dn I a
  unfold mFrz at a
  split at a
  · rename_i d q
    obtain ⟨F',_,I'⟩:=I.frz q
    exact h Λ F0 H0 F' H σ _ Dn I' a
  · exact h Λ F0 H0 F H σ _ Dn I a
  · exact a.elim
def zdt (b:D→En→Option En) (m:En→O):List D→En→O
  | [],δ=>.nx δ
  | d :: l,δ=>match b d δ with
    | none=>.no
    | some δ1=>match m δ1 with
      | .nx δ2=>zdt b m l δ2
      | .ct δ2=>zdt b m l δ2
      | .bk δ2=>.nx δ2
      | r=>r
def mFor (mi:En→R (List D)) (b:D→En→Option En) (m:En→O) (δ:En):O:=(mi δ).toO δ fun l=>zdt b m l δ
theorem zif {J:It} {P:Hp→Hp→Prop} {g:TG} {b:D→En→Option En} {ds:List D} (hJ:IsIt K J P ds) (hP:∀ σ δ F H,EnvOk K Λ F0 H0 F H σ δ→P F H) (hg:SG K g b) (hb:SS K XO E t m) (I:EnvOk K Λ F0 H0 F H σ δ)
    (a:AftS K XO E Λ F0 H0 Dn (zdt b m ds δ)):∃ W:Nat→Nat→St→Hp→Prop,(∃ k,W 0 k σ H)∧∀ i k σ H,W i k σ H →
      (J.stop i H∧Dn.nx σ H)∨(J.go i H∧∃ N:St→Hp→Prop,(∀ σ' H',N σ' H'→∃ k',k' < k∧W (i + 1) k' σ' H')∧∀ x H',J.yld i H x H'→g x σ H' fun σ2 H2=>t { Dn with nx:=N,ct:=N,bk:=Dn.nx } σ2 H2):=by
  let W:Nat→Nat→St→Hp→Prop:=fun i k σ H=>∃ F δ,EnvOk K Λ F0 H0 F H σ δ∧k=ds.length - i∧i ≤ ds.length∧AftS K XO E Λ F0 H0 Dn (zdt b m (ds.drop i) δ)
  refine ⟨W,⟨ds.length,F,δ,I,rfl,Nat.zero_le _,a⟩,?_⟩
  rintro i k σ H ⟨F,δ,I,rfl,hi,a⟩
  have hP':=hP σ δ F H I
  by_cases hlt:i < ds.length
  · have e:ds.drop i=ds[i] :: ds.drop (i + 1):=List.drop_eq_getElem_cons hlt
    obtain ⟨h1,h2⟩:=(hJ F H hP' i).1 ds[i] (by simp [hlt])
    refine .inr ⟨h1,W (i + 1) (ds.length - (i + 1)),fun σ' H' w=>⟨_,by omega,w⟩,fun x H' y=>?_⟩
    obtain ⟨F3,e3,r⟩:=h2 x H' y
    rw [e] at a
    unfold zdt at a
    cases q:b ds[i] δ with
    | none=>rw [q] at a; exact a.elim
    | some δ1 =>
      rw [q] at a
      refine hg Λ F0 H0 F3 H' σ δ _ x δ1 _ (I.grow e3) r q fun σ1 I1=>hb Λ F0 H0 F3 H' σ1 δ1 _ I1 ?_
      cases q2:m δ1 with
      | no=>simp only [q2] at a; exact a
      | nx δ2=>simp only [q2] at a; exact fun σ' F' H' I'=>⟨F',δ2,I',rfl,hlt,a⟩
      | ct δ2=>simp only [q2] at a; exact fun σ' F' H' I'=>⟨F',δ2,I',rfl,hlt,a⟩
      | bk δ2=>simp only [q2] at a; exact a
      | rt d=>simp only [q2] at a; exact a
      | ro d=>simp only [q2] at a; exact a
      | ex δ' x=>simp only [q2] at a; exact a
  · have e:i=ds.length:=by omega
    subst e
    rw [List.drop_length] at a
    exact .inl ⟨(hJ F H hP' _).2 (by simp),a σ F H I⟩
theorem zdK {wi:TI} {mi:En→R (List D)} {g:TG} {b:D→En→Option En} (hi:SI K XO E wi mi) (hg:SG K g b) (hb:SS K XO E t m):SS K XO E (tFor wi g t) (mFor mi b m):=by
  intro Λ F0 H0 F H σ δ Dn I a
  refine hi Λ F0 H0 F H σ δ _ I ((AftS.of I a).imp fun ds F1 H1 e p J hJ=>?_)
  have I1:=I.grow e
  exact zif (F0:=F1) hJ (fun σ δ F H I=>⟨I.ext.ff,I.ext.fh⟩) hg hb I1.up (p.up I1.ext)
def unl (i:Nat):O→O
  | .nx δ=>(match δ[i]? with | some (.l d)=>.nx (δ.set i (.o d)) | _=>.no)
  | .bk δ=>.no
  | .ct δ=>.no
  | .ex δ x=>(match δ[i]? with | some (.l d)=>.ex (δ.set i (.o d)) x | _=>.no)
  | r=>r
def zlL (i:Nat) (b:D→En→Option En) (m:En→O) (δ:En):O:=match δ[i]? with
  | some (.o (.lst l))=>unl i (zdt b m l (δ.set i (.l (.lst l))))
  | some (.v (.lst l))=>zdt b m l δ
  | _=>.no
theorem EnvOk.lend {i:Nat} {l:List D} (I:EnvOk K Λ F0 H0 F H σ δ) (hx:δ[i]?=some (.o (.lst l))):∃ a vs,σ[i]?=some (some (.ref a))∧H a=some (.lst vs)∧RepL K F l vs∧EnvOk K ((i,a,.lst vs) :: Λ) F0 H0 F H σ (δ.set i (.l (.lst l))):=by
  have hi:i < δ.length:=(List.getElem?_eq_some_iff.mp hx).1
  have z:=I.slot i
  rw [hx] at z
  obtain ⟨a,z1,z2,z3,z4⟩:=z
  obtain ⟨vs,h1,h2⟩:=z4
  refine ⟨a,vs,z1,h1,h2,I.ext,by simp [I.len],fun j=>?_,fun j k b hjk g1 g2 g3 g4=>?_,fun y hy=>?_,I.tabsOf (fun k ll h=>by
      by_cases e:i=k
      · subst e; rw [List.getElem?_set_self hi] at h; cases h
      · rw [List.getElem?_set_ne e] at h; exact ⟨h,rfl⟩) (fun _ _ _ _ _ _ t f _=>⟨t,fun b hb=>(f b hb).2⟩) fun k j ll r b bs _ _ _ _ ho hs=>.inl (by
      by_cases e:i=j
      · subst e; exact ⟨by rw [hx]; rfl,hs⟩
      · rw [List.getElem?_set_ne e] at ho; exact ⟨ho,hs⟩)⟩
  · by_cases e:i=j
    · subst e
      rw [List.getElem?_set_self hi]
      exact ⟨a,z1,z2,z3,vs,h1,h2⟩
    · rw [List.getElem?_set_ne e]; exact I.slot j
  · have ow:∀ k:Nat,Sl.own (δ.set i (.l (.lst l)))[k]?=true→Sl.own δ[k]?=true:=by
      intro k h
      by_cases e:i=k
      · subst e; rw [hx]; rfl
      · rw [List.getElem?_set_ne e] at h; exact h
    exact I.dist j k b hjk (ow j g1) (ow k g2) g3 g4
  · rcases List.mem_cons.mp hy with rfl | hy
    · exact ⟨⟨_,List.getElem?_set_self hi⟩,z1,h1⟩
    · obtain ⟨⟨d2,g1⟩,g2,g3⟩:=I.lent y hy
      have n:i ≠ y.1:=by
        intro e
        rw [← e,hx] at g1
        cases g1
      exact ⟨⟨d2,by rw [List.getElem?_set_ne n]; exact g1⟩,g2,g3⟩
theorem EnvOk.back {i:Nat} {d:D} {x:Addr × HO} (hn:∀ y ∈ Λ,y.1 ≠ i) (I:EnvOk K ((i,x) :: Λ) F0 H0 F H σ δ) (hx:δ[i]?=some (.l d)):EnvOk K Λ F0 H0 F H σ (δ.set i (.o d)):=by
  have hi:i < δ.length:=(List.getElem?_eq_some_iff.mp hx).1
  refine ⟨I.ext,by simp [I.len],fun j=>?_,fun j k b hjk g1 g2 g3 g4=>?_,fun y hy=>?_,I.tabsOf (fun k ll h=>by
      by_cases e:i=k
      · subst e; rw [List.getElem?_set_self hi] at h; cases h
      · rw [List.getElem?_set_ne e] at h; exact ⟨h,rfl⟩) (fun _ _ _ _ _ _ t f _=>⟨t,fun b hb=>(f b hb).2⟩) fun k j ll r b bs _ _ _ _ ho hs=>.inl (by
      by_cases e:i=j
      · subst e; exact ⟨by rw [hx]; rfl,hs⟩
      · rw [List.getElem?_set_ne e] at ho; exact ⟨ho,hs⟩)⟩
  · by_cases e:i=j
    · subst e
      rw [List.getElem?_set_self hi]
      have z:=I.slot i
      rw [hx] at z
      exact z
    · rw [List.getElem?_set_ne e]; exact I.slot j
  · have ow:∀ k:Nat,Sl.own (δ.set i (.o d))[k]?=true→Sl.own δ[k]?=true:=by
      intro k h
      by_cases e:i=k
      · subst e; rw [hx]; rfl
      · rw [List.getElem?_set_ne e] at h; exact h
    exact I.dist j k b hjk (ow j g1) (ow k g2) g3 g4
  · obtain ⟨⟨d2,g1⟩,g2,g3⟩:=I.lent y (List.mem_cons_of_mem _ hy)
    exact ⟨⟨d2,by rw [List.getElem?_set_ne (Ne.symm (hn y hy))]; exact g1⟩,g2,g3⟩
theorem AftS.unl {i:Nat} {x:Addr × HO} (hn:∀ y ∈ Λ,y.1 ≠ i):∀ {o:O},AftS K XO E Λ F0 H0 Dn (PM.unl i o)→AftS K XO E ((i,x) :: Λ) F0 H0 Dn o
  | .no,h=>h
  | .nx δ,h=>fun σ F H I=>by
    obtain ⟨⟨d,hd⟩,_⟩:=I.lent _ List.mem_cons_self
    simp only [PM.unl,hd] at h
    exact h σ F H (I.back hn hd)
  | .bk _,h=>h.elim
  | .ct _,h=>h.elim
  | .rt _,h=>h
  | .ro _,h=>h
  | .ex δ x,h=>fun σ F H C dct I q=>by
    obtain ⟨⟨d,hd⟩,_⟩:=I.lent _ List.mem_cons_self
    simp only [PM.unl,hd] at h
    exact h σ F H C dct (I.back hn hd) q
theorem zny {i:Nat} {g:TG} {b:D→En→Option En} (hg:SG K g b) (hb:SS K XO E t m):SS K XO E (tFor (zj4 K.f (tVar i)) g t) (zlL i b m):=by
  intro Λ F0 H0 F H σ δ Dn I a
  unfold zlL at a
  split at a
  · rename_i l q
    obtain ⟨p,vs,h1,h2,h3,I1⟩:=I.lend q
    refine ⟨_,h1,p,rfl,⟨vs,.inl (.inl h2)⟩,?_⟩
    have hn:∀ y ∈ Λ,y.1 ≠ i:=fun y hy e=>by
      obtain ⟨⟨d2,g1⟩,_⟩:=I.lent y hy
      rw [e,q] at g1; cases g1
    refine zif (P:=fun F2 H2=>Same F F2∧Same F2 H2∧SqL K.f H2 p vs) (zc9 h3 fun F2 H2 x=>x) (fun σ δ F' H' I'=>⟨I'.ext.ff,I'.ext.fh,.inl (.inl ?_)⟩) hg hb I1.up ((a.unl hn).up I1.ext)
    exact (I'.lent _ List.mem_cons_self).2.2
  · rename_i l q
    have z:=I.slot i
    rw [q] at z
    obtain ⟨u,h1,h2⟩:=z
    simp only [Rep] at h2
    obtain ⟨p,vs,rfl,h2,h3⟩:=h2
    refine ⟨_,h1,p,rfl,⟨vs,.inl (PM.Same.rd I.same h2)⟩,zif (F0:=F) (zc9 h3 fun F2 H2 (x:Same F F2∧Same F2 H2)=>⟨x.1,x.2,.inl (PM.Same.rd x.2 (PM.Same.rd x.1 h2))⟩) (fun σ δ F H I=>⟨I.ext.ff,I.ext.fh⟩) hg hb I.up (a.up I.ext)⟩
  · exact a.elim
def zcZ (c:En→R Bool) (m:En→O):Nat→En→O
  | 0,_=>.no
  | n + 1,δ=>(c δ).toO δ fun b=>if b=true then (match m δ with | .nx δ2=>zcZ c m n δ2 | .ct δ2=>zcZ c m n δ2 | .bk δ2=>.nx δ2 | r=>r) else .nx δ
open Classical in
def zgr (c:En→R Bool) (m:En→O) (δ:En):O:=if h:∃ n,zcZ c m n δ ≠ .no then zcZ c m (choose h) δ else .no
theorem zlY {tc:TT} {nc:En→R Bool} (hc:ST K XO E tc nc) (hb:SS K XO E t m):SS K XO E (zm3 tc t) (zgr nc m):=by
  intro Λ F0 H0 F H σ δ Dn I a
  unfold zgr at a
  split at a
  · rename_i h
    refine ⟨fun k σ H=>∃ F δ,EnvOk K Λ F0 H0 F H σ δ∧AftS K XO E Λ F0 H0 Dn (zcZ nc m k δ),⟨_,F,δ,I,a⟩,?_⟩
    rintro k σ H ⟨F,δ,I,a⟩
    cases k with
    | zero=>exact a.elim
    | succ k =>
      unfold zcZ at a
      refine hc Λ F0 H0 F H σ δ _ I ((AftS.of I a).imp fun b F1 H1 e p=>?_)
      cases b with
      | false=>exact p σ F1 H1 (I.grow e)
      | true =>
        refine ⟨fun σ H=>∃ F δ,EnvOk K Λ F0 H0 F H σ δ∧AftS K XO E Λ F0 H0 Dn (zcZ nc m k δ),fun σ' H' w=>⟨k,Nat.lt_succ_self _,w⟩,hb Λ F0 H0 F1 H1 σ δ _ (I.grow e) ?_⟩
        rw [if_pos rfl] at p
        cases q2:m δ with
        | no=>simp only [q2] at p; exact p
        | nx δ2=>simp only [q2] at p; exact fun σ' F' H' I'=>⟨F',δ2,I',p⟩
        | ct δ2=>simp only [q2] at p; exact fun σ' F' H' I'=>⟨F',δ2,I',p⟩
        | bk δ2=>simp only [q2] at p; exact p
        | rt d=>simp only [q2] at p; exact p
        | ro d=>simp only [q2] at p; exact p
        | ex δ' x=>simp only [q2] at p; exact p
  · exact a.elim
end
end PM
namespace PM
open PySem L2
def asK:D→Option Key
  | .int i=>some (.inl i)
  | .str x=>some (.inr x)
  | _=>none
def getK (ks:List Key) (l:List D) (k:Key):Option D:=match ks,l with
  | a :: r,d :: t=>if a=k then some d else getK r t k
  | _,_=>none
def putL (ks:List Key) (l:List D) (k:Key) (x:D):List D:=match ks,l with
  | a :: r,d :: t=>(if a=k then x else d) :: putL r t k x
  | _,t=>t
def putD (ks:List Key) (l:List D) (k:Key) (x:D):D:=if ks.any (fun a=>decide (a=k))=true then .dct ks (putL ks l k x) else .dct (ks ++ [k]) (l ++ [x])
section
variable {K:Kx} {F H:Hp}
theorem zir {d:D} {v:V} {k:Key} (h:asK d=some k) (r:Rep K F d v):v=kV k:=by
  cases d with
  | int i=>cases h; simp only [Rep] at r; exact r
  | str i=>cases h; simp only [Rep] at r; exact r
  | _=>cases h
theorem znn {k:Key}:∀ {kvs:List (Key × V)} {ks:List Key} {l:List D},kvs.map (·.1)=ks→RepL K F l (kvs.map (·.2)) →
    (∀ d,getK ks l k=some d→∃ v,valV kvs k=some v∧Rep K F d v)∧(getK ks l k=none→valV kvs k=none)
  | [],ks,l,h1,h2=>by
    subst h1
    refine ⟨fun d h=>?_,fun _=>rfl⟩
    simp [getK] at h
  | (a,v) :: kvs,ks,l,h1,h2=>by
    subst h1
    cases l with
    | nil=>simp [RepL] at h2
    | cons d t =>
      simp only [List.map_cons,RepL] at h2
      obtain ⟨v',r,e,h3,h4⟩:=h2
      cases e
      have ih:=znn (k:=k) (kvs:=kvs) rfl h4
      simp only [List.map_cons,getK]
      by_cases hk:a=k
      · rw [if_pos hk]
        refine ⟨fun d' e=>?_,fun e=>by cases e⟩
        cases e
        exact ⟨v,by simp [valV,hk],h3⟩
      · rw [if_neg hk]
        have e:valV ((a,v) :: kvs) k=valV kvs k:=by simp [valV,hk]
        rw [e]
        exact ih
theorem zqa {kvs:List (Key × V)} {ks:List Key} (h:kvs.map (·.1)=ks):kvs.length=ks.length:=by rw [← h,List.length_map]
theorem zj0 {k:Key} {x:D} {u:V} (hu:Rep K F x u):∀ {kvs:List (Key × V)} {ks:List Key} {l:List D},kvs.map (·.1)=ks→RepL K F l (kvs.map (·.2)) →
    RepL K F (putL ks l k x) ((kvs.map (fun kv=>if kv.1=k then (kv.1,u) else kv)).map (·.2))
  | [],ks,l,h1,h2=>by
    subst h1
    cases l with
    | nil=>exact .nil
    | cons d t=>simp [RepL] at h2
  | (a,v) :: kvs,ks,l,h1,h2=>by
    subst h1
    cases l with
    | nil=>simp [RepL] at h2
    | cons d t =>
      simp only [List.map_cons,RepL] at h2
      obtain ⟨v',r,e,h3,h4⟩:=h2
      cases e
      have ih:=zj0 (k:=k) hu (kvs:=kvs) rfl h4
      simp only [List.map_cons,putL]
      refine .cons ?_ ih
      by_cases hk:a=k
      · rw [if_pos hk,if_pos hk]; exact hu
      · rw [if_neg hk,if_neg hk]; exact h3
theorem zpH {k:Key} {x:D} {u:V} {a:Addr} (hu:Rep K F x u) {kvs:List (Key × V)} {ks:List Key} {l:List D} (h1:kvs.map (·.1)=ks) (h2:RepL K F l (kvs.map (·.2))):Own K F (upd H a (.dK (putK kvs k u))) (putD ks l k x) a:=by
  have e:ks.any (fun a=>decide (a=k))=kvs.any (fun kv=>decide (kv.1=k)):=by rw [← h1,List.any_map]; rfl
  unfold putD putK
  rw [e]
  split
  · refine ⟨_,zai,?_,zj0 hu h1 h2⟩
    rw [← h1,List.map_map]
    refine List.map_congr_left fun kv _=>?_
    simp only [Function.comp]
    split <;> rfl
  · exact ⟨_,zai,by rw [List.map_append,h1]; rfl,by rw [List.map_append]; exact h2.append (.cons hu .nil)⟩
end
section
variable {K:Kx} {XO:XOT} {E:St→XK} {ta tb te ty td:TE} {ma mb me my md:En→R D} {t u:TS} {m n:En→O} {Λ:List (Nat × Addr × HO)} {F0 H0 F H F1 H1:Hp} {σ:St} {δ:En} {Dn:Ends}
theorem EnvOk.own {i:Nat} {d:D} (I:EnvOk K Λ F0 H0 F H σ δ) (hx:δ[i]?=some (.o d)):∃ a,σ[i]?=some (some (.ref a))∧Own K F H d a:=by
  have z:=I.slot i
  rw [hx] at z
  obtain ⟨a,z1,z2,z3,z4⟩:=z
  exact ⟨a,z1,z4⟩
def zbY (i:Nat) (me:En→R D) (δ:En):O:=match δ[i]? with
  | some (.o (.lst l))=>(me δ).toO δ fun d=>ifC (l.length < sizeLine) (.nx (δ.set i (.o (.lst (l ++ [d]))))) .no
  | _=>.no
theorem zdQ {i:Nat} (h:SE K XO E te me):SS K XO E (zky (tBM K.f "list" zkB (tVar i) (zci te tNil))) (zbY i me):=by
  intro Λ F0 H0 F H σ δ Dn I a
  unfold zbY at a
  split at a
  · rename_i l q
    obtain ⟨p,s1,vs,s2,s3⟩:=I.own q
    refine ⟨_,s1,.inl ⟨rfl,vs,.inl (.inl s2)⟩,?_⟩
    refine h Λ F0 H0 F H σ δ _ I ((AftS.of I a).imp fun d F1 H1 e c v r=>?_)
    unfold ifC at c
    split at c
    · rename_i hl
      refine ⟨p,vs,v,rfl,rfl,e.hh _ _ s2,by rw [s3.length]; exact hl,?_⟩
      exact c σ F1 _ ((I.grow e).chg q s1 ⟨_,zai,(s3.mono e.ff).append (.cons r .nil)⟩)
    · exact c.elim
  · exact a.elim
def zfp (i:Nat) (mk me:En→R D) (δ:En):O:=match δ[i]? with
  | some (.o (.dct ks l))=>(me δ).toO δ fun d=>(mk δ).toO δ fun k=>match asK k with
    | some k=>ifC (ks.length < sizeLine) (.nx (δ.set i (.o (putD ks l k d)))) .no
    | none=>.no
  | _=>.no
theorem zgS {i:Nat} {tk:TE} {mk:En→R D} (hk:SE K XO E tk mk) (h:SE K XO E te me):SS K XO E (znX (tVar i) tk te) (zfp i mk me):=by
  intro Λ F0 H0 F H σ δ Dn I a
  unfold zfp at a
  split at a
  · rename_i ks l q
    obtain ⟨p,s1,vs,s2,s0,s3⟩:=I.own q
    refine h Λ F0 H0 F H σ δ _ I ((AftS.of I a).imp fun d F1 H1 e c v r=>⟨_,s1,?_⟩)
    refine hk Λ F0 H0 F1 H1 σ δ _ (I.grow e) ((AftS.of (I.grow e) c).imp fun k F2 H2 e2 c2 v2 r2=>?_)
    cases z:asK k with
    | none=>rw [z] at c2; exact c2.elim
    | some k =>
      rw [z] at c2
      dsimp only at c2
      unfold ifC at c2
      split at c2
      · rename_i hl
        cases zir z r2
        refine ⟨p,_,rfl,DPut.k (e2.hh _ _ (e.hh _ _ s2)) (by rw [zqa s0]; exact hl),?_⟩
        exact c2 σ F2 _ (((I.grow e).grow e2).chg q s1 (zpH (Rep.mono e2.ff _ r) s0 ((s3.mono e.ff).mono e2.ff)))
      · exact c2.elim
  · exact a.elim
def mAug (f:Int→Int→Int) (i:Nat) (me:En→R D) (δ:En):O:=match δ[i]? with
  | some (.v (.int x))=>(me δ).toO δ fun y=>(match y with | .int y=>.nx (δ.set i (.v (.int (f x y)))) | _=>.no)
  | _=>.no
theorem zps {f:Int→Int→Int} {i:Nat} (h:SE K XO E te me):SS K XO E (tAug i te (ipI f)) (mAug f i me):=by
  intro Λ F0 H0 F H σ δ Dn I a
  unfold mAug at a
  split at a
  · rename_i x q
    have z:=I.slot i
    rw [q] at z
    obtain ⟨u,z1,z2⟩:=z
    simp only [Rep] at z2
    subst z2
    refine ⟨_,z1,h Λ F0 H0 F H σ δ _ I ((AftS.of I a).imp fun y F1 H1 e c v r=>?_)⟩
    cases y with
    | int y =>
      simp only [Rep] at r
      subst r
      exact ⟨x,y,rfl,rfl,c _ F1 H1 ((I.grow e).put ⟨_,q,fun d z=>by cases z⟩ (by simp only [Rep]))⟩
    | _=>exact c.elim
  · exact a.elim
def dIn (k d:D):Option D:=match asK k,d with | some k,.dct ks l=>some (.bl (getK ks l k).isSome) | _,_=>none
def zen (k d:D):Option D:=match asK k,d with | some k,.dct ks l=>some (.bl (!(getK ks l k).isSome)) | _,_=>none
theorem ziC {ks:List Key} {l:List D} {x:V} {k:Key} (h:Top K F H (.dct ks l) x):∃ p o,x = .ref p∧DGet H p (kV k) o∧(∀ d,getK ks l k=some d→∃ v,o=some v∧Rep K F d v)∧(getK ks l k=none→o=none):=by
  obtain ⟨a,kvs,rfl,h1,h2,h3⟩:=h
  exact ⟨a,_,rfl,.k h1,znn h2 h3⟩
theorem zeL (hy:SE K XO E ty my) (hd:SEr K XO E td md):SE K XO E (zjQ ty td) (m2 zen my md):=by
  intro Λ F0 H0 F H σ δ Q I a
  refine hy Λ F0 H0 F H σ δ _ I (a.bind.imp fun dk F1 H1 e1 a1 y ry=>?_)
  refine hd Λ F0 H0 F1 H1 σ δ _ (I.grow e1) (a1.bind.imp fun dd F2 H2 e2 a2 x rx=>?_)
  unfold zen at a2
  cases z:asK dk with
  | none=>rw [z] at a2; exact a2.elim
  | some k =>
    rw [z] at a2
    cases dd with
    | dct ks l =>
      obtain ⟨p,o,rfl,g,g1,g2⟩:=ziC (k:=k) rx
      cases zir z ry
      refine ⟨p,o,rfl,g,a2 F2 H2 (.refl e2.fh) _ ?_⟩
      cases q:getK ks l k with
      | none=>rw [g2 q]; simp only [Rep]; rfl
      | some d=>obtain ⟨v,rfl,_⟩:=g1 d q; simp only [Rep]; rfl
    | _=>exact a2.elim
def i2 (f:Int→Int→D) (x y:D):Option D:=match x,y with | .int i,.int j=>some (f i j) | _,_=>none
def i2c (C:Int→Int→Prop) (f:Int→Int→D) (x y:D):Option D:=match x,y with | .int i,.int j=>ifC (C i j) (some (f i j)) none | _,_=>none
theorem zjn {g:Int→Int→V} {f:Int→Int→D} (h:∀ i j F,Rep K F (f i j) (g i j)):SR K (rI0 g) (i2 f):=by
  intro F H x y dx dy d Q s hx hy e q
  cases dx with
  | int i =>
    cases dy with
    | int j =>
      cases e
      simp only [Top,Rep] at hx hy
      exact ⟨i,j,hx,hy,q _ F H (.refl s) (h i j F)⟩
    | _=>cases e
  | _=>cases e
theorem zhv {C:Int→Int→Prop} {g:Int→Int→V} {f:Int→Int→D} (h:∀ i j F,Rep K F (f i j) (g i j)):SR K (rI C g) (i2c C f):=by
  intro F H x y dx dy d Q s hx hy e q
  cases dx with
  | int i =>
    cases dy with
    | int j =>
      simp only [Top,Rep] at hx hy
      simp only [i2c] at e
      unfold ifC at e
      split at e
      · rename_i hc
        cases e
        exact ⟨i,j,hx,hy,hc,q _ F H (.refl s) (h i j F)⟩
      · cases e
    | _=>cases e
  | _=>cases e
def oAdd:D→D→Option D:=i2 fun i j=>.int (i + j)
def oSub:D→D→Option D:=i2 fun i j=>.int (i - j)
def oMul:D→D→Option D:=i2c (fun i j=>Fit i∧Fit j) fun i j=>.int (i * j)
def oDiv:D→D→Option D:=i2c (fun _ j=>j ≠ 0∧Fit j) fun i j=>.int (i.fdiv j)
def oMod:D→D→Option D:=i2c (fun _ j=>0 < j) fun i j=>.int (i % j)
def oPow:D→D→Option D:=i2c CPow fun i j=>.int (i ^ j.toNat)
def oLt:D→D→Option D:=i2 fun i j=>.bl (decide (i < j))
def oLe:D→D→Option D:=i2 fun i j=>.bl (decide (i ≤ j))
def oGt:D→D→Option D:=i2 fun i j=>.bl (decide (j < i))
def oGe:D→D→Option D:=i2 fun i j=>.bl (decide (j ≤ i))
theorem zek:SR K (rI0 fun i j=>.int (i + j)) oAdd:=zjn fun _ _ _=>by simp only [Rep]
theorem zlg:SR K (rI0 fun i j=>.int (i - j)) oSub:=zjn fun _ _ _=>by simp only [Rep]
theorem zjT:SR K (rI (fun i j=>Fit i∧Fit j) fun i j=>.int (i * j)) oMul:=zhv fun _ _ _=>by simp only [Rep]
theorem zeg:SR K (rI (fun _ j=>j ≠ 0∧Fit j) fun i j=>.int (i.fdiv j)) oDiv:=zhv fun _ _ _=>by simp only [Rep]
theorem zch:SR K (rI (fun _ j=>0 < j) fun i j=>.int (i % j)) oMod:=zhv fun _ _ _=>by simp only [Rep]
theorem ziK:SR K (rI CPow fun i j=>.int (i ^ j.toNat)) oPow:=zhv fun _ _ _=>by simp only [Rep]
theorem zqb:SR K (rI0 fun i j=>.bl (decide (i < j))) oLt:=zjn fun _ _ _=>by simp only [Rep]
theorem zqy:SR K (rI0 fun i j=>.bl (decide (i ≤ j))) oLe:=zjn fun _ _ _=>by simp only [Rep]
theorem zoz:SR K (rI0 fun i j=>.bl (decide (j < i))) oGt:=zjn fun _ _ _=>by simp only [Rep]
theorem zp1:SR K (rI0 fun i j=>.bl (decide (j ≤ i))) oGe:=zjn fun _ _ _=>by simp only [Rep]
def oNeg:D→Option D
  | .int i=>some (.int (-i))
  | _=>none
theorem zoK:SU K (rU fun i=>.int (-i)) oNeg:=by
  intro F H x dx d Q s hx e q
  cases dx with
  | int i=>cases e; simp only [Top,Rep] at hx; exact ⟨i,hx,q _ F H (.refl s) (by simp only [Rep])⟩
  | _=>cases e
def fl:D→Option V
  | .non=>some .non
  | .bl b=>some (.bl b)
  | .int i=>some (.int i)
  | .str x=>some (.str x)
  | _=>none
theorem ziB {d:D} {v x:V} (h:fl d=some v) (r:Top K F H d x):x=v:=by
  cases d with
  | non=>cases h; simpa only [Top,Rep] using r
  | bl _=>cases h; simpa only [Top,Rep] using r
  | int _=>cases h; simpa only [Top,Rep] using r
  | str _=>cases h; simpa only [Top,Rep] using r
  | _=>cases h
def oEq (x y:D):Option D:=match fl x,fl y with | some a,some b=>if scal a b=true then some (.bl (decide (a=b))) else none | _,_=>none
def oNe (x y:D):Option D:=match fl x,fl y with | some a,some b=>if scal a b=true then some (.bl (!decide (a=b))) else none | _,_=>none
theorem zhz:SR K rEq oEq:=by
  intro F H x y dx dy d Q s hx hy e q
  unfold oEq at e
  split at e
  · rename_i a b h1 h2
    split at e
    · rename_i hs
      cases e
      cases ziB h1 hx; cases ziB h2 hy
      exact ⟨hs,q _ F H (.refl s) (by simp only [Rep])⟩
    · cases e
  · cases e
theorem zo7:SR K rNe oNe:=by
  intro F H x y dx dy d Q s hx hy e q
  unfold oNe at e
  split at e
  · rename_i a b h1 h2
    split at e
    · rename_i hs
      cases e
      cases ziB h1 hx; cases ziB h2 hy
      exact ⟨hs,q _ F H (.refl s) (by simp only [Rep])⟩
    · cases e
  · cases e
def isN:D→Bool
  | .non=>true
  | _=>false
theorem zk0 {d:D} {x:V} (r:Top K F H d x):decide (x = .non)=isN d:=by
  cases d with
  | non=>simp only [Top,Rep] at r; subst r; rfl
  | bl _=>simp only [Top,Rep] at r; subst r; rfl
  | int _=>simp only [Top,Rep] at r; subst r; rfl
  | str _=>simp only [Top,Rep] at r; subst r; rfl
  | tup _=>simp only [Top,Rep] at r; obtain ⟨a,_,rfl,_⟩:=r; rfl
  | lst _=>obtain ⟨a,_,rfl,_⟩:=r; rfl
  | dct _ _=>obtain ⟨a,_,rfl,_⟩:=r; rfl
  | scr _=>simp only [Top,Rep] at r; obtain ⟨a,rfl,_⟩:=r; rfl
  | exc _=>simp only [Top,Rep] at r; obtain ⟨a,_,rfl,_⟩:=r; rfl
  | fd _ _=>simp only [Top,Rep] at r; obtain ⟨a,_,_,rfl,_⟩:=r; rfl
  | obj _ _ _=>simp only [Top,Rep] at r; obtain ⟨a,_,_,rfl,_⟩:=r; rfl
def oIs (x y:D):Option D:=match y with | .non=>some (.bl (isN x)) | _=>none
def zhB (x y:D):Option D:=match y with | .non=>some (.bl (!isN x)) | _=>none
theorem zoH:SR K (fun x y H Q=>y = .non∧Q (.bl (decide (x = .non))) H) oIs:=by
  intro F H x y dx dy d Q s hx hy e q
  cases dy with
  | non=>cases e; simp only [Top,Rep] at hy; exact ⟨hy,q _ F H (.refl s) (by simp only [Rep]; rw [zk0 hx])⟩
  | _=>cases e
theorem zmq:SR K (fun x y H Q=>y = .non∧Q (.bl (!decide (x = .non))) H) zhB:=by
  intro F H x y dx dy d Q s hx hy e q
  cases dy with
  | non=>cases e; simp only [Top,Rep] at hy; exact ⟨hy,q _ F H (.refl s) (by simp only [Rep]; rw [zk0 hx])⟩
  | _=>cases e
def oIxL (x y:D):Option D:=match x,y with | .lst l,.int i=>atI l i | .scr l,.int i=>(atI l i).map .int | _,_=>none
def oIxT (x y:D):Option D:=match x,y with | .tup l,.int i=>atI l i | _,_=>none
theorem zig {l:List D} {vs:List V} {i:Int} {d:D} (r:RepL K F l vs) (h:atI l i=some d):∃ v,atI vs i=some v∧Rep K F d v:=by
  unfold atI at h ⊢
  rw [r.length]
  cases q:ixN l.length i with
  | none=>rw [q] at h; cases h
  | some j=>rw [q] at h; exact r.get h
theorem zej:SR K (rIxL K.f) oIxL:=by
  intro F H x y dx dy d Q s hx hy e q
  cases dx with
  | lst l =>
    cases dy with
    | int i =>
      obtain ⟨a,vs,rfl,h1,h2⟩:=hx
      simp only [Top,Rep] at hy
      obtain ⟨v,g1,g2⟩:=zig h2 e
      exact ⟨a,vs,i,v,rfl,hy,.inl h1,g1,q _ F H (.refl s) g2⟩
    | _=>cases e
  | scr l =>
    cases dy with
    | int i =>
      simp only [Top,Rep] at hx hy
      obtain ⟨a,rfl,h1⟩:=hx
      simp only [oIxL] at e
      cases z:atI l i with
      | none=>rw [z] at e; cases e
      | some n =>
        rw [z] at e; cases e
        obtain ⟨v,g1,g2⟩:=zig (F:=F) (K:=K) (l:=l.map .int) (vs:=l.map V.int) (i:=i) (d:=.int n) .ints (by
          unfold atI at z ⊢
          rw [List.length_map]
          cases q:ixN l.length i with
          | none=>rw [q] at z; cases z
          | some j =>
            rw [q] at z
            change l[j]?=some n at z
            show (l.map D.int)[j]?=_
            rw [List.getElem?_map,z]; rfl)
        exact ⟨a,_,i,v,rfl,hy,s.seq h1,g1,q _ F H (.refl s) g2⟩
    | _=>cases e
  | _=>cases e
theorem zeo:SR K (rIxT K.f) oIxT:=by
  intro F H x y dx dy d Q s hx hy e q
  cases dx with
  | tup l =>
    cases dy with
    | int i =>
      simp only [Top,Rep] at hx hy
      obtain ⟨a,vs,rfl,h1,h2⟩:=hx
      obtain ⟨v,g1,g2⟩:=zig h2 e
      exact ⟨a,vs,i,v,rfl,hy,.inl (.inl (s _ _ h1)),g1,q _ F H (.refl s) g2⟩
    | _=>cases e
  | _=>cases e
end
end PM
namespace PM
open PySem L2
section
variable {K:Kx} {XO:XOT} {E:St→XK} {ta tb te ty td:TE} {ma mb me my md:En→R D} {t u:TS} {m n:En→O} {Λ:List (Nat × Addr × HO)} {F0 H0 F H F1 H1:Hp} {σ:St} {δ:En} {Dn:Ends}
abbrev EN:St→XK:=fun _ _ _ _=>False
def zfa:Sl→Sl
  | .o d=>.l d
  | .p _=>.no
  | s=>s
def zaF (δ:En) (ix:List Nat) (n:Nat):En:=ix.map (fun i=>zfa (δ[i]?.getD .no)) ++ List.replicate n .no
def zcd (f:D→R (Option D)):List D→R (List D)
  | []=>.ok []
  | d :: l=>(f d).bind fun o=>(zcd f l).bind fun r=>.ok (o.toList ++ r)
def zed (b:D→En→Option En) (nc:Option (En→R Bool)) (me:En→R D) (δ:En) (d:D):R (Option D):=match b d δ with
  | none=>.no
  | some δ1=>(match nc with
    | none=>(me δ1).nev.bind fun x=>.ok (some x)
    | some c=>(c δ1).nev.bind fun k=>if k=true then (me δ1).nev.bind fun x=>.ok (some x) else .ok none)
def zeV (mi:En→R (List D)) (ix:List Nat) (n:Nat) (b:D→En→Option En) (nc:Option (En→R Bool)) (me:En→R D) (δ:En):R D :=
  (mi δ).bind fun ds=>ifC (ds.length ≤ sizeLine) ((zcd (zed b nc me (zaF δ ix n)) ds).nev.bind fun l=>.ok (.lst l)) .no
theorem zhc {ix:List Nat} {n:Nat} (I:EnvOk K Λ F0 H0 F H σ δ) (hix:ix.Nodup) :
    ∃ Λc,EnvOk K Λc F0 H0 F H (zcw σ ix n) (zaF δ ix n)∧(∀ i:Nat,Sl.own (zaF δ ix n)[i]?=true→∃ x ∈ Λc,x.1=i)∧∀ x ∈ Λc,∃ o,H x.2.1=some o:=by
  have gd:∀ j:Nat,j < ix.length→(zaF δ ix n)[j]?=some (zfa (δ[ix.getD j 0]?.getD .no)):=fun j hj=>by
    unfold zaF
    rw [List.getElem?_append_left (by simpa using hj),List.getElem?_map,List.getElem?_eq_getElem hj]
    simp [List.getD_eq_getElem?_getD,List.getElem?_eq_getElem hj]
  have gs:∀ j:Nat,j < ix.length→(zcw σ ix n)[j]?=some ((σ[ix.getD j 0]?).getD none):=fun j hj=>by
    unfold zcw
    rw [List.getElem?_append_left (by simpa using hj),List.getElem?_map,List.getElem?_eq_getElem hj]
    simp [List.getD_eq_getElem?_getD,List.getElem?_eq_getElem hj]
  have gn:∀ j:Nat,¬ j < ix.length→(zaF δ ix n)[j]?=some .no∨(zaF δ ix n)[j]?=none:=fun j hj=>by
    unfold zaF
    rw [List.getElem?_append_right (by simpa using hj),List.getElem?_replicate]
    split
    · exact .inl rfl
    · exact .inr rfl
  have own:∀ j:Nat,Sl.own (zaF δ ix n)[j]?=true→j < ix.length∧∃ d a o,δ[ix.getD j 0]?=some d∧Sl.own (some d)=true∧(zaF δ ix n)[j]?=some (zfa d)∧(∃ e,zfa d = .l e)∧σ[ix.getD j 0]?=some (some (.ref a))∧(zcw σ ix n)[j]?=some (some (.ref a))∧H a=some o∧H0 a=none∧F a=none:=fun j h=>by
    by_cases hj:j < ix.length
    · refine ⟨hj,?_⟩
      rw [gd j hj] at h
      have z:=I.slot (ix.getD j 0)
      cases q:δ[ix.getD j 0]? with
      | none=>rw [q] at h; cases h
      | some s =>
        rw [q] at h z
        cases s with
        | no=>cases h
        | v d=>cases h
        | o d =>
          obtain ⟨a,z1,z2,z3,z4⟩:=z
          obtain ⟨o,ho⟩:=z4.obj
          exact ⟨_,a,o,rfl,rfl,by rw [gd j hj,q]; rfl,⟨d,rfl⟩,z1,by rw [gs j hj,z1]; rfl,ho,z2,z3⟩
        | l d =>
          obtain ⟨a,z1,z2,z3,z4⟩:=z
          obtain ⟨o,ho⟩:=z4.obj
          exact ⟨_,a,o,rfl,rfl,by rw [gd j hj,q]; rfl,⟨d,rfl⟩,z1,by rw [gs j hj,z1]; rfl,ho,z2,z3⟩
        | p ll=>cases h
    · rcases gn j hj with z | z <;> (rw [z] at h; cases h)
  let Λc:List (Nat × Addr × HO):=(List.range ix.length).filterMap fun (j:Nat)=>match (zcw σ ix n)[j]? with
    | some (some (V.ref a))=>if Sl.own (zaF δ ix n)[j]?=true then (H a).map fun o=>(j,a,o) else none
    | _=>none
  have mem:∀ x ∈ Λc,(zcw σ ix n)[x.1]?=some (some (.ref x.2.1))∧Sl.own (zaF δ ix n)[x.1]?=true∧H x.2.1=some x.2.2:=fun x hx=>by
    obtain ⟨j,_,h⟩:=List.mem_filterMap.mp hx
    split at h
    · rename_i a q
      split at h
      · rename_i ow
        cases q2:H a with
        | none=>rw [q2] at h; cases h
        | some o=>rw [q2] at h; cases h; exact ⟨q,ow,q2⟩
      · cases h
    · cases h
  have noTab:∀ (j:Nat) (ll:Tr),(zaF δ ix n)[j]? ≠ some (.p ll):=fun j ll h=>by
    by_cases hj:j < ix.length
    · rw [gd j hj] at h
      cases q:δ[ix.getD j 0]? with
      | none=>rw [q] at h; cases h
      | some s=>rw [q] at h; cases s <;> cases h
    · rcases gn j hj with z | z <;> (rw [z] at h; cases h)
  refine ⟨Λc,⟨I.ext,?_,fun j=>?_,fun i j a hij h1 h2 h3 h4=>?_,fun x hx=>?_,fun j ll h=>absurd h (noTab j ll)⟩,fun j h=>?_,fun x hx=>⟨_,(mem x hx).2.2⟩⟩
  · unfold zcw zaF
    simp
  · by_cases hj:j < ix.length
    · rw [gd j hj,gs j hj]
      have z:=I.slot (ix.getD j 0)
      cases q:δ[ix.getD j 0]? with
      | none=>trivial
      | some s =>
        rw [q] at z
        cases s with
        | no=>trivial
        | v d=>obtain ⟨u,z1,z2⟩:=z; exact ⟨u,by rw [z1]; rfl,z2⟩
        | o d=>obtain ⟨a,z1,z2⟩:=z; exact ⟨a,by rw [z1]; rfl,z2⟩
        | l d=>obtain ⟨a,z1,z2⟩:=z; exact ⟨a,by rw [z1]; rfl,z2⟩
        | p ll=>trivial
    · rcases gn j hj with z | z <;> (rw [z]; trivial)
  · obtain ⟨i1,d1,a1,o1,i2,i3,i4,i5,i6,i7,i8⟩:=own i h1
    obtain ⟨j1,d2,a2,o2,j2,j3,j4,j5,j6,j7,j8⟩:=own j h2
    rw [i7] at h3; cases h3
    rw [j7] at h4; cases h4
    refine I.dist (ix.getD i 0) (ix.getD j 0) a (fun e=>hij ?_) (by rw [i2]; exact i3) (by rw [j2]; exact j3) i6 j6
    rw [List.getD_eq_getElem?_getD,List.getD_eq_getElem?_getD,List.getElem?_eq_getElem i1,List.getElem?_eq_getElem j1] at e
    exact ((List.getElem?_inj i1 hix).mp (by rw [List.getElem?_eq_getElem i1,List.getElem?_eq_getElem j1]; exact congrArg some e))
  · obtain ⟨m1,m2,m3⟩:=mem x hx
    obtain ⟨_,d,_,_,_,_,h4,⟨e,h5⟩,_⟩:=own x.1 m2
    exact ⟨⟨e,by rw [h4,h5]⟩,m1,m3⟩
  · obtain ⟨i1,d1,a1,o1,i2,i3,i4,i5,i6,i7,i8,_⟩:=own j h
    refine ⟨(j,a1,o1),List.mem_filterMap.mpr ⟨j,List.mem_range.mpr i1,?_⟩,rfl⟩
    rw [i7]
    show (if Sl.own (zaF δ ix n)[j]?=true then (H a1).map fun o=>(j,a1,o) else none)=_
    rw [if_pos h,i8]
    rfl
theorem EnvOk.side {p:Addr} {w:HO} (I:EnvOk K Λ F0 H0 F H σ δ) (ho:∀ i:Nat,Sl.own δ[i]?=true→∃ x ∈ Λ,x.1=i) (hp:∀ x ∈ Λ,x.2.1 ≠ p) (h0:H0 p=none) (h1:F p=none):EnvOk K Λ F0 H0 F (upd H p w) σ δ:=by
  have ne:∀ (i:Nat) (a:Addr),Sl.own δ[i]?=true→σ[i]?=some (some (.ref a))→a ≠ p:=fun i a h h'=>by
    obtain ⟨x,hx,e⟩:=ho i h
    have z:=(I.lent x hx).2.1
    rw [e,h'] at z
    cases z
    exact hp x hx
  have noTab:∀ (j:Nat) (ll:Tr),δ[j]? ≠ some (.p ll):=fun j ll h=>by
    obtain ⟨x,hx,e⟩:=ho j (by rw [h]; rfl)
    obtain ⟨d,hd⟩:=(I.lent x hx).1
    rw [e,h] at hd; cases hd
  refine ⟨⟨I.ext.ff,fun b o q=>?_,fun b o q=>?_,I.ext.nw⟩,I.len,fun i=>?_,I.dist,fun x hx=>?_,fun j ll h=>absurd h (noTab j ll)⟩
  · rw [zag (zak q h0)]; exact I.ext.hh b o q
  · rw [zag (zak q h1)]; exact I.ext.fh b o q
  · have z:=I.slot i
    cases q:δ[i]? with
    | none=>trivial
    | some s =>
      rw [q] at z
      cases s with
      | no=>trivial
      | v d=>exact z
      | o d=>obtain ⟨a,z1,z2,z3,z4⟩:=z; exact ⟨a,z1,z2,z3,z4.at (zag (ne i a (by rw [q]; rfl) z1))⟩
      | l d=>obtain ⟨a,z1,z2,z3,z4⟩:=z; exact ⟨a,z1,z2,z3,z4.at (zag (ne i a (by rw [q]; rfl) z1))⟩
      | p ll=>exact absurd q (noTab i ll)
  · obtain ⟨z1,z2,z3⟩:=I.lent x hx
    exact ⟨z1,z2,by rw [zag (hp x hx)]; exact z3⟩
theorem EnvOk.weakL {δ':En} (w:Weak δ δ') (hl:∀ x ∈ Λ,∃ d,δ[x.1]?=some (.l d)) (I:EnvOk K Λ F0 H0 F H σ δ'):EnvOk K Λ F0 H0 F H σ δ:=by
  refine ⟨I.ext,I.len.trans w.1.symm,fun i=>?_,fun i j a hij h1 h2 h3 h4=>?_,fun x hx=>⟨hl x hx,(I.lent x hx).2⟩,I.tabsOf (fun k ll h=>⟨(w.2 k).elim (fun z=>by rw [z] at h; cases h) fun z=>by rw [← z]; exact h,rfl⟩) (fun _ _ _ _ _ _ t f _=>⟨t,fun b hb=>(f b hb).2⟩) fun k j ll r b bs _ _ _ _ ho hs=>.inl ⟨(w.2 j).elim (fun z=>by rw [z] at ho; cases ho) fun z=>by rw [← z]; exact ho,hs⟩⟩
  · rcases w.2 i with z | z
    · rw [z]; trivial
    · rw [z]; exact I.slot i
  · have ow:∀ k:Nat,Sl.own δ[k]?=true→Sl.own δ'[k]?=true:=fun k h=>by
      rcases w.2 k with z | z
      · rw [z] at h; cases h
      · rw [← z]; exact h
    exact I.dist i j a hij (ow i h1) (ow j h2) h3 h4
theorem zh3 {f:D→R (Option D)} {d:D} {l r:List D} (h:(zcd f (d :: l)).nev = .ok r):∃ o r',f d = .ok o∧(zcd f l).nev = .ok r'∧r=o.toList ++ r':=by
  unfold zcd at h
  cases q:f d with
  | no=>rw [q] at h; cases h
  | ex x=>rw [q] at h; cases h
  | ok o =>
    rw [q] at h
    cases q2:zcd f l with
    | no=>rw [R.bind_ok,q2] at h; cases h
    | ex x=>rw [R.bind_ok,q2] at h; cases h
    | ok r'=>rw [R.bind_ok,q2] at h; cases h; exact ⟨o,r',rfl,rfl,rfl⟩
theorem nev_ok {α:Type} {r:R α} {a:α} (h:r.nev = .ok a):r = .ok a:=by
  cases r with
  | no=>cases h
  | ok b=>cases h; rfl
  | ex x=>cases h
theorem zbZ {wi:TI} {mi:En→R (List D)} {ix:List Nat} {n:Nat} {g:TG} {b:D→En→Option En} {tc:Option TT} {nc:Option (En→R Bool)}
    (hi:SIc K XO E wi mi) (hix:ix.Nodup) (hg:SG K g b) (hw:BW b) (hc:(tc=none∧nc=none)∨∃ c k,tc=some c∧nc=some k∧ST K XO EN c k) (he:SE K XO EN te me):SEo K XO E (zlU wi ix n g tc te) (zeV mi ix n b nc me):=by
  intro Λ F0 H0 F H σ δ Q I a
  refine hi Λ F0 H0 F H σ δ _ I (a.bind.imp fun ds F1 H1 e1 a1 J hJ p hp=>?_)
  unfold ifC at a1
  split at a1
  case isFalse=>exact a1.elim
  rename_i hsz
  have I1:=I.grow e1
  obtain ⟨Λc,Ic,hown,hall⟩:=zhc (n:=n) I1 hix
  cases qg:(zcd (zed b nc me (zaF δ ix n)) ds).nev with
  | no=>rw [qg] at a1; exact a1.elim
  | ex x=>cases q2:zcd (zed b nc me (zaF δ ix n)) ds <;> (rw [q2] at qg; cases qg)
  | ok l =>
  rw [qg] at a1
  have hlent:∀ x ∈ Λc,∃ d,(zaF δ ix n)[x.1]?=some (.l d):=fun x hx=>(Ic.lent x hx).1
  have hpn:∀ x ∈ Λc,x.2.1 ≠ p:=fun x hx e=>by
    obtain ⟨o,ho⟩:=hall x hx
    rw [e,hp] at ho; cases ho
  have p0:H0 p=none:=I1.ext.hh.free hp
  have f1:F1 p=none:=e1.fh.free hp
  refine ⟨fun i k ys σ2 H2=>∃ F2 l1 l2,EnvOk K Λc F0 H0 F2 H2 σ2 (zaF δ ix n)∧Ext F1 H1 F2 H2∧H2 p=some (.lst ys)∧F2 p=none∧RepL K F2 l1 ys∧(zcd (zed b nc me (zaF δ ix n)) (ds.drop i)).nev = .ok l2∧l=l1 ++ l2∧k=ds.length - i∧i ≤ ds.length∧ys.length ≤ i,
    ⟨_,F1,[],l,?_,.newO e1.fh hp,zai,f1,.nil,qg,rfl,rfl,Nat.zero_le _,Nat.le_refl _⟩,?_⟩
  · exact Ic.grow (.newO e1.fh hp)
  rintro i k ys σ2 H2 ⟨F2,l1,l2,I2,x2,hD,hF,r,qd,rfl,rfl,hil,hys⟩
  refine ⟨hD,?_⟩
  by_cases hlt:i < ds.length
  · have e:ds.drop i=ds[i] :: ds.drop (i + 1):=List.drop_eq_getElem_cons hlt
    rw [e] at qd
    obtain ⟨o,l3,q1,q3,rfl⟩:=zh3 qd
    obtain ⟨h1,h2⟩:=(hJ F2 H2 x2 i).1 ds[i] (by simp [hlt])
    refine .inr ⟨h1,fun ys' σ' H'=>∃ F' l1',EnvOk K Λc F0 H0 F' H' σ' (zaF δ ix n)∧Ext F1 H1 F' H'∧H' p=some (.lst ys')∧F' p=none∧RepL K F' l1' ys'∧l1 ++ (o.toList ++ l3)=l1' ++ l3∧ys'.length ≤ i + 1,
      fun ys' σ' H' ⟨F',l1',w1,w2,w3,w4,w5,w6,w7⟩=>⟨_,by omega,F',l1',l3,w1,w2,w3,w4,w5,q3,w6,rfl,hlt,w7⟩,fun x H' y=>?_⟩
    obtain ⟨F3,e3,rx⟩:=h2 x H' y
    have hp2:∀ {F5 H5:Hp},Ext F2 H2 F5 H5→H5 p=some (.lst ys)∧F5 p=none:=fun z=>⟨z.hh _ _ hD,z.nw p _ hF hD⟩
    unfold zed at q1
    cases qb:b ds[i] (zaF δ ix n) with
    | none=>rw [qb] at q1; cases q1
    | some δ1 =>
      rw [qb] at q1
      have hwk:=hw _ _ _ qb
      refine hg Λc F0 H0 F3 H' σ2 _ _ x δ1 _ (I2.grow e3) rx qb fun σ3 I3=>?_
      have fin:∀ F4 H4,Ext F3 H' F4 H4→(me δ1).nev.bind (fun x=>R.ok (some x)) = .ok o→te σ3 H4 fun y H5=>H5 p=some (.lst ys)∧ys.length < sizeLine ∧
          ∃ F' l1',EnvOk K Λc F0 H0 F' (upd H5 p (.lst (ys ++ [y]))) σ3 (zaF δ ix n)∧Ext F1 H1 F' (upd H5 p (.lst (ys ++ [y])))∧upd H5 p (.lst (ys ++ [y])) p=some (.lst (ys ++ [y]))∧F' p=none∧RepL K F' l1' (ys ++ [y])∧l1 ++ (o.toList ++ l3)=l1' ++ l3∧(ys ++ [y]).length ≤ i + 1:=by
        intro F4 H4 e4 qe
        cases qm:me δ1 with
        | no=>rw [qm] at qe; cases qe
        | ex x=>rw [qm] at qe; cases qe
        | ok d =>
          rw [qm] at qe
          cases qe
          refine he Λc F0 H0 F4 H4 σ3 δ1 _ (I3.grow e4) ?_
          rw [qm]
          intro F5 H5 e5 v rv
          have z:=e3.trans (e4.trans e5)
          obtain ⟨z1,z2⟩:=hp2 z
          refine ⟨z1,by omega,F5,l1 ++ [d],(((I3.grow e4).grow e5).weakL hwk hlent).side hown hpn p0 z2,?_,zai,z2,(r.mono z.ff).append (.cons rv .nil),by simp,by simpa using hys⟩
          have w:=x2.trans z
          exact ⟨w.ff,fun c o q=>by rw [zag (zak q hp)]; exact w.hh c o q,fun c o q=>by rw [zag (zak q z2)]; exact w.fh c o q,w.nw⟩
      rcases hc with ⟨rfl,rfl⟩ | ⟨c,kc,rfl,rfl,hcc⟩
      · have z:=fin F3 H' (.refl e3.fh) q1
        unfold zlJ
        simp only [if_true]
        exact z
      · simp only at q1
        refine hcc Λc F0 H0 F3 H' σ3 δ1 _ I3 ?_
        cases qk:kc δ1 with
        | no=>rw [qk] at q1; cases q1
        | ex x=>rw [qk] at q1; cases q1
        | ok bb =>
          rw [qk] at q1
          intro F4 H4 e4
          cases bb with
          | true=>rw [if_pos rfl]; exact fin F4 H4 e4 q1
          | false =>
            rw [if_neg Bool.false_ne_true]
            have eo:o=none:=by
              rw [R.nev_ok,R.bind_ok,if_neg Bool.false_ne_true] at q1
              cases q1; rfl
            subst eo
            have z:=e3.trans e4
            obtain ⟨z1,z2⟩:=hp2 z
            exact ⟨F4,l1,(I3.grow e4).weakL hwk hlent,x2.trans z,z1,z2,r.mono z.ff,rfl,by omega⟩
  · have e:i=ds.length:=by omega
    subst e
    rw [List.drop_length] at qd
    cases qd
    refine .inl ⟨(hJ F2 H2 x2 _).2 (by simp),a1 F2 H2 x2 p hF (e1.hh.free hp) ⟨ys,hD,?_⟩⟩
    rw [List.append_nil]
    exact r
def zb5 (n:Nat) (ds:List D):En:=ds.map .v ++ List.replicate n .no
def runF (np nv:Nat) (m:En→O) (ds:List D):R D:=if ds.length=np then (match m (zb5 nv ds) with | .rt d=>.ok d | .nx _=>.ok .non | .ex _ x=>.ex x | _=>.no) else .no
theorem ziQ {np nv:Nat} {N:List Str} {ds:List D} {vs:List V} (s:Same F H) (r:RepL K F ds vs) (hn:N.length=np + nv) (hl:ds.length=np):EnvOk K [] F H F H (L2.start N vs) (zb5 nv ds):=by
  have hv:=r.length
  unfold L2.start zb5
  have en:N.length - vs.length=nv:=by omega
  rw [en]
  refine ⟨.refl s,by simp [hv],fun i=>?_,fun i j a _ h1 _ _ _=>?_,fun x hx=>(by cases hx),fun i ll h1=>(by
    by_cases hi:i < ds.length
    · rw [List.getElem?_append_left (by simpa using hi),List.getElem?_map,List.getElem?_eq_getElem hi] at h1
      cases h1
    · rw [List.getElem?_append_right (by simpa using hi),List.getElem?_replicate] at h1
      split at h1 <;> cases h1)⟩
  · by_cases hi:i < ds.length
    · rw [List.getElem?_append_left (by simpa using hi),List.getElem?_append_left (by simp; omega),List.getElem?_map,List.getElem?_map,List.getElem?_eq_getElem hi]
      obtain ⟨v,h1,h2⟩:=r.get (List.getElem?_eq_getElem hi)
      rw [h1]
      exact ⟨v,rfl,h2⟩
    · rw [List.getElem?_append_right (by simpa using hi),List.getElem?_replicate]
      split <;> trivial
  · by_cases hi:i < ds.length
    · rw [List.getElem?_append_left (by simpa using hi),List.getElem?_map,List.getElem?_eq_getElem hi] at h1
      cases h1
    · rw [List.getElem?_append_right (by simpa using hi),List.getElem?_replicate] at h1
      split at h1 <;> cases h1
theorem zeK {np nv:Nat} {N:List Str} {vs:List V} {Q:VK} {E:XK} (h:SS K XO (fun _=>E) t m) (hn:N.length=np + nv) (sp:spM K XO (runF np nv m) vs H Q E):t { nx:=fun _ H'=>Q .non H',rt:=Q } (L2.start N vs) H:=by
  obtain ⟨F,ds,s,r,a⟩:=sp
  unfold runF at a
  split at a
  · rename_i hl
    refine h [] F H F H _ _ _ (ziQ s r hn hl) ?_
    cases q:m (zb5 nv ds) with
    | no=>rw [q] at a; exact a
    | nx δ=>rw [q] at a; exact fun σ F' H' I=>a F' H' I.ext _ (by simp only [Rep])
    | rt d=>rw [q] at a; exact fun v F' H' e r=>a F' H' e v r
    | ro d=>rw [q] at a; exact a.elim
    | bk δ=>rw [q] at a; exact a.elim
    | ct δ=>rw [q] at a; exact a.elim
    | ex δ x=>rw [q] at a; exact fun σ F' H' C dct I w=>a C dct F' H' I.ext w
  · exact a.elim
def runO (np nv:Nat) (m:En→O) (ds:List D):R D:=if ds.length=np then (match m (zb5 nv ds) with | .ro d=>.ok d | .ex _ x=>.ex x | _=>.no) else .no
def spO (K:Kx) (XO:XOT) (f:List D→R D):Sp:=fun vs H Q E=>∃ F ds,Same F H∧RepL K F ds vs∧Aft (fun _=>E) XO [] F H (fun d F' H'=>∀ p,F' p=none→H p=none→Own K F' H' d p→Q (.ref p) H') (f ds)
theorem zfL {np nv:Nat} {N:List Str} {vs:List V} {Q:VK} {E:XK} (h:SS K XO (fun _=>E) t m) (hn:N.length=np + nv) (sp:spO K XO (runO np nv m) vs H Q E):t { nx:=fun _ H'=>Q .non H',rt:=Q } (L2.start N vs) H:=by
  obtain ⟨F,ds,s,r,a⟩:=sp
  unfold runO at a
  split at a
  · rename_i hl
    refine h [] F H F H _ _ _ (ziQ s r hn hl) ?_
    cases q:m (zb5 nv ds) with
    | no=>rw [q] at a; exact a
    | nx δ=>rw [q] at a; exact a.elim
    | rt d=>rw [q] at a; exact a.elim
    | ro d=>rw [q] at a; exact fun p F' H' e h0 h1 o=>a F' H' e p h0 h1 o
    | bk δ=>rw [q] at a; exact a.elim
    | ct δ=>rw [q] at a; exact a.elim
    | ex δ x=>rw [q] at a; exact fun σ F' H' C dct I w=>a C dct F' H' I.ext w
  · exact a.elim
theorem zeD {np nv:Nat} {vs:List V} {Q:VK} {E:XK} (sp:spO K XO (runO np nv m) vs H Q E):vs.length=np:=by
  obtain ⟨F,ds,s,r,a⟩:=sp
  unfold runO at a
  split at a
  · rename_i hl; rw [r.length]; exact hl
  · exact a.elim
theorem zbX {np nv:Nat} {vs:List V} {Q:VK} {E:XK} (sp:spM K XO (runF np nv m) vs H Q E):vs.length=np:=by
  obtain ⟨F,ds,s,r,a⟩:=sp
  unfold runF at a
  split at a
  · rename_i hl; rw [r.length]; exact hl
  · exact a.elim
theorem zpB {f:List D→R D} {ns:List Int} {a:Addr} {Q:VK} {E:XK} (hf:f [.scr ns] = .ok (.bl true)) (h:SqL K.f H a (ns.map V.int)) (q:∀ H',Q (.bl true) H'):spM K XO f [.ref a] H Q E:=by
  refine ⟨fun b=>if b=a then H b else none,[.scr ns],fun b o e=>?_,.cons ?_ .nil,?_⟩
  · dsimp only at e
    split at e
    · exact e
    · cases e
  · simp only [Rep]
    refine ⟨a,rfl,?_⟩
    rcases h with (h | ⟨o,h⟩) | h
    · exact .inl (.inl (by dsimp only; rw [if_pos rfl]; exact h))
    · exact .inl (.inr ⟨o,by dsimp only; rw [if_pos rfl]; exact h⟩)
    · exact .inr h
  · rw [hf]
    intro F' H' _ v r
    simp only [Rep] at r
    subst r
    exact q H'
theorem zc0 {f:List D→R D} {tl:TA} {ml:En→R (List D)} {E':XK} (h:SA K XO E tl ml):SEo K XO E (zhY (spO K XO f) [] E' tl) (zap f ml):=by
  intro Λ F0 H0 F H σ δ Q I a
  refine h Λ F0 H0 F H σ δ _ I (a.bind.imp fun ds F1 H1 e1 a1 vs r=>⟨F1,ds,e1.fh,by rw [List.append_nil]; exact r,?_⟩)
  exact Aft.imp (fun d F2 H2 e2 p q h0 h1 o=>p q h0 (e1.hh.free h1) o) (Aft.any a1)
mutual
def zdT:D→Bool
  | .tup l=>zeN l
  | .lst _=>false
  | .dct _ _=>false
  | .scr _=>false
  | .exc _=>false
  | .fd _ _=>false
  | .obj _ _ _=>false
  | _=>true
def zeN:List D→Bool
  | []=>true
  | d :: l=>zdT d && zeN l
end
variable (K) in
def Bor (F H:Hp) (d:D) (v:V):Prop:=Rep K F d v∨(∃ a,v = .ref a∧Own K F H d a)∨∃ T fp,d=trD T∧TrOk K F H T v fp
variable (K XO E) in
def SAb (t:TA) (m:En→R (List D)):Prop:=∀ Λ F0 H0 F H σ δ Q,EnvOk K Λ F0 H0 F H σ δ→Aft E XO σ F H (fun ds F' H'=>∀ vs,Prd (Bor K F' H') ds vs→Q vs H') (m δ)→t σ H Q
theorem Bor.mono {F H F' H':Hp} (e:Ext F H F' H') {d:D} {v:V}:Bor K F H d v→Bor K F' H' d v
  | .inl h=>.inl (Rep.mono e.ff _ h)
  | .inr (.inl ⟨a,h1,h2⟩)=>.inr (.inl ⟨a,h1,h2.mono e.ff e.hh⟩)
  | .inr (.inr ⟨T,fp,h1,h2⟩)=>.inr (.inr ⟨T,fp,h1,TrOk.mono e.ff e.hh T h2⟩)
theorem zis:SAb K XO E tNil mNil:=fun Λ F0 H0 F H σ δ Q I a=>a F H (.refl I.same) _ .nil
theorem zeJ {tr:TA} {mr:En→R (List D)} (ha:SE K XO E ta ma) (hr:SAb K XO E tr mr):SAb K XO E (zci ta tr) (zab ma mr):=by
  intro Λ F0 H0 F H σ δ Q I a
  refine ha Λ F0 H0 F H σ δ _ I (a.bind.imp fun dx F1 H1 e1 a1 x rx=>?_)
  refine hr Λ F0 H0 F1 H1 σ δ _ (I.grow e1) (a1.bind.imp fun dy F2 H2 e2 a2 y ry=>?_)
  exact a2 F2 H2 (.refl e2.fh) _ (.cons (.inl (Rep.mono e2.ff _ rx)) ry)
theorem zoq {i:Nat} {tr:TA} {mr:En→R (List D)} (hr:SAb K XO E tr mr):SAb K XO E (zci (tVar i) tr) (zab (mRd i) mr):=by
  intro Λ F0 H0 F H σ δ Q I a
  have key:∀ d v,mRd i δ = .ok d→σ[i]?=some (some v)→Bor K F H d v→zci (tVar i) tr σ H Q:=fun d v hm hs b=>by
    unfold zab at a
    rw [hm] at a
    refine ⟨v,hs,hr Λ F0 H0 F H σ δ _ I (Aft.imp (fun dy F2 H2 e2 a2 y ry=>?_) (Aft.bind a))⟩
    exact a2 F2 H2 (.refl e2.fh) _ (.cons (b.mono e2) ry)
  have z:=I.slot i
  unfold zab at a
  cases q:δ[i]? with
  | none =>
    have e:mRd i δ = .no:=by unfold mRd; rw [q]
    rw [e] at a; exact a.elim
  | some s =>
    rw [q] at z
    cases s with
    | no =>
      have e:mRd i δ = .no:=by unfold mRd; rw [q]
      rw [e] at a; exact a.elim
    | v d=>obtain ⟨u,z1,z2⟩:=z; exact key d u (by unfold mRd; rw [q]) z1 (.inl z2)
    | o d=>obtain ⟨u,z1,_,_,z2⟩:=z; exact key d _ (by unfold mRd; rw [q]) z1 (.inr (.inl ⟨u,rfl,z2⟩))
    | l d=>obtain ⟨u,z1,_,_,z2⟩:=z; exact key d _ (by unfold mRd; rw [q]) z1 (.inr (.inl ⟨u,rfl,z2⟩))
    | p ll =>
      have e:mRd i δ = .no:=by unfold mRd; rw [q]
      rw [e] at a; exact a.elim
def zbC (F H:Hp):Hp:=fun b=>match F b with
  | some o=>some o
  | none=>match H b with
    | some (.lst vs)=>some (.lst vs)
    | some (.dK kvs)=>some (.dK kvs)
    | some (.frz o u)=>some (.frz o u)
    | some (.ins C dx fs)=>some (.ins C dx fs)
    | _=>none
theorem zdl {F H:Hp}:Same F (zbC F H):=fun b o h=>by unfold zbC; rw [h]
theorem zka {F H:Hp} (s:Same F H):Same (zbC F H) H:=fun b o h=>by
  unfold zbC at h
  cases q:F b with
  | some u=>rw [q] at h; cases h; exact s _ _ q
  | none =>
    simp only [q] at h
    cases q2:H b with
    | none=>rw [q2] at h; cases h
    | some u=>cases u <;> simp only [q2] at h <;> cases h <;> rfl
theorem znu {a:Addr} {vs:List V} (s:Same F H) (h:H a=some (.lst vs)):zbC F H a=some (.lst vs):=by
  unfold zbC
  cases q:F a with
  | some u=>rw [s _ _ q] at h; exact h
  | none=>simp only [h]
mutual
theorem ziy (s:Same F H):∀ (T:Tr) {v:V} {fp:List Addr},TrOk K F H T v fp→Rep K (zbC F H) (trD T) v
  | .d x,v,fp,h=>by
    simp only [TrOk] at h
    simp only [trD]
    exact Rep.mono zdl x h.2
  | .l ts,v,fp,h=>by
    simp only [TrOk] at h
    obtain ⟨a,vs,fs,rfl,h2,h3,h4⟩:=h
    simp only [trD,Rep]
    exact ⟨a,vs,rfl,.inl (znu s h3),zf8 s ts h4⟩
  | .t ts,v,fp,h=>by
    simp only [TrOk] at h
    obtain ⟨a,vs,rfl,h3,h4⟩:=h
    simp only [trD,Rep]
    exact ⟨a,vs,rfl,zdl _ _ h3,zf8 s ts h4⟩
theorem zf8 (s:Same F H):∀ (ts:List Tr) {vs:List V} {fp:List Addr},TrOkL K F H ts vs fp→RepL K (zbC F H) (trDL ts) vs
  | [],vs,fp,h=>by
    simp only [TrOkL] at h
    rw [h.1]
    simp only [trDL]
    exact .nil
  | t :: ts,vs,fp,h=>by
    simp only [TrOkL] at h
    obtain ⟨v,r,f1,f2,rfl,h2,h3,h4⟩:=h
    simp only [trDL]
    exact .cons (ziy s t h3) (zf8 s ts h4)
end
theorem zkz {F H:Hp} (s:Same F H):∀ {d:D} {v:V},Bor K F H d v→Rep K (zbC F H) d v:=by
  intro d v h
  rcases h with h | ⟨a,rfl,h⟩ | ⟨T,fp,rfl,h⟩
  · exact Rep.mono zdl _ h
  · cases d with
    | lst l =>
      obtain ⟨vs,h1,h2⟩:=h
      simp only [Rep]
      refine ⟨a,vs,rfl,.inl ?_,h2.mono zdl⟩
      unfold zbC
      cases q:F a with
      | some u=>rw [s _ _ q] at h1; exact h1
      | none=>simp only [h1]
    | dct ks l =>
      obtain ⟨vs,h1,h0,h2⟩:=h
      simp only [Rep]
      refine ⟨a,vs,rfl,?_,h0,h2.mono zdl⟩
      unfold zbC
      cases q:F a with
      | some u=>rw [s _ _ q] at h1; exact h1
      | none=>simp only [h1]
    | obj c ks l =>
      obtain ⟨dx,vs,h1,h0,h2⟩:=h
      simp only [Rep]
      refine ⟨a,dx,vs,rfl,?_,h0,h2.mono zdl⟩
      unfold zbC
      cases q:F a with
      | some u=>rw [s _ _ q] at h1; exact h1
      | none=>simp only [h1]
    | _=>exact h.elim
  · exact ziy s T h
theorem zi3 {F H:Hp} (s:Same F H):∀ {ds:List D} {vs:List V},Prd (Bor K F H) ds vs→RepL K (zbC F H) ds vs
  | _,_,.nil=>.nil
  | _,_,.cons h t=>.cons (zkz s h) (zi3 s t)
open Classical in
def minH (F H F':Hp):Hp:=fun b=>if F b=none∧H b ≠ none then none else F' b
theorem zks {F H F' H':Hp} (e:Ext (zbC F H) H F' H') {a:Addr} {o:HO} (h:F' a=some o) (h1:∀ vs,o ≠ .lst vs) (h2:∀ kvs,o ≠ .dK kvs) (h3:∀ q u,o ≠ .frz q u) (h4:∀ C dx fs,o ≠ .ins C dx fs):minH F H F' a=some o:=by
  unfold minH
  split
  · rename_i hc
    exfalso
    cases qh:H a with
    | none=>exact hc.2 qh
    | some u =>
      have np:zbC F H a=match H a with | some (.lst vs)=>some (.lst vs) | some (.dK kvs)=>some (.dK kvs) | some (.frz o u)=>some (.frz o u) | some (.ins C dx fs)=>some (.ins C dx fs) | _=>none:=by
        unfold zbC; rw [hc.1]
      cases u with
      | lst vs=>rw [qh] at np; have z:=e.ff a _ np; rw [h] at z; cases z; exact h1 vs rfl
      | dK vs=>rw [qh] at np; have z:=e.ff a _ np; rw [h] at z; cases z; exact h2 vs rfl
      | frz q w=>rw [qh] at np; have z:=e.ff a _ np; rw [h] at z; cases z; exact h3 q w rfl
      | ins C dx fs=>rw [qh] at np; have z:=e.ff a _ np; rw [h] at z; cases z; exact h4 C dx fs rfl
      | _=>rw [qh] at np; have z:=e.nw a _ np qh; rw [h] at z; cases z
  · exact h
mutual
theorem zh1 {F H F' H':Hp} (e:Ext (zbC F H) H F' H'):∀ (d:D) {v:V},zdT d=true→Rep K F' d v→Rep K (minH F H F') d v
  | .non,v,_,h=>by simp only [Rep] at h ⊢; exact h
  | .bl _,v,_,h=>by simp only [Rep] at h ⊢; exact h
  | .int _,v,_,h=>by simp only [Rep] at h ⊢; exact h
  | .str _,v,_,h=>by simp only [Rep] at h ⊢; exact h
  | .lst _,v,c,h=>by simp only [zdT] at c; cases c
  | .dct _ _,v,c,h=>by simp only [zdT] at c; cases c
  | .scr _,v,c,h=>by simp only [zdT] at c; cases c
  | .exc _,v,c,h=>by simp only [zdT] at c; cases c
  | .fd _ _,v,c,h=>by simp only [zdT] at c; cases c
  | .obj _ _ _,v,c,h=>by simp only [zdT] at c; cases c
  | .tup l,v,c,h=>by
    simp only [zdT] at c
    simp only [Rep] at h ⊢
    obtain ⟨a,vs,h1,h2,h3⟩:=h
    exact ⟨a,vs,h1,zks e h2 (fun _ z=>by cases z) (fun _ z=>by cases z) (fun _ _ z=>by cases z) (fun _ _ _ z=>by cases z),zg7 e l c h3⟩
theorem zg7 {F H F' H':Hp} (e:Ext (zbC F H) H F' H'):∀ (l:List D) {vs:List V},zeN l=true→RepL K F' l vs→RepL K (minH F H F') l vs
  | [],vs,_,h=>by simp only [RepL] at h ⊢; exact h
  | d :: l,vs,c,h=>by
    simp only [zeN,Bool.and_eq_true] at c
    simp only [RepL] at h ⊢
    obtain ⟨v,r,h1,h2,h3⟩:=h
    exact ⟨v,r,h1,zh1 e d c.1 h2,zg7 e l c.2 h3⟩
end
theorem zle {F H F' H':Hp} (e:Ext (zbC F H) H F' H'):Ext F H (minH F H F') H':=by
  refine ⟨fun b o h=>?_,e.hh,fun b o h=>?_,fun p o h1 h2=>?_⟩
  · unfold minH
    rw [if_neg (fun hc=>by rw [h] at hc; cases hc.1)]
    exact e.ff b o (zdl b o h)
  · unfold minH at h
    split at h
    · cases h
    · exact e.fh b o h
  · unfold minH
    rw [if_pos ⟨h1,by rw [h2]; intro z; cases z⟩]
variable (K) in
def SC (r:List V→Hp→VK→Prop) (f:List D→Option D):Prop:=∀ F H vs ds d Q,Same F H→Prd (Top K F H) ds vs→f ds=some d→(∀ v F' H',Ext F H F' H'→Rep K F' d v→Q v H')→r vs H Q
variable (K) in
def SCo (r:List V→Hp→VK→Prop) (f:List D→Option D):Prop:=∀ F H vs ds d Q,Same F H→Prd (Top K F H) ds vs→f ds=some d→(∀ p F' H',Ext F H F' H'→F' p=none→H p=none→Own K F' H' d p→Q (.ref p) H')→r vs H Q
def mCB (f:List D→Option D) (ml:En→R (List D)) (δ:En):R D:=(ml δ).bind fun l=>R.of (f l)
theorem ze0 {r:List V→Hp→VK→Prop} {f:List D→Option D} {tl:TA} {ml:En→R (List D)} (hr:SC K r f) (h:SAr K XO E tl ml):SE K XO E (tCB r tl) (mCB f ml):=by
  intro Λ F0 H0 F H σ δ Q I a
  refine h Λ F0 H0 F H σ δ _ I (a.bind.imp fun ds F1 H1 e1 a1 vs rv=>?_)
  cases q:f ds with
  | none=>rw [q] at a1; exact a1.elim
  | some d=>rw [q] at a1; exact hr F1 H1 vs ds d Q e1.fh rv q fun v F' H' e r=>a1 F' H' e v r
theorem zm8 {r:List V→Hp→VK→Prop} {f:List D→Option D} {tl:TA} {ml:En→R (List D)} (hr:SCo K r f) (h:SAr K XO E tl ml):SEo K XO E (tCB r tl) (mCB f ml):=by
  intro Λ F0 H0 F H σ δ Q I a
  refine h Λ F0 H0 F H σ δ _ I (a.bind.imp fun ds F1 H1 e1 a1 vs rv=>?_)
  cases q:f ds with
  | none=>rw [q] at a1; exact a1.elim
  | some d=>rw [q] at a1; exact hr F1 H1 vs ds d Q e1.fh rv q fun p F' H' e h0 h1 o=>a1 F' H' e p h0 (e1.hh.free h1) o
def fLen:List D→Option D
  | [.lst l]=>some (.int l.length)
  | [.scr l]=>some (.int l.length)
  | [.tup l]=>some (.int l.length)
  | _=>none
theorem zeF:SC K (fun xs H Q=>∃ p ys,xs = [.ref p]∧(SqL K.f H p ys∨SqT K.f H p ys)∧Q (.int ys.length) H) fLen:=by
  intro F H vs ds d Q s r e q
  unfold fLen at e
  split at e
  · cases e
    cases r with
    | cons r r' =>
      cases r'
      obtain ⟨a,xs,rfl,h1,h2⟩:=r
      exact ⟨a,xs,rfl,.inl (.inl h1),q _ F H (.refl s) (by simp only [Rep]; rw [h2.length])⟩
  · cases e
    cases r with
    | cons r r' =>
      cases r'
      simp only [Top,Rep] at r
      obtain ⟨a,rfl,h1⟩:=r
      exact ⟨a,_,rfl,.inl (s.seq h1),q _ F H (.refl s) (by simp only [Rep]; rw [List.length_map])⟩
  · cases e
    cases r with
    | cons r r' =>
      cases r'
      simp only [Top,Rep] at r
      obtain ⟨a,xs,rfl,h1,h2⟩:=r
      exact ⟨a,xs,rfl,.inr (.inl (.inl (s _ _ h1))),q _ F H (.refl s) (by simp only [Rep]; rw [h2.length])⟩
  · cases e
def zin:List D→Option D
  | [.lst l]=>some (.lst l)
  | [.tup l]=>some (.lst l)
  | _=>none
theorem zlq:SCo K (fun xs H Q=>∃ p ys,xs = [.ref p]∧(SqL K.f H p ys∨SqT K.f H p ys)∧∀ l,H l=none→Q (.ref l) (upd H l (.lst ys))) zin:=by
  intro F H vs ds d Q s r e q
  unfold zin at e
  split at e
  · cases e
    cases r with
    | cons r r' =>
      cases r'
      obtain ⟨a,xs,rfl,h1,h2⟩:=r
      exact ⟨a,xs,rfl,.inl (.inl h1),fun p hp=>q _ F _ (.newO s hp) (s.free hp) hp ⟨xs,zai,h2⟩⟩
  · cases e
    cases r with
    | cons r r' =>
      cases r'
      simp only [Top,Rep] at r
      obtain ⟨a,xs,rfl,h1,h2⟩:=r
      exact ⟨a,xs,rfl,.inr (.inl (.inl (s _ _ h1))),fun p hp=>q _ F _ (.newO s hp) (s.free hp) hp ⟨xs,zai,h2⟩⟩
  · cases e
def asI:D→Option Int
  | .int i=>some i
  | _=>none
def ze3 (me:En→R D) (δ:En):R (Option Int):=(me δ).bind fun d=>(R.of (asI d)).bind fun i=>.ok (some i)
variable (K XO E) in
def SO (t:TO) (m:En→R (Option Int)):Prop:=∀ Λ F0 H0 F H σ δ Q,EnvOk K Λ F0 H0 F H σ δ→Aft E XO σ F H (fun o _ H'=>Q o H') (m δ)→t σ H Q
theorem zgP (h:SE K XO E te me):SO K XO E (znv te) (ze3 me):=by
  intro Λ F0 H0 F H σ δ Q I a
  refine h Λ F0 H0 F H σ δ _ I (a.bind.imp fun d F1 H1 e1 a1 v r=>?_)
  cases d with
  | int i=>simp only [Rep] at r; exact ⟨i,r,a1 F1 H1 (.refl e1.fh)⟩
  | _=>exact a1.elim
def cutD (xs:List D) (lo hi:Option Int):List D:=(xs.drop (HT.sIx xs.length 0 lo)).take (HT.sIx xs.length xs.length hi - HT.sIx xs.length 0 lo)
def mSl (me:En→R D) (ml mh:En→R (Option Int)) (δ:En):R D:=(me δ).bind fun d=>(ml δ).bind fun lo=>(mh δ).bind fun hi=>(R.of (asL d)).bind fun l=>.ok (.lst (cutD l lo hi))
theorem zhi {tl th:TO} {ml mh:En→R (Option Int)} (h:SEr K XO E te me) (hl:SO K XO E tl ml) (hh:SO K XO E th mh):SEo K XO E (tSl (rSlL K.f) te tl th) (mSl me ml mh):=by
  intro Λ F0 H0 F H σ δ Q I a
  refine h Λ F0 H0 F H σ δ _ I (a.bind.imp fun d F1 H1 e1 a1 v r=>?_)
  refine hl Λ F0 H0 F1 H1 σ δ _ (I.grow e1) (a1.bind.imp fun lo F2 H2 e2 a2=>?_)
  refine hh Λ F0 H0 F2 H2 σ δ _ ((I.grow e1).grow e2) (a2.bind.imp fun hi F3 H3 e3 a3=>?_)
  cases d with
  | lst l =>
    obtain ⟨p,vs,rfl,h1,h2⟩:=r
    refine ⟨p,vs,rfl,.inl (PM.Same.rd e3.hh (PM.Same.rd e2.hh h1)),fun q hq=>a3 F3 _ (.newO e3.fh hq) q (e3.fh.free hq) (e1.hh.free (e2.hh.free (e3.hh.free hq))) ⟨_,zai,?_⟩⟩
    unfold cutD cutV
    rw [← h2.length]
    exact (((h2.mono e2.ff).mono e3.ff).drop _).take _
  | scr l =>
    simp only [Top,Rep] at r
    obtain ⟨p,rfl,h1⟩:=r
    refine ⟨p,_,rfl,e3.hh.seq (e2.hh.seq (e1.fh.seq h1)),fun q hq=>a3 F3 _ (.newO e3.fh hq) q (e3.fh.free hq) (e1.hh.free (e2.hh.free (e3.hh.free hq))) ⟨_,zai,?_⟩⟩
    unfold cutD cutV
    rw [List.length_map,List.length_map]
    exact (RepL.ints.drop _).take _
  | _=>exact a3.elim
end
end PM
namespace PM
open PySem L2
def oCat (x y:D):Option D:=match x,y with | .lst l,.lst r=>ifC (l.length + r.length ≤ sizeLine) (some (.lst (l ++ r))) none | _,_=>none
def zbc:Nat→D→Bool
  | _,.non=>true
  | _,.int _=>true
  | n + 1,.tup l=>l.all (zbc n)
  | n + 1,.lst l=>l.all (zbc n)
  | _,_=>false
open Classical in
def oNeD (x y:D):Option D:=ifC (zbc 8 x=true∧zbc 8 y=true) (some (.bl (!decide (x=y)))) none
def asIs:List D→Option (List Int)
  | []=>some []
  | .int i :: l=>(asIs l).map (i :: ·)
  | _=>none
theorem zgU (ns:List Int):asIs (ns.map .int)=some ns:=by
  induction ns with
  | nil=>rfl
  | cons a l ih=>simp [asIs,ih]
theorem zdH {l:List D} {ns:List Int} (h:asIs l=some ns):l=ns.map .int:=by
  induction l generalizing ns with
  | nil=>cases h; rfl
  | cons d l ih =>
    cases d with
    | int i =>
      simp only [asIs] at h
      cases q:asIs l with
      | none=>rw [q] at h; cases h
      | some m=>rw [q] at h; cases h; rw [ih q]; rfl
    | _=>cases h
def fSum:List D→Option D
  | [.lst l]=>(asIs l).map fun ns=>.int ns.sum
  | _=>none
def maxI:List Int→Int→Int
  | [],m=>m
  | a :: l,m=>maxI l (if a > m then a else m)
def zh0 (l:List D) (d:D):Option D:=match l with
  | [.lst []]=>some d
  | [.lst (.int a :: l)]=>(asIs l).map fun ns=>.int (maxI ns a)
  | _=>none
def zmv (ml:En→R (List D)) (md:En→R D) (δ:En):R D:=(ml δ).bind fun l=>(md δ).bind fun d=>R.of (zh0 l d)
def rev1:List D→Option (List D)
  | [.lst l]=>some l.reverse
  | _=>none
def mRev (ml:En→R (List D)) (δ:En):R (List D):=(ml δ).bind fun l=>R.of (rev1 l)
theorem zhr {c:En→R Bool} {m:En→O} {δ:En} {n:Nat} {o:O} (h:zcZ c m n δ=o) (ho:o ≠ .no):zgr c m δ=o:=by
  have mono:∀ k n δ,zcZ c m n δ ≠ .no→zcZ c m (n + k) δ=zcZ c m n δ:=by
    intro k n
    induction n with
    | zero=>intro δ h; exact absurd rfl h
    | succ n ih =>
      intro δ h
      have e:n + 1 + k=(n + k) + 1:=by omega
      rw [e]
      unfold zcZ at h ⊢
      cases q:c δ with
      | no=>rfl
      | ex x=>rfl
      | ok b =>
        rw [q] at h
        cases b with
        | false=>rfl
        | true =>
          simp only [R.toO_ok,if_true] at h ⊢
          cases q2:m δ <;> simp only [q2] at h ⊢ <;> exact ih _ h
  have hex:∃ n,zcZ c m n δ ≠ .no:=⟨n,by rw [h]; exact ho⟩
  unfold zgr
  rw [dif_pos hex]
  have h1:=mono n (Classical.choose hex) δ (Classical.choose_spec hex)
  have h2:=mono (Classical.choose hex) n δ (by rw [h]; exact ho)
  rw [← h1,Nat.add_comm,h2,h]
theorem ze2 {β:Type} {f:D→R (Option D)} (enc:β→D) (g:β→Option D):∀ (l:List β),(∀ x ∈ l,f (enc x) = .ok (g x))→zcd f (l.map enc) = .ok (l.filterMap g)
  | [],_=>rfl
  | x :: l,h=>by
    rw [List.map_cons]
    unfold zcd
    rw [h x List.mem_cons_self,R.bind_ok,ze2 enc g l fun y hy=>h y (List.mem_cons_of_mem _ hy)]
    cases q:g x with
    | none=>rw [List.filterMap_cons_none q]; rfl
    | some d=>rw [List.filterMap_cons_some q]; rfl
theorem zlP {n:Nat} (h:n ≤ 100000):n ≤ sizeLine:=Nat.le_trans h (by decide)
theorem zjZ {n:Nat} (h:n ≤ 100000):n < sizeLine:=Nat.lt_of_le_of_lt h (by decide)
end PM
namespace PM
open PySem L2
theorem fitN {i:Int} (n:Nat) (h:i.natAbs ≤ n) (h2:n < 2 ^ 8000:=by decide +kernel):Fit i:=Nat.lt_of_le_of_lt h h2
@[simp] theorem zqB (i j:Int):oAdd (.int i) (.int j)=some (.int (i + j)):=rfl
@[simp] theorem zqD (i j:Int):oSub (.int i) (.int j)=some (.int (i - j)):=rfl
theorem zpk {i j:Int} (h:Fit i) (h':Fit j):oMul (.int i) (.int j)=some (.int (i * j)):=zbj (p:=Fit i∧Fit j) ⟨h,h'⟩
theorem zpp {i j:Int} (h:j ≠ 0) (h':Fit j):oDiv (.int i) (.int j)=some (.int (i.fdiv j)):=zbj (p:=j ≠ 0∧Fit j) ⟨h,h'⟩
theorem zdA {i j:Int} (h:0 < j) (h':Fit j):oDiv (.int i) (.int j)=some (.int (i / j)):=by
  rw [zpp (by omega) h',Int.fdiv_eq_ediv_of_nonneg _ (by omega)]
theorem zcf {i j:Int} (h:0 < j):oMod (.int i) (.int j)=some (.int (i % j)):=zbj (p:=0 < j) h
theorem zlo {i j:Int} (h:CPow i j):oPow (.int i) (.int j)=some (.int (i ^ j.toNat)):=zbj (p:=CPow i j) h
@[simp] theorem zqK (i j:Int):oLt (.int i) (.int j)=some (.bl (decide (i < j))):=rfl
@[simp] theorem zqF (i j:Int):oLe (.int i) (.int j)=some (.bl (decide (i ≤ j))):=rfl
@[simp] theorem zqv (i j:Int):oGt (.int i) (.int j)=some (.bl (decide (j < i))):=rfl
@[simp] theorem zqI (i j:Int):oGe (.int i) (.int j)=some (.bl (decide (j ≤ i))):=rfl
@[simp] theorem zpU (i:Int):oNeg (.int i)=some (.int (-i)):=rfl
@[simp] theorem zqr (i j:Int):oEq (.int i) (.int j)=some (.bl (decide (i=j))):=by simp [oEq,fl,scal]
@[simp] theorem zqH (i j:Int):oNe (.int i) (.int j)=some (.bl (!decide (i=j))):=by simp [oNe,fl,scal]
@[simp] theorem zqG (d:D):oIs d .non=some (.bl (isN d)):=rfl
@[simp] theorem zpO (b:Bool):asB (.bl b)=some b:=rfl
@[simp] theorem zqL (l:List D):asL (.lst l)=some l:=rfl
@[simp] theorem zpR (i:Int):asI (.int i)=some i:=rfl
@[simp] theorem zqA (l:List D):fLen [.lst l]=some (.int l.length):=rfl
@[simp] theorem zqC (l:List D):fLen [.tup l]=some (.int l.length):=rfl
@[simp] theorem zql (l:List D):zin [.lst l]=some (.lst l):=rfl
@[simp] theorem zp6 (a b:D):oIxT (.tup [a,b]) (.int 0)=some a:=rfl
@[simp] theorem zp2 (a b:D):oIxT (.tup [a,b]) (.int 1)=some b:=rfl
theorem atI_nat {α:Type} {l:List α} {k:Nat} {d:α} (h:l[k]?=some d):atI l (k:Int)=some d:=by
  have hk:=(List.getElem?_eq_some_iff.mp h).1
  unfold atI ixN
  rw [if_pos (by omega),if_pos (by omega)]
  exact h
theorem zko {l:List D} {k:Nat} {d:D} (h:l[k]?=some d):oIxL (.lst l) (.int (k:Int))=some d:=atI_nat h
theorem zng {l:List D} {i:Int} {d:D} (h0:0 ≤ i) (h:l[i.toNat]?=some d):oIxL (.lst l) (.int i)=some d:=by
  have e:i=((i.toNat:Nat):Int):=by omega
  rw [e]
  exact zko h
theorem rng1 {n:Int} (h0:0 ≤ n) (h:n ≤ 100000):rng [.int n]=some (zgf 0 n.toNat):=by
  show ifC _ _ _=_
  rw [zbj (by omega)]
theorem zkW (n:Nat):zgf 0 n=(List.range n).map fun (k:Nat)=>D.int (k:Int):=by
  unfold zgf
  exact List.map_congr_left fun k _=>by simp
theorem zgX (l:List D):zf3 l=(l.zipIdx).map fun p=>D.tup [.int (p.2:Int),p.1]:=by
  unfold zf3
  rw [List.mapIdx_eq_zipIdx_map]
@[simp] theorem zqJ (a b:α):([a,b].length ≤ sizeLine)=True:=by simp [sizeLine]
end PM
namespace PM
open PySem L2
def sv:Option D→Sl
  | none=>.no
  | some d=>.v d
theorem zdn {i:Nat} {d:D} {δ:En} {o:Option D} (h:δ[i]?=some (sv o)):zat i d δ=some (δ.set i (.v d)):=by
  unfold zat
  rw [h]
  cases o <;> rfl
theorem znL {i:Nat} {d:D} {δ:En} {o:Option D} (h:δ[i]?=some (sv o)):bNew i d δ=some (δ.set i (.o d)):=by
  unfold bNew
  rw [h]
  cases o <;> rfl
@[simp] theorem zqq:sv none = .no:=rfl
@[simp] theorem zqk (d:D):sv (some d) = .v d:=rfl
def dk (L:List Int):D:=.dct (L.map .inl) (L.map fun _=>.bl true)
theorem zmV (L:List Int) (t:Int):getK (L.map .inl) (L.map fun _=>.bl true) (.inl t)=if t ∈ L then some (.bl true) else none:=by
  induction L with
  | nil=>rfl
  | cons a l ih =>
    simp only [List.map_cons,getK,ih]
    by_cases h:a=t
    · subst h; simp
    · have h':¬ (Sum.inl a:Key)=Sum.inl t:=fun e=>h (Sum.inl.inj e)
      rw [if_neg h']
      have e:(t ∈ a :: l)=(t ∈ l):=by
        rw [List.mem_cons]
        exact propext ⟨fun z=>z.resolve_left (fun e=>h e.symm),.inr⟩
      simp only [e]
theorem znq (L:List Int) (t:Int):(L.map (.inl:Int→Key)).any (fun a=>decide (a = .inl t))=decide (t ∈ L):=by
  rw [Bool.eq_iff_iff]
  simp only [List.any_eq_true,List.mem_map,decide_eq_true_eq]
  constructor
  · rintro ⟨x,⟨a,h1,rfl⟩,h2⟩
    cases h2; exact h1
  · intro h
    exact ⟨_,⟨t,h,rfl⟩,rfl⟩
theorem znF (L:List Int) (t:Int):putL (L.map .inl) (L.map fun _=>.bl true) (.inl t) (.bl true)=L.map fun _=>.bl true:=by
  induction L with
  | nil=>rfl
  | cons a l ih=>simp only [List.map_cons,putL,ih,ite_self]
theorem zpD (L:List Int) (t:Int):putD (L.map .inl) (L.map fun _=>.bl true) (.inl t) (.bl true)=dk (if t ∈ L then L else L ++ [t]):=by
  unfold putD
  rw [znq]
  by_cases h:t ∈ L
  · rw [if_pos (by simpa using h),if_pos h,znF]; rfl
  · rw [if_neg (by simpa using h),if_neg h]
    simp [dk]
@[simp] theorem zqE (L:List Int) (t:Int):dIn (.int t) (dk L)=some (.bl (decide (t ∈ L))):=by
  simp only [dIn,asK,dk,zmV]
  by_cases h:t ∈ L <;> simp [h]
@[simp] theorem zoU (L:List Int) (t:Int):zen (.int t) (dk L)=some (.bl (!decide (t ∈ L))):=by
  simp only [zen,asK,dk,zmV]
  by_cases h:t ∈ L <;> simp [h]
theorem zmM {i:Nat} {mk me:En→R D} {δ:En} {L:List Int} {t:Int} (h:δ[i]?=some (.o (dk L))) (h1:mk δ = .ok (.int t)) (h2:me δ = .ok (.bl true)) (hl:L.length ≤ 100000) :
    zfp i mk me δ = .nx (δ.set i (.o (dk (if t ∈ L then L else L ++ [t])))):=by
  unfold zfp
  rw [h]
  simp only [dk,h2,h1,R.toO_ok,asK]
  rw [zbj (by rw [List.length_map]; exact zjZ hl),zpD]
  rfl
def iL (l:List Int):D:=.lst (l.map .int)
theorem zdg {α:Type} {f:D→R (Option D)} (enc:α→D) (p:α→Bool) (l:List α) (h:∀ x ∈ l,f (enc x) = .ok (if p x=true then some (enc x) else none)):zcd f (l.map enc) = .ok ((l.filter p).map enc):=by
  rw [ze2 enc (fun x=>if p x=true then some (enc x) else none) l h]
  congr 1
  induction l with
  | nil=>rfl
  | cons a l ih =>
    have ih':=ih fun x hx=>h x (List.mem_cons_of_mem _ hx)
    by_cases hp:p a=true
    · rw [List.filterMap_cons_some (b:=enc a) (by simp [hp]),ih',List.filter_cons_of_pos hp,List.map_cons]
    · rw [List.filterMap_cons_none (by simp [hp]),ih',List.filter_cons_of_neg hp]
theorem zcp {α:Type} {f:D→R (Option D)} (enc:α→D) (g:α→D) (l:List α) (h:∀ x ∈ l,f (enc x) = .ok (some (g x))):zcd f (l.map enc) = .ok (l.map g):=by
  rw [ze2 enc (fun x=>some (g x)) l h,List.filterMap_eq_map']
end PM
namespace PM
open PySem L2
theorem zb0 {mi:En→R (List D)} {ix:List Nat} {n:Nat} {b:D→En→Option En} {nc:Option (En→R Bool)} {me:En→R D} {δ:En} {l r:List D} (h1:mi δ = .ok l) (hl:l.length ≤ 100000)
    (h2:zcd (zed b nc me (zaF δ ix n)) l = .ok r):zeV mi ix n b nc me δ = .ok (.lst r):=by
  unfold zeV
  rw [h1,R.bind_ok,zbj (zlP hl),h2]
  rfl
theorem zcr {mi:En→R (List D)} {b:D→En→Option En} {m:En→O} {δ:En} {l:List D} (h:mi δ = .ok l):mFor mi b m δ=zdt b m l δ:=by
  unfold mFor
  rw [h]
  rfl
theorem zcB {np nv:Nat} {m:En→O} {ds:List D} {d:D} (h:m (zb5 nv ds) = .rt d) (hl:ds.length=np:=by rfl):runF np nv m ds = .ok d:=by
  unfold runF
  rw [if_pos hl,h]
theorem zon {np nv:Nat} {m:En→O} {ds:List D} {δ:En} (h:m (zb5 nv ds) = .nx δ) (hl:ds.length=np:=by rfl):runF np nv m ds = .ok .non:=by
  unfold runF
  rw [if_pos hl,h]
theorem zeB {np nv:Nat} {m:En→O} {ds:List D} {d:D} (h:m (zb5 nv ds) = .ro d) (hl:ds.length=np:=by rfl):runO np nv m ds = .ok d:=by
  unfold runO
  rw [if_pos hl,h]
theorem zar {m n:En→O} {δ δ':En} (h:m δ = .nx δ'):mSeq m n δ=n δ':=by unfold mSeq; rw [h]
theorem za9 {me:En→R D} {b:D→En→Option En} {δ δ':En} {d:D} (h:me δ = .ok d) (h2:b d δ=some δ'):mAsg me b δ = .nx δ':=by unfold mAsg; rw [h,R.toO_ok,h2]; rfl
theorem zga {n:En→R Bool} {m m':En→O} {δ:En} (h:n δ = .ok true):mIfS n m m' δ=m δ:=by unfold mIfS; rw [h]; rfl
theorem zf1 {n:En→R Bool} {m m':En→O} {δ:En} (h:n δ = .ok false):mIfS n m m' δ=m' δ:=by unfold mIfS; rw [h]; rfl
theorem zcI {β:Type} {b:D→En→Option En} {m:En→O} (enc:β→D) (P:List β→En→Prop) (all:List β)
    (step:∀ pre x post δ,all=pre ++ x :: post→P pre δ→∃ δ1 δ2,b (enc x) δ=some δ1∧(m δ1 = .nx δ2∨m δ1 = .ct δ2)∧P (pre ++ [x]) δ2) (δ:En) (h:P [] δ):∃ δ2,zdt b m (all.map enc) δ = .nx δ2∧P all δ2:=by
  have key:∀ (post pre:List β) (δ:En),all=pre ++ post→P pre δ→∃ δ2,zdt b m (post.map enc) δ = .nx δ2∧P all δ2:=by
    intro post
    induction post with
    | nil=>intro pre δ e h; exact ⟨δ,rfl,by rw [e,List.append_nil]; exact h⟩
    | cons x post ih =>
      intro pre δ e h
      obtain ⟨δ1,δ2,h1,h2,h3⟩:=step pre x post δ e h
      obtain ⟨δ3,h4,h5⟩:=ih (pre ++ [x]) δ2 (by rw [e]; simp) h3
      refine ⟨δ3,?_,h5⟩
      rw [List.map_cons]
      unfold zdt
      rw [h1]
      rcases h2 with h2 | h2 <;> (simp only [h2]; exact h4)
  exact key all [] δ rfl h
end PM
namespace PM
open PySem L2
@[simp] theorem zqg (l:List Int):fLen [iL l]=some (.int l.length):=by simp [iL]
@[simp] theorem zqz (l:List Int):asL (iL l)=some (l.map .int):=rfl
theorem zfj {α:Type} {l:List α} {pre post:List (α × Nat)} {x:α × Nat} (h:l.zipIdx=pre ++ x :: post):x.2=pre.length∧l[x.2]?=some x.1∧∀ q ∈ pre,q.2 < x.2:=by
  have at':∀ (k:Nat) (y:α × Nat),(pre ++ x :: post)[k]?=some y→l[k]?=some y.1∧y.2=k:=by
    intro k y hk
    rw [← h,List.getElem?_zipIdx] at hk
    cases e:l[k]? with
    | none=>rw [e] at hk; cases hk
    | some a=>rw [e] at hk; cases hk; exact ⟨rfl,by simp⟩
  obtain ⟨h1,h2⟩:=at' pre.length x (by simp)
  refine ⟨h2,by rw [h2]; exact h1,fun q hq=>?_⟩
  obtain ⟨k,hk,e⟩:=List.getElem_of_mem hq
  obtain ⟨_,h3⟩:=at' k q (by rw [List.getElem?_append_left hk,List.getElem?_eq_getElem hk,e])
  omega
end PM
namespace PM
open PySem L2
theorem ziJ (l:List Int) (lo hi:Option Int):∃ cs:List Int,cutD (l.map .int) lo hi=cs.map .int∧cs.length ≤ l.length:=by
  refine ⟨(l.drop (HT.sIx l.length 0 lo)).take (HT.sIx l.length l.length hi - HT.sIx l.length 0 lo),?_,by rw [List.length_take,List.length_drop]; omega⟩
  unfold cutD
  rw [List.length_map,List.map_take,List.map_drop]
theorem zpJ {l r:List D} (h:l.length + r.length ≤ 100000):oCat (.lst l) (.lst r)=some (.lst (l ++ r)):=by
  show ifC _ _ _=_
  rw [zbj (zlP h)]
theorem znT {x y:D} (hx:zbc 8 x=true) (hy:zbc 8 y=true) (h:x=y):oNeD x y=some (.bl false):=by
  unfold oNeD
  rw [zbj ⟨hx,hy⟩]
  simp [h]
end PM
namespace PM
open PySem L2 PyProof.Rows
section
variable {K:Kx} {ca:Nat→Addr} {an:Nat→Str} {XO:XOT} {E:L2.St→XK} {ta tb te:TE} {ma mb me:En→R D} {X:Cx}
def zpa:R2:=fun x y H Q=>∃ l b xs zs,x = .ref l∧y = .ref b∧Rd H l (.lst xs)∧Rd H b (.lst zs)∧xs.length + zs.length ≤ sizeLine∧∀ p,H p=none→Q (.ref p) (upd H p (.lst (xs ++ zs)))
theorem zov:OpR X (binaryOp .Add) zpa:=by
  intro pins s σ H x y v u Q I rx ry h
  obtain ⟨l,b,xs,zs,rfl,rfl,hH,hB,hz,q⟩:=h
  cases rx
  cases ry
  obtain ⟨z,its,n,r,e⟩:=hH.ok I.hok
  obtain ⟨z2,its2,n2,r2,e2⟩:=hB.ok I.hok
  have hl:=r.length
  have hl2:=r2.length
  refine PySem.P.add_list e e2 ?_ (by rw [List.size_toArray,List.size_toArray]; omega)
  have ea:its.toArray ++ its2.toArray=(its ++ its2).toArray:=by simp
  rw [ea]
  exact ⟨.ref _,_,I.lnew (t':=s.toks) (r.append r2) (by rw [List.length_append]; omega),rfl,q _ I.fresh⟩
theorem zoL:SRo K zpa oCat:=by
  intro F H x y dx dy d Q s hx hy e q
  cases dx with
  | lst l =>
    cases dy with
    | lst r =>
      simp only [oCat] at e
      unfold ifC at e
      split at e
      · rename_i hc
        cases e
        obtain ⟨a,vs,rfl,h1,h2⟩:=hx
        obtain ⟨b,ws,rfl,g1,g2⟩:=hy
        exact ⟨a,b,vs,ws,rfl,rfl,h1,g1,by rw [h2.length,g2.length]; exact hc,fun p hp=>q p F _ (.newO s hp) (s.free hp) hp ⟨_,zai,h2.append g2⟩⟩
      · cases e
    | _=>cases e
  | _=>cases e
theorem zc5 {F:Hp}:∀ {ns:List Int} {xs:List V},RepL K F (ns.map .int) xs→xs=ns.map V.int
  | [],xs,h=>by simpa only [List.map_nil,RepL] using h
  | n :: ns,xs,h=>by
    simp only [List.map_cons,RepL,Rep] at h
    obtain ⟨v,r,rfl,rfl,h3⟩:=h
    rw [zc5 h3]; rfl
def rSum:List V→Hp→VK→Prop:=fun xs H Q=>∃ (p:Addr) (ns:List Int),xs = [.ref p]∧Rd H p (.lst (ns.map V.int))∧Q (.int ns.sum) H
theorem zkx {ds:List D} {d:D} (h:fSum ds=some d):∃ ns:List Int,ds = [.lst (ns.map .int)]∧d = .int ns.sum:=by
  unfold fSum at h
  split at h
  · rename_i l
    cases z:asIs l with
    | none=>rw [z] at h; cases h
    | some ns=>rw [z] at h; cases h; exact ⟨ns,by rw [zdH z],rfl⟩
  · cases h
theorem zk9:SC K rSum fSum:=by
  intro F H vs ds d Q s r e q
  obtain ⟨ns,rfl,rfl⟩:=zkx e
  cases r with
  | cons r r' =>
    cases r'
    obtain ⟨a,xs,rfl,h1,h2⟩:=r
    have ex:=zc5 h2
    subst ex
    exact ⟨a,ns,rfl,h1,q _ F H (.refl s) (by simp only [Rep])⟩
theorem zdj (hc:X.calm=true):zgV X (.builtin "sum") rSum:=by
  intro pins s σ H xs us Q I r h
  obtain ⟨p,ns,rfl,hq,q⟩:=h
  obtain ⟨u,rfl,rx⟩:=zgq r
  cases rx
  obtain ⟨z,its,n,rv,e⟩:=hq.ok I.hok
  obtain ⟨ts,rfl,htl⟩:∃ ts:List Tok,its=(ns.zip ts).map (fun p=>Value.int p.1 p.2)∧ts.length=ns.length:=by
    clear e hq q z
    induction ns generalizing its with
    | nil=>cases rv; exact ⟨[],rfl,rfl⟩
    | cons a l ih =>
      cases rv with
      | cons h t =>
        obtain ⟨tk,rfl⟩:=h
        obtain ⟨ts,rfl,hl⟩:=ih _ t
        exact ⟨tk :: ts,rfl,by simp [hl]⟩
  have ei:((ns.zip ts).map (fun p=>Value.int p.1 p.2)).toArray=intItems (ns.zip ts).toArray:=by simp [intItems]
  rw [ei] at e
  refine sum_intListG (I.ok.hd hc) ⟨_,e,rfl,n,rfl⟩ fun h' tk t' hk=>?_
  have es:preSum (numAt (ns.zip ts).toArray) (ns.zip ts).toArray.size=ns.sum:=by
    rw [preSum_eq,List.take_of_length_le (by simp)]
    have:(ns.zip ts).map (·.1)=ns:=List.map_fst_zip (by omega)
    show ((ns.zip ts).map (·.1)).sum=_
    rw [this]
  rw [es]
  exact ⟨.int ns.sum,H,I.kept (t':=tk) hk,⟨_,rfl⟩,q⟩
def toPy:Nat→D→PyData
  | _,.non=>.none
  | _,.int i=>.int i
  | n + 1,.tup l=>.tuple (l.map (toPy n))
  | n + 1,.lst l=>.list (l.map (toPy n))
  | _,_=>.none
theorem ziE:∀ (n:Nat) (d:D),zbc n d=true→(toPy n d).canLay0=true∧(toPy n d).depth ≤ n:=by
  intro n
  induction n with
  | zero =>
    intro d h
    cases d with
    | non=>exact ⟨rfl,Nat.le_refl _⟩
    | int i=>exact ⟨rfl,Nat.le_refl _⟩
    | _=>cases h
  | succ n ih =>
    have all:∀ l:List D,l.all (zbc n)=true→PyData.canLayAll0 (l.map (toPy n))=true∧PyData.depthAll (l.map (toPy n)) ≤ n:=by
      intro l
      induction l with
      | nil=>intro _; exact ⟨rfl,Nat.zero_le _⟩
      | cons a l ih2 =>
        intro h
        rw [List.all_cons,Bool.and_eq_true] at h
        obtain ⟨h1,h2⟩:=ih a h.1
        obtain ⟨h3,h4⟩:=ih2 h.2
        refine ⟨?_,?_⟩
        · simp only [List.map_cons,PyData.canLayAll0,h1,h3,Bool.and_self]
        · simp only [List.map_cons,PyData.depthAll]; omega
    intro d h
    cases d with
    | non=>exact ⟨rfl,Nat.zero_le _⟩
    | int i=>exact ⟨rfl,Nat.zero_le _⟩
    | tup l=>obtain ⟨h1,h2⟩:=all l h; exact ⟨by simpa only [toPy,PyData.canLay0] using h1,by simp only [toPy,PyData.depth]; omega⟩
    | lst l=>obtain ⟨h1,h2⟩:=all l h; exact ⟨by simpa only [toPy,PyData.canLay0] using h1,by simp only [toPy,PyData.depth]; omega⟩
    | _=>cases h
open Classical in
theorem zot:∀ (n:Nat) (d d':D),zbc n d=true→zbc n d'=true→PyData.eqv (toPy n d) (toPy n d')=decide (d=d'):=by
  intro n
  induction n with
  | zero =>
    intro d d' h h'
    cases d with
    | non=>cases d' <;> first | (simp [toPy,PyData.eqv]; done) | cases h'
    | int i =>
      cases d' with
      | int j=>simp only [toPy,PyData.eqv]; by_cases e:i=j <;> simp [e]
      | _=>first | (simp [toPy,PyData.eqv]; done) | cases h'
    | _=>cases h
  | succ n ih =>
    have all:∀ l l':List D,l.all (zbc n)=true→l'.all (zbc n)=true→PyData.eqvAll (l.map (toPy n)) (l'.map (toPy n))=decide (l=l'):=by
      intro l
      induction l with
      | nil=>intro l' _ _; cases l' <;> simp [PyData.eqvAll]
      | cons a l ih2 =>
        intro l' h h'
        cases l' with
        | nil=>simp [PyData.eqvAll]
        | cons b l' =>
          rw [List.all_cons,Bool.and_eq_true] at h h'
          simp only [List.map_cons,PyData.eqvAll,ih a b h.1 h'.1,ih2 l' h.2 h'.2]
          by_cases e1:a=b <;> by_cases e2:l=l' <;> simp [e1,e2]
    intro d d' h h'
    cases d with
    | non=>cases d' <;> first | (simp [toPy,PyData.eqv]; done) | cases h'
    | int i =>
      cases d' with
      | int j=>simp only [toPy,PyData.eqv]; by_cases e:i=j <;> simp [e]
      | _=>first | (simp [toPy,PyData.eqv]; done) | cases h'
    | tup l =>
      cases d' with
      | tup l'=>simp only [toPy,PyData.eqv,all l l' h h']; simp
      | _=>first | (simp [toPy,PyData.eqv]; done) | cases h'
    | lst l =>
      cases d' with
      | lst l'=>simp only [toPy,PyData.eqv,all l l' h h']; simp
      | _=>first | (simp [toPy,PyData.eqv]; done) | cases h'
    | _=>cases h
theorem zmL {pins:List (Addr × Obj)} {σ:L2.St} {H F:Hp} {s:Shared} (I:Inv X pins σ H s) (sm:Same F H):∀ (n:Nat) (d:D) (v:V) (u:Value),zbc n d=true→Rep ⟨X.K,ca,an⟩ F d v→RelV v u→∃ as,Reads s.heap u (toPy n d) as:=by
  intro n
  induction n with
  | zero =>
    intro d v u h r ru
    cases d with
    | non=>simp only [Rep] at r; subst r; cases ru; exact ⟨_,.none⟩
    | int i=>simp only [Rep] at r; subst r; obtain ⟨t,rfl⟩:=ru; exact ⟨_,.int i t⟩
    | _=>cases h
  | succ n ih =>
    have all:∀ (l:List D) (vs:List V) (us:List Value),l.all (zbc n)=true→RepL ⟨X.K,ca,an⟩ F l vs→Vals vs us→∃ as,ReadsAll s.heap us (l.map (toPy n)) as:=by
      intro l
      induction l with
      | nil=>intro vs us _ r ru; simp only [RepL] at r; subst r; cases ru; exact ⟨_,.nil⟩
      | cons a l ih2 =>
        intro vs us h r ru
        rw [List.all_cons,Bool.and_eq_true] at h
        simp only [RepL] at r
        obtain ⟨v,r',rfl,r1,r2⟩:=r
        cases ru with
        | cons ru ru' =>
          obtain ⟨as,h1⟩:=ih a v _ h.1 r1 ru
          obtain ⟨bs,h2⟩:=ih2 r' _ h.2 r2 ru'
          exact ⟨_,.cons h1 h2⟩
    intro d v u h r ru
    cases d with
    | non=>simp only [Rep] at r; subst r; cases ru; exact ⟨_,.none⟩
    | int i=>simp only [Rep] at r; subst r; obtain ⟨t,rfl⟩:=ru; exact ⟨_,.int i t⟩
    | tup l =>
      simp only [Rep] at r
      obtain ⟨a,vs,rfl,h1,h2⟩:=r
      cases ru
      obtain ⟨its,rv,⟨o,e,c,k,dd⟩,_⟩:=I.tuple (show SqT X.K H a vs from .inl (.inl (sm _ _ h1)))
      obtain ⟨as,h3⟩:=all l vs its h h2 rv
      exact ⟨_,.tuple e c dd (by simpa using h3)⟩
    | lst l =>
      simp only [Rep] at r
      obtain ⟨a,vs,rfl,h1,h2⟩:=r
      cases ru
      obtain ⟨its,rv,⟨o,k,e,c,_,dd⟩,_⟩:=I.list (show SqL X.K H a vs from .inl (PM.Same.rd sm h1))
      obtain ⟨as,h3⟩:=all l vs its h h2 rv
      exact ⟨_,.list e c dd (by simpa using h3)⟩
    | _=>cases h
theorem zhl {pins:List (Addr × Obj)} {σ:L2.St} {H F:Hp} {s:Shared} (I:Inv X pins σ H s) (sm:Same F H) {n:Nat} {d:D} {v:V} {u:Value} (h:zbc n d=true) (r:Top ⟨X.K,ca,an⟩ F H d v) (ru:RelV v u):∃ as,Reads s.heap u (toPy n d) as:=by
  have r':Rep ⟨X.K,ca,an⟩ (zbC F H) d v:=by
    cases d with
    | lst l =>
      obtain ⟨a,vs,rfl,h1,h2⟩:=r
      rcases h1 with h1 | ⟨o,h1⟩
      · exact zkz sm (.inr (.inl ⟨a,rfl,vs,h1,h2⟩))
      · simp only [Rep]
        refine ⟨a,vs,rfl,.inr ⟨o,?_⟩,h2.mono zdl⟩
        unfold zbC
        cases q:F a with
        | some u=>rw [sm _ _ q] at h1; exact h1
        | none=>simp only [h1]
    | dct ks l=>cases n <;> cases h
    | obj c ks l=>cases n <;> cases h
    | _=>exact Rep.mono zdl _ r
  exact zmL I (zka sm) n d v u h r' ru
open Classical in
def rEqD (K:Kx) (neg:Bool):R2:=fun x y H Q=>∃ (F:Hp) (dx dy:D),Same F H∧Top K F H dx x∧Top K F H dy y∧zbc 8 dx=true∧zbc 8 dy=true∧Q (.bl (if neg=true then !decide (dx=dy) else decide (dx=dy))) H
theorem zo0 (hu:X.A.units + 64 < cLine):OpR X (compareOp .NotEq) (rEqD ⟨X.K,ca,an⟩ true):=by
  intro pins s σ H x y v u Q I rx ry h
  obtain ⟨F,dx,dy,sm,tx,ty,px,py,q⟩:=h
  obtain ⟨as,ra⟩:=zhl I sm px tx rx
  obtain ⟨bs,rb⟩:=zhl I sm py ty ry
  obtain ⟨l1,l2⟩:=ziE 8 dx px
  obtain ⟨m1,m2⟩:=ziE 8 dy py
  refine SeqAt.compareNe_reads ra rb l1 m1 (by omega) ?_
  rw [zot 8 dx dy px py]
  exact ⟨.bl _,H,I,rfl,q⟩
theorem zpX:SR K (rEqD K true) oNeD:=by
  intro F H x y dx dy d Q s hx hy e q
  unfold oNeD ifC at e
  split at e
  · rename_i h
    cases e
    exact ⟨F,dx,dy,s,hx,hy,h.1,h.2,q _ F H (.refl s) (by simp only [Rep]; rfl)⟩
  · cases e
end
end PM
namespace L2
open PySem PySem.Spec PyProof.Rows
def Itv (K:PySem.W.Frag) (a:Addr) (n:Nat):It :=
  ⟨fun i H=>i < n∧∃ xs,SqL K H a xs∧xs.length=n,fun i H x H'=>H'=H∧∀ xs,SqL K H a xs→xs[n - 1 - i]?=some x,fun i _=>n ≤ i⟩
theorem zmJ {P:Program} {w:World} {K:PySem.W.Frag} {tg:Expr} (a it:Addr) (n:Nat):Turn P w K tg (Itv K a n) [it] it (fun i h=>i ≤ n∧h.IsRevIter it a ((n:Int) - 1 - i)) where
  mem:=by simp
  obj:=fun i h st b hb=>by
    have e:b=it:=by simpa using hb
    subst e
    obtain ⟨_,o,e,c,d⟩:=st
    exact ⟨o,e,fun v z=>by rw [d] at z; cases z⟩
  keep:=fun i h h' st k=>⟨st.1,st.2.at fun o e=>k it (by simp) o e⟩
  item:=by
    intro X hP hw hK hc i pins s σ H E I hf st hg
    subst hP hw hK
    obtain ⟨hi,xs,hq,hn⟩:=hg
    obtain ⟨its,rv,p,hz⟩:=I.list hq
    have hx:xs[n - 1 - i]?=some (xs[n - 1 - i]'(by omega)):=List.getElem?_eq_getElem _
    obtain ⟨u,hu,ru⟩:=rv.get hx
    obtain ⟨f0,f1,f2,f3,f4,f5⟩:=hf it (by simp)
    have e0:(n:Int) - 1 - i=((n - 1 - i:Nat):Int):=by omega
    have st1:=st.2
    rw [e0] at st1
    refine wpAny_pyNext_rev_item st1 p.isList (x:=u) (by simpa using hu) fun h' st' sb=>?_
    have I1:Inv X pins σ H { s with heap:=h' }:=I.turned (t':=s.toks) (fun b o hb e=>(sb.2 b hb).trans e) f0 f1 f3 f4 f5
    have st2:h'.IsRevIter it a ((n:Int) - 1 - ((i + 1:Nat):Int)):=by
      have e1:(n:Int) - 1 - ((i + 1:Nat):Int)=((n - 1 - i:Nat):Int) - 1:=by omega
      rw [e1]; exact st'
    obtain ⟨o,e,c,d⟩:=id st'
    exact ⟨u,rfl,znt (s:={ s with heap:=h' }) e c d (by decide) ⟨_,H,I1,ru,⟨rfl,fun ys hy=>by rw [I.list_inj hy hq]; exact hx⟩,⟨hi,st2⟩,fun b hb=>(hf b hb).1⟩⟩
  done:=by
    intro X hP hw hK hc i pins s σ H E I hf st hg
    subst hP hw hK
    obtain ⟨f0,f1,f2,f3,f4,f5⟩:=hf it (by simp)
    have st1:=st.2
    have e0:(n:Int) - 1 - i = -1:=by have:=st.1; have:n ≤ i:=hg; omega
    rw [e0] at st1
    exact wpAny_pyNext_rev_end (I.ok.hd hc) st1 fun h' eb=>⟨rfl,I.turned (t':=s.toks) (fun b o hb e=>eb b o hb e) f0 f1 f3 f4 f5⟩
  self:=fun _ _ _ _ _ st h=>wpAny_pyIter_revIter st.2 h
section
variable {X:Cx}
def iRev (K:PySem.W.Frag) (ta:TA):TI:=fun σ H R=>ta σ H fun vs H1=>∃ a xs,vs = [.ref a]∧SqL K H1 a xs∧R (Itv K a xs.length) H1
theorem znb {tg l:Expr} {ta:TA} {p pos:Pos} (hg:Gl X "reversed") (hm:X.mg "reversed"=none) (ha:PA X [l] ta) (hs:starEach [l] X.env = [(false,eval l X.env)]:=by rfl) :
    PI X tg (.Call (.Name "reversed" p) [l] [] pos) (iRev X.K ta):=by
  intro pins s σ H R I h
  refine Call_ (zeh I hg hm boot_reversed (PyProof.Rows.callWith_type1 (thn (ha pos pins s σ H _ I h) fun us s1 ⟨vs,H1,I1,r1,q1⟩=>?_) hs rfl))
  obtain ⟨a,xs,e,hq,q⟩:=q1
  subst e
  obtain ⟨u,rfl,rx⟩:=zgq r1
  cases rx
  obtain ⟨its,rv,pl,hz⟩:=I1.list hq
  have hl:=rv.length
  refine call_reversed_list pl.isList ?_
  have st:(s1.heap.push (revObj a ((its.toArray.size:Int) - 1))).IsRevIter s1.heap.objs.size a ((xs.length:Int) - 1 - ((0:Nat):Int)):=⟨_,Heap.get?_push_size _ rfl,rfl,by
    have e:((xs.length:Int) - 1 - ((0:Nat):Int))=(its.toArray.size:Int) - 1:=by simp; omega
    rw [e]; rfl⟩
  refine wpAny_pyIter_revIter (s:={ s1 with heap:=s1.heap.push (revObj a ((its.toArray.size:Int) - 1)) }) st ?_
  refine ⟨s1.heap.objs.size,[s1.heap.objs.size],_,_,H1,rfl,I1.kept (t':=s1.toks) fun b o e=>Heap.get?_push_of_some _ e,zmJ a _ xs.length,⟨Nat.zero_le _,st⟩,fun b hb=>?_,q⟩
  have e:b=s1.heap.objs.size:=by simpa using hb
  subst e
  exact I1.fpOk (Nat.le_refl _) (I1.hok.fresh (Nat.le_refl _))
end
end L2
namespace PM
open PySem L2
section
variable {K:Kx} {XO:XOT} {E:L2.St→XK}
theorem zi1 {a:Addr} {ds:List D} {vs:List V} {F1:Hp} {P:Hp→Hp→Prop} (r:RepL K F1 ds vs) (h:∀ F2 H2,P F2 H2→Same F1 F2∧Same F2 H2∧SqL K.f H2 a vs):IsIt K (Itv K.f a vs.length) P ds.reverse:=by
  intro F2 H2 p i
  obtain ⟨s1,s2,q⟩:=h F2 H2 p
  have hl:=r.length
  refine ⟨fun d hd=>?_,fun hn=>?_⟩
  · have hi:i < ds.length:=by
      have:=(List.getElem?_eq_some_iff.mp hd).1
      simpa using this
    rw [List.getElem?_reverse hi] at hd
    obtain ⟨v,hv,rv⟩:=r.get hd
    refine ⟨⟨by omega,vs,q,rfl⟩,fun x H' y=>?_⟩
    obtain ⟨rfl,y⟩:=y
    have z:=y vs q
    rw [hl] at z
    rw [hv] at z; cases z
    exact ⟨F2,.refl s2,Rep.mono s1 _ rv⟩
  · have:ds.reverse.length ≤ i:=List.getElem?_eq_none_iff.mp hn
    rw [List.length_reverse] at this
    show vs.length ≤ i
    omega
theorem zhN {l r:List D} (h:rev1 l=some r):∃ x,l = [.lst x]∧r=x.reverse:=by
  unfold rev1 at h
  split at h
  · cases h; exact ⟨_,rfl,rfl⟩
  · cases h
theorem zpy {tl:TA} {ml:En→R (List D)} (h:SA K XO E tl ml):SI K XO E (iRev K.f tl) (mRev ml):=by
  intro Λ F0 H0 F H σ δ R I a
  refine h Λ F0 H0 F H σ δ _ I (a.bind.imp fun ds F1 H1 e1 a1 vs r=>?_)
  cases q:rev1 ds with
  | none=>rw [q] at a1; exact a1.elim
  | some z =>
    rw [q] at a1
    obtain ⟨l,rfl,rfl⟩:=zhN q
    obtain ⟨v,rfl,r'⟩:=RepL.one r
    simp only [Rep] at r'
    obtain ⟨a,vs,rfl,h1,h2⟩:=r'
    exact ⟨a,vs,rfl,.inl (PM.Same.rd e1.fh h1),a1 F1 H1 (.refl e1.fh) _ (zi1 h2 fun F2 H2 x=>⟨x.1,x.2,.inl (PM.Same.rd x.2 (PM.Same.rd x.1 h1))⟩)⟩
theorem zoj {tl:TA} {ml:En→R (List D)} (h:SAr K XO E tl ml):SIc K XO E (iRev K.f tl) (mRev ml):=by
  intro Λ F0 H0 F H σ δ R I a
  refine h Λ F0 H0 F H σ δ _ I (a.bind.imp fun ds F1 H1 e1 a1 vs r=>?_)
  cases q:rev1 ds with
  | none=>rw [q] at a1; exact a1.elim
  | some z =>
    rw [q] at a1
    obtain ⟨l,rfl,rfl⟩:=zhN q
    cases r with
    | cons r r' =>
      cases r'
      obtain ⟨a,vs,rfl,h1,h2⟩:=r
      exact ⟨a,vs,rfl,.inl h1,a1 F1 H1 (.refl e1.fh) _ (zi1 h2 fun F2 H2 x=>⟨x.ff,x.fh,.inl (PM.Same.rd x.hh h1)⟩)⟩
end
end PM
namespace PM
open PySem L2
def xoK (K:Kx):XOT:=fun x F _ C dct=>C = .ref (K.ca x.c)∧XA K F x.c dct
def zhM (c:Nat) (ml:En→R (List D)) (δ:En):O:=(ml δ).toO δ fun l=>ifC (l.length ≤ sizeLine) (.ex δ ⟨c⟩) .no
section
variable {K:Kx} {E:L2.St→XK} {ta:TE} {ma:En→R D} {t u:TS} {m n:En→O} {Λ:List (Nat × Addr × HO)} {F0 H0 F H:Hp} {σ:L2.St} {δ:En}
theorem zl0 {C:Addr} {c:Nat} {tl:TA} {ml:En→R (List D)} (hC:C=K.ca c) (hax:c < 16) (h:SA K (xoK K) E tl ml):SS K (xoK K) E (zni C E tl) (zhM c ml):=by
  intro Λ F0 H0 F H σ δ Dn I a
  refine h Λ F0 H0 F H σ δ _ I ((AftS.of I a).imp fun l F1 H1 e p vs r=>?_)
  unfold ifC at p
  split at p
  · rename_i hl
    exact ⟨by rw [r.length]; exact hl,p σ F1 H1 _ _ (I.grow e) ⟨by rw [hC],by unfold XA; rw [if_pos hax]⟩⟩
  · exact p.elim
theorem EnvOk.unset {i:Nat} (I:EnvOk K Λ F0 H0 F H σ δ) (hl:∃ x,δ[i]?=some x∧∀ d,x ≠ .l d):EnvOk K Λ F0 H0 F H (σ.set i none) (δ.set i .no):=by
  obtain ⟨x,hx,hn⟩:=hl
  have hi:i < δ.length:=(List.getElem?_eq_some_iff.mp hx).1
  refine ⟨I.ext,by simp [I.len],fun j=>?_,fun j k a hjk h1 h2 h3 h4=>?_,fun y hy=>?_,I.tabsOf (fun k ll h=>by
      by_cases e:i=k
      · subst e; rw [List.getElem?_set_self hi] at h; cases h
      · rw [List.getElem?_set_ne e] at h; exact ⟨h,List.getElem?_set_ne e⟩) (fun _ _ _ _ _ _ t f _=>⟨t,fun b hb=>(f b hb).2⟩) fun k j ll a b bs _ _ _ _ ho hs=>.inl (by
      by_cases e:i=j
      · subst e; rw [List.getElem?_set_self hi] at ho; cases ho
      · rw [List.getElem?_set_ne e] at ho hs; exact ⟨ho,hs⟩)⟩
  · by_cases e:i=j
    · subst e
      rw [List.getElem?_set_self hi]
      trivial
    · rw [List.getElem?_set_ne e,List.getElem?_set_ne e]
      exact I.slot j
  · have ne:∀ k:Nat,Sl.own (δ.set i .no)[k]?=true→i ≠ k:=by
      rintro k h rfl
      rw [List.getElem?_set_self hi] at h
      cases h
    have n1:=ne j h1
    have n2:=ne k h2
    rw [List.getElem?_set_ne n1] at h1 h3
    rw [List.getElem?_set_ne n2] at h2 h4
    exact I.dist j k a hjk h1 h2 h3 h4
  · obtain ⟨⟨d',h1⟩,h2,h3⟩:=I.lent y hy
    have n:i ≠ y.1:=by
      intro e
      rw [← e,hx] at h1
      exact hn d' (Option.some.inj h1)
    exact ⟨⟨d',by rw [List.getElem?_set_ne n]; exact h1⟩,by rw [List.getElem?_set_ne n]; exact h2,h3⟩
def zfl (i:Nat) (δ:En):Option En:=match δ[i]? with | none=>none | some (.l _)=>none | some _=>some (δ.set i .no)
theorem zgi {i:Nat} {δ':En} (h:zfl i δ=some δ') (I:EnvOk K Λ F0 H0 F H σ δ):EnvOk K Λ F0 H0 F H (σ.set i none) δ':=by
  unfold zfl at h
  split at h
  · cases h
  · cases h
  · rename_i x h2 h1
    cases h
    exact I.unset ⟨x,h1,fun d' z=>h2 d' (by rw [z])⟩
def ziv (i:Nat):O→O
  | .nx δ=>(match zfl i δ with | some δ'=>.nx δ' | none=>.no)
  | .bk δ=>(match zfl i δ with | some δ'=>.bk δ' | none=>.no)
  | .ct δ=>(match zfl i δ with | some δ'=>.ct δ' | none=>.no)
  | .ex _ _=>.no
  | r=>r
def mTry (mb:En→O) (sub:Nat→Bool) (i:Nat) (mh:En→O) (δ:En):O:=match mb δ with
  | .ex δ' x=>if sub x.c=true then (match zat i (.exc x.c) δ' with | some δ1=>ziv i (mh δ1) | none=>.no) else .no
  | r=>r
theorem zoG {D':Addr} {tb:(L2.St→XK)→TS} {th:TS} {mb mh:En→O} {sub:Nat→Bool} {i:Nat} (hsub:∀ c,sub c=true→PySem.W.kitCls K.f (.ref (K.ca c)) (.ref D')=some true)
    (hb:∀ E',SS K (xoK K) E' (tb E') mb) (hh:SS K (xoK K) EN th mh):SS K (xoK K) E (tTry K.f D' tb i th) (mTry mb sub i mh):=by
  intro Λ F0 H0 F H σ δ Dn I a
  refine hb _ Λ F0 H0 F H σ δ Dn I ?_
  unfold mTry at a
  cases q:mb δ with
  | no=>rw [q] at a; exact a
  | nx δ'=>rw [q] at a; exact a
  | rt d=>rw [q] at a; exact a
  | ro d=>rw [q] at a; exact a
  | bk δ'=>rw [q] at a; exact a
  | ct δ'=>rw [q] at a; exact a
  | ex δ' x =>
    rw [q] at a
    simp only at a
    split at a
    · rename_i hs
      rintro σ1 F1 H1 C dct I1 ⟨rfl,hxa⟩
      refine ⟨_,rfl,hsub _ hs,fun ea hea=>?_⟩
      have sF:Same F1 (upd F1 ea (excO (K.ca x.c) dct ea)):=Same.upd (I1.same.free hea)
      have I2:=I1.grow (Ext.new (o:=excO (K.ca x.c) dct ea) I1.same hea)
      cases qb:zat i (.exc x.c) δ' with
      | none=>rw [qb] at a; exact a.elim
      | some δ1 =>
        rw [qb] at a
        simp only at a
        refine zax (K:=K) Λ F0 H0 _ _ σ1 δ' (.exc x.c) (.ref ea) δ1 (fun σ2 H2=>th { nx:=fun σ2 H2=>Dn.nx (σ2.set i none) H2,rt:=Dn.rt,bk:=fun σ2 H2=>Dn.bk (σ2.set i none) H2,ct:=fun σ2 H2=>Dn.ct (σ2.set i none) H2 } σ2 H2) I2 ?_ qb fun σ2 I3=>?_
        · simp only [Rep]
          exact ⟨ea,dct,rfl,zai,hxa.mono sF⟩
        · refine hh Λ F0 H0 _ _ σ2 δ1 _ I3 ?_
          cases qh:mh δ1 with
          | no=>rw [qh] at a; exact a
          | rt d=>rw [qh] at a; exact a
          | ro d=>rw [qh] at a; exact a
          | ex _ _=>rw [qh] at a; exact a.elim
          | nx δ2 =>
            rw [qh] at a
            simp only [ziv] at a
            cases z:zfl i δ2 with
            | none=>rw [z] at a; exact a.elim
            | some δ3=>rw [z] at a; exact fun σ F H J=>a _ F H (zgi z J)
          | bk δ2 =>
            rw [qh] at a
            simp only [ziv] at a
            cases z:zfl i δ2 with
            | none=>rw [z] at a; exact a.elim
            | some δ3=>rw [z] at a; exact fun σ F H J=>a _ F H (zgi z J)
          | ct δ2 =>
            rw [qh] at a
            simp only [ziv] at a
            cases z:zfl i δ2 with
            | none=>rw [z] at a; exact a.elim
            | some δ3=>rw [z] at a; exact fun σ F H J=>a _ F H (zgi z J)
    · exact a.elim
def zeb (tab:Nat→Option Bool) (d:D):Option D:=match d with | .exc c=>(tab c).map .bl | _=>none
theorem zey {w:V} {cv:Value} {tab:Nat→Option Bool} (hw:clsV w=some cv) (hk:∀ c b,tab c=some b→ExcCls K.f (K.ca c)∧PySem.W.kitOne K.f (.ref (K.ca c)) cv=some b) (ha:SEr K XO E ta ma) :
    SE K XO E (tCB (rIsX K.f) (zci ta (zci (tC w) tNil))) (m1 (zeb tab) ma):=by
  intro Λ F0 H0 F H σ δ Q I a
  refine ha Λ F0 H0 F H σ δ _ I (a.bind.imp fun d F1 H1 e1 a1 x rx=>?_)
  cases d with
  | exc c =>
    simp only [Top,Rep] at rx
    obtain ⟨p,dct,rfl,h1,hxa⟩:=rx
    simp only [zeb] at a1
    cases z:tab c with
    | none=>rw [z] at a1; exact a1.elim
    | some b =>
      rw [z] at a1
      obtain ⟨k1,k2⟩:=hk c b z
      exact ⟨p,_,dct,w,cv,b,rfl,hw,e1.fh _ _ h1,fun dx ed=>by
        unfold XA at hxa
        split at hxa
        · rw [hxa] at ed; cases ed
        · obtain ⟨dx',e2,e3⟩:=hxa
          rw [e2] at ed; cases ed
          exact ⟨_,e1.fh _ _ e3⟩,k1,k2,a1 F1 H1 (.refl e1.fh) _ (by simp only [Rep])⟩
  | _=>exact a1.elim
end
end PM
namespace L2
open PySem PySem.Spec PyProof.Rows
section
variable {P:Program} {w:World} {B:Around} {Z:Result→Shared→Prop} {J S:Addr} {fp wr:List Addr} {n:Nat} {Pv:Nat→Value→Prop} {Sn:Nat→Heap→Prop}
theorem zgI:(toString "max" ++ toString ".loop" : String) = "max.loop":=by decide
theorem zp5 (W:Walks P w B.in1 J fp wr n Pv Sn) (bt:Nat→Nat→Bool) (cmp:CmpOf P w B.in1 .Gt Pv bt) (nS:S ∉ fp) (df:Value):∀ (r i:Nat) (s:Shared) (best:Value) (c:Nat),i + 1 + r=n→Sn (i + 1) s.heap→Pv (argBest bt i) best →
    s.heap.get? S=some { cls:=.type "list",dict:=none,data:=.seq #[best,best] c,slots:=#[] } →
    (∀ v h' tk,Pv (argBest bt (n - 1)) v→(∀ b o,b ∉ wr→b ≠ S→s.heap.get? b=some o→h'.get? b=some o)→Z (.ok (.ret v)) { s with heap:=h',toks:=tk }) →
    codeAny (model P w) B (.builtin "max.loop" ⟨[.ref J,.none,.ref S],[("default",df)]⟩) Z s:=by
  have nw:S ∉ wr:=fun z=>nS (W.sub _ z)
  intro r
  induction r with
  | zero =>
    intro i s best c hr st pb atS fin
    have ei:i + 1=n:=hr
    refine codeAny_builtin F.entry_max_loop ((Around.under_plainId F.plain_max_loop (A:=B) _).symm ▸ ?_)
    refine wpAny_bind (wpAny_seqItems atS rfl (wpAny_bind (wpAny_tryCatch (W.done s _ _ (ei ▸ st) fun h1 tk kp=>?_))))
    have atS1:=kp S _ nw atS
    refine wpAny_bind (wpAny_updateSeq atS1 rfl (wpAny_bind (wpAny_letGo (wpAny_pure (fin best _ tk ?_ fun b o g1 g2 e=>?_)))))
    · rw [← ei]; exact pb
    · exact (Heap.get?_update_other _ _ (Ne.symm g2)).trans (kp b o g1 e)
  | succ r ih =>
    intro i s best c hr st pb atS fin
    have lt:i + 1 < n:=by omega
    refine codeAny_builtin F.entry_max_loop ((Around.under_plainId F.plain_max_loop (A:=B) _).symm ▸ ?_)
    refine wpAny_bind (wpAny_seqItems atS rfl (wpAny_bind (wpAny_tryCatch (W.item (i + 1) s _ _ lt st fun v h1 tk pv st1 kp=>?_))))
    have atS1:=kp S _ nw atS
    refine wpAny_bind (wpAny_pure (wpAny_bind (wpAny_tryCatch (wpAny_holding (wpAny_bind (cmp (i + 1) (argBest bt i) v best _ _ _ pv pb (wpAny_bind (wpAny_holding (wpAny_truthy_bool (wpAny_bind (wpAny_letGo (wpAny_pure ?_))))))))))))
    cases hb:bt (i + 1) (argBest bt i) with
    | true =>
      simp only [if_true]
      refine wpAny_bind (wpAny_updateSeq atS1 rfl (wpAny_bind (wpAny_letGo ?_)))
      rw [zgI]
      refine wpAny_pure ⟨plainId_quiet F.plain_max_loop _,ih (i + 1) _ v _ (by omega) (W.frame _ _ _ st1 fun b g o e=>(Heap.get?_update_other _ _ (fun z:S=b=>nS (z ▸ g))).trans e) ?_ (Heap.get?_update_self _ atS1 rfl) fun v2 h2 tk2 p2 k2=>?_⟩
      · simp only [argBest,hb,if_true]; exact pv
      · exact fin v2 h2 tk2 p2 fun b o g1 g2 e=>k2 b o g1 g2 ((Heap.get?_update_other _ _ (Ne.symm g2)).trans (kp b o g1 e))
    | false =>
      simp only [Bool.false_eq_true,if_false]
      refine wpAny_bind (wpAny_letGo ?_)
      rw [zgI]
      refine wpAny_pure ⟨plainId_quiet F.plain_max_loop _,ih (i + 1) _ best c (by omega) st1 ?_ atS1 fun v2 h2 tk2 p2 k2=>?_⟩
      · simp only [argBest,hb,Bool.false_eq_true,if_false]; exact pb
      · exact fin v2 h2 tk2 p2 fun b o g1 g2 e=>k2 b o g1 g2 (kp b o g1 e)
theorem zmI (W:Walks P w B.in1 J fp wr n Pv Sn) (bt:Nat→Nat→Bool) (cmp:CmpOf P w B.in1 .Gt Pv bt) (nS:S ∉ fp) (df:Value) {s:Shared} {c:Nat} (st:Sn 0 s.heap) (atS:s.heap.get? S=some { cls:=.type "list",dict:=none,data:=.seq #[] c,slots:=#[] })
    (f0:n=0→∀ h' tk,(∀ b o,b ∉ wr→b ≠ S→s.heap.get? b=some o→h'.get? b=some o)→Z (.ok (.ret df)) { s with heap:=h',toks:=tk })
    (fin:0 < n→∀ v h' tk,Pv (argBest bt (n - 1)) v→(∀ b o,b ∉ wr→b ≠ S→s.heap.get? b=some o→h'.get? b=some o)→Z (.ok (.ret v)) { s with heap:=h',toks:=tk }) :
    codeAny (model P w) B (.builtin "max.loop" ⟨[.ref J,.none,.ref S],[("default",df)]⟩) Z s:=by
  have nw:S ∉ wr:=fun z=>nS (W.sub _ z)
  refine codeAny_builtin F.entry_max_loop ((Around.under_plainId F.plain_max_loop (A:=B) _).symm ▸ ?_)
  refine wpAny_bind (wpAny_seqItems atS rfl ?_)
  by_cases h0:n=0
  · refine wpAny_bind (wpAny_tryCatch (W.done s _ _ (h0 ▸ st) fun h1 tk kp=>?_))
    exact wpAny_bind (wpAny_rule (wpAny_pure (f0 h0 h1 tk fun b o g1 _ e=>kp b o g1 e)))
  · have hp:0 < n:=by omega
    refine wpAny_bind (wpAny_tryCatch (W.item 0 s _ _ hp st fun v h1 tk pv st1 kp=>?_))
    have atS1:=kp S _ nw atS
    refine wpAny_bind (wpAny_pure (wpAny_bind (wpAny_updateSeq atS1 rfl ?_)))
    rw [zgI]
    refine wpAny_pure ⟨plainId_quiet F.plain_max_loop _,zp5 W bt cmp nS df (n - 1) 0 _ v _ (by omega) (W.frame _ _ _ st1 fun b g o e=>(Heap.get?_update_other _ _ (fun z:S=b=>nS (z ▸ g))).trans e) pv (Heap.get?_update_self _ atS1 rfl) fun v2 h2 tk2 p2 k2=>?_⟩
    exact fin hp v2 h2 tk2 p2 fun b o g1 g2 e=>k2 b o g1 g2 ((Heap.get?_update_other _ _ (Ne.symm g2)).trans (kp b o g1 e))
end
section
variable {P:Program} {w:World} {B:Around} {E:Value→Shared→Prop} {s:Shared} {Q:Value→Shared→Prop} {l:Addr} {xs:Array (Int × Tok)} {df:Value}
theorem zoh (a b:Value):argsOk "max" ⟨[a],[("default",b)]⟩:=by
  unfold argsOk
  kernel_rfl
theorem zol (hh:B.handled=none) (hl:s.heap.IsList l (intItems xs)) (f0:xs.size=0→∀ h' tk,(∀ b o,s.heap.get? b=some o→h'.get? b=some o)→Q df { s with heap:=h',toks:=tk })
    (fin:0 < xs.size→∀ v h' tk,(intItems xs)[argBest (fun i j=>decide (numAt xs i > numAt xs j)) (xs.size - 1)]?=some v→(∀ b o,s.heap.get? b=some o→h'.get? b=some o)→Q v { s with heap:=h',toks:=tk }) :
    wpAny (model P w) B (call (.builtin "max") [.ref l] [("default",df)]) Q E s:=by
  have main:wpAny (model P w) B.in1 (Builtin.«max» ⟨[.ref l],[("default",df)]⟩) (fun r s'=>match r with
      | .done f=>(match (Except.ok f:Result) with | .ok (.ret v)=>Q v s' | .ok _=>False | .error e=>E e s')
      | .again c'=>c'.quiet=true∧codeAny (model P w) B c' (fun r s'=>match r with | .ok (.ret v)=>Q v s' | .ok _=>False | .error e=>E e s') s') E s:=by
    show wpAny _ B.in1 (Builtin.Builtins.bindParams "max" ["key","default"] 0 ⟨[],[("default",df)]⟩ >>= _) _ _ s
    refine wpAny_bind (wpAny_of_eq (show Builtin.Builtins.bindParams "max" ["key","default"] 0 ⟨[],[("default",df)]⟩=pure [none,some df] from rfl) (wpAny_bind (wpAny_pure (wpAny_bind (iter_intList hl fun s2 e st below ne=>?_)))))
    subst e
    refine wpAny_bind (wpAny_newObj_type ?_)
    rw [zgI]
    have out:∀ b ∈ [s.heap.objs.size,l],b ≠ (s.heap.push { cls:=.type "list_iterator",data:=.fields #[.ref l,.int 0 0] }).objs.size:=fun b hb z=>absurd (below b hb) (by rw [z]; exact Nat.lt_irrefl _)
    have W:=Walks.list (prog:=P) (w:=w) (A:=B.in1) hh s.heap.objs.size l ne (intItems xs)
    refine wpAny_pure ⟨plainId_quiet F.plain_max_loop _,zmI W _ (CmpOf.ints_gt (numAt xs) (fun _ _=>intItems_at)) (fun z=>out _ z rfl) df (W.frame _ _ _ st fun b _ o e=>Heap.get?_push_of_some _ e) (Heap.get?_push_size _ rfl) (fun h0 h' tk kp=>?_) fun hp v h' tk pv kp=>?_⟩
    · refine f0 (by simpa [intItems] using h0) h' tk fun b o e=>?_
      have e1:=Heap.get?_push_of_some { cls:=.type "list_iterator",data:=.fields #[.ref l,.int 0 0] } e
      exact kp b o (fun z => by have : b = s.heap.objs.size := by simpa using z
                                exact Nat.lt_irrefl _ (this ▸ Heap.lt_size e)) (Nat.ne_of_lt (Heap.lt_size e1)) (Heap.get?_push_of_some _ e1)
    · refine fin (by simpa [intItems] using hp) v h' tk (by simpa [intItems] using pv) fun b o e=>?_
      have e1:=Heap.get?_push_of_some { cls:=.type "list_iterator",data:=.fields #[.ref l,.int 0 0] } e
      exact kp b o (fun z => by have : b = s.heap.objs.size := by simpa using z
                                exact Nat.lt_irrefl _ (this ▸ Heap.lt_size e)) (Nat.ne_of_lt (Heap.lt_size e1)) (Heap.get?_push_of_some _ e1)
  refine wpAny_call (codeAny_call_builtin F.plain_max F.entry_max ?_)
  simp only [checkBuiltinCall,F.kind_max]
  cases sg:Manifest.signature? "max" with
  | none=>exact wpAny_pure main
  | some q =>
    have ok:=zoh (.ref l) df
    simp only [argsOk,sg] at ok
    show wpAny _ B.in1 (Bind.checkArgs "max" q ⟨[.ref l],[("default",df)]⟩) _ _ s
    rw [show Bind.checkArgs "max" q ⟨[.ref l],[("default",df)]⟩=pure () from ok]
    exact wpAny_pure main
end
end L2
namespace L2
open PySem PySem.Spec PyProof.Rows
def zpT (ta:TA) (td:TE):TE:=fun σ H Q=>ta σ H fun vs H1=>(zci td tNil) σ H1 fun zs H2=>∃ (y:V) (a:Addr) (ns:List Int),zs = [y]∧vs = [.ref a]∧Rd H2 a (.lst (ns.map V.int))∧Q (match ns with | []=>y | n :: l=>.int (PM.maxI l n)) H2
theorem maxI_ge:∀ (l:List Int) (m:Int),m ≤ PM.maxI l m∧(∀ a ∈ l,a ≤ PM.maxI l m)∧(PM.maxI l m=m∨PM.maxI l m ∈ l)
  | [],m=>⟨Int.le_refl _,fun _ h=>(by cases h),.inl rfl⟩
  | a :: l,m=>by
    obtain ⟨h1,h2,h3⟩:=maxI_ge l (if a > m then a else m)
    unfold PM.maxI
    have e:(if a > m then a else m)=a∧a > m∨(if a > m then a else m)=m∧¬ a > m:=by split <;> simp_all
    refine ⟨by omega,fun b hb=>?_,?_⟩
    · rcases List.mem_cons.mp hb with rfl | hb
      · omega
      · exact h2 b hb
    · rcases h3 with h3 | h3
      · rcases e with ⟨e,_⟩ | ⟨e,_⟩
        · exact .inr (by rw [h3,e]; exact List.mem_cons_self)
        · exact .inl (by rw [h3,e])
      · exact .inr (List.mem_cons_of_mem _ h3)
section
variable {X:Cx}
theorem znP {e d:Expr} {ta:TA} {td:TE} {p pos kp:Pos} (hc:X.calm=true) (hg:Gl X "max") (hm:X.mg "max"=none) (ha:PA X [e] ta) (hd:PE X d td)
    (he:backTo pos (starEach [e] X.env)=(false,eval e X.env) :: backTo pos (starEach [] X.env):=by rfl) (hpl:(backTo pos (starEach [e] X.env)).any (·.1)=false:=by rfl):PE X (.Call (.Name "max" p) [e] [⟨some "default",d,kp⟩] pos) (zpT ta td):=by
  intro pins s σ H Q I h
  refine wpAny_Call_Name_kw (zeh I hg hm boot_max ?_)
  refine callWith_kw (thn (ha pos pins s σ H _ I h) fun us s1 ⟨vs,H1,I1,r1,q1⟩=>?_) he hpl
  refine thn (znQ hd zpn pos pins s1 σ H1 _ I1 q1) fun ws s2 ⟨zs,H2,I2,rz,y,a,ns,e1,e2,hq,q⟩=>?_
  subst e1 e2
  obtain ⟨u,rfl,rx⟩:=zgq r1
  cases rx
  obtain ⟨df,rfl,ry⟩:=zgq rz
  obtain ⟨z,its,n,rv,eh⟩:=hq.ok I2.hok
  obtain ⟨ts,rfl,htl⟩:∃ ts:List Tok,its=(ns.zip ts).map (fun p=>Value.int p.1 p.2)∧ts.length=ns.length:=by
    clear eh hq q z
    induction ns generalizing its with
    | nil=>cases rv; exact ⟨[],rfl,rfl⟩
    | cons a l ih =>
      cases rv with
      | cons h t =>
        obtain ⟨tk,rfl⟩:=h
        obtain ⟨ts,rfl,hl⟩:=ih _ t
        exact ⟨tk :: ts,rfl,by simp [hl]⟩
  have ei:((ns.zip ts).map (fun p=>Value.int p.1 p.2)).toArray=intItems (ns.zip ts).toArray:=by simp [intItems]
  rw [ei] at eh
  have en:∀ j,numAt (ns.zip ts).toArray j=ns.getD j 0:=fun j=>by
    rw [numAt_eq]
    have:(ns.zip ts).map (·.1)=ns:=List.map_fst_zip (by omega)
    show ((ns.zip ts).map (·.1)).getD j 0=_
    rw [this]
  have esz:(ns.zip ts).toArray.size=ns.length:=by simp; omega
  show wpAny _ _ (call (.builtin "max") [.ref a] [("default",df)]) _ _ s2
  refine zol (I2.ok.hd hc) ⟨_,eh,rfl,n,rfl⟩ (fun h0 h' tk hk=>?_) fun hp v h' tk hv hk=>?_
  · rw [esz] at h0
    have:ns = []:=List.length_eq_zero_iff.mp h0
    subst this
    exact ⟨y,H2,I2.kept (t':=tk) hk,ry,q⟩
  · rw [esz] at hp
    cases ns with
    | nil=>simp at hp
    | cons m l =>
      obtain ⟨t,rfl⟩:=intItems_at hv
      refine ⟨.int (PM.maxI l m),H2,I2.kept (t':=tk) hk,⟨t,?_⟩,q⟩
      congr 1
      obtain ⟨g1,g2⟩:=argBest_gt (numAt ((m :: l).zip ts).toArray) (((m :: l).zip ts).toArray.size - 1)
      obtain ⟨k1,k2,k3⟩:=maxI_ge l m
      have lb:∀ a ∈ m :: l,a ≤ numAt ((m :: l).zip ts).toArray (argBest (fun i j=>decide (numAt ((m :: l).zip ts).toArray i > numAt ((m :: l).zip ts).toArray j)) (((m :: l).zip ts).toArray.size - 1)):=fun a ha=>by
        obtain ⟨j,hj,ej⟩:=List.getElem_of_mem ha
        have:=g2 j (by rw [esz]; omega)
        rw [en j,List.getD_eq_getElem?_getD,List.getElem?_eq_getElem hj,ej] at this
        exact this
      have ub:numAt ((m :: l).zip ts).toArray (argBest (fun i j=>decide (numAt ((m :: l).zip ts).toArray i > numAt ((m :: l).zip ts).toArray j)) (((m :: l).zip ts).toArray.size - 1)) ≤ PM.maxI l m:=by
        generalize argBest (fun i j=>decide (numAt ((m :: l).zip ts).toArray i > numAt ((m :: l).zip ts).toArray j)) (((m :: l).zip ts).toArray.size - 1)=j at g1
        rw [en j]
        rw [esz] at g1
        have hj:j < (m :: l).length:=by omega
        have hm:(m :: l).getD j 0 ∈ m :: l:=by rw [List.getD_eq_getElem?_getD,List.getElem?_eq_getElem hj]; exact List.getElem_mem hj
        rcases List.mem_cons.mp hm with z | z
        · rw [z]; exact k1
        · exact k2 _ z
      have hm:PM.maxI l m ∈ m :: l:=k3.elim (fun z=>by rw [z]; exact List.mem_cons_self) fun z=>List.mem_cons_of_mem _ z
      exact Int.le_antisymm ub (lb _ hm)
end
end L2
namespace PM
open PySem L2
section
variable {K:Kx} {XO:XOT} {E:L2.St→XK} {td te:TE} {md me:En→R D}
theorem zjF {ds:List D} {d r:D} (h:zh0 ds d=some r):∃ ns:List Int,ds = [.lst (ns.map .int)]∧r=match ns with | []=>d | n :: l=>.int (maxI l n):=by
  unfold zh0 at h
  split at h
  · cases h; exact ⟨[],rfl,rfl⟩
  · rename_i a l
    cases z:asIs l with
    | none=>rw [z] at h; cases h
    | some ns=>rw [z] at h; cases h; exact ⟨a :: ns,by rw [zdH z]; rfl,rfl⟩
  · cases h
theorem zox {tl:TA} {ml:En→R (List D)} (hl:SAr K XO E tl ml) (hd:SE K XO E td md):SE K XO E (zpT tl td) (zmv ml md):=by
  intro Λ F0 H0 F H σ δ Q I a
  refine hl Λ F0 H0 F H σ δ _ I (a.bind.imp fun ds F1 H1 e1 a1 vs r=>?_)
  refine hd Λ F0 H0 F1 H1 σ δ _ (I.grow e1) (a1.bind.imp fun d F2 H2 e2 a2 y ry=>?_)
  cases q:zh0 ds d with
  | none=>rw [q] at a2; exact a2.elim
  | some z =>
    rw [q] at a2
    obtain ⟨ns,rfl,rfl⟩:=zjF q
    cases r with
    | cons r r' =>
      cases r'
      obtain ⟨p,xs,rfl,h1,h2⟩:=r
      have ex:=zc5 h2
      subst ex
      refine ⟨y,p,ns,rfl,rfl,PM.Same.rd e2.hh h1,a2 F2 H2 (.refl e2.fh) _ ?_⟩
      cases ns with
      | nil=>exact ry
      | cons n l=>simp only [Rep]
end
end PM
namespace L2
open PySem PySem.Spec PyProof.Rows
section
variable {X:Cx}
theorem zpq {o:Expr} {m:Str} {apos:Pos} {e f:Expr} {cpos:Pos} (h1:attributeBase o m X.env (eval o X.env)=eval o X.env:=by rfl)
    (h2:((backTo cpos (starEach [e,f] X.env)).all (fun x=>!x.1) && (backToKw cpos (keywordEach [] X.env)).all (fun x=>x.1.isSome) && decide (([e,f]:List Expr).length + ([]:List Keyword).length + (if ([]:List Keyword).isEmpty then 0 else 1) < 30))=true:=by rfl)
    (h3:(apos.endLine == cpos.line)=true:=by rfl) (h4:backTo cpos (starEach [e,f] X.env) = [(false,eval e X.env),(false,eval f X.env)]:=by rfl):M2 X o m apos e f cpos:=⟨h1,h2,h3,h4⟩
end
end L2
namespace PM
open PySem L2
section
variable {K:Kx} {XO:XOT} {E:L2.St→XK} {td ty tx:TE} {md my mx:En→R D}
def oShl:D→D→Option D:=i2c CPow fun i j=>.int (i * 2 ^ j.toNat)
theorem zpw:SR K (rI CPow fun i j=>.int (i * 2 ^ j.toNat)) oShl:=zhv fun _ _ _=>by simp only [Rep]
def oIn (x y:D):Option D:=match x,y with | .int i,.lst l=>(asIs l).map fun ns=>.bl (decide (i ∈ ns)) | .int i,.tup l=>(asIs l).map fun ns=>.bl (decide (i ∈ ns)) | _,_=>none
theorem ziT {i:Int} {ns:List Int}:inV (.int i) (ns.map V.int)=decide (i ∈ ns):=by
  rw [Bool.eq_iff_iff]
  unfold inV
  simp only [List.any_map,List.any_eq_true,Function.comp,decide_eq_true_eq]
  constructor
  · rintro ⟨a,h1,h2⟩
    have:a=i:=by simpa [eqV] using h2
    subst this; exact h1
  · intro h
    exact ⟨i,h,by simp [eqV]⟩
theorem zhp {ns:List Int}:(ns.map V.int).all zgJ=true:=by
  rw [List.all_map,List.all_eq_true]
  intro x _; rfl
theorem zp9:SR K (rIn K.f false) oIn:=by
  intro F H x y dx dy d Q s hx hy e q
  cases dx with
  | int i =>
    simp only [Top,Rep] at hx
    subst hx
    cases dy with
    | lst l =>
      obtain ⟨a,vs,rfl,h1,h2⟩:=hy
      simp only [oIn] at e
      cases z:asIs l with
      | none=>rw [z] at e; cases e
      | some ns =>
        rw [z] at e; cases e
        have el:=zdH z; subst el
        have ev:=zc5 h2; subst ev
        exact ⟨a,_,rfl,.inl (.inl h1),rfl,zhp,q _ F H (.refl s) (by simp only [Rep]; rw [ziT]; rfl)⟩
    | tup l =>
      simp only [Top,Rep] at hy
      obtain ⟨a,vs,rfl,h1,h2⟩:=hy
      simp only [oIn] at e
      cases z:asIs l with
      | none=>rw [z] at e; cases e
      | some ns =>
        rw [z] at e; cases e
        have el:=zdH z; subst el
        have ev:=zc5 h2; subst ev
        exact ⟨a,_,rfl,.inr (.inl (.inl (s _ _ h1))),rfl,zhp,q _ F H (.refl s) (by simp only [Rep]; rw [ziT]; rfl)⟩
    | _=>cases e
  | _=>cases e
def zqs:D→Option (List Key × List D)
  | .dct ks l=>some (ks,l)
  | _=>none
def zjR (md my mx:En→R D) (δ:En):R D:=(md δ).bind fun d=>(R.of (zqs d)).bind fun p=>(my δ).bind fun k=>(mx δ).bind fun x=>R.of ((asK k).map fun k=>(getK p.1 p.2 k).getD x)
theorem zjU (hd:SEr K XO E td md) (hy:SE K XO E ty my) (hx:SE K XO E tx mx):SE K XO E (zm4 td ty tx) (zjR md my mx):=by
  intro Λ F0 H0 F H σ δ Q I a
  refine hd Λ F0 H0 F H σ δ _ I (a.bind.imp fun d F1 H1 e1 a1 x rx=>?_)
  cases d with
  | dct ks l =>
    have rx':=rx
    obtain ⟨p,kvs,rfl,h1,_⟩:=rx'
    refine ⟨p,rfl,.inl ⟨kvs,.inl h1⟩,?_⟩
    change Aft E XO σ F1 H1 _ ((my δ).bind fun k=>(mx δ).bind fun x=>R.of ((asK k).map fun k=>(getK ks l k).getD x)) at a1
    refine hy Λ F0 H0 F1 H1 σ δ _ (I.grow e1) (a1.bind.imp fun k F2 H2 e2 a2 y ry=>?_)
    refine hx Λ F0 H0 F2 H2 σ δ _ ((I.grow e1).grow e2) (a2.bind.imp fun xd F3 H3 e3 a3 z rz=>?_)
    cases q:asK k with
    | none=>rw [q] at a3; exact a3.elim
    | some key =>
      rw [q] at a3
      obtain ⟨p',o,ep,g,g1,g2⟩:=ziC (k:=key) ((rx.mono e2.ff e2.hh).mono e3.ff e3.hh)
      cases ep
      cases zir q ry
      refine ⟨o,g,a3 F3 H3 (.refl e3.fh) _ ?_⟩
      cases w:getK ks l key with
      | none=>rw [g2 w]; simpa only [w,Option.getD_none] using rz
      | some dd=>obtain ⟨v,rfl,r⟩:=g1 dd w; simpa only [w,Option.getD_some] using r
  | _=>exact a1.elim
end
end PM
namespace L2
open PySem PySem.Spec PyProof.Rows
section
variable {X:Cx}
end
end L2
namespace PM
open PySem L2
section
variable {K:Kx} {XO:XOT} {E:L2.St→XK}
end
end PM
namespace L2
open PySem PySem.Spec PyProof.Rows
theorem Inv.laidT {X:Cx} {pins:List (Addr × Obj)} {σ:St} {H:Hp} {s:Shared} {h':Heap} {t':Nat} (ch:List Addr) {xs:List V} {us:List Value} (I:Inv X pins σ H s) (hf:∀ b ∈ ch,FpOk X pins H b) (k:∀ b o,b ∉ ch→s.heap.get? b=some o→h'.get? b=some o)
    (hl:xs.length ≤ sizeLine) (rv:Vals xs us) (ht:h'.get? s.heap.objs.size=some { cls:=.type "tuple",data:=.seq us.toArray }):Inv X pins σ (upd H s.heap.objs.size (.tup xs)) { s with heap:=h',toks:=t' }:=by
  have hT:H s.heap.objs.size=none:=I.hok.fresh (Nat.le_refl _)
  have nit:∀ b u,H b=some u→b ∉ ch:=fun b u e z=>by
    obtain ⟨f0,_⟩:=hf b z
    rw [f0] at e; cases e
  refine I.step (h':=h') (g':=s.gens) (d':=s.drawn) (t':=t') (ch:=ch) (fun b hb=>?_) (fun b o _ _ hb q _=>k b o hb q) (fun b o _ _ hb q _=>⟨o.slots,k b o hb q⟩) (fun b o hb q n=>?_) (fun b o hb q=>⟨o,k b o hb q⟩) (fun b ys q=>?_) (fun b o ys q=>?_) (fun b ps q=>⟨#[],?_⟩) (fun m hm=>?_) ?_ I.bare
  · obtain ⟨f0,f1,f2,f3,f4,f5⟩:=hf b hb
    exact ⟨f3,f1,f4,f5⟩
  · rw [zag (Nat.ne_of_lt (Heap.lt_size q))]; exact n
  · rw [zag (zak q hT)]; exact q
  · rw [zag (zak q hT)]; exact q
  · rw [zag (zak q hT),q]; simp
  · obtain ⟨o,es',ep,ho',r⟩:=hm
    refine ⟨o,es',ep,k _ o (fun z=>?_) ho',r⟩
    obtain ⟨_,f1,_⟩:=hf _ z
    exact f1 rfl
  · intro b o q
    by_cases hb:b=s.heap.objs.size
    · subst hb
      rw [zai] at q; cases q
      exact ⟨hl,us,rv,⟨_,ht,rfl,_,rfl⟩⟩
    · rw [zag hb] at q
      refine (I.hok b o q).stay (fun c v hc' q'=>?_) (fun c q'=>by rw [zag (zak q' hT)]; exact q') fun c ys q'=>by rw [zag (zak q' hT)]; exact q'
      rcases hc' with rfl | hc'
      · exact k _ v (nit _ _ q) q'
      · exact k _ v (nit _ _ hc') q'
section
variable {X:Cx}
end
end L2
namespace PM
open PySem L2
section
variable {K:Kx} {XO:XOT} {E:L2.St→XK}
end
end PM
namespace PM
end PM
namespace L2
open PySem PySem.Spec PyProof.Rows
section
variable {X:Cx}
end
end L2
namespace PM
open PySem L2
section
variable {K:Kx}
def znI:List D→Option D
  | [.int i,.int j]=>some (.int (if j < i then j else i))
  | _=>none
theorem znU:SC K (fun xs H Q=>∃ i j,xs = [.int i,.int j]∧Q (.int (if j < i then j else i)) H) znI:=by
  intro F H vs ds d Q s r e q
  unfold znI at e
  split at e
  · rename_i i j
    cases e
    cases r with
    | cons r r' =>
      cases r' with
      | cons r2 r3 =>
        cases r3
        simp only [Top,Rep] at r r2
        subst r r2
        exact ⟨i,j,rfl,q _ F H (.refl s) (by simp only [Rep])⟩
  · cases e
end
end PM
namespace L2
open PySem PySem.Spec PyProof.Rows
section
variable {X:Cx}
end
end L2
namespace PM
open PySem L2
section
variable {K:Kx}
end
end PM
namespace PM
open PySem L2
section
variable {K:Kx} {XO:XOT} {E:L2.St→XK} {te:TE} {me:En→R D}
theorem RepL.dropLast {F:Hp} {l:List D} {vs:List V} (h:RepL K F l vs):RepL K F l.dropLast vs.dropLast:=by
  rw [List.dropLast_eq_take,List.dropLast_eq_take,h.length]
  exact h.take _
def zkt (i:Nat) (b:D→En→Option En) (δ:En):O:=match δ[i]? with
  | some (.o (.lst l))=>(match l[l.length - 1]? with | some d=>O.of (b d (δ.set i (.o (.lst l.dropLast)))) | none=>.no)
  | _=>.no
theorem znK {i:Nat} {g:TG} {b:D→En→Option En} (hg:SG K g b):SS K XO E (tAsg (tBM0 K.f "list" rPop (tVar i)) g) (zkt i b):=by
  intro Λ F0 H0 F H σ δ Dn I a
  unfold zkt at a
  split at a
  · rename_i l q
    obtain ⟨p,s1,vs,s2,s3⟩:=I.own q
    cases e:l[l.length - 1]? with
    | none=>simp only [e] at a; exact a.elim
    | some d =>
      simp only [e] at a
      obtain ⟨v,hv,rv⟩:=s3.get e
      have I2:=I.chg (u:=.lst vs.dropLast) (d':=.lst l.dropLast) q s1 ⟨_,zai,s3.dropLast⟩
      refine ⟨_,s1,.inl ⟨rfl,vs,.inl (.inl s2)⟩,p,vs,v,rfl,rfl,s2,by rw [s3.length]; exact hv,?_⟩
      cases z:b d (δ.set i (.o (.lst l.dropLast))) with
      | none=>rw [z] at a; exact a.elim
      | some δ'=>rw [z] at a; exact hg Λ F0 H0 F _ σ _ d v δ' _ I2 rv z fun σ' I'=>a σ' F _ I'
  · exact a.elim
end
end PM
namespace L2
open PySem PySem.Spec PyProof.Rows
section
variable {X:Cx}
end
end L2
namespace PM
open PySem L2
section
variable {K:Kx} {XO:XOT} {E:L2.St→XK} {tl te:TE} {ml me:En→R D}
end
end PM
namespace L2
open PySem PySem.Spec PyProof.Rows
open Sem (wp)
section
variable {P:Program} {w:World} {B:Around} {Er:Value→Shared→Prop} {hp:Heap} {gs:Array GenState} {dr:Drawn} {tk:Nat} {os:OsState}
variable {nm q:Str} {C N:Addr} {bs bm bmB:List Value} {hdct:Bool} {sn:List Str} {sub:List Value} {ab:Bool} {col:Option Bool} {dd:Option Addr} {k0 k1 k2 k3 k5:Option Value} {B0 Bn newId nid initId inN:String} {bmN:List Value}
abbrev tupO (as:List Value):Obj:={ cls:=.type "tuple",data:=.seq as.toArray }
abbrev zjx (C t:Addr):Obj:={ cls:=.ref C,data:=.fields #[.ref t,.none,.none,.none,.bool false,.none] }
theorem zgm (Fn:ExcBaseFacts Bn newId inN bmN) (has:bmB.contains (.type Bn)=true) (Fb:ExcBaseFacts B0 nid initId bmB) (tail:OwnTail hp bmB bm) {ns:Str→Option Value} {as:List Value} {fa:Addr} {fo:Obj} {Q:Fin→Shared→Prop}
    (atC:hp.get? C=some (excClassObj nm q C N bs bm hdct sn sub ab col dd k0 k1 k2 k3 k5 newId)) (atN:hp.Ns N ns) (ini:ns "__init__"=some (.ref fa)) (atF:hp.get? fa=some fo) (isF:fo.cls = .type "function")
    (run:∀ h' e,Heap.MadeExcOf hp h' e (.ref C) as→wpAny (model P w) B (call (.ref fa) (.ref e :: as)) (fun r s'=>r = .none∧Q (.done (.ret (.ref e))) s') Er ⟨h',gs,dr,tk,os⟩) (few:as.length ≤ sizeLine) :
    wpAny (model P w) B (Builtin.«type.__call__» ⟨.ref C :: as,[]⟩) Q Er ⟨hp,gs,dr,tk,os⟩:=by
  repeat (first | with_reducible refine wpAny_loadPart_at atC ?_ | with_reducible refine wpAny_madeBy_exc atC ?_ | wp_step)
  refine codeAny_call_builtin_code (Code.quiet_builtin _ Fn.quiet) (wpAny_check_new_subU Fn has tail atC ?_)
  refine codeAny_exc_new_subU Fn has Fb tail atC ?_ few
  show wpAny _ _ _ _ _ _
  have up:∀ b o,hp.get? b=some o→((hp.push (tupO as)).push (zjx C hp.objs.size)).get? b=some o:=fun b o e=>Heap.get?_push_of_some _ (Heap.get?_push_of_some _ e)
  have atC1:=up _ _ atC
  have atN1:((hp.push (tupO as)).push (zjx C hp.objs.size)).Ns N ns:=by obtain ⟨o,es,ep,e,r⟩:=atN; exact ⟨o,es,ep,up _ _ e,r⟩
  have atE:((hp.push (tupO as)).push (zjx C hp.objs.size)).get? (hp.objs.size + 1)=some (zjx C hp.objs.size):=by heap_get
  have own:(Value.ref C :: bm).contains (.ref C)=true:=by simp
  have tail1:=tail.keeps (h':=(hp.push (tupO as)).push (zjx C hp.objs.size)) up
  unfold isInstance
  repeat (first | with_reducible refine wpAny_loadPart_at atE ?_ | (with_reducible refine wpAny_isSubtype_exc atC1 ?_; rw [own]) | wp_step)
  show wpAny _ _ (typeLookup (.ref C) _) _ _ _; refine wpAny_typeLookup_tail atC1 atN1 tail1 Fb.mroIs Fb.init.lookup ?_
  rw [ini]; refine wpAny_holding (wpAny_bind ?_); unfold bindSpecial
  refine wpAny_bind (wpAny_typeOf (T:="function") ⟨_,up _ _ atF,isF⟩ ?_)
  rw [if_pos (by decide)]
  have made:Heap.MadeExcOf hp ((hp.push (tupO as)).push (zjx C hp.objs.size)) (hp.objs.size + 1) (.ref C) as :=
    ⟨up,Heap.get?_none_of_le (Nat.le_succ _),hp.objs.size,atE,Heap.get?_none_of_le (Nat.le_refl _),Heap.get?_push_of_some _ (Heap.get?_push_at rfl rfl)⟩
  refine wpAny_pure (wpAny_bind (wpAny_mono (run _ _ made) (fun r s' hr=>?_) fun _ _ x=>x))
  obtain ⟨rfl,hQ⟩:=hr
  wp_walk
  exact hQ
theorem zjK (Fn:ExcBaseFacts Bn newId inN bmN) (has:bmB.contains (.type Bn)=true) (Fb:ExcBaseFacts B0 nid initId bmB) (tail:OwnTail hp bmB bm) {ns:Str→Option Value} {as:List Value} {fa:Addr} {fo:Obj} {Q:Value→Shared→Prop}
    (atC:hp.get? C=some (excClassObj nm q C N bs bm hdct sn sub ab col dd k0 k1 k2 k3 k5 newId)) (atN:hp.Ns N ns) (ini:ns "__init__"=some (.ref fa)) (atF:hp.get? fa=some fo) (isF:fo.cls = .type "function")
    (run:∀ h' e,Heap.MadeExcOf hp h' e (.ref C) as→wpAny (model P w) (B.under (.builtin "type.__call__" ⟨.ref C :: as,[]⟩)) (call (.ref fa) (.ref e :: as)) (fun r s'=>r = .none∧Q (.ref e) s') Er ⟨h',gs,dr,tk,os⟩) (few:as.length ≤ sizeLine) :
    wpAny (model P w) B (call (.ref C) as) Q Er ⟨hp,gs,dr,tk,os⟩:=by
  have f1:=tc_lookup
  have f2:=tc_bind (.ref C)
  have isT:(⟨hp,gs,dr,tk,os⟩:Shared).TypeIs (.ref C) "type":=⟨_,atC,rfl⟩
  refine wpAny_call (codeAny_of_tree ?_); show wpAny _ _ (callAny (.ref C) _) _ _ _
  repeat (any_goals (first | assumption | with_reducible refine wpAny_loadPart_at atC ?_ | wp_step))
  refine ⟨rfl,codeAny_call_builtin_at (Code.quiet_builtin _ (by decide +kernel)) entry_typeCall (wpAny_check_type_call_sub atC ?_)⟩
  exact zgm Fn has Fb tail atC atN ini atF isF (fun h' e m=>run h' e m) few
end
end L2
namespace L2
open PySem PySem.Spec PyProof.Rows
section
variable {P:Program} {w:World} {B:Around} {Er:Value→Shared→Prop} {s:Shared}
end
end L2
namespace L2
open PySem PySem.Spec PyProof.Rows
section
variable {X:Cx}
end
end L2
namespace PM
open PySem L2
section
variable {K:Kx} {XO:XOT} {E:L2.St→XK}
end
end PM
namespace L2
open PySem PySem.Spec PyProof.Rows
section
variable {X:Cx}
end
end L2
namespace PM
open PySem L2
section
variable {K:Kx} {XO:XOT} {E:L2.St→XK}
end
end PM
namespace L2
open PySem PySem.Spec PyProof.Rows
section
variable {X:Cx}
end
end L2
namespace PM
open PySem L2
section
variable {K:Kx} {XO:XOT} {E:L2.St→XK} {tk te:TE} {mk me:En→R D}
end
end PM
namespace PM
open PySem L2
section
variable {K:Kx} {XO:XOT} {E:St→XK} {ta tb te:TE} {ma mb me:En→R D} {t u:TS} {m n:En→O} {Λ:List (Nat × Addr × HO)} {F0 H0 F H F' H' F1 H1:Hp} {σ:St} {δ:En} {Dn:Ends}
open Classical in
def zfE (F H:Hp) (bs:List Addr):Hp:=fun b=>if b ∈ bs then H b else F b
end
end PM
namespace L2
open PySem PySem.Spec PyProof.Rows
section
variable {X:Cx} {x:Str} {np hpos pos:Pos} {body:List Stmt} {b₀:Stmt} {suite:List Stmt} {D':Addr} {tb:(St→XK)→TS} {th:TS}
end
end L2
namespace PM
open PySem L2
section
variable {K:Kx} {E:L2.St→XK}
end
end PM
namespace PM
end PM
namespace L2
open PySem PySem.Spec PyProof.Rows
section
variable {prog:Program} {w:World} {A:Around} {E:Value→Shared→Prop} {s:Shared}
end
section
variable {prog:Program} {w:World} {A:Around} {R:Result→Shared→Prop} {I S:Addr} {fp wr:List Addr} {n:Nat} {P:Nat→Value→Prop} {St:Nat→Heap→Prop} {bt:Nat→Nat→Bool}
end
section
variable {prog:Program} {w:World} {A:Around} {E:Value→Shared→Prop} {s:Shared}
end
section
variable {X:Cx}
end
end L2
namespace PM
open PySem L2
section
variable {K:Kx}
end
end PM
namespace L2
open PySem PySem.Spec PyProof.Rows
section
variable {X:Cx}
end
end L2
namespace PM
open PySem L2
section
variable {K:Kx} {XO:XOT} {E:L2.St→XK}
end
end PM
namespace L2
open PySem PySem.Spec PyProof.Rows
section
variable {X:Cx} {a b c:Expr} {ta tb tc:TE} {pos:Pos}
end
end L2
namespace PM
open PySem L2
section
variable {K:Kx} {XO:XOT} {E:L2.St→XK} {ta tb tc:TE} {ma mb mc:En→R D}
end
end PM
namespace L2
open PySem PySem.Spec PyProof.Rows
section
variable {X:Cx} {e st:Expr} {te ts:TE} {p2 pos:Pos}
end
end L2
namespace PM
open PySem L2
section
variable {K:Kx} {XO:XOT} {E:L2.St→XK} {te ts:TE} {me ms:En→R D}
theorem RepL.append' {F:Hp}:∀ {l m:List D} {vs ws:List V},RepL K F l vs→RepL K F m ws→RepL K F (l ++ m) (vs ++ ws)
  | [],_,vs,_,h,k=>by
    have:vs = []:=h
    subst this
    exact k
  | d :: l,m,vs,ws,h,k=>by
    obtain ⟨v,r,rfl,h1,h2⟩:=h
    exact ⟨v,r ++ ws,rfl,h1,RepL.append' h2 k⟩
theorem RepL.reverse {F:Hp}:∀ {l:List D} {vs:List V},RepL K F l vs→RepL K F l.reverse vs.reverse
  | [],vs,h=>by
    have:vs = []:=h
    subst this
    exact h
  | d :: l,vs,h=>by
    obtain ⟨v,r,rfl,h1,h2⟩:=h
    rw [List.reverse_cons,List.reverse_cons]
    exact RepL.append' (RepL.reverse h2) ⟨v,[],rfl,h1,rfl⟩
end
end PM
namespace L2
open PySem PySem.Spec PyProof.Rows
theorem zl6:typeLookup (.type "list_reverseiterator") "__len__"=pure none:=by rw [typeLookup_type,builtinLookup_eq_fast]; kernel_rfl
theorem zog:typeLookup (.type "list_reverseiterator") "__length_hint__"=pure (some (.builtin "list_reverseiterator.__length_hint__")):=by rw [typeLookup_type,builtinLookup_eq_fast]; kernel_rfl
section
variable {prog:Program} {w:World} {A:Around} {E:Value→Shared→Prop} {s:Shared}
theorem zjr {R:Result→Shared→Prop} {S I l:Addr} {items:Array Value} {c₀:Nat} {res:Value} (hh:A.handled=none) (hne:l ≠ I) (hSI:S ≠ I) (hSl:S ≠ l) (hit:s.heap.IsRevIter I l ((items.size:Int) - 1)) (hl:s.heap.IsList l items) (hS:s.heap.get? S=some { cls:=.type "list",data:=.seq #[] c₀ }) (hz:items.size ≤ sizeLine)
    (hR:∀ h' tk acc' c',(∀ b o,b ≠ S→b ≠ I→s.heap.get? b=some o→h'.get? b=some o)→h'.get? S=some { cls:=.type "list",dict:=none,data:=.seq acc' c',slots:=#[] } →
      ItemsOf (fun i v=>items[items.size - 1 - i]?=some v) acc' items.size→R (.ok (.ret res)) { s with heap:=h',toks:=tk }) :
    wpAny (model prog w) A.in1 (Builtin.List.listExtendWith (.ref S) (.ref I) res)
      (fun fin s'=>match fin with | .done f=>R (.ok f) s' | .again c'=>c'.quiet=true∧codeAny (model prog w) A c' R s') (fun e s'=>R (.error e) s') s:=by
  have W:=(Walks.listRev (prog:=prog) (w:=w) (A:=A.in1) hh I l hne items).toS
  have hSf:S ∉ [I,l]:=by simp [hSI,hSl]
  have h1:Builtin.List.listSameRef (.ref S) (.ref I)=false:=by simp [Builtin.List.listSameRef,hSI]
  unfold Builtin.List.listExtendWith
  refine wpAny_bind (wpAny_typeOf hit.typeIs ?_)
  have h2:(Value.type "list_reverseiterator" == Value.type "list")=false:=by decide
  have h3:(Value.type "list_reverseiterator" == Value.type "tuple")=false:=by decide
  simp only [h1,h2,h3,Bool.or_false,Bool.false_eq_true,if_false]
  refine wpAny_bind (wpAny_pyIter_revIter hit ?_)
  refine wpAny_bind (wpAny_holding ?_)
  unfold Builtin.List.listLengthHint
  refine wpAny_bind (wpAny_specialOf hit.typeIs zl6 ?_)
  show wpAny _ A.in1 (specialOf (Value.ref I) (Str.ofString "__length_hint__") >>= _) _ _ _
  refine wpAny_bind (wpAny_specialOf hit.typeIs zog ?_)
  generalize hid:("list_reverseiterator.__length_hint__" : String)=id0
  wp_delta
  rw [show splitId id0=some ("list_reverseiterator","__length_hint__") from by subst hid; decide +kernel]
  subst hid
  refine wpAny_bind (wpAny_isInstance (b:=true) hit.typeIs (by rw [isSubtype_type]; kernel_rfl) ?_)
  refine wpAny_pure ?_
  rw [if_neg (by decide)]
  refine wpAny_pure ⟨plainId_quiet F.plain_extend_loop _,codeAny_extend_loopS W hz S hSf res items.size 0 _ #[] c₀ rfl (Nat.zero_le _) ?_ hS (ItemsOf.nil _) fun s' acc' c' hm hS' hacc=>?_⟩
  · exact ⟨Nat.zero_le _,by simpa using hit,hl⟩
  · rw [Moved.eq_with hm]
    refine hR s'.heap s'.toks acc' c' (fun b o hb hbI e=>hm.heap b o (fun hmem=>?_) e) hS' hacc
    rcases List.mem_cons.mp hmem with e' | hmem
    · exact hb e'
    · exact hbI (List.mem_singleton.mp hmem)
end
section
variable {prog:Program} {w:World} {A:Around} {E:Value→Shared→Prop} {s:Shared}
theorem zgZ {Q:Value→Shared→Prop} {I l:Addr} {items:Array Value} (hh:A.handled=none) (hne:l ≠ I) (hit:s.heap.IsRevIter I l ((items.size:Int) - 1)) (hl:s.heap.IsList l items) (hz:items.size ≤ sizeLine)
    (hQ:∀ h' tk acc' c',(∀ b o,b ≠ I→s.heap.get? b=some o→h'.get? b=some o)→h'.get? s.heap.objs.size=some { cls:=.type "list",dict:=none,data:=.seq acc' c',slots:=#[] } →
      ItemsOf (fun i v=>items[items.size - 1 - i]?=some v) acc' items.size→Q (.ref s.heap.objs.size) { s with heap:=h',toks:=tk }) :
    wpAny (model prog w) A (call (.type "list") [.ref I]) Q E s:=by
  refine callType_codes (Q₁:=fun obj s₁=>obj = .ref s.heap.objs.size∧s₁ = { s with heap:=s.heap.push { cls:=.type "list",data:=.seq #[] } }) F.called_list (F.typeCall_list_1 _) F.entry_list_init
    (code_list_new _ ⟨rfl,rfl⟩) fun obj s₁ h₁=>?_
  obtain ⟨rfl,rfl⟩:=h₁
  have hS:(s.heap.push { cls:=.type "list",data:=.seq #[] }).get? s.heap.objs.size=some { cls:=.type "list",data:=.seq #[] }:=Heap.get?_push_size _ rfl
  have Ilt:I < s.heap.objs.size:=by obtain ⟨o,e,_⟩:=hit; exact Heap.lt_size e
  have llt:l < s.heap.objs.size:=by obtain ⟨o,e,_⟩:=hl; exact Heap.lt_size e
  refine ⟨⟨_,hS,rfl⟩,F.args_list_init_2 _ _,?_⟩
  show wpAny _ _ (do let old ← Builtin.List.listItems (.ref s.heap.objs.size); Builtin.List.listUpdate (.ref s.heap.objs.size) (fun _=>#[]); letGo old.toList.reverse; Builtin.List.listExtendWith (.ref s.heap.objs.size) (.ref I) .none) _ _ _
  refine wpAny_bind ?_
  unfold Builtin.List.listItems
  refine wpAny_bind (wpAny_seqItems hS rfl (wpAny_pure ?_))
  show wpAny _ _ (updateSeq s.heap.objs.size (fun _=>#[]) >>= fun _=>letGo (#[]:Array Value).toList.reverse >>= fun _=>Builtin.List.listExtendWith (.ref s.heap.objs.size) (.ref I) .none) _ _ _
  refine wpAny_bind (wpAny_updateSeq hS rfl ?_)
  have hS₂:=Heap.get?_update_self (Obj.mapSeq (fun _=>(#[]:Array Value))) hS rfl
  have oth:∀ b o,b ≠ s.heap.objs.size→s.heap.get? b=some o→((s.heap.push { cls:=.type "list",data:=.seq #[] }).update s.heap.objs.size (Obj.mapSeq (fun _=>(#[]:Array Value)))).get? b=some o :=
    fun b o hb e=>(Heap.get?_update_other _ _ (Ne.symm hb)).trans (Heap.get?_push_of_some _ e)
  refine wpAny_bind (wpAny_letGo ?_)
  refine zjr (A:=A.in1) hh hne (Nat.ne_of_gt Ilt) (Nat.ne_of_gt llt) (hit.at fun o e=>oth I o (Nat.ne_of_lt Ilt) e) (hl.at fun o e=>oth l o (Nat.ne_of_lt llt) e) hS₂ hz fun h' tk acc' c' hk hS' hacc=>?_
  exact ⟨rfl,hQ h' tk acc' c' (fun b o hb e=>hk b o (Nat.ne_of_lt (Heap.lt_size e)) hb (oth b o (Nat.ne_of_lt (Heap.lt_size e)) e)) hS' hacc⟩
end
section
variable {X:Cx} {l:Expr} {tl:TE}
def ziS (K:PySem.W.Frag) (tl:TE):TE:=fun σ H Q=>tl σ H fun x H1=>∃ a xs,x = .ref a∧SqL K H1 a xs∧∀ p,H1 p=none→Q (.ref p) (upd H1 p (.lst xs.reverse))
theorem zjk {p p' pos pos':Pos} (hc:X.calm=true) (hg:Gl X "list") (hm:X.mg "list"=none) (hg':Gl X "reversed") (hm':X.mg "reversed"=none) (hl:PE X l tl) (hs:starEach [l] X.env = [(false,eval l X.env)]:=by rfl) :
    PE X (.Call (.Name "list" p) [.Call (.Name "reversed" p') [l] [] pos'] [] pos) (ziS X.K tl):=by
  intro pins s σ H Q I h
  refine Call_ (zeh I hg hm boot_list (PyProof.Rows.callWith_type1 ?_ rfl rfl))
  show wpAny _ _ (spliced ((false,eval (.Call (.Name "reversed" p') [l] [] pos') X.env) :: backTo pos (starEach [] X.env))) _ _ s
  refine Calls.spliced_cons ?_
  refine Call_ (zeh I hg' hm' boot_reversed (PyProof.Rows.callWith_type1 ?_ hs rfl))
  rw [hs]
  show wpAny _ _ (spliced ((false,eval l X.env) :: backTo pos' (starEach [] X.env))) _ _ s
  refine Calls.spliced_cons (thn (hl pins s σ H _ I h) fun u s1 ⟨x,H1,I1,r1,q1⟩=>?_)
  refine Calls.spliced_nil ?_
  obtain ⟨a,xs,rfl,hx,q⟩:=q1
  cases r1
  obtain ⟨its,r,ht,hz⟩:=I1.list hx
  have hlen:=r.length
  refine call_reversed_list ht.isList ?_
  refine Calls.spliced_nil ?_
  have alt:a < s1.heap.objs.size:=by obtain ⟨o,e,_⟩:=ht.isList; exact Heap.lt_size e
  refine zgZ (l:=a) (items:=its.toArray) (I1.ok.hd hc) (Nat.ne_of_lt alt) ⟨_,Heap.get?_push_size _ rfl,rfl,rfl⟩ (ht.isList.push _) (by rw [List.size_toArray]; omega) fun h' tk acc' c' hk hS' hacc=>?_
  have ea:acc'=its.reverse.toArray:=by
    have e2:=hacc.2
    have e1:acc'.size=its.length:=by have:=hacc.1; rw [List.size_toArray] at this; exact this
    apply Array.ext'
    apply List.ext_getElem?
    intro i
    by_cases hi:i < its.length
    · have hj:i < acc'.size:=by omega
      have:=e2 i acc'[i] (by rw [Array.getElem?_eq_getElem hj])
      rw [List.size_toArray,List.getElem?_toArray] at this
      rw [Array.getElem?_toList,Array.getElem?_eq_getElem hj,List.getElem?_reverse hi,← this]
    · rw [List.getElem?_eq_none_iff.mpr (by simpa using by omega),List.getElem?_eq_none_iff.mpr (by simpa using by omega)]
  subst ea
  refine ⟨.ref _,_,I1.laid (t':=tk) (o:=.lst xs.reverse) (fun b ob e=>hk b ob (Nat.ne_of_lt (Heap.lt_size e)) (Heap.get?_push_of_some _ e)) ?_ ⟨by rw [List.length_reverse]; exact hz,_,c',r.reverse,hS'⟩,rfl,q _ (I1.hok.fresh ?_)⟩
  · show s1.heap.objs.size ≤ (s1.heap.push _).objs.size
    rw [Heap.size_push]; omega
  · show s1.heap.objs.size ≤ (s1.heap.push _).objs.size
    rw [Heap.size_push]; omega
end
end L2
namespace PM
open PySem L2
section
variable {K:Kx} {XO:XOT} {E:L2.St→XK} {te:TE} {me:En→R D}
def zgH (me:En→R D) (δ:En):R D:=(me δ).bind fun d=>match d with | .lst l=>.ok (.lst l.reverse) | _=>.no
theorem zh4 (h:SEr K XO E te me):SEo K XO E (ziS K.f te) (zgH me):=by
  intro Λ F0 H0 F H σ δ Q I a
  refine h Λ F0 H0 F H σ δ _ I (a.bind.imp fun d F1 H1 e1 a1 v r=>?_)
  cases d with
  | lst l =>
    obtain ⟨p,vs,rfl,h1,h2⟩:=r
    refine ⟨p,vs,rfl,.inl h1,fun q hq=>a1 F1 _ (.newO e1.fh hq) q (e1.fh.free hq) (e1.hh.free hq) ⟨_,zai,RepL.reverse h2⟩⟩
  | _=>exact a1.elim
end
end PM
namespace L2
open PySem PySem.Spec PyProof.Rows Builtin Builtin.ObjectAttr
def zkZ:List Value→Bool
  | .ref _ :: r=>zkZ r
  | l=>l == [.type "ValueError",.type "Exception",.type "BaseException",.type "object"]
theorem zhA (self:Value):∀ {l:List Value},zkZ l=true→refuseLoop self "__setattr__" l=pure ()
  | .ref c :: r,e=>by rw [refuseLoop_ref]; exact zhA self (l:=r) e
  | [],e=>by cases e
  | .type n :: r,e=>by
    have:(Value.type n :: r) = [.type "ValueError",.type "Exception",.type "BaseException",.type "object"]:=beq_iff_eq.mp (show (Value.type n :: r == _)=true from e)
    rw [this]; exact PySem.F.store_ValueError.passes self
  | .none :: r,e=>by have:=beq_iff_eq.mp (show ((_:Value) :: r == _)=true from e); cases this
  | .bool _ :: r,e=>by have:=beq_iff_eq.mp (show ((_:Value) :: r == _)=true from e); cases this
  | .int _ _ :: r,e=>by have:=beq_iff_eq.mp (show ((_:Value) :: r == _)=true from e); cases this
  | .str _ _ :: r,e=>by have:=beq_iff_eq.mp (show ((_:Value) :: r == _)=true from e); cases this
  | .builtin _ :: r,e=>by have:=beq_iff_eq.mp (show ((_:Value) :: r == _)=true from e); cases this
def zlN (K:PySem.W.Frag) (C:Addr):Bool:=(PySem.W.clsIn K C).any fun cd=>zkZ cd.mro
section
variable {prog:Program} {w:World} {A:Around} {E:Value→Shared→Prop} {s:Shared} {K:PySem.W.Frag} {x C:Addr} {ox:Obj} {od:Option Obj} {name:Str} {tk:Tok} {v:Value} {R:Result→Shared→Prop}
theorem zmO (X:K.In s.heap) (I:PySem.W.InstAt s.heap x ox C od) (hm0:PySem.W.mroIn K C (.type "object")=some true) (hp:zlN K C=true) (ht:PySem.W.takerIn K C name=some none)
    (h:∀ b,wpAny (model prog w) A.in1 (storeInOwnDict (.ref x) (.ref C) (.str name tk) name v b)
      (fun fin s'=>match fin with | .done f=>R (.ok f) s' | .again c'=>c'.quiet=true∧codeAny (model prog w) A c' R s') (fun e s'=>R (.error e) s') s) :
    codeAny (model prog w) A (.call (.builtin "object.__setattr__") ⟨[.ref x,.str name tk,v],[]⟩) R s:=by
  have SF:=PySem.F.store_object
  obtain ⟨cd,hc,ho⟩:=PySem.W.any_some hp
  have sub:PySem.W.Looks (model prog w) s.heap (isInstance (.ref x) (.type "object")) true:=I.type.andThen (PySem.W.looks_mroIn X hm0)
  refine codeAny_call_builtin SF.slot.plain SF.entry (@PySem.W.check_slot (model prog w) _ _ s "object.__setattr__" "object" "__setattr__" (.ref x) [.str name tk,v] [] _ SF.kind SF.split sub (SF.args (.ref x) (.str name tk) v) ?_)
  obtain ⟨attr,ha,hr⟩:=Option.bind_eq_some_iff.mp ht
  have hm:PySem.W.Looks (model prog w) s.heap (mroOf (.ref C)) cd.mro:=(PySem.W.looks_clsIn X hc).andThen .now
  have L3:PySem.W.Looks (model prog w) s.heap (storeTaker? attr) none:=by
    cases attr with
    | none=>exact .now
    | some a =>
      obtain ⟨b,hb,hb'⟩:=Option.map_eq_some_iff.mp hr
      refine (PySem.W.looks_takesIn X hb).andThen ?_
      cases b
      · exact .now
      · cases hb'
  rw [PySem.W.osa_eq,refuse_eq]
  refine wpAny_bind (wpAny_bind (I.type.here (wpAny_bind (hm.here ?_))))
  rw [zhA _ ho]
  refine wpAny_pure (wpAny_bind (I.type.here (wpAny_bind ((PySem.W.looks_findIn X ha).here (wpAny_bind (L3.here ?_))))))
  exact h _
theorem zmz {Q:Unit→Shared→Prop} {vs:Array Value} (X:K.In s.heap) (hx:s.heap.get? x=some ox) (hc:ox.cls = .ref C) (hdn:ox.dict=none) (hdt:ox.data = .fields vs)
    (hs:PySem.W.findIn K (.ref C) "__setattr__"=some (some (.builtin "object.__setattr__"))) (hm0:PySem.W.mroIn K C (.type "object")=some true) (hp:zlN K C=true) (ht:PySem.W.takerIn K C name=some none) (hh:PySem.W.hasDictIn K C=true)
    (h:∀ h' tk',(∀ b o,b ≠ x→s.heap.get? b=some o→h'.get? b=some o)→h'.get? x=some { ox with dict:=some s.heap.objs.size }→h'.Ns1 s.heap.objs.size (fun y=>if y=name then some v else none)→s.heap.objs.size + 1 ≤ h'.objs.size→Q () { s with heap:=h',toks:=tk' }) :
    wpAny (model prog w) A (setAttr (.ref x) name v) Q E s:=by
  have I:PySem.W.InstAt s.heap x ox C none:=⟨hx,hc,by unfold PySem.W.notCls; rw [hdt],by rw [hdn]; trivial⟩
  refine PySem.W.set_plain X I hs (zmO (s:={ s with toks:=s.toks + 1 }) X I hm0 hp ht fun b=>?_)
  obtain ⟨cd,hcd,hd'⟩:=PySem.W.any_some hh
  obtain ⟨hp,g,d,t,os⟩:=s
  obtain ⟨oc,odi,oda,osl⟩:=ox
  dsimp only at hc hdn hdt hx h X I ⊢
  subst hc hdn hdt
  obtain ⟨nd,end_⟩:∃ nd:Obj,nd = { cls:=.type "dict",data:=.dict #[] }:=⟨_,rfl⟩
  obtain ⟨g1,eg1⟩:∃ g1:Heap,g1=(hp.push nd).update x fun u=>{ u with dict:=some hp.objs.size }:=⟨_,rfl⟩
  have ne:x ≠ hp.objs.size:=fun z=>absurd (Heap.lt_size hx) (by rw [z]; exact Nat.lt_irrefl _)
  have px:(hp.push nd).get? x=some ⟨.ref C,none,.fields vs,osl⟩:=Heap.get?_push_of_some _ hx
  unfold storeInOwnDict ownDictForStores instanceDict
  refine wpAny_bind (wpAny_pure ?_)
  refine wpAny_bind (wpAny_bind (wpAny_loadPart hx (wpAny_bind ((PySem.W.looks_clsIn X hcd).here ?_))))
  rw [hd',if_neg (by decide)]
  dsimp only
  rw [if_neg (by simp [typeHasDict]),← end_]
  refine wpAny_bind (wpAny_alloc' (wpAny_bind (wpAny_update' px (wpAny_pure ?_))))
  have at1:g1.get? hp.objs.size=some nd:=by
    rw [eg1]
    exact (Heap.get?_update_ne _ _ _ _ (Ne.symm ne)).trans (Heap.get?_push_at rfl (by rw [end_]; rfl))
  have none1:g1.Ns1 hp.objs.size (fun _=>none):=Heap.Ns1.of_empty ⟨nd,#[],_,at1,by rw [end_],fun u hu=>absurd hu (by simp),fun _=>rfl⟩
  show wpAny _ _ (storeInDict hp.objs.size (.str name _) name v) _ _ { heap:=(hp.push nd).update x fun u=>{ u with dict:=some hp.objs.size },gens:=g,drawn:=d,toks:=_,os:=os }
  rw [← eg1]
  unfold storeInDict newKeyGuard
  refine wpAny_bind (wpAny_pure (wpAny_bind (wpAny_nsSet1 none1 fun g2 n2 same=>?_)))
  obtain ⟨oD,_,_,atD,dataD,few⟩:=n2.count (Within.cons name v Within.nil)
  refine wpAny_bind (wpAny_lookBehind atD ?_ ?_)
  · rw [dataD]
    refine pastItsLine_dict (Nat.le_trans few ?_)
    rw [sizeLine_eq]; simp
  wp_walk
  have x1:g1.get? x=some ⟨.ref C,some hp.objs.size,.fields vs,osl⟩:=by rw [eg1]; exact Heap.get?_update_self _ px rfl
  refine h g2 _ (fun b u nb e=>?_) ((same.2 x ne).trans x1) n2 (Heap.lt_size atD)
  have nbs:b ≠ hp.objs.size:=fun z=>absurd (Heap.lt_size e) (by rw [z]; exact Nat.lt_irrefl _)
  refine (same.2 b nbs).trans ?_
  rw [eg1]
  exact (Heap.get?_update_ne _ _ _ _ nb).trans (Heap.get?_push_of_some _ e)
end
structure ExcA (K:PySem.W.Frag) (C:Addr):Prop where
  z:ExcCls K C
  sa:PySem.W.findIn K (.ref C) "__setattr__"=some (some (.builtin "object.__setattr__"))
  ov:zlN K C=true
def excP (C:Addr) (dct:Option Addr) (vs:Array Value) (ea:Addr):HO:=.ext fun h=>∃ ob,h.get? ea=some ob∧ob.cls = .ref C∧ob.dict=dct∧ob.data = .fields vs
theorem zkf {P:Program} {w:World} {H:Hp} {h:Heap} {C:Addr} {dct:Option Addr} {vs:Array Value} {ea:Addr} {ob:Obj} (h1:h.get? ea=some ob) (h2:ob.cls = .ref C) (h3:ob.dict=dct) (h4:ob.data = .fields vs):ObjOk P w H h ea (excP C dct vs ea) :=
  ⟨⟨ob,h1,h2,h3,h4⟩,⟨_,h1⟩,fun g1 g2 ⟨ob',e1,e2,e3,e4⟩ k=>⟨ob',k _ e1,e2,e3,e4⟩⟩
def zqc (K:PySem.W.Frag) (ta tv:TE) (f:Str):TS:=fun D σ H=>tv σ H fun y H1=>ta σ H1 fun x H2=>∃ a C vs,x = .ref a∧H2 a=some (excP C none vs a)∧ExcA K C∧NoAttr K C f ∧
  ∀ dx,H2 dx=none→D.nx σ (upd (upd H2 a (excP C (some dx) vs a)) dx (.xd [(f,y)]))
section
variable {X:Cx} {o e value:Expr} {f:Str} {pos pos' tpos:Pos} {ta tv:TE}
theorem znD (ha:PE X o ta) (hv:PE X value tv) (hs:swapsWith value (some (.Attribute o f pos')) pos.line X.env=pure false):PS X (.Assign [.Attribute o f pos'] value pos) (zqc X.K ta tv f):=by
  intro pins s σ H D I h
  refine plainObj_wpAny_Assign_Attribute (thn (hv pins s σ H _ I h) fun u s1 ⟨y,H1,I1,ry,q⟩=>thn (ha pins s1 σ H1 _ I1 q) fun ov s2 ⟨x,H2,I2,rx,a,C,vs,ex,ea,c,n,q2⟩=>?_) hs
  subst ex
  obtain rfl:ov=Value.ref a:=rx
  obtain ⟨⟨ob,h1,h2,h3,h4⟩,_⟩:=I2.hok a _ ea
  refine zmz I2.kIn h1 h2 h3 h4 c.sa c.z.hm c.ov n.taker c.z.hd fun h' tk' hk hx' hn hsz=>?_
  have fr:H2 s2.heap.objs.size=none:=I2.hok.fresh (Nat.le_refl _)
  have nea:s2.heap.objs.size ≠ a:=fun z=>by rw [← z,fr] at ea; cases ea
  have I3:Inv X pins σ (upd H2 a (excP C (some s2.heap.objs.size) vs a)) { s2 with heap:=h',toks:=tk' }:=I2.write (x:=a) (e:=a) (by rw [ea]; exact True.intro) (.inl rfl) hk ⟨_,hx'⟩ (zkf hx' h2 rfl h4)
  have old:∀ b,b < s2.heap.objs.size→b ≠ s2.heap.objs.size:=fun b hb z=>absurd hb (by rw [z]; exact Nat.lt_irrefl _)
  refine ⟨σ,_,I3.track (ea:=s2.heap.objs.size) (o:=.xd [(f,y)]) (by rw [zag nea]; exact fr) ?_ ?_ ?_ ?_ ?_,q2 _ fr⟩
  · exact Heap.get?_none_of_le I2.sz
  · exact Nat.ne_of_gt I2.lt
  · intro x c e
    obtain ⟨v,o,ho,_⟩:=I2.cell x c e
    exact Nat.ne_of_lt (Heap.lt_size ho)
  · intro p hp
    exact Nat.ne_of_lt (Heap.lt_size (I2.pin p hp).1)
  · refine ⟨_,hn,fun g=>?_⟩
    show RelO (match g == f with | true=>some y | false=>none) (if g=f then some u else none)
    by_cases z:g=f
    · rw [if_pos z,show (g == f)=true by simpa using z]; exact ry
    · rw [if_neg z,show (g == f)=false by simpa using z]; trivial
end
section
variable {M:Model} {A:Around} {E:Value→Shared→Prop} {s:Shared} {B:Heap} {env:Env} {outer l:List Env} {L e:Addr} {Q:Unit→Shared→Prop}
theorem zj1 {oe:Obj} {vs:Array Value} (hfr:A.frames=some (env :: outer)) (hf:env.frame=some L) (hst:B.StaysIn s.heap) (hl:s.heap.FunFrames B (env :: outer)) (he:s.heap.get? e=some oe) (hd:oe.data = .fields vs) (h1:vs[1]?=some .none) (hen:B.get? e=none)
    (k:∀ h',FlyD B (env :: outer) e oe.cls oe.dict (rawInt L) h'→s.heap.UpToSlots h'→Q () { s with heap:=h' }):wpAny M A (noteFrame (.ref e) env) Q E s:=by
  unfold noteFrame
  simp only [hf]
  refine wpAny_bind (wpAny_field he hd (x:=Value.none) h1 ?_)
  rw [if_neg (by decide)]
  exact zkh hfr hl hf he hd (Array.getElem?_eq_some_iff.mp h1).1 hst hen k
end
def remH (H:Hp) (a:Addr):Hp:=fun b=>if b=a then none else H b
theorem zeu {H:Hp} {a b:Addr} (h:b ≠ a):remH H a b=H b:=by unfold remH; rw [if_neg h]
section
variable {P:Program} {w:World} {K:PySem.W.Frag} {mg:Str→Option Value} {base:Heap} {N:List Str} {qual:Str} {scope:Scope} {f:Addr} {cd:Value} {A:Around} {outer:List Env} {s0:Shared} {H0:Hp} {E:XK}
theorem zkd {pins:List (Addr × Obj)} {σ:St} {H:Hp} {s:Shared} {ea C:Addr} {dct:Option Addr} {vs:Array Value} (I:Inv (cx1 P w K mg base N qual scope f cd A outer s0 H0 E) pins σ H s) (he:H ea=some (excP C dct vs ea)) (h0:s0.heap.get? ea=none) (v1:vs[1]?=some .none)
    (q:E (.ref C) dct (remH H ea)):(cx1 P w K mg base N qual scope f cd A outer s0 H0 E).xe (.ref ea) s:=by
  obtain ⟨⟨ob,g1,g2,g3,g4⟩,_⟩:=I.hok ea _ he
  have hin:∀ env ∈ (cx1 P w K mg base N qual scope f cd A outer s0 H0 E).stack,∀ a,env.frame=some a→a ∈ ea :: frs (cx1 P w K mg base N qual scope f cd A outer s0 H0 E).stack:=fun env he a ha=>List.mem_cons_of_mem _ (List.mem_filterMap.mpr ⟨env,he,ha⟩)
  have hstk:=I.stack
  show wpAny (model P w) _ (leaving _ (.ref ea)) _ _ s
  unfold leaving
  refine wpAny_bind (zj1 (B:=PySem.W.hideAll s.heap (ea :: frs (cx1 P w K mg base N qual scope f cd A outer s0 H0 E).stack)) I.ok.frames rfl (fun b o e=>PySem.W.of_hideAll _ e) (PySem.W.funFrames_hide hstk hin) g1 g4 v1 (PySem.W.hideAll_none _ (by simp)) fun h1 F1 up1=>?_)
  refine zlh F1 fun h2 F2 up2=>?_
  have keepS:∀ b o,s.heap.get? b=some o→b ∉ ea :: frs (cx1 P w K mg base N qual scope f cd A outer s0 H0 E).stack→(PySem.W.hideAll s.heap (ea :: frs (cx1 P w K mg base N qual scope f cd A outer s0 H0 E).stack)).get? b=some o:=fun b o e hb=>PySem.W.hideAll_get _ e hb
  have nea:∀ {b:Addr} {u:HO},H b=some u→(∀ φ,u ≠ .ext φ)→b ≠ ea:=fun e n z=>by
    subst z
    rw [he] at e
    exact n _ (Option.some.inj e).symm
  have base':Un (cx1 P w K mg base N qual scope f cd A outer s0 H0 E).fs [] H0 (remH H ea) s0.heap s.heap:=⟨I.base.keep,I.base.slot,fun b o e n hx=>by
      unfold remH
      split
      · rfl
      · exact I.base.free b o e n hx,I.base.there,fun b xs e=>by
      have z:=I.base.tups b xs e
      rw [zeu (nea z (fun _ w=>by cases w))]; exact z,fun b o u e=>by
      have z:=I.base.frzs b o u e
      rw [zeu (nea z (fun _ w=>by cases w))]; exact z,fun b ps e=>by
      obtain ⟨m,z⟩:=I.base.tbls b ps e
      exact ⟨m,by rw [zeu (nea z (fun _ w=>by cases w))]; exact z⟩⟩
  obtain ⟨u,third⟩:=ziz (h1:=s0.heap) (h2:=s.heap) (h3:=h2) (B:=PySem.W.hideAll s.heap (ea :: frs (cx1 P w K mg base N qual scope f cd A outer s0 H0 E).stack)) (fr:=frs (cx1 P w K mg base N qual scope f cd A outer s0 H0 E).stack) Un.refl (base'.mono (fun b hb=>List.mem_cons_of_mem _ hb) (fun b hb=>hb)) I.ok.above I.stkSub
    (fun b hb=>List.mem_cons_of_mem _ hb) I.ok.frf (fun b hb o e=>by
      obtain ⟨_,o',ho',hn⟩:=hstk.mem (List.mem_cons_of_mem _ hb)
      rw [e] at ho'
      cases ho'
      exact hn) (up1.trans up2) F2.stays (fun b o e hb=>by
      obtain ⟨o',e'⟩:=I.base.there b o e (by show b ∉ []; simp)
      have nb:b ≠ ea:=fun z=>by rw [z] at e; rw [h0] at e; cases e
      refine ⟨o',keepS b o' e' (fun z=>(List.mem_cons.mp z).elim nb hb),fun n=>?_⟩
      have k:=I.base.keep b o e n (fun z=>hb (List.mem_cons_of_mem _ z)) (by show b ∉ []; simp)
      rw [e'] at k
      exact Option.some.inj k)
  refine ⟨ea,C,dct,remH H ea,rfl,⟨I.os,I.bare,u,_,by rw [g2,g3] at F2; exact F2.pop,?_,third⟩,q⟩
  intro a o e
  have na:a ≠ ea:=fun z=>by rw [z] at e; unfold remH at e; rw [if_pos rfl] at e; cases e
  rw [zeu na] at e
  refine (I.hok a o e).stay (fun b v hb q=>keepS b v q fun z=>?_) (fun b q=>by rw [zeu (nea q (fun _ w=>by cases w))]; exact q) fun b _ q=>by rw [zeu (nea q (fun _ w=>by cases w))]; exact q
  rcases List.mem_cons.mp z with z | z
  · subst z
    rcases hb with hb | hb
    · exact na hb.symm
    · exact nea hb (fun _ w=>by cases w) rfl
  · have n:=I.stkFree b z
    rcases hb with rfl | hb
    · rw [e] at n; cases n
    · rw [hb] at n; cases n
end
theorem zi4 {K:PySem.W.Frag} {h:Heap} {N:Addr} {m:Str→Option Value} {n:Str} {v:Value} (X:K.In h) (G:h.Ns N m) (e:PySem.W.nsIn K N n=some (some v)):m n=some v:=by
  obtain ⟨o,es,ep,a1,a2,_,a3⟩:=G
  unfold PySem.W.nsIn at e
  split at e
  · rename_i look
    have eq:=(X _ _ look).symm.trans a1
    cases eq
    cases a2
    split at e
    · rename_i found
      cases e
      refine (a3 n).symm.trans ?_
      simp only [nsFind,findBy]
      rw [← Array.find?_toList,found]; rfl
    · split at e <;> cases e
  · cases e
def zgv (K:PySem.W.Frag) (C:Addr) (bmB:List Value) (newId:String) (fa:Addr):Bool:=match K.lookup C with
  | some ⟨.type "type",_,.cls cd,sl⟩=>(match cd.mro,sl.toList with
    | .ref C' :: bm,[_,_,_,_,some (.builtin n),_]=>C' == C && n == newId && !cd.hasDel && PySem.W.tailIn K bmB bm && PySem.W.nsOkIn K cd.ns && PySem.W.nsIn K cd.ns "__init__" == some (some (.ref fa))
    | _,_=>false)
  | _=>false
theorem zi6 {K:PySem.W.Frag} {h:Heap} {C fa:Addr} {bmB:List Value} {newId:String} (X:K.In h) (q:zgv K C bmB newId fa=true) :
    ∃ bm N nm qn bs hdct sn sub ab col dd k0 k1 k2 k3 k5 mN,h.get? C=some (excClassObj nm qn C N bs bm hdct sn sub ab col dd k0 k1 k2 k3 k5 newId)∧h.Ns N mN∧mN "__init__"=some (.ref fa)∧OwnTail h bmB bm:=by
  unfold zgv at q
  split at q
  · rename_i dd cd sl ho
    split at q
    · rename_i C' bm k0 k1 k2 k3 n k5 hm hs
      simp only [Bool.and_eq_true,beq_iff_eq,Bool.not_eq_true'] at q
      obtain ⟨⟨⟨⟨⟨rfl,rfl⟩,hdel⟩,ht⟩,hok⟩,hni⟩:=q
      obtain ⟨nm,bs,mro,ns,qn,hd,sn,sub,ab,col,del⟩:=cd
      dsimp only at hm hdel hok hni
      subst hm hdel
      obtain ⟨sll⟩:=sl
      simp only at hs
      subst hs
      exact ⟨bm,ns,nm,qn,bs,hd,sn,sub,ab,col,dd,k0,k1,k2,k3,k5,_,X _ _ ho,.of_isNs (PySem.W.isNs_of_in X hok),zi4 X (.of_isNs (PySem.W.isNs_of_in X hok)) hni,PySem.W.tail_of_in X ht⟩
    · cases q
  · cases q
section
variable {M:Model} {A:Around} {E:Value→Shared→Prop} {env:Env}
variable {nm q:Str} {C N:Addr} {bs bm:List Value} {hdct:Bool} {sn:List Str} {sub:List Value} {ab:Bool} {col:Option Bool} {dd:Option Addr} {k0 k1 k2 k3 k5:Option Value} {newId:String}
theorem zfX {s:Shared} {x:Sem Value} {Q:Flow→Shared→Prop} (hbase:bm.contains (.type "BaseException")=true) (hh:A.handled=none)
    (h:wpAny M A x (fun v s₁=>∃ e oe,v = .ref e∧s₁.heap.get? C=some (excClassObj nm q C N bs bm hdct sn sub ab col dd k0 k1 k2 k3 k5 newId) ∧
      s₁.heap.get? e=some oe∧oe.cls = .ref C∧(∃ vs,oe.data = .fields vs∧vs[1]?=some .none)∧E (.ref e) s₁) E s) :
    wpAny M A (raiseStmt env (some x) none) Q E s:=by
  have hcB:(Value.ref C :: bm).contains (.type "BaseException")=true:=by rw [List.contains_cons,hbase,Bool.or_true]
  unfold raiseStmt
  refine wpAny_bind (wpAny_mono h (fun v s₁ h₁=>?_) fun _ _ x=>x)
  obtain ⟨e,oe,rfl,hC,he,hc,⟨vs,hd,hv⟩,hE⟩:=h₁
  obtain ⟨hp,g,d,tk,os⟩:=s₁
  obtain ⟨oc,odi,oda,osl⟩:=oe
  dsimp only at hc hd
  subst hc hd
  repeat (first | with_reducible refine wpAny_loadPart_at he ?_ | with_reducible refine wpAny_loadPart_at hC ?_ | (with_reducible refine wpAny_isSubtype_exc hC ?_; rw [hcB]) | wp_step)
  rw [hv]
  refine wpAny_pure ?_
  rw [if_neg (by decide)]
  refine wpAny_pure ?_
  exact wpAny_raiseNew_none hh hE
end
def zn7 (X:Cx) (E:St→XK):Prop:=∀ (pins:List (Addr × Obj)) (σ:St) (H:Hp) (s:Shared) (ea C:Addr) (dct:Option Addr) (vs:Array Value),Inv X pins σ H s→H ea=some (excP C dct vs ea)→X.s₀.heap.get? ea=none→vs[1]?=some .none→E σ (.ref C) dct (remH H ea)→X.xe (.ref ea) s
def zii (C:Addr) (sp:Sp) (E:St→XK) (t:TA):TS:=fun _ σ H=>t σ H fun vs H1=>vs.length ≤ sizeLine ∧
  ∀ e xs,H1 e=none→sp (.ref e :: vs) (upd H1 e (excP C none xs e)) (fun v H2=>v = .non∧∃ dct,H2 e=some (excP C dct xs e)∧E σ (.ref C) dct (remH H2 e)) E0
section
variable {P:Program} {w:World} {K:PySem.W.Frag} {mg:Str→Option Value} {base:Heap} {N:List Str} {qual:Str} {scope:Scope} {f:Addr} {cd:Value} {A:Around} {outer:List Env} {s0:Shared} {H0:Hp} {E:XK}
theorem zoM:zn7 (cx1 P w K mg base N qual scope f cd A outer s0 H0 E) (fun _=>E):=fun _ _ _ _ _ _ _ _ I he h0 v1 q=>zkd I he h0 v1 q
end
section
variable {X:Cx} {CX:CXT} {k:Nat} {fa:Addr} {fd:FuncData} {ps:List Str} {sp:Sp} {x:Str} {np cpos pos:Pos} {e₀:Expr} {rest:List Expr} {C:Addr} {bmB bmN:List Value} {newId Bn B nid inN initId:String} {E:St→XK} {t:TA}
theorem zlH (hex:X.ex = []) (hc:X.calm=true) (hg:Gl X x) (hmx:X.mg x=some (.ref C)) (hk:zgv X.K C bmB newId fa=true) (Fn:ExcBaseFacts Bn newId inN bmN) (hBn:bmB.contains (.type Bn)=true) (FB:ExcBaseFacts B nid initId bmB) (hE:zn7 X E)
    (F:FnOk X.prog X.w X.K X.mg X.base CX k fa fd ps sp) (hr:Room (k + 1) X.A) (hb:Binds X.K fd ps []) (hfn:PySem.W.isFn X.K (.ref fa)=true) (hx:zcJ CX X E0)
    (ha:PA X (e₀ :: rest) t) (he:starEach (e₀ :: rest) X.env=(false,eval e₀ X.env) :: starEach rest X.env:=by rfl) (hplain:(backTo cpos (starEach rest X.env)).any (·.1)=false:=by rfl) (hdb:(x == ("__debug__" : Str))=false:=by decide) :
    PS X (.Raise (some (.Call (.Name x np) (e₀ :: rest) [] cpos)) none pos) (zii C sp E t):=by
  intro pins s σ H D I h
  obtain ⟨tl,N,nm,qn,bs,hdct,sn,sub,ab,col,dd,k0,k1,k2,k3,k5,mN,hC,hN,hni,T⟩:=zi6 I.ok.mod.kin hk
  have hpl:(backTo cpos (starEach (e₀ :: rest) X.env)).any (·.1)=false:=by
    rw [he]; show (false || (backTo cpos (starEach rest X.env)).any (·.1))=false; rw [hplain]; rfl
  rw [arm_exec_Raise]
  refine wpAny_bind (wpAny_standAt (zfX (C:=C) (nm:=nm) (q:=qn) (N:=N) (bs:=bs) (bm:=tl) (hdct:=hdct) (sn:=sn) (sub:=sub) (ab:=ab) (col:=col) (dd:=dd) (k0:=k0) (k1:=k1) (k2:=k2) (k3:=k3) (k5:=k5) (newId:=newId) (T.hasType FB.hasBase) (I.ok.hd hc) ?_))
  refine wpAny_bind (wpAny_mono (wpAny_Call_ofName (zdL I hg hmx ?_ hdb)) (fun v s₃ h₃=>wpAny_bind (wpAny_standAt (wpAny_pure h₃))) fun _ _ x=>x)
  unfold callWith
  refine wpAny_bind (wpAny_holding ?_)
  have hA:=ha cpos pins s σ H _ I h
  rw [he] at hA hpl ⊢
  refine Calls.evalArgs_plain (thn hA fun us s1 ⟨vs,H1,I1,r1,z,q⟩=>?_)
  have bk:=I1.bk
  have hC1:=bk _ _ hC
  have hN1:=hN.keeps bk
  have T1:=T.keeps bk
  have fI:∃ fo,s1.heap.get? fa=some fo∧fo.cls = .type "function":=by
    have z:=beq_iff_eq.mp hfn
    unfold PySem.W.typeIn at z
    obtain ⟨fo,e1,e2⟩:=Option.map_eq_some_iff.mp z
    exact ⟨fo,I1.kIn _ _ e1,e2⟩
  obtain ⟨fo,atF,isF⟩:=fI
  obtain ⟨hp,g,d,tk,os⟩:=s1
  refine wpAny_bind (wpAny_standAt ?_)
  simp only [hpl]
  refine wpAny_bind (wpAny_keeperOf_exc hC1 ?_)
  refine wpAny_bind (zjK Fn hBn FB T1 hC1 hN1 hni atF isF (fun h' e hm=>?_) (by show us.length ≤ sizeLine; rw [← r1.length]; exact z))
  obtain ⟨t,ht,_,_⟩:=hm.there
  have nw:hp.get? e=none:=hm.new
  have nH:H1 e=none:=I1.hok.none_of nw
  have h0:X.s₀.heap.get? e=none:=by
    cases z:X.s₀.heap.get? e with
    | none=>rfl
    | some o =>
      obtain ⟨o',e'⟩:=I1.base.there e o z (by rw [hex]; simp)
      rw [show hp.get? e=some o' from e'] at nw; cases nw
  have I2:Inv X pins σ H1 { heap:=h',gens:=g,drawn:=d,toks:=tk,os:=os }:=I1.kept hm.keeps
  have I3:=I2.track (ea:=e) (o:=excP C none #[.ref t,.none,.none,.none,.bool false,.none] e) nH h0 (fun z=>by
      obtain ⟨m,⟨o,es,ep,ho,_⟩,_⟩:=I1.loc
      rw [z,show hp.get? X.env.locals=some o from ho] at nw; cases nw) (fun x c ec z=>by
      obtain ⟨v,o,ho,_⟩:=I1.cell x c ec
      rw [z,nw] at ho; cases ho) (fun p hpn z=>by
      have a:=(I1.pin p hpn).1
      rw [z,nw] at a; cases a) (zkf ht rfl rfl rfl)
  have hq:=q e #[.ref t,.none,.none,.none,.bool false,.none] nH
  have r2:Vals (V.ref e :: vs) (Value.ref e :: us):=.cons rfl r1
  have hl:(Value.ref e :: us ++ []).length=ps.length:=by
    rw [List.append_nil,← r2.length]
    exact F.len _ _ _ _ hq
  have bb:=hb _ (Value.ref e :: us) I3.kIn hl
  rw [List.append_nil] at bb
  refine wpAny_call (codeAny_mono (F.run _ X.stack _ _ ⟨Value.ref e :: us,[]⟩ (Value.ref e :: us) _ _ E0 (hr.make C us []) (I3.env0.make C us []) bb r2 hq) fun r s' hq'=>?_)
  cases r with
  | error er=>exact hx pins σ _ _ er s' I3 hq'
  | ok fl =>
    cases fl with
    | ret u =>
      obtain ⟨v,H',I4,rv,ev,dct,eH,qE⟩:=I3.after hq'
      subst ev
      obtain ⟨⟨ob,g1,g2,g3,g4⟩,_⟩:=I4.hok e _ eH
      exact ⟨rv,wpAny_bind (wpAny_holding (wpAny_point (wpAny_pure ⟨e,ob,rfl,I4.bk _ _ hC,g1,g2,⟨_,g4,rfl⟩,hE pins σ H' s' e C dct _ I4 eH h0 rfl qE⟩)))⟩
    | next=>exact False.elim hq'
    | brk=>exact False.elim hq'
    | cont=>exact False.elim hq'
end
end L2
namespace PM
open PySem L2
def spI (K:PySem.W.Frag) (attr:Str):Sp:=fun vs H Q _=>∃ (e C:Addr) (xs:Array Value) (n:Int),vs = [.ref e,.int n]∧H e=some (excP C none xs e)∧ExcA K C∧NoAttr K C attr ∧
  ∀ dx,H dx=none→Q .non (upd (upd H e (excP C (some dx) xs e)) dx (.xd [(attr,.int n)]))
theorem znV {K:PySem.W.Frag} {attr p1 p2:Str} {vs:List V} {H:Hp} {Q:VK} {E:XK} (h:spI K attr vs H Q E):vs.length = [p1,p2].length:=by
  obtain ⟨_,_,_,_,rfl,_⟩:=h
  rfl
def HasI (P:Program) (w:World) (K:PySem.W.Frag) (mg:Str→Option Value) (base:Heap) (fa:Addr) (ps:List Str) (sp:Sp):Prop:=∃ fd,FnOk P w K mg base CX0 1 fa fd ps sp∧Binds K fd ps []
section
variable {X:Cx} {fa:Addr} {ps:List Str} {sp:Sp} {x:Str} {np cpos pos:Pos} {e₀:Expr} {rest:List Expr} {C:Addr} {bmB bmN:List Value} {newId Bn B nid inN initId:String} {E:L2.St→XK} {t:TA}
theorem zkp (hex:X.ex = []) (hc:X.calm=true) (hg:Gl X x) (hmx:X.mg x=some (.ref C)) (hk:zgv X.K C bmB newId fa=true) (Fn:ExcBaseFacts Bn newId inN bmN) (hBn:bmB.contains (.type Bn)=true) (FB:ExcBaseFacts B nid initId bmB) (hE:zn7 X E)
    (G:HasI X.prog X.w X.K X.mg X.base fa ps sp) (hr:Room 2 X.A) (hfn:PySem.W.isFn X.K (.ref fa)=true)
    (ha:PA X (e₀ :: rest) t) (he:starEach (e₀ :: rest) X.env=(false,eval e₀ X.env) :: starEach rest X.env:=by rfl) (hplain:(backTo cpos (starEach rest X.env)).any (·.1)=false:=by rfl) (hdb:(x == ("__debug__" : Str))=false:=by decide) :
    PS X (.Raise (some (.Call (.Name x np) (e₀ :: rest) [] cpos)) none pos) (zii C sp E t):=by
  obtain ⟨fd,F,hb⟩:=G
  exact zlH hex hc hg hmx hk Fn hBn FB hE F hr hb hfn zbA ha he hplain hdb
end
def asI1:List D→Option Int
  | [.int n]=>some n
  | _=>none
theorem zj8 {l:List D} {n:Int} (h:asI1 l=some n):l = [.int n]:=by
  unfold asI1 at h
  split at h
  · cases h; rfl
  · cases h
def zkC (c0:Nat) (ml:En→R (List D)) (δ:En):O:=(ml δ).toO δ fun l=>match asI1 l with | some n=>ifC (0 ≤ n) (.ex δ ⟨c0 + 16 * (n.toNat + 1)⟩) .no | none=>.no
section
variable {K:Kx} {XO:XOT} {E:L2.St→XK} {ta:TE} {ma:En→R D} {Λ:List (Nat × Addr × HO)} {F0 H0 F H:Hp} {σ:L2.St} {δ:En}
theorem zkV {C:Addr} {c0:Nat} {attr:Str} {tl:TA} {ml:En→R (List D)} (h16:c0 < 16) (hC:∀ k,C=K.ca (c0 + 16 * (k + 1))) (han:∀ k,K.an (c0 + 16 * (k + 1))=attr) (zA:ExcA K.f C) (zN:NoAttr K.f C attr)
    (h:SA K (xoK K) E tl ml):SS K (xoK K) E (zii C (spI K.f attr) E tl) (zkC c0 ml):=by
  intro Λ F0 H0 F H σ δ Dn I a
  refine h Λ F0 H0 F H σ δ _ I ((AftS.of I a).imp fun l F1 H1 e p vs r=>?_)
  cases q1:asI1 l with
  | none=>rw [q1] at p; exact p.elim
  | some n =>
    rw [q1] at p
    have el:=zj8 q1
    subst el
    simp only at p
    unfold ifC at p
    split at p
    · rename_i hn
      obtain ⟨v,rfl,rv⟩:=r.one
      simp only [Rep] at rv
      subst rv
      refine ⟨by show 1 ≤ sizeLine; decide,fun ea xs hea=>⟨ea,C,xs,n,rfl,zai,zA,zN,fun dx hdx=>⟨rfl,some dx,?_,?_⟩⟩⟩
      · have ne:ea ≠ dx:=fun z=>by rw [← z,zai] at hdx; cases hdx
        rw [zag ne,zai]
      · have ne:dx ≠ ea:=fun z=>by rw [z,zai] at hdx; cases hdx
        have hd1:H1 dx=none:=by rw [zag ne] at hdx; exact hdx
        have er:remH (upd (upd (upd H1 ea (excP C none xs ea)) ea (excP C (some dx) xs ea)) dx (.xd [(attr,.int n)])) ea=upd H1 dx (.xd [(attr,.int n)]):=by
          funext b
          by_cases hb:b=ea
          · subst hb
            rw [zag (Ne.symm ne),hea]
            unfold remH
            rw [if_pos rfl]
          · rw [zeu hb]
            by_cases hd:b=dx
            · subst hd; rw [zai,zai]
            · rw [zag hd,zag hd,zag hb,zag hb]
        rw [er]
        have x:=Ext.new (o:=.xd [(attr,.int n)]) (I.grow e).same hd1
        refine p σ _ _ _ _ ((I.grow e).grow x) ⟨by rw [hC n.toNat],?_⟩
        show XA K _ (c0 + 16 * (n.toNat + 1)) _
        unfold XA
        rw [if_neg (by omega)]
        refine ⟨dx,rfl,?_⟩
        rw [zai,han]
        have:(((c0 + 16 * (n.toNat + 1)) / 16:Nat):Int) - 1=n:=by omega
        rw [this]
    · exact p.elim
end
end PM
namespace L2
open PySem PyProof.Rows
section
variable {N:Nat} {p:Array Nat}
end
section
variable {ky:Nat→Int} {N:Nat} {cmp:Nat→Nat→(Bool→Shared→Prop)→Shared→Prop}
end
end L2
namespace L2
open PySem PySem.Spec PyProof.Rows
section
variable {prog:Program} {w:World} {A:Around} {E:Value→Shared→Prop} {s:Shared}
end
section
variable {X:Cx} {pins:List (Addr × Obj)} {σ:St} {H:Hp} {s:Shared} {h':Heap}
end
end L2
namespace PM
open PySem L2
section
variable {K:Kx} {XO:XOT} {E:L2.St→XK}
end
end PM
namespace L2
open PySem PySem.Spec PyProof.Rows
section
variable {P:Program} {w:World} {K:PySem.W.Frag} {mg mb:Str→Option Value} {CX:CXT} {k:Nat} {fa a tP:Addr} {fd:FuncData} {x:Str} {sp:Sp} {s₁:Shared} {vs:List Value} {ns:List Int}
end
end L2
namespace L2
open PySem PySem.Spec PyProof.Rows
section
variable {X:Cx}
end
end L2
namespace PM
open PySem L2
section
variable {K:Kx} {XO:XOT} {E:L2.St→XK}
end
end PM
namespace PM
open PySem L2
section
variable {K:Kx}
end
end PM
namespace L2
open PySem PySem.Spec PyProof.Rows
section
variable {prog:Program} {w:World} {A:Around} {E:Value→Shared→Prop} {s:Shared}
end
end L2
namespace L2
open PySem PySem.Spec PyProof.Rows
section
variable {prog:Program} {w:World} {A:Around} {E:Value→Shared→Prop} {s:Shared}
end
section
variable {X:Cx} {pins:List (Addr × Obj)} {σ:St} {A:Around} {R:Result→Shared→Prop}
end
end L2
namespace PM
open PySem L2
section
variable {K:Kx} {XO:XOT} {E:L2.St→XK}
end
end PM
namespace L2
open PySem PySem.Spec PyProof.Rows
section
variable {X:Cx} {pins:List (Addr × Obj)} {σ:St} {H:Hp} {s:Shared} {a:Addr} {kvs:List (Key × V)}
end
theorem KV.len {kvs:List (Key × V)} {vs:List (Key × Value)} (r:KV kvs vs):vs.length=kvs.length:=by
  unfold KV at r
  induction r with
  | nil=>rfl
  | cons _ _ ih=>simp [ih]
section
variable {X:Cx}
def zkX:List V→Hp→VK→Prop:=fun xs H Q=>∃ a kvs,xs = [.ref a]∧Rd H a (.dK kvs)∧∀ l,H l=none→Q (.ref l) (upd H l (.dK kvs))
theorem zim:zgV X (.type "dict") zkX:=by
  intro pins s σ H xs us Q I r h
  obtain ⟨a,kvs,rfl,ha,q⟩:=h
  obtain ⟨u,rfl,rx⟩:=zgq r
  cases rx
  obtain ⟨z,sm,vs,rv,dd⟩:=zkA I.hok ha
  refine kt_call_dict sm dd (by rw [rv.len]; exact z) fun h' d' hs=>?_
  have hs2:Heap.SameBut s.heap.objs.size (s.heap.push { cls:=.type "dict",data:=.dict #[] }) h':=hs
  have kp:∀ b u,s.heap.get? b=some u→h'.get? b=some u:=fun b u e=>(hs2.2 b (Nat.ne_of_lt (Heap.lt_size e))).trans (Heap.get?_push_of_some _ e)
  exact ⟨.ref s.heap.objs.size,_,I.laid (t':=s.toks) kp (Nat.le_refl _) (znc z (by
    have:=I.big
    exact beq_eq_false_iff_ne.mpr (Nat.ne_of_gt this)) rv d'),rfl,q _ (I.hok.fresh (Nat.le_refl _))⟩
end
end L2
namespace PM
open PySem L2
section
variable {K:Kx} {XO:XOT} {E:L2.St→XK}
end
end PM
namespace L2
open PySem PySem.Spec PyProof.Rows
structure HasD (P:Program) (w:World) (K:PySem.W.Frag) (mg:Str→Option Value) (base:Heap) (CX:CXT) (k:Nat) (x:Str) (ps:List Str) (sp:Sp) (d:V):Prop where
  ex:∃ (f:Addr) (fd:FuncData),FnOk P w K mg base CX k f fd ps sp∧mg x=some (.ref f)∧PySem.W.keepIn K (.ref f)=true∧Binds K fd ps []∧∃ u,RelV d u∧Binds K fd ps [u]
section
variable {P:Program} {w:World} {K:PySem.W.Frag} {mg:Str→Option Value} {base:Heap} {CX:CXT} {k:Nat} {x:Str} {ps:List Str} {sp:Sp} {d:V}
theorem HasD.has (G:HasD P w K mg base CX k x ps sp d):Has P w K mg base CX k x ps sp:=by
  obtain ⟨f,fd,a,b,c,e,_⟩:=G.ex
  exact ⟨f,fd,a,b,c,e⟩
end
section
variable {X:Cx} {CX:CXT} {k:Nat} {x:Str} {ps:List Str} {sp:Sp} {E:XK} {p pos:Pos} {a b:Expr} {ta tb:TE} {d:V}
end
theorem zjE {K:PySem.W.Frag} {fd:FuncData} {ps:List Str} {T:Addr} {o:Obj} {u:Value} {n:Nat} (hd:fd.defaults = .ref T) (ho:K.lookup T=some o) (hs:o.data = .seq #[u] n)
    (h3:∀ us:List Value,us.length=ps.length→∃ kk,bindArgs fd ⟨us,[]⟩=seqItems? fd.defaults >>= kk∧kk (some #[u])=pure (ps.zip us))
    (h2:∀ us:List Value,us.length + 1=ps.length→∃ kk,bindArgs fd ⟨us,[]⟩=seqItems? fd.defaults >>= kk∧kk (some #[u])=pure (ps.zip (us ++ [u]))):Binds K fd ps []∧Binds K fd ps [u]:=by
  constructor
  · intro s us hK hl
    rw [List.append_nil] at hl ⊢
    obtain ⟨kk,e1,e2⟩:=h3 us hl
    exact .of_defaults hd (hK T o ho) hs e1 e2
  · intro s us hK hl
    obtain ⟨kk,e1,e2⟩:=h2 us (by simpa using hl)
    exact .of_defaults hd (hK T o ho) hs e1 e2
structure FunD (K:PySem.W.Frag) (x qual:Str) (st:Stmt) (f:Addr) (fd:FuncData) (d:V):Prop where
  ex:∃ (oc:Value) (od:Option Addr) (T:Addr) (kV doc pm:Value) (an:Option Addr) (cdv ct:Value) (osl:Array (Option Value)),
    fd=PySem.W.fnOf x qual (zbU st) (zbu st) (zah st) (.ref T) kV doc pm an cdv ct∧K.lookup f=some ⟨oc,od,.func fd,osl⟩∧PySem.W.codeIn K cdv qual=true∧∃ (o:Obj) (u:Value) (n:Nat),K.lookup T=some o∧o.data = .seq #[u] n∧RelV d u
  kp:PySem.W.keepIn K (.ref f)=true
section
variable {P:Program} {w:World} {K:PySem.W.Frag} {mg:Str→Option Value} {base:Heap} {d:V}
theorem FunD.binds {x qual:Str} {st:Stmt} {f:Addr} {fd:FuncData} {ps:List Str} (F:FunD K x qual st f fd d)
    (h3:∀ (T:Addr) (kV doc pm:Value) (an:Option Addr) (cdv ct u:Value) (us:List Value),us.length=ps.length→∃ kk,bindArgs (PySem.W.fnOf x qual (zbU st) (zbu st) (zah st) (.ref T) kV doc pm an cdv ct) ⟨us,[]⟩=seqItems? (.ref T) >>= kk∧kk (some #[u])=pure (ps.zip us))
    (h2:∀ (T:Addr) (kV doc pm:Value) (an:Option Addr) (cdv ct u:Value) (us:List Value),us.length + 1=ps.length→∃ kk,bindArgs (PySem.W.fnOf x qual (zbU st) (zbu st) (zah st) (.ref T) kV doc pm an cdv ct) ⟨us,[]⟩=seqItems? (.ref T) >>= kk∧kk (some #[u])=pure (ps.zip (us ++ [u]))) :
    Binds K fd ps []∧∃ u,RelV d u∧Binds K fd ps [u]:=by
  obtain ⟨oc,od,T,kV,doc,pm,an,cdv,ct,osl,rfl,lk,hcd,o,u,n,ho,hs,ru⟩:=F.ex
  obtain ⟨b1,b2⟩:=zjE (ps:=ps) (fd:=PySem.W.fnOf x qual (zbU st) (zbu st) (zah st) (.ref T) kV doc pm an cdv ct) rfl ho hs (fun us hl=>h3 T kV doc pm an cdv ct u us hl) fun us hl=>h2 T kV doc pm an cdv ct u us hl
  exact ⟨b1,u,ru,b2⟩
end
structure DefAtD (K:PySem.W.Frag) (x:Str) (st:Stmt) (f:Addr) (fd:FuncData) (d:V):Prop where
  ns:PySem.W.nsIn K mainGlobals x=some (some (.ref f))
  fn:FunD K x x st f fd d
theorem defAtD_mk {K:PySem.W.Frag} {x:Str} {st:Stmt} {f T:Addr} {oc oc':Value} {od an od':Option Addr} {osl osl':Array (Option Value)} {kV doc pm cdv ct:Value} {i:Int} {tk:Tok} {n:Nat} (a:PySem.W.nsIn K mainGlobals x=some (some (.ref f)))
    (l:K.lookup f=some ⟨oc,od,.func (PySem.W.fnOf x x (zbU st) (zbu st) (zah st) (.ref T) kV doc pm an cdv ct),osl⟩) (c:PySem.W.codeIn K cdv x=true) (k:PySem.W.keepIn K (.ref f)=true) (t:K.lookup T=some ⟨oc',od',.seq #[.int i tk] n,osl'⟩):∃ f fd,DefAtD K x st f fd (.int i) :=
  ⟨f,_,a,⟨⟨oc,od,T,kV,doc,pm,an,cdv,ct,osl,rfl,l,c,_,_,n,t,rfl,tk,rfl⟩,k⟩⟩
theorem DefAtD.has {P:Program} {w:World} {K:PySem.W.Frag} {mg:Str→Option Value} {base h:Heap} {CX:CXT} {k:Nat} {x:Str} {st:Stmt} {f:Addr} {fd:FuncData} {ps:List Str} {sp:Sp} {d:V} (D:DefAtD K x st f fd d) (X:K.In h) (G:h.Ns mainGlobals mg)
    (ok:FnOk P w K mg base CX k f fd ps sp) (b:Binds K fd ps []∧∃ u,RelV d u∧Binds K fd ps [u]):HasD P w K mg base CX k x ps sp d:=⟨f,fd,ok,PySem.W.mg_of X G D.ns,D.fn.kp,b⟩
end L2
namespace PM
open PySem L2
def getF:List Str→List D→Str→Option D
  | a :: r,d :: t,f=>if a=f then some d else getF r t f
  | _,_,_=>none
def putN:List Str→Str→List Str
  | [],f=>[f]
  | a :: r,f=>if a=f then a :: r else a :: putN r f
def putV:List Str→List D→Str→D→List D
  | [],_,_,d=>[d]
  | a :: r,l,f,d=>if a=f then d :: l.drop 1 else match l with | x :: t=>x :: putV r t f d | []=>[]
section
variable {K:Kx} {F H:Hp}
theorem zib {f:Str}:∀ {fs:List (Str × V)} {ks:List Str} {l:List D} {d:D},fs.map (·.1)=ks→RepL K F l (fs.map (·.2))→getF ks l f=some d→∃ v,fs.lookup f=some v∧Rep K F d v
  | [],ks,l,d,h1,h2,h=>by
    subst h1
    cases l <;> cases h
  | (g,x) :: fs,ks,l,d,h1,h2,h=>by
    subst h1
    cases l with
    | nil=>cases h
    | cons y l =>
      simp only [List.map_cons,RepL] at h2
      obtain ⟨v,r,e,r1,r2⟩:=h2
      cases e
      rw [List.map_cons,getF] at h
      by_cases c:g=f
      · rw [if_pos c] at h
        cases h
        exact ⟨x,by rw [List.lookup_cons,show (f == g)=true from beq_iff_eq.mpr c.symm],r1⟩
      · rw [if_neg c] at h
        obtain ⟨v,h3,h4⟩:=zib rfl r2 h
        exact ⟨v,by rw [List.lookup_cons,show (f == g)=false from beq_eq_false_iff_ne.mpr (Ne.symm c)]; exact h3,h4⟩
theorem zfD {f:Str}:∀ {fs:List (Str × V)},f ∉ fs.map (·.1)→fs.lookup f=none
  | [],_=>rfl
  | (g,x) :: fs,h=>by
    simp only [List.map_cons,List.mem_cons,not_or] at h
    rw [List.lookup_cons,show (f == g)=false from beq_eq_false_iff_ne.mpr h.1]
    exact zfD h.2
theorem zgc {f:Str} {v:V} {d:D} (rv:Rep K F d v):∀ {fs:List (Str × V)} {l:List D},RepL K F l (fs.map (·.2))→(putF f v fs).map (·.1)=putN (fs.map (·.1)) f∧RepL K F (putV (fs.map (·.1)) l f d) ((putF f v fs).map (·.2))
  | [],l,_=>⟨rfl,.cons rv .nil⟩
  | (g,x) :: fs,l,h=>by
    cases l with
    | nil=>simp only [List.map_cons,RepL] at h; cases h
    | cons y l =>
      simp only [List.map_cons,RepL] at h
      obtain ⟨u,r,e,r1,r2⟩:=h
      cases e
      unfold putF
      rw [List.map_cons]
      by_cases c:g=f
      · rw [if_pos c]
        refine ⟨by rw [putN,if_pos c]; rfl,?_⟩
        rw [putV,if_pos c]
        exact .cons rv r2
      · rw [if_neg c]
        obtain ⟨a,b⟩:=zgc rv (fs:=fs) r2
        refine ⟨by rw [putN,if_neg c,List.map_cons,a],?_⟩
        rw [putV,if_neg c]
        exact .cons r1 b
end
def oFld (ok:Nat→Bool) (f:Str) (d:D):Option D:=match d with | .obj c ks l=>if ok c=true then getF ks l f else none | _=>none
section
variable {K:Kx} {XO:XOT} {E:L2.St→XK} {ta te:TE} {ma me:En→R D}
theorem zdx {f:Str} {ok:Nat→Bool} (hc:∀ c,ok c=true→Cls K.f (K.ca c)∧NoAttr K.f (K.ca c) f) (h:SEr K XO E ta ma):SE K XO E (tFld K.f ta f) (m1 (oFld ok f) ma):=by
  intro Λ F0 H0 F H σ δ Q I a
  refine h Λ F0 H0 F H σ δ _ I (a.bind.imp fun d F1 H1 e1 a1 x rx=>?_)
  cases d with
  | obj c ks l =>
    obtain ⟨p,dx,fs,rfl,h1,h2,h3⟩:=rx
    change Aft E XO σ F1 H1 _ (R.of (if ok c=true then getF ks l f else none)) at a1
    by_cases z:ok c=true
    · rw [if_pos z] at a1
      cases q:getF ks l f with
      | none=>rw [q] at a1; exact a1.elim
      | some d =>
        rw [q] at a1
        obtain ⟨v,g1,g2⟩:=zib h2 h3 q
        exact ⟨p,_,dx,fs,v,rfl,h1,(hc c z).1,(hc c z).2,g1,a1 F1 H1 (.refl e1.fh) _ g2⟩
    · rw [if_neg z] at a1; exact a1.elim
  | _=>exact a1.elim
end
def ValE (δ:En):Prop:=∀ i:Nat,Sl.own δ[i]?=false
section
variable {K:Kx} {XO:XOT} {E:L2.St→XK} {F0 H0 F H:Hp} {σ:L2.St} {δ:En}
theorem EnvOk.poke {x:Addr} {u:HO} (I:EnvOk K [] F0 H0 F H σ δ) (hv:ValE δ) (h0:H0 x=none) (hF:F x=none):EnvOk K [] F0 H0 F (upd H x u) σ δ:=by
  refine ⟨⟨I.ext.ff,fun b o q=>?_,fun b o q=>?_,I.ext.nw⟩,I.len,fun i=>?_,fun i j a _ h1 _ _ _=>?_,fun y hy=>(by cases hy),fun i ll h1=>?_⟩
  · rw [zag (zak q h0)]; exact I.ext.hh _ _ q
  · rw [zag (zak q hF)]; exact I.ext.fh _ _ q
  · have z:=I.slot i
    have o:=hv i
    cases q:δ[i]? with
    | none=>trivial
    | some s =>
      rw [q] at z o
      cases s with
      | no=>trivial
      | v d=>exact z
      | o d=>cases o
      | l d=>cases o
      | p ll=>cases o
  · rw [hv i] at h1; cases h1
  · have:=hv i
    rw [h1] at this; cases this
def iSeq (m1 m2:En→List Str→List D→R (List Str × List D)) (δ:En) (ks:List Str) (l:List D):R (List Str × List D):=(m1 δ ks l).bind fun p=>m2 δ p.1 p.2
def runN (c np:Nat) (m:En→List Str→List D→R (List Str × List D)) (ds:List D):R D:=if ds.length=np then (m (.no :: ds.map .v) [] []).bind fun p=>.ok (.obj c p.1 p.2) else .no
def isObj (c:Nat) (m:Str) (d:D):Option Unit:=match d with | .obj c' ks _=>if c'=c∧m ∉ ks then some () else none | _=>none
def zb4 (c:Nat) (m:Str) (f:List D→R D) (ma:En→R D) (ml:En→R (List D)) (δ:En):R D:=(ma δ).bind fun d=>(R.of (isObj c m d)).bind fun _=>(ml δ).bind fun l=>(f (d :: l)).nev
theorem zgx {c:Nat} {m:Str} {d:D} {u:Unit} (h:isObj c m d=some u):∃ ks l,d = .obj c ks l∧m ∉ ks:=by
  unfold isObj at h
  split at h
  · split at h
    · rename_i z; obtain ⟨rfl,z⟩:=z; exact ⟨_,_,rfl,z⟩
    · cases h
  · cases h
theorem zgR {c:Nat} {C:Addr} {m:Str} {f:List D→R D} {ta:TE} {ma:En→R D} {tl:TA} {ml:En→R (List D)} {E':XK} (hC:C=K.ca c) (ha:SE K XO E ta ma) (h:SA K XO E tl ml):SE K XO E (zjB C m (spM K XO f) [] E' ta tl) (zb4 c m f ma ml):=by
  intro Λ F0 H0 F H σ δ Q I a
  refine ha Λ F0 H0 F H σ δ _ I (a.bind.imp fun d F1 H1 e1 a1 x rx=>?_)
  cases q:isObj c m d with
  | none=>rw [q] at a1; exact a1.elim
  | some u =>
    rw [q,R.of_some,R.bind_ok] at a1
    obtain ⟨ks,l,rfl,hm⟩:=zgx q
    have rx0:=rx
    simp only [Rep] at rx
    obtain ⟨p,dx,fs,rfl,h1,h2,h3⟩:=rx
    refine ⟨p,dx,fs,rfl,by rw [hC]; exact e1.fh _ _ h1,zfD (by rw [h2]; exact hm),?_⟩
    refine h Λ F0 H0 F1 H1 σ δ _ (I.grow e1) (a1.bind.imp fun ds F2 H2 e2 a2 vs r=>⟨F2,.obj c ks l :: ds,e2.fh,by rw [List.append_nil]; exact .cons (Rep.mono e2.ff _ rx0) r,?_⟩)
    exact Aft.imp (fun d F3 H3 e3 p v rv=>p v rv) (Aft.any a2)
theorem zfu {c:Nat} {C:Addr} {m:Str} {f:List D→R D} {ta:TE} {ma:En→R D} {tl:TA} {ml:En→R (List D)} {E':XK} (hC:C=K.ca c) (ha:SE K XO E ta ma) (h:SA K XO E tl ml):SEo K XO E (zjB C m (spO K XO f) [] E' ta tl) (zb4 c m f ma ml):=by
  intro Λ F0 H0 F H σ δ Q I a
  refine ha Λ F0 H0 F H σ δ _ I (a.bind.imp fun d F1 H1 e1 a1 x rx=>?_)
  cases q:isObj c m d with
  | none=>rw [q] at a1; exact a1.elim
  | some u =>
    rw [q,R.of_some,R.bind_ok] at a1
    obtain ⟨ks,l,rfl,hm⟩:=zgx q
    have rx0:=rx
    simp only [Rep] at rx
    obtain ⟨p,dx,fs,rfl,h1,h2,h3⟩:=rx
    refine ⟨p,dx,fs,rfl,by rw [hC]; exact e1.fh _ _ h1,zfD (by rw [h2]; exact hm),?_⟩
    refine h Λ F0 H0 F1 H1 σ δ _ (I.grow e1) (a1.bind.imp fun ds F2 H2 e2 a2 vs r=>⟨F2,.obj c ks l :: ds,e2.fh,by rw [List.append_nil]; exact .cons (Rep.mono e2.ff _ rx0) r,?_⟩)
    exact Aft.imp (fun d F3 H3 e3 p v h0 h1 o=>p v h0 (e1.hh.free (e2.hh.free h1)) o) (Aft.any a2)
end
end PM
namespace L2
open PySem PySem.Spec PyProof.Rows
section
variable {prog:Program} {w:World} {A:Around} {E:Value→Shared→Prop} {s:Shared}
theorem zlX {it t:Addr} {i:Nat} {items:Array Value} {x:Value} {Q:Value→Shared→Prop} (hit:s.heap.IsTupleIter it t i) (ht:s.heap.IsTuple t items) (hx:items[i]?=some x)
    (hQ:∀ h',h'.IsTupleIter it t (i + 1)→Heap.SameBut it s.heap h'→Q x { s with heap:=h' }):wpAny (model prog w) A (Builtin.SmallTypes.nextOf (.ref it)) Q E s:=by
  obtain ⟨o,ho,hc,hd⟩:=id hit
  obtain ⟨ol,hol,_,nl,hdl⟩:=ht
  unfold Builtin.SmallTypes.nextOf
  refine wpAny_bind (wpAny_callSpecial?_slot (name:=Str.ofString "__next__") hit.typeIs F.slot_tuple_iterator_next (wpAny_call_entry F.slot_tuple_iterator_next hit.typeIs F.entry_tuple_iterator_next ?_ (F.args_tuple_iterator_next_1 _)))
  show wpAny _ A.in1 (field (.ref it) 0 >>= _) _ _ s
  refine wpAny_bind (wpAny_field ho hd (x:=.ref t) rfl ?_)
  show wpAny _ A.in1 (if (Value.ref t == Value.none)=true then _ else _) _ _ s
  rw [if_neg (fun z:(Value.ref t == Value.none)=true=>Bool.false_ne_true z)]
  show wpAny _ A.in1 (field (.ref it) 1 >>= _) _ _ s
  refine wpAny_bind (wpAny_field ho hd (x:=.int i 0) rfl ?_)
  show wpAny _ A.in1 (seqItems? (.ref t) >>= _) _ _ s
  refine wpAny_bind (wpAny_seqItems hol hdl ?_)
  simp only [Int.toNat_natCast,hx]
  refine wpAny_bind (wpAny_setField ho hd (by simp) (wpAny_pure ⟨x,rfl,wpAny_pure (hQ _ ⟨_,Heap.get?_update_self _ ho (Obj.isFreed_of_fields (Obj.data_mapFields hd _)),(Obj.cls_mapFields ..).trans hc,?_⟩ (Heap.SameBut.update ..))⟩))
  rw [Obj.data_mapFields hd]
  simp [rawInt]
theorem zhI {it t:Addr} {i:Nat} {items:Array Value} {Q:Value→Shared→Prop} (hh:A.handled=none) (hit:s.heap.IsTupleIter it t i) (ht:s.heap.IsTuple t items) (hx:items[i]?=none)
    (hE:∀ h' e,Heap.ExtBut it s.heap h'→(∃ o,h'.get? e=some o∧o.cls = .type "StopIteration")→E (.ref e) { s with heap:=h' }):wpAny (model prog w) A (Builtin.SmallTypes.nextOf (.ref it)) Q E s:=by
  obtain ⟨o,ho,hc,hd⟩:=id hit
  obtain ⟨ol,hol,_,nl,hdl⟩:=ht
  unfold Builtin.SmallTypes.nextOf
  refine wpAny_bind (wpAny_callSpecial?_slot (name:=Str.ofString "__next__") hit.typeIs F.slot_tuple_iterator_next (wpAny_call_entry F.slot_tuple_iterator_next hit.typeIs F.entry_tuple_iterator_next ?_ (F.args_tuple_iterator_next_1 _)))
  show wpAny _ A.in1 (field (.ref it) 0 >>= _) _ _ s
  refine wpAny_bind (wpAny_field ho hd (x:=.ref t) rfl ?_)
  show wpAny _ A.in1 (if (Value.ref t == Value.none)=true then _ else _) _ _ s
  rw [if_neg (fun z:(Value.ref t == Value.none)=true=>Bool.false_ne_true z)]
  show wpAny _ A.in1 (field (.ref it) 1 >>= _) _ _ s
  refine wpAny_bind (wpAny_field ho hd (x:=.int i 0) rfl ?_)
  show wpAny _ A.in1 (seqItems? (.ref t) >>= _) _ _ s
  refine wpAny_bind (wpAny_seqItems hol hdl ?_)
  simp only [Int.toNat_natCast,hx]
  refine wpAny_bind (wpAny_rule (wpAny_bind (wpAny_setField ho hd (by simp) ?_)))
  show wpAny _ A.in1 (newExc (.type "StopIteration") [] >>= _) _ _ _
  refine wpAny_bind ?_
  simp only [newExc,newTuple]
  refine wpAny_bind (wpAny_newObj_type ?_ (by size_fits))
  refine wpAny_bind (m:=firstArgMember _ _) (wpAny_of_eq (a:=Value.none) (by first | rfl | (simp only [firstArgMember]; rfl)) (wpAny_newObj_type ?_ (by size_fits)))
  simp only [raiseNew]
  refine wpAny_bind (wpAny_handled ?_)
  first | rw [show A.in1.handled=none from hh] | rw [hh]
  exact wpAny_bind (wpAny_pure (wpAny_throw (hE _ _ (((Heap.SameBut.update ..).extBut.push _).push _) ⟨_,Heap.get?_push_size _ rfl,rfl⟩)))
theorem zk6 (hh:A.handled=none) (it t:Addr) (hne:t ≠ it) (items:Array Value):Draws prog w A it [it,t] items.size (fun i v=>items[i]?=some v) (fun i h=>h.IsTupleIter it t i∧h.IsTuple t items) where
  live:=fun _ _ st=>let ⟨o,ho,_⟩:=st.1; ⟨o,ho⟩
  frame:=fun _ _ _ st hk=>⟨st.1.at fun o e=>hk it (by simp) o e,st.2.at fun o e=>hk t (by simp) o e⟩
  item:=fun i s Q E hi st hQ=>zlX st.1 st.2 (x:=items[i]) (by simp [hi]) fun h' hit' hs'=>hQ _ h' s.toks (by simp [hi]) ⟨hit',st.2.extBut hs'.extBut hne⟩ hs'
  done:=fun s Q E st hE=>zhI hh st.1 st.2 (by simp) hE
end
open AutoSeq1 (wpAny_loadPart') in
theorem zie (l:Addr) (items:Array Value) (n:Nat) (dct:Option Addr) (sl:Array (Option Value)) :
    Meets (Builtin.«enumerate.__new__» ⟨[.type "enumerate",.ref l],[]⟩) (fun _ R s=>s.heap.get? l=some { cls:=.type "tuple",dict:=dct,data:=.seq items n,slots:=sl } ∧
      R (.ok (.ret (.ref (s.heap.push { cls:=.type "tuple_iterator",data:=.fields #[.ref l,.int 0 0] }).objs.size)))
        { s with heap:=(s.heap.push { cls:=.type "tuple_iterator",data:=.fields #[.ref l,.int 0 0] }).push { cls:=.type "enumerate",data:=.fields #[.none,.bool false,.ref s.heap.objs.size,rawInt 0,.none,.none] } }) :=
  .of_wp fun prog w A R s h=>by
    obtain ⟨hp,g,d,tk,os⟩:=s; obtain ⟨hl,h⟩:=h
    have hsub:=sub_enumerate
    have hL:Heap.IsTuple (Shared.heap ⟨hp,g,d,tk,os⟩) l items:=⟨_,hl,rfl,n,rfl⟩
    wp_walk using wpAny_loadPart' hl
    refine wpAny_stack_any fun st=>wpAny_pure ?_
    split
    · rename_i c _ _ _ _ _
      cases (c == Value.type "enumerate")
      · wp_walk using wpAny_loadPart' hl,wpAny_pyIter_tuple hL
        exact ⟨_,rfl,h⟩
      · wp_walk using wpAny_loadPart' hl,wpAny_pyIter_tuple hL
        exact ⟨_,rfl,h⟩
    · wp_walk using wpAny_loadPart' hl,wpAny_pyIter_tuple hL
      exact ⟨_,rfl,h⟩
theorem zjs {prog:Program} {w:World} {A:Around} {E:Value→Shared→Prop} {s:Shared} {l:Addr} {items:Array Value} {Q:Value→Shared→Prop} (hL:s.heap.IsTuple l items)
    (h:∀ h',IsEnum h' (s.heap.objs.size + 1) s.heap.objs.size 0 .none→h'.IsTupleIter s.heap.objs.size l 0→h'.objs.size=s.heap.objs.size + 2→(∀ b o,s.heap.get? b=some o→h'.get? b=some o)→Q (.ref (s.heap.objs.size + 1)) { s with heap:=h' }) :
    wpAny (model prog w) A (call (.type "enumerate") [.ref l]) Q E s:=by
  obtain ⟨⟨c,dct,dt,sl⟩,hl,hc,n,hd⟩:=hL
  replace hc:c = .type "tuple":=hc
  replace hd:dt = .seq items n:=hd
  subst hc hd
  refine callType_new F.called_enumerate (by decide) (F.typeCall_enumerate_1 _) (F.newCall_enumerate_1 _) (fun obj=>F.args_object_init_2 obj _) F.entry_enumerate_new (zie l items n dct sl) ⟨hl,?_⟩
  have hz:(s.heap.push { cls:=.type "tuple_iterator",data:=.fields #[.ref l,.int 0 0] }).objs.size=s.heap.objs.size + 1:=Heap.size_push ..
  show _∧_
  rw [hz]
  have he:IsEnum ((s.heap.push { cls:=.type "tuple_iterator",data:=.fields #[.ref l,.int 0 0] }).push { cls:=.type "enumerate",data:=.fields #[.none,.bool false,.ref s.heap.objs.size,rawInt 0,.none,.none] }) (s.heap.objs.size + 1) s.heap.objs.size 0 .none:=by
    have:=Heap.get?_push_size (s.heap.push { cls:=.type "tuple_iterator",data:=.fields #[.ref l,.int 0 0] }) (o:={ cls:=.type "enumerate",data:=.fields #[.none,.bool false,.ref s.heap.objs.size,rawInt 0,.none,.none] }) rfl
    rw [hz] at this; exact this
  exact ⟨⟨_,he,rfl⟩,h _ he ⟨_,Heap.get?_push_of_some _ (Heap.get?_push_size _ rfl),rfl,rfl⟩ (by rw [Heap.size_push,hz]) fun b o x=>Heap.get?_push_of_some _ (Heap.get?_push_of_some _ x)⟩
theorem zdD {prog:Program} {w:World} {A:Around} {E:Value→Shared→Prop} {s:Shared} {e it t:Addr} {i:Nat} {items:Array Value} {old:Value} {Q:Option Value→Shared→Prop} (hh:A.handled=none) (he:IsEnum s.heap e it i old) (hit:s.heap.IsTupleIter it t i) (ht:s.heap.IsTuple t items) (hx:items[i]?=none)
    (hQ:∀ h',Heap.ExtBut it s.heap h'→Q none { s with heap:=h' }):wpAny (model prog w) A (pyNext (.ref e)) Q E s:=by
  have hT:s.TypeIs (.ref e) "enumerate":=⟨_,he,rfl⟩
  unfold pyNext
  refine wpAny_bind (wpAny_attempt (wpAny_callSpecial?_slot (name:=Str.ofString "__next__") hT F.slot_enumerate_next (wpAny_call_entry F.slot_enumerate_next hT F.entry_enumerate_next ?_ (F.args_enumerate_next_1 _))))
  show wpAny _ A.in1 (field (.ref e) 2 >>= _) _ _ _
  refine wpAny_bind (wpAny_field he rfl (x:=.ref it) rfl ?_)
  refine wpAny_bind (zhI hh hit ht hx fun h' x he' hx'=>?_)
  obtain ⟨o,ho,hc⟩:=hx'
  exact wpAny_bind (wpAny_isInstance (T:="StopIteration") (b:=true) ⟨o,ho,hc⟩ isSubtype_stop (wpAny_pure (hQ _ he')))
def Iet (K:PySem.W.Frag) (a:Addr):It :=
  ⟨fun i H=>∃ xs x,SqT K H a xs∧xs[i]?=some x,fun i H x H'=>∃ p y,x = .ref p∧H p=none∧H'=upd H p (.tup [.int i,y])∧∀ xs,SqT K H a xs→xs[i]?=some y,fun i H=>∃ xs,SqT K H a xs∧xs.length ≤ i⟩
theorem zjo {P:Program} {w:World} {K:PySem.W.Frag} {es:List Expr} {k} {pos:Pos} (a e it:Addr) (hne:e ≠ it) :
    Turn P w K (.Tuple es k pos) (Iet K a) [e,it] e (fun i h=>(∃ old,IsEnum h e it i old)∧h.IsTupleIter it a i) where
  mem:=by simp
  obj:=fun i h st b hb=>by
    obtain ⟨⟨old,h1⟩,o,h2,c,d⟩:=st
    rcases List.mem_cons.mp hb with rfl | hb
    · exact ⟨_,h1,fun v z=>by cases (show Data.fields _=Data.cell v from z)⟩
    · rw [List.mem_singleton.mp hb]
      exact ⟨o,h2,fun v z=>by rw [d] at z; cases z⟩
  keep:=fun i h h' st k=>by
    obtain ⟨⟨old,h1⟩,h2⟩:=st
    exact ⟨⟨old,k e (by simp) _ h1⟩,h2.at fun o q=>k it (by simp) o q⟩
  item:=by
    intro X hP hw hK hc i pins s σ H E I hf st hg
    subst hP hw hK
    obtain ⟨xs,x,hq,hx⟩:=hg
    obtain ⟨its,rv,p,hz⟩:=I.tuple hq
    obtain ⟨u,hu,ru⟩:=rv.get hx
    obtain ⟨⟨old,he⟩,hit⟩:=st
    have pT:s.heap.IsTuple a its.toArray:=p
    have hT:H s.heap.objs.size=none:=I.hok.fresh (Nat.le_refl _)
    have eT:e ≠ s.heap.objs.size:=Nat.ne_of_lt (Heap.lt_size he)
    have iT:it ≠ s.heap.objs.size:=by obtain ⟨_,z,_⟩:=hit; exact Nat.ne_of_lt (Heap.lt_size z)
    have ait:a ≠ it:=fun z=>by
      obtain ⟨o1,z1,c1,_⟩:=hit
      obtain ⟨o2,z2,c2,_⟩:=pT
      rw [z,z1] at z2; cases z2; rw [c1] at c2; simp at c2
    have ae:a ≠ e:=fun z=>by
      obtain ⟨o2,z2,c2,_⟩:=pT
      rw [z,he] at z2; cases z2; simp at c2
    have D:=zk6 (prog:=X.prog) (w:=X.w) (A:=X.A.in1) (I.ok.hd hc) it a ait its.toArray
    have li:i < its.toArray.size:=by
      have:=(List.getElem?_eq_some_iff.mp hu).1
      simpa using this
    refine wpAny_pyNext_enum_itemD D he ⟨hit,pT⟩ li hne (by simp [hne,Ne.symm ae]) fun y h' tk hy ho hst' ht hsz hk=>⟨_,rfl,?_⟩
    have ey:y=u:=by
      have:its.toArray[i]?=some u:=by simpa using hu
      rw [this] at hy; cases hy; rfl
    subst ey
    refine wpAny_letOwnedTupleGo_enum ho fun h'' he'' hs''=>?_
    have hs2:Heap.SameBut e h' h'':=hs''
    refine ⟨.ref s.heap.objs.size,upd H s.heap.objs.size (.tup [.int i,x]),?_,rfl,⟨_,x,rfl,hT,rfl,fun ys hy'=>by rw [I.tuple_inj hy' hq]; exact hx⟩,⟨⟨_,by simpa using he''⟩,hst'.1.at fun o q=>(hs2.2 it hne.symm).trans q⟩,fun b hb=>?_⟩
    · refine I.laidT (t':=tk + 1) [e,it] hf (fun b o hb q=>?_) (us:=[.int i tk,y]) (by show 2 ≤ sizeLine; decide) (.cons ⟨tk,rfl⟩ (.cons ru .nil)) ((hs2.2 _ eT.symm).trans ht)
      simp only [List.mem_cons,List.not_mem_nil,or_false,not_or] at hb
      exact (hs2.2 b hb.1).trans (hk b o hb.1 hb.2 q)
    · obtain ⟨f0,_⟩:=hf b hb
      rcases List.mem_cons.mp hb with rfl | hb
      · rw [zag eT]; exact f0
      · rw [List.mem_singleton.mp hb] at f0 ⊢
        rw [zag iT]; exact f0
  done:=by
    intro X hP hw hK hc i pins s σ H E I hf st hg
    subst hP hw hK
    obtain ⟨xs,hq,hx⟩:=hg
    obtain ⟨its,rv,p,hz⟩:=I.tuple hq
    obtain ⟨⟨old,he⟩,hit⟩:=st
    have pT:s.heap.IsTuple a its.toArray:=p
    have ait:a ≠ it:=fun z=>by
      obtain ⟨o1,z1,c1,_⟩:=hit
      obtain ⟨o2,z2,c2,_⟩:=pT
      rw [z,z1] at z2; cases z2; rw [c1] at c2; simp at c2
    obtain ⟨g0,g1,g2,g3,g4,g5⟩:=hf it (by simp)
    have hl:=rv.length
    refine zdD (I.ok.hd hc) he hit pT (by simp; omega) fun h' eb=>⟨rfl,I.turned (t':=s.toks) (fun b o hb q=>eb b o hb q) g0 g1 g3 g4 g5⟩
  self:=fun _ _ _ _ _ st h=>by
    obtain ⟨⟨old,he⟩,_⟩:=st
    exact wpAny_pyIter_enum he h
end L2
namespace L2
open PySem PySem.Spec PyProof.Rows
section
variable {X:Cx}
def zm2 (K:PySem.W.Frag) (ta:TA):TI:=fun σ H R=>ta σ H fun vs H1=>∃ a,vs = [.ref a]∧(∃ xs,SqT K H1 a xs)∧R (Iet K a) H1
theorem zmn {es:List Expr} {k} {tp:Pos} {l:Expr} {ta:TA} {p pos:Pos} (hg:Gl X "enumerate") (hm:X.mg "enumerate"=none) (ha:PA X [l] ta) (hs:starEach [l] X.env = [(false,eval l X.env)]:=by rfl) :
    PI X (.Tuple es k tp) (.Call (.Name "enumerate" p) [l] [] pos) (zm2 X.K ta):=by
  intro pins s σ H R I h
  refine Call_ (zeh I hg hm boot_enumerate (PyProof.Rows.callWith_type1 (thn (ha pos pins s σ H _ I h) fun us s1 ⟨vs,H1,I1,r1,q1⟩=>?_) hs rfl))
  obtain ⟨a,e,⟨xs,hq⟩,q⟩:=q1
  subst e
  obtain ⟨u,rfl,rx⟩:=zgq r1
  cases rx
  obtain ⟨its,rv,pl,hz⟩:=I1.tuple hq
  refine zjs (show s1.heap.IsTuple a its.toArray from pl) fun h' he hit hsz hk=>?_
  have I2:Inv X pins σ H1 { s1 with heap:=h' }:=I1.kept (t':=s1.toks) hk
  have hne:s1.heap.objs.size + 1 ≠ s1.heap.objs.size:=by omega
  refine wpAny_pyIter_enum he ⟨s1.heap.objs.size + 1,[s1.heap.objs.size + 1,s1.heap.objs.size],_,_,H1,rfl,I2,zjo a _ _ hne,⟨⟨_,he⟩,hit⟩,fun b hb=>?_,q⟩
  have hb':s1.heap.objs.size ≤ b:=by
    rcases List.mem_cons.mp hb with rfl | hb
    · omega
    · rw [List.mem_singleton.mp hb]; exact Nat.le_refl _
  exact I1.fpOk hb' (I1.hok.fresh hb')
def zpW (K:PySem.W.Frag):R2:=fun x y H Q=>∃ a b xs ys,x = .ref a∧y = .ref b∧SqT K H a xs∧SqT K H b ys∧xs.length + ys.length ≤ sizeLine ∧
  (xs = []→Q (.ref b) H)∧(xs ≠ []→ys = []→Q (.ref a) H)∧(xs ≠ []→ys ≠ []→∀ p,H p=none→Q (.ref p) (upd H p (.tup (xs ++ ys))))
theorem znw:OpR X (binaryOp .Add) (zpW X.K):=by
  intro pins s σ H x y v u Q I rx ry h
  obtain ⟨a,b,xs,ys,rfl,rfl,ha,hb,hz,q0,q1,q2⟩:=h
  by_cases hx:xs = []
  · cases rx
    cases ry
    obtain ⟨its,r1,p1,_⟩:=I.tuple ha
    obtain ⟨its2,r2,p2,_⟩:=I.tuple hb
    have e0:its = []:=r1.nil_iff.mpr hx
    obtain ⟨⟨cls,dd,data,sl⟩,ho,hc,n,hd⟩:=id p1
    obtain ⟨⟨cls2,dd2,data2,sl2⟩,ho2,hc2,n2,hd2⟩:=id p2
    simp only at hc hd hc2 hd2
    subst hc hd hc2 hd2
    exact concat_meets ⟨_,ho,rfl⟩ ⟨_,ho2,rfl⟩ noFill_tuple_add seq_tuple_add PySem.F.slot_tuple_add PySem.F.entry_tuple_add (PySem.F.args_tuple_add_2 _ _)
      (tuple_addW0 a b its.toArray its2.toArray n n2 dd dd2 sl sl2 (by simp [e0])) ⟨ho,ho2,⟨.ref b,H,I,rfl,q0 hx⟩⟩
  · exact znB pins s σ H _ _ v u Q I rx ry ⟨a,b,xs,ys,rfl,rfl,ha,hb,hx,hz,q1 hx,q2 hx⟩
end
end L2
namespace PM
open PySem L2
section
variable {K:Kx} {XO:XOT} {E:L2.St→XK}
theorem zjf {a:Addr} {ds:List D} {vs:List V} {F1:Hp} {P:Hp→Hp→Prop} (r:RepL K F1 ds vs) (h:∀ F2 H2,P F2 H2→Same F1 F2∧Same F2 H2∧SqT K.f H2 a vs):IsIt K (Iet K.f a) P (zf3 ds):=by
  intro F2 H2 p i
  obtain ⟨s1,s2,q⟩:=h F2 H2 p
  unfold zf3
  rw [List.getElem?_mapIdx]
  refine ⟨fun d hd=>?_,fun hn=>?_⟩
  · cases e:ds[i]? with
    | none=>rw [e] at hd; cases hd
    | some x =>
      rw [e] at hd
      cases hd
      obtain ⟨v,hv,rv⟩:=r.get e
      refine ⟨⟨vs,v,q,hv⟩,fun x' H' y=>?_⟩
      obtain ⟨p',y',rfl,hp,rfl,y⟩:=y
      have z:=y vs q
      rw [hv] at z; cases z
      refine ⟨_,.new s2 hp,?_⟩
      simp only [Rep]
      have m:=s1.trans (Same.upd (u:=.tup [.int i,v]) (s2.free hp))
      exact ⟨p',_,rfl,zai,.cons (by simp only [Rep]) (.cons (Rep.mono m _ rv) .nil)⟩
  · refine ⟨vs,q,?_⟩
    cases e:ds[i]? with
    | none=>rw [r.length]; exact List.getElem?_eq_none_iff.mp e
    | some x=>rw [e] at hn; cases hn
def zht:List D→Option (List D)
  | [.tup l]=>some (zf3 l)
  | _=>none
def zku (ml:En→R (List D)) (δ:En):R (List D):=(ml δ).bind fun l=>R.of (zht l)
theorem zhV {l r:List D} (h:zht l=some r):∃ x,l = [.tup x]∧r=zf3 x:=by
  unfold zht at h
  split at h
  · cases h; exact ⟨_,rfl,rfl⟩
  · cases h
theorem zlT {tl:TA} {ml:En→R (List D)} (h:SA K XO E tl ml):SI K XO E (zm2 K.f tl) (zku ml):=by
  intro Λ F0 H0 F H σ δ R I a
  refine h Λ F0 H0 F H σ δ _ I (a.bind.imp fun ds F1 H1 e1 a1 vs r=>?_)
  cases q:zht ds with
  | none=>rw [q] at a1; exact a1.elim
  | some z =>
    rw [q] at a1
    obtain ⟨l,rfl,rfl⟩:=zhV q
    obtain ⟨v,rfl,r'⟩:=RepL.one r
    simp only [Rep] at r'
    obtain ⟨a,vs,rfl,h1,h2⟩:=r'
    exact ⟨a,rfl,⟨vs,.of (e1.fh _ _ h1)⟩,a1 F1 H1 (.refl e1.fh) _ (zjf h2 fun F2 H2 x=>⟨x.1,x.2,.of (x.2 _ _ (x.1 _ _ h1))⟩)⟩
def zla (x y:D):Option D:=match x,y with | .tup l,.tup r=>ifC (l.length + r.length ≤ sizeLine) (some (.tup (l ++ r))) none | _,_=>none
theorem znA:SR K (zpW K.f) zla:=by
  intro F H x y dx dy d Q s hx hy e q
  unfold zla at e
  split at e
  · rename_i l r
    unfold ifC at e
    split at e
    · rename_i hl
      cases e
      simp only [Top,Rep] at hx hy
      obtain ⟨a,vs,rfl,h1,h2⟩:=hx
      obtain ⟨b,ws,rfl,h3,h4⟩:=hy
      have lv:=h2.length
      have lw:=h4.length
      refine ⟨a,b,vs,ws,rfl,rfl,.of (s _ _ h1),.of (s _ _ h3),by omega,fun z=>?_,fun z1 z2=>?_,fun z1 z2 p hp=>?_⟩
      · have:l = []:=List.eq_nil_of_length_eq_zero (by rw [← lv,z]; rfl)
        subst this
        refine q _ F H (.refl s) ?_
        simp only [Rep]
        exact ⟨b,ws,rfl,h3,h4⟩
      · have:r = []:=List.eq_nil_of_length_eq_zero (by rw [← lw,z2]; rfl)
        subst this
        refine q _ F H (.refl s) ?_
        simp only [Rep]
        exact ⟨a,vs,rfl,h1,by rw [List.append_nil]; exact h2⟩
      · have x1:Ext F H (upd F p (.tup (vs ++ ws))) (upd H p (.tup (vs ++ ws))):=.new s hp
        refine q _ _ _ x1 ?_
        simp only [Rep]
        exact ⟨p,_,rfl,zai,(h2.mono x1.ff).append (h4.mono x1.ff)⟩
    · cases e
  · cases e
end
end PM
namespace L2
open PySem PySem.Spec PyProof.Rows
structure HasC (P:Program) (w:World) (K:PySem.W.Frag) (mg:Str→Option Value) (base:Heap) (CX:CXT) (k:Nat) (x:Str) (C:Addr) (ps:List Str) (sp:Sp):Prop where
  ex:∃ (f:Addr) (fd:FuncData),Mk K C f∧FnOk P w K mg base CX k f fd ps sp∧mg x=some (.ref C)∧Binds K fd ps []
structure HasM (P:Program) (w:World) (K:PySem.W.Frag) (mg:Str→Option Value) (base:Heap) (CX:CXT) (k:Nat) (m:Str) (C:Addr) (ps:List Str) (sp:Sp):Prop where
  ex:∃ (f:Addr) (fd:FuncData),Cls K C∧Meth K C m f∧FnOk P w K mg base CX k f fd ps sp∧Binds K fd ps []
section
variable {X:Cx} {CX:CXT} {k:Nat} {x m:Str} {C:Addr} {ps:List Str} {sp:Sp} {E:XK} {p pos apos:Pos} {e o:Expr} {es:List Expr} {t:TA} {ta:TE}
theorem zij (G:HasC X.prog X.w X.K X.mg X.base CX k x C ps sp) (hr:Room (k + 1) X.A) (hg:Gl X x) (hx:zcJ CX X E) (ha:PA X (e :: es) t)
    (hdb:(x == ("__debug__" : Str))=false:=by decide) (he:starEach (e :: es) X.env=(false,eval e X.env) :: starEach es X.env:=by rfl) (hpl:(backTo pos (starEach es X.env)).any (·.1)=false:=by rfl) :
    PE X (.Call (.Name x p) (e :: es) [] pos) (znE C sp [] E t):=by
  obtain ⟨f,fd,M,F,hm,hb⟩:=G.ex
  exact zns M F hr hg hm hb .nil hx ha hdb he hpl
theorem zeW {pl:Sem Bool} (G:HasM X.prog X.w X.K X.mg X.base CX k m C ps sp) (hr:Room k X.A) (hx:zcJ CX X E) (ho:PE X o ta) (ha:PA X (e :: es) t)
    (hst:starEach (e :: es) X.env=(false,eval e X.env) :: starEach es X.env:=by rfl) (hpl:(backTo pos (starEach es X.env)).any (·.1)=false:=by rfl)
    (ht:eval (.Call (.Attribute o m apos) (e :: es) [] pos) X.env=(eval o X.env >>= fun ov=>standAt apos.atName >>= fun _=>holding [ov] (getMethod ov m pl) >>= fun q=>callWith pos q.1 q.2 (backTo pos (starEach (e :: es) X.env)) (backToKw pos (keywordEach [] X.env))):=by rfl) :
    PE X (.Call (.Attribute o m apos) (e :: es) [] pos) (zjB C m sp [] E ta t):=by
  obtain ⟨f,fd,c,hm,F,hb⟩:=G.ex
  exact znG (pl:=pl) ho c hm F hr hb .nil hx ha hst hpl ht
theorem ziU {pl:Sem Bool} (G:HasM X.prog X.w X.K X.mg X.base CX k m C ps sp) (hr:Room k X.A) (hx:zcJ CX X E) (ho:PE X o ta)
    (ht:eval (.Call (.Attribute o m apos) [] [] pos) X.env=(eval o X.env >>= fun ov=>standAt apos.atName >>= fun _=>holding [ov] (getMethod ov m pl) >>= fun q=>callWith pos q.1 q.2 (backTo pos (starEach [] X.env)) (backToKw pos (keywordEach [] X.env))):=by rfl) :
    PE X (.Call (.Attribute o m apos) [] [] pos) (zjB C m sp [] E ta tNil):=by
  obtain ⟨f,fd,c,hm,F,hb⟩:=G.ex
  exact zmE (pl:=pl) ho c hm F hr hb .nil hx ht
end
end L2
namespace PM
open PySem L2
section
variable {K:Kx} {XO:XOT} {E:L2.St→XK} {F0 H0 F H:Hp} {σ:L2.St} {δ:En}
end
end PM
namespace PM
open PySem L2
section
variable {K:Kx} {XO:XOT} {E:L2.St→XK} {F0 H0 F H F1 H1 F' H':Hp}
theorem zdi {F2:Hp} (s:Same F F2):Same (minH F1 H1 F) (minH F1 H1 F2):=fun b o h=>by
  unfold minH at h ⊢
  split at h
  · cases h
  · rename_i z; rw [if_neg z]; exact s _ _ h
theorem zlD {p:Addr} {vs:List V} (x:Ext F H F' H') (h0:F' p=none) (h1:H p=none) (o:H' p=some (.lst vs)):Ext F H (upd F' p (.lst vs)) H':=by
  refine ⟨fun b u h=>?_,x.hh,fun b u h=>?_,fun q u g1 g2=>?_⟩
  · have:=x.ff b u h
    rw [zag (zak this h0)]; exact this
  · by_cases z:b=p
    · subst z; rw [zai] at h; cases h; exact o
    · rw [zag z] at h; exact x.fh b u h
  · rw [zag (zak g2 h1)]; exact x.nw q u g1 g2
variable (K) in
def SInB (c:Nat) (t:TS) (m:En→List Str→List D→R (List Str × List D)):Prop :=
  ∀ (F1 H1 F H:Hp) (σ:L2.St) (δ:En) (x dx:Addr) (fs:List (Str × V)) (l:List D) (Dn:Ends),ValE δ→EnvOk K [] (zbC F1 H1) H1 F H σ δ→σ[0]?=some (some (.ref x))→H1 x=none→F x=none→H x=some (.ins (K.ca c) dx fs)→RepL K (minH F1 H1 F) l (fs.map (·.2)) →
    (match m δ (fs.map (·.1)) l with
      | .no=>False
      | .ok p=>∀ F' H' fs',EnvOk K [] (zbC F1 H1) H1 F' H' σ δ→F' x=none→H' x=some (.ins (K.ca c) dx fs')→fs'.map (·.1)=p.1→RepL K (minH F1 H1 F') p.2 (fs'.map (·.2))→Dn.nx σ H'
      | .ex _=>False)→t Dn σ H
def zg4 (f:Str) (me:En→R D) (δ:En) (ks:List Str) (l:List D):R (List Str × List D):=(me δ).nev.bind fun d=>ifC (ks.length < 1000∧zdT d=true) (.ok (putN ks f,putV ks l f d)) .no
def zhX (f:Str) (me:En→R D) (δ:En) (ks:List Str) (l:List D):R (List Str × List D):=(me δ).nev.bind fun d=>ifC (ks.length < 1000∧∃ r,d = .lst r∧zeN r=true) (.ok (putN ks f,putV ks l f d)) .no
theorem zml {c:Nat} {f:Str} {te:TE} {me:En→R D} (hc:Cls K.f (K.ca c)∧NoAttr K.f (K.ca c) f) (h:SE K XO E te me):SInB K c (sFld K.f (tVar 0) te f) (zg4 f me):=by
  intro F1 H1 F H σ δ x dx fs l Dn hv I hx h0 hF hH hl a
  refine h [] _ _ F H σ δ _ I ?_
  unfold zg4 at a
  cases q:me δ with
  | no=>rw [q] at a; exact a
  | ex xx=>rw [q] at a; exact a.elim
  | ok d =>
    rw [q] at a
    intro F2 H2 e v r
    simp only [R.nev_ok,R.bind_ok,ifC] at a
    by_cases z:(fs.map (·.1)).length < 1000∧zdT d=true
    · rw [if_pos z] at a
      have x1:=e.hh _ _ hH
      have F2x:F2 x=none:=e.nw x _ hF hH
      have I2:=I.grow e
      obtain ⟨g1,g2⟩:=zgc (f:=f) (zh1 I2.ext d z.2 r) (hl.mono (zdi e.ff))
      refine ⟨_,hx,x,_,dx,fs,rfl,x1,hc.1,hc.2,by simpa using z.1,?_⟩
      exact a F2 _ _ (I2.poke hv h0 F2x) F2x zai g1 g2
    · rw [if_neg z] at a; exact a.elim
theorem zmo {c:Nat} {f:Str} {te:TE} {me:En→R D} (hc:Cls K.f (K.ca c)∧NoAttr K.f (K.ca c) f) (h:SEo K XO E te me):SInB K c (sFld K.f (tVar 0) te f) (zhX f me):=by
  intro F1 H1 F H σ δ x dx fs l Dn hv I hx h0 hF hH hl a
  refine h [] _ _ F H σ δ _ I ?_
  unfold zhX at a
  cases q:me δ with
  | no=>rw [q] at a; exact a
  | ex xx=>rw [q] at a; exact a.elim
  | ok d =>
    rw [q] at a
    intro F2 H2 e p hp0 hp1 o
    simp only [R.nev_ok,R.bind_ok,ifC] at a
    by_cases z:(fs.map (·.1)).length < 1000∧∃ r,d = .lst r∧zeN r=true
    · rw [if_pos z] at a
      obtain ⟨z1,r,rfl,z2⟩:=z
      obtain ⟨vs,g1,g2⟩:=o
      have x1:=e.hh _ _ hH
      have F2x:F2 x=none:=e.nw x _ hF hH
      have e3:=zlD e hp0 hp1 g1
      have xp:x ≠ p:=zak hH hp1
      have F3x:upd F2 p (.lst vs) x=none:=by rw [zag xp]; exact F2x
      have I3:=I.grow e3
      have rm:RepL K (minH F1 H1 (upd F2 p (.lst vs))) r vs:=zg7 I3.ext r z2 (g2.mono fun b u hb=>by
        rw [zag (zak hb hp0)]; exact hb)
      have H1p:H1 p=none:=I.ext.hh.free hp1
      have rp:Rep K (minH F1 H1 (upd F2 p (.lst vs))) (.lst r) (.ref p):=by
        simp only [Rep]
        refine ⟨p,vs,rfl,.inl ?_,rm⟩
        unfold minH
        rw [if_neg (fun w=>w.2 H1p)]
        exact zai
      obtain ⟨g3,g4⟩:=zgc (f:=f) rp (hl.mono (zdi e3.ff))
      refine ⟨_,hx,x,_,dx,fs,rfl,x1,hc.1,hc.2,by simpa using z1,?_⟩
      exact a _ _ _ (I3.poke hv h0 F3x) F3x zai g3 g4
    · rw [if_neg z] at a; exact a.elim
theorem zkM {R:D→V→Prop}:∀ {ds:List D} {vs:List V},Prd R ds vs→ds.length=vs.length
  | _,_,.nil=>rfl
  | _,_,.cons _ t=>by rw [List.length_cons,List.length_cons,zkM t]
end
end PM
namespace L2
open PySem PySem.Spec PyProof.Rows
structure MethAt (K:PySem.W.Frag) (C:Addr) (m qual:Str) (st:Stmt) (f:Addr) (fd:FuncData):Prop where
  at_:PySem.W.findIn K (.ref C) m=some (some (.ref f))
  isf:PySem.W.isFn K (.ref f)=true
  fn:Fun K m qual st f fd
theorem methAt_mk {K:PySem.W.Frag} {C:Addr} {m qual:Str} {st:Stmt} {f:Addr} {oc:Value} {od an:Option Addr} {osl:Array (Option Value)} {kV doc pm cdv ct:Value} (a:PySem.W.findIn K (.ref C) m=some (some (.ref f))) (i:PySem.W.isFn K (.ref f)=true)
    (l:K.lookup f=some ⟨oc,od,.func (PySem.W.fnOf m qual (zbU st) (zbu st) (zah st) .none kV doc pm an cdv ct),osl⟩) (c:PySem.W.codeIn K cdv qual=true) (k:PySem.W.keepIn K (.ref f)=true):∃ f fd,MethAt K C m qual st f fd :=
  ⟨f,_,a,i,zi2 l c k⟩
section
variable {P:Program} {w:World} {K:PySem.W.Frag} {mg:Str→Option Value} {base:Heap} {CX:CXT} {k:Nat} {x m qual:Str} {C:Addr} {st:Stmt} {f:Addr} {fd:FuncData} {ps:List Str} {sp:Sp}
theorem MethAt.hasM (D:MethAt K C m qual st f fd) (c:Cls K C) (ok:FnOk P w K mg base CX k f fd ps sp) (b:Binds K fd ps []):HasM P w K mg base CX k m C ps sp:=⟨f,fd,c,⟨D.at_,D.isf,D.fn.kp⟩,ok,b⟩
theorem MethAt.hasC (D:MethAt K C "__init__" qual st f fd) (mk:PySem.W.makesIn K C=true) (kp:PySem.W.keepIn K (.ref C)=true) (hm:mg x=some (.ref C)) (ok:FnOk P w K mg base CX k f fd ps sp) (b:Binds K fd ps []):HasC P w K mg base CX k x C ps sp:=⟨f,fd,⟨mk,D.at_,D.isf,kp⟩,ok,hm,b⟩
end
end L2
namespace L2
open PySem PySem.Spec PyProof.Rows
def tAlt (t u:TE):TE:=fun σ H Q=>t σ H Q∨u σ H Q
section
variable {X:Cx} {CX:CXT} {k:Nat} {x:Str} {C:Addr} {ps:List Str} {sp:Sp} {E:St→XK} {p pos:Pos} {e:Expr} {es:List Expr} {t:TA}
theorem zkS {ta tb:TE} (h:PE X e ta) (g:PE X e tb):PE X e (tAlt ta tb):=fun pins s σ H Q I a=>a.elim (h pins s σ H Q I) (g pins s σ H Q I)
end
end L2
namespace PM
open PySem L2
section
variable {K:Kx} {XO:XOT} {E:L2.St→XK} {F0 H0 F H F1 H1 F' H':Hp}
theorem zpe {x:Xc} {C:Value} {dct:Option Addr} (e:Ext (zbC F H) H F' H') (h:xoK K x F' H' C dct):xoK K x (minH F H F') H' C dct:=by
  refine ⟨h.1,?_⟩
  have h2:=h.2
  unfold XA at h2 ⊢
  split
  · rename_i c; rw [if_pos c] at h2; exact h2
  · rename_i c
    rw [if_neg c] at h2
    obtain ⟨dx,e1,e2⟩:=h2
    exact ⟨dx,e1,zks e e2 (fun _ z=>by cases z) (fun _ z=>by cases z) (fun _ _ z=>by cases z) (fun _ _ _ z=>by cases z)⟩
variable (K XO E) in
def SInX (c:Nat) (t:TS) (m:En→List Str→List D→R (List Str × List D)):Prop :=
  ∀ (F1 H1 F H:Hp) (σ:L2.St) (δ:En) (x dx:Addr) (fs:List (Str × V)) (l:List D) (Dn:Ends),ValE δ→EnvOk K [] (zbC F1 H1) H1 F H σ δ→σ[0]?=some (some (.ref x))→H1 x=none→F x=none→H x=some (.ins (K.ca c) dx fs)→RepL K (minH F1 H1 F) l (fs.map (·.2)) →
    (match m δ (fs.map (·.1)) l with
      | .no=>False
      | .ok p=>∀ F' H' fs',EnvOk K [] (zbC F1 H1) H1 F' H' σ δ→F' x=none→H' x=some (.ins (K.ca c) dx fs')→fs'.map (·.1)=p.1→RepL K (minH F1 H1 F') p.2 (fs'.map (·.2))→Dn.nx σ H'
      | .ex xx=>∀ C dct F' H',Ext (zbC F1 H1) H1 F' H'→XO xx F' H' C dct→E σ C dct H')→t Dn σ H
theorem zjY {f:Str} {me:En→R D} {δ:En} {ks:List Str} {l:List D} {x:Xc}:zg4 f me δ ks l ≠ .ex x:=by
  unfold zg4 ifC
  cases me δ with
  | ok d=>simp only [R.nev_ok,R.bind_ok]; split <;> exact fun h=>by cases h
  | _=>exact fun h=>by cases h
theorem zk2 {f:Str} {me:En→R D} {δ:En} {ks:List Str} {l:List D} {x:Xc}:zhX f me δ ks l ≠ .ex x:=by
  unfold zhX ifC
  cases me δ with
  | ok d=>simp only [R.nev_ok,R.bind_ok]; split <;> exact fun h=>by cases h
  | _=>exact fun h=>by cases h
theorem SInB.x {c:Nat} {t:TS} {m:En→List Str→List D→R (List Str × List D)} (h:SInB K c t m) (hm:∀ δ ks l x,m δ ks l ≠ .ex x):SInX K XO E c t m:=by
  intro F1 H1 F H σ δ x dx fs l Dn hv I hx h0 hF hH hl a
  refine h F1 H1 F H σ δ x dx fs l Dn hv I hx h0 hF hH hl ?_
  cases q:m δ (fs.map (·.1)) l with
  | no=>rw [q] at a; exact a
  | ok p=>rw [q] at a; exact a
  | ex xx=>exact (hm _ _ _ _ q).elim
theorem zhR {c:Nat} {f:Str} {te:TE} {me:En→R D} (hc:Cls K.f (K.ca c)∧NoAttr K.f (K.ca c) f) (h:SE K XO E te me):SInX K XO E c (sFld K.f (tVar 0) te f) (zg4 f me):=(zml hc h).x fun _ _ _ _=>zjY
theorem zkG {c:Nat} {f:Str} {te:TE} {me:En→R D} (hc:Cls K.f (K.ca c)∧NoAttr K.f (K.ca c) f) (h:SEo K XO E te me):SInX K XO E c (sFld K.f (tVar 0) te f) (zhX f me):=(zmo hc h).x fun _ _ _ _=>zk2
def zmw (me:En→R D) (δ:En) (ks:List Str) (l:List D):R (List Str × List D):=(me δ).bind fun _=>.ok (ks,l)
theorem zkJ {c:Nat} {te:TE} {me:En→R D} (h:SE K XO E te me):SInX K XO E c (zky te) (zmw me):=by
  intro F1 H1 F H σ δ x dx fs l Dn hv I hx h0 hF hH hl a
  refine h [] _ _ F H σ δ _ I ?_
  unfold zmw at a
  cases q:me δ with
  | no=>rw [q] at a; exact a
  | ex xx=>rw [q] at a; exact fun C dct F' H' e z=>a C dct F' H' (I.ext.trans e) z
  | ok d =>
    rw [q] at a
    intro F2 H2 e v r
    exact a F2 H2 fs (I.grow e) (e.nw x _ hF hH) (e.hh _ _ hH) rfl (hl.mono (zdi e.ff))
theorem zfw {c:Nat} {t u:TS} {m1 m2:En→List Str→List D→R (List Str × List D)} (h1:SInX K XO E c t m1) (h2:SInX K XO E c u m2):SInX K XO E c (tSeq t u) (iSeq m1 m2):=by
  intro F1 H1 F H σ δ x dx fs l Dn hv I hx h0 hF hH hl a
  unfold iSeq at a
  refine h1 F1 H1 F H σ δ x dx fs l { Dn with nx:=u Dn } hv I hx h0 hF hH hl ?_
  cases q:m1 δ (fs.map (·.1)) l with
  | no=>rw [q] at a; exact a
  | ex xx=>rw [q] at a; exact a
  | ok p =>
    rw [q] at a
    intro F' H' fs' I' hF' hH' e1 e2
    refine h2 F1 H1 F' H' σ δ x dx fs' p.2 Dn hv I' hx h0 hF' hH' e2 ?_
    rw [e1]
    exact a
theorem min_sub:Same (minH F H F') F':=fun b o h=>by
  unfold minH at h
  split at h
  · cases h
  · exact h
def spX (K:Kx) (c:Nat) (f:List D→R D):Sp:=fun vs H Q E=>∃ (x dx:Addr) (us:List V) (F Hb:Hp) (ds:List D),vs = .ref x :: us∧H=upd (upd Hb dx (.own x)) x (.ins (K.ca c) dx [])∧Hb x=none∧Hb dx=none∧dx ≠ x∧Same F Hb∧Prd (Bor K F Hb) ds us ∧
  Aft (fun _=>E) (xoK K) [] F Hb (fun d F' H'=>F' x=none→Own K F' H' d x→Q .non H') (f ds)
theorem zkF {c np:Nat} {m:En→List Str→List D→R (List Str × List D)} {vs:List V} {Q:VK} {E:XK} {ps:List Str} (hp:ps.length=np + 1) (h:spX K c (runN c np m) vs H Q E):vs.length=ps.length:=by
  obtain ⟨x,dx,us,F,Hb,ds,rfl,rfl,_,_,_,_,r,a⟩:=h
  unfold runN at a
  split at a
  · rename_i hl
    have:=zkM r
    simp only [List.length_cons]
    omega
  · exact a.elim
theorem zmW {c np:Nat} {N:List Str} {vs:List V} {Q:VK} {E:XK} {t:TS} {m:En→List Str→List D→R (List Str × List D)} (h:SInX K (xoK K) (fun _=>E) c t m) (hn:N.length=np + 1) (sp:spX K c (runN c np m) vs H Q E) :
    t { nx:=fun _ H'=>Q .non H',rt:=Q } (L2.start N vs) H:=by
  obtain ⟨x,dx,us,F,Hb,ds,rfl,rfl,x0,d0,ne,s,r0,a⟩:=sp
  unfold runN at a
  split at a
  case isFalse=>exact a.elim
  case isTrue hl =>
    have r:=zi3 s r0
    have s':=zka s
    have ul:=r.length
    have st:L2.start N (.ref x :: us)=some (.ref x) :: us.map some:=by
      unfold L2.start
      rw [show N.length - (V.ref x :: us).length=0 by simp only [List.length_cons]; omega]
      simp
    rw [st]
    have hF:zbC F Hb x=none:=s'.free x0
    have hv:ValE (.no :: ds.map .v):=fun i=>by
      cases i with
      | zero=>rfl
      | succ i =>
        rw [List.getElem?_cons_succ,List.getElem?_map]
        cases ds[i]? <;> rfl
    have I0:EnvOk K [] (zbC F Hb) Hb (zbC F Hb) Hb (some (V.ref x) :: us.map some) (.no :: ds.map .v):=by
      refine ⟨.refl s',by simp [ul],fun i=>?_,fun i j a _ h1 _ _ _=>(by rw [hv i] at h1; cases h1),fun y hy=>(by cases hy),fun i ll h1=>(by have:=hv i; rw [h1] at this; cases this)⟩
      cases i with
      | zero=>trivial
      | succ i =>
        rw [List.getElem?_cons_succ,List.getElem?_map,List.getElem?_cons_succ,List.getElem?_map]
        cases q:ds[i]? with
        | none=>trivial
        | some d =>
          obtain ⟨v,hv',rv⟩:=r.get q
          exact ⟨v,by rw [hv']; rfl,rv⟩
    have I1:=(I0.poke (u:=.own x) hv d0 (s'.free d0)).poke (x:=x) (u:=.ins (K.ca c) dx []) hv x0 hF
    refine h F Hb (zbC F Hb) _ _ _ x dx [] [] _ hv I1 rfl x0 hF zai .nil ?_
    rw [List.map_nil]
    cases q:m (.no :: ds.map .v) [] [] with
    | no=>rw [q] at a; exact a
    | ex xx=>rw [q] at a; exact fun C dct F' H' e z=>a C dct _ H' (zle e) (zpe e z)
    | ok p =>
      rw [q] at a
      intro F' H' fs' I' hF' hH' e1 e2
      refine a _ H' (zle I'.ext) ?_ ⟨dx,fs',hH',e1,e2⟩
      unfold minH
      split
      · rfl
      · exact hF'
theorem zfd {c:Nat} {C:Addr} {f:List D→R D} {tl:TA} {ml:En→R (List D)} {E':XK} (hC:C=K.ca c) (h:SAb K (xoK K) E tl ml):SEo K (xoK K) E (znE C (spX K c f) [] E' tl) (zap f ml):=by
  intro Λ F0 H0 F H σ δ Q I a
  refine h Λ F0 H0 F H σ δ _ I (a.bind.imp fun ds F1 H1 e1 a1 vs r x dx hx hdx ne=>⟨x,dx,vs,F1,H1,ds,by rw [List.append_nil],by rw [hC],hx,hdx,ne,e1.fh,r,?_⟩)
  cases q:f ds with
  | no=>rw [q] at a1; exact a1.elim
  | ex xx=>rw [q] at a1; exact a1.elim
  | ok d=>rw [q] at a1; exact fun F2 H2 e2 hF o=>⟨rfl,a1 F2 H2 e2 x hF (e1.hh.free hx) o⟩
def mAlt (i c1:Nat) (m1 m2:En→R D) (δ:En):R D:=match δ[i]? with | some (.v (.obj c _ _))=>if c=c1 then m1 δ else m2 δ | _=>.no
theorem znf {i c1:Nat} {t1 t2:TE} {m1 m2:En→R D} (h1:SE K XO E t1 m1) (h2:SE K XO E t2 m2):SE K XO E (tAlt t1 t2) (mAlt i c1 m1 m2):=by
  intro Λ F0 H0 F H σ δ Q I a
  unfold mAlt at a
  split at a
  · split at a
    · exact .inl (h1 Λ F0 H0 F H σ δ Q I a)
    · exact .inr (h2 Λ F0 H0 F H σ δ Q I a)
  · exact a.elim
theorem zn9 {i c1:Nat} {t1 t2:TE} {m1 m2:En→R D} (h1:SEo K XO E t1 m1) (h2:SEo K XO E t2 m2):SEo K XO E (tAlt t1 t2) (mAlt i c1 m1 m2):=by
  intro Λ F0 H0 F H σ δ Q I a
  unfold mAlt at a
  split at a
  · split at a
    · exact .inl (h1 Λ F0 H0 F H σ δ Q I a)
    · exact .inr (h2 Λ F0 H0 F H σ δ Q I a)
  · exact a.elim
end
end PM
namespace L2
open PySem PySem.Spec PyProof.Rows
section
variable {prog:Program} {w:World} {A:Around} {E:Value→Shared→Prop} {s:Shared}
end
section
variable {X:Cx}
end
end L2
namespace PM
open PySem L2
section
variable {K:Kx} {XO:XOT} {E:L2.St→XK}
end
end PM
namespace L2
open PySem PySem.Spec PyProof.Rows
section
variable {prog:Program} {w:World} {A:Around} {E:Value→Shared→Prop} {s:Shared}
end
section
variable {X:Cx}
end
end L2
namespace PM
open PySem L2
section
variable {K:Kx} {XO:XOT} {E:L2.St→XK}
end
end PM
namespace L2
open PySem PySem.Spec PyProof.Rows
end L2
namespace L2
open PySem PySem.Spec PyProof.Rows
section
variable {prog:Program} {w:World} {K:Type} [DecidableEq K] {knd:KeyKind prog w K} {A:Around} {E:Value→Shared→Prop} {s:Shared}
end
section
variable {prog:Program} {w:World} {K:Type} [DecidableEq K] {knd:KeyKind prog w K} {A:Around} {E:Value→Shared→Prop} {s:Shared}
end
section
variable {prog:Program} {w:World} {K:Type} [DecidableEq K] {knd:KeyKind prog w K} {A:Around} {E:Value→Shared→Prop} {s:Shared}
end
end L2
namespace L2
open PySem PySem.Spec PyProof.Rows
section
variable {X:Cx}
end
end L2
namespace PM
open PySem L2
section
variable {K:Kx} {XO:XOT} {E:L2.St→XK}
end
end PM
namespace PM
open PySem L2
section
variable {K:Kx} {XO:XOT} {E:St→XK} {ta tb te:TE} {ma mb me:En→R D} {t u:TS} {m n:En→O} {Λ:List (Nat × Addr × HO)} {F0 H0 F H F' H' F1 H1:Hp} {σ:St} {δ:En} {Dn:Ends}
theorem leaf_iff:∀ {l:List D} {vs:List V} {fp:List Addr},TrOkL K F H (l.map .d) vs fp ↔ RepL K F l vs∧fp = []
  | [],vs,fp=>by simp only [List.map_nil,TrOkL,RepL]
  | d :: l,vs,fp=>by
    simp only [List.map_cons,TrOkL,TrOk,RepL]
    constructor
    · rintro ⟨v,r,f1,f2,rfl,rfl,⟨rfl,h1⟩,h2⟩
      obtain ⟨h3,rfl⟩:=leaf_iff.mp h2
      exact ⟨⟨v,r,rfl,h1,h3⟩,rfl⟩
    · rintro ⟨⟨v,r,rfl,h1,h3⟩,rfl⟩
      exact ⟨v,r,[],[],rfl,rfl,⟨rfl,h1⟩,leaf_iff.mpr ⟨h3,rfl⟩⟩
theorem TrOkL.append:∀ {ts:List Tr} {vs:List V} {f1:List Addr} {us:List Tr} {ws:List V} {f2:List Addr},TrOkL K F H ts vs f1→TrOkL K F H us ws f2→TrOkL K F H (ts ++ us) (vs ++ ws) (f1 ++ f2)
  | [],vs,f1,us,ws,f2,h,h'=>by
    simp only [TrOkL] at h
    obtain ⟨rfl,rfl⟩:=h
    exact h'
  | t :: ts,vs,f1,us,ws,f2,h,h'=>by
    simp only [TrOkL] at h
    obtain ⟨v,r,g1,g2,rfl,rfl,h3,h4⟩:=h
    simp only [List.cons_append,TrOkL]
    exact ⟨v,r ++ ws,g1,g2 ++ f2,rfl,by rw [List.append_assoc],h3,TrOkL.append h4 h'⟩
end
end PM
namespace PM
open PySem L2
section
variable {K:Kx} {XO:XOT} {E:St→XK} {ta tb te:TE} {ma mb me:En→R D} {t u:TS} {m n:En→O} {Λ:List (Nat × Addr × HO)} {F0 H0 F H F' H' F1 H1:Hp} {σ:St} {δ:En} {Dn:Ends}
end
end PM
namespace PM
open PySem L2
section
variable {K:Kx} {XO:XOT} {E:St→XK} {ta tb te to:TE} {ma mb me mo:En→R D} {t u:TS} {m n:En→O} {Λ:List (Nat × Addr × HO)} {F0 H0 F H F' H' F1 H1:Hp} {σ:St} {δ:En} {Dn:Ends}
end
end PM
namespace PM
open PySem L2
section
variable {K:Kx} {XO:XOT} {E:St→XK} {te ti tj:TE} {me mi mj:En→R D} {Λ:List (Nat × Addr × HO)} {F0 H0 F H:Hp} {σ:St} {δ:En} {Dn:Ends}
end
end PM
namespace L2
open PySem PySem.Spec PyProof.Rows
section
variable {X:Cx}
end
end L2
namespace PM
open PySem L2
section
variable {K:Kx}
end
end PM
namespace L2
open PySem PySem.Spec PyProof.Rows
end L2
namespace PM
end PM
namespace L2
open PySem PySem.Spec PyProof.Rows
section
variable {prog:Program} {w:World} {A:Around} {E:Value→Shared→Prop} {s:Shared}
end
end L2
namespace L2
open PySem PySem.Spec PyProof.Rows
end L2
namespace PM
open PySem L2
end PM
namespace L2
open PySem PySem.Spec PyProof.Rows PM
section
variable {X:Cx} {ca:Nat→Addr} {an:Nat→Str}
end
end L2
namespace PM
open PySem L2
section
variable {K:Kx} {c:Nat} {d:Int→Int→Int} {L:D} {F H F' H' F'' H'':Hp} {x kp dx:Addr} {lv:V} {kvs:List (List Key × V)}
end
section
variable {K:Kx} {XO:XOT} {E:L2.St→XK}
end
end PM
namespace PM
open PySem L2
section
variable {K:Kx} {c m:Nat} {d:Int→Int→Int} {L:D} {E:XK}
end
end PM
namespace PM
open PySem L2
section
variable {K:Kx} {c m:Nat} {d:Int→Int→Int} {L:D}
end
end PM
namespace L2
open PySem PySem.Spec PyProof.Rows
section
variable {P:Program} {w:World} {K:PySem.W.Frag} {mg:Str→Option Value} {base:Heap} {CX:CXT} {k:Nat} {m:Str} {C:Addr} {ps:List Str} {sp sp':Sp}
end
end L2
namespace PM
open PySem L2
section
variable {K:Kx} {c m:Nat} {d:Int→Int→Int} {L:D}
end
end PM
namespace L2
open PySem PySem.Spec PyProof.Rows
section
variable {prog:Program} {w:World} {K:Type} [DecidableEq K] {knd:KeyKind prog w K} {A:Around} {E:Value→Shared→Prop} {s:Shared}
end
section
variable {X:Cx}
end
end L2
namespace PM
open PySem L2
section
variable {K:Kx} {XO:XOT} {E:L2.St→XK}
end
end PM
namespace PM
open PySem L2
section
variable {K:Kx} {XO:XOT} {E:L2.St→XK} {Λ:List (Nat × Addr × HO)} {F0 H0 F H:Hp} {σ:L2.St} {δ:En}
end
end PM
namespace PM
open PySem L2
section
variable {K:Kx} {XO:XOT} {E:L2.St→XK} {Λ:List (Nat × Addr × HO)} {F0 H0 F H:Hp} {σ:L2.St} {δ:En} {t:TS} {m:En→O}
end
end PM
namespace L2
open PySem PySem.Spec PyProof.Rows
section
variable {X:Cx}
end
end L2
namespace PM
open PySem L2
section
variable {X:Cx} {K:Kx} {XO:XOT} {E:L2.St→XK} {te:TE} {me:En→R D} {ca:Nat→Addr} {an:Nat→Str}
end
end PM
namespace L2
open PySem PySem.Spec PyProof.Rows
section
variable {X:Cx}
section
variable {prog:Program} {w:World} {A:Around} {E:Value→Shared→Prop} {s:Shared} {a:Addr} {xs:Array (Int × Tok)}
end
end
end L2
namespace PM
open PySem L2
section
variable {K:Kx}
end
end PM
namespace L2
open PySem PySem.Spec PyProof.Rows
section
variable {prog:Program} {w:World} {A:Around} {E:Value→Shared→Prop} {s:Shared}
end
end L2
namespace PM
open PySem L2
end PM
namespace L2
open PySem PySem.Spec PyProof.Rows PM
section
variable {X:Cx} {ca:Nat→Addr} {an:Nat→Str}
end
end L2
namespace PM
open PySem L2
section
variable {K:Kx}
end
end PM
namespace PM
open PySem L2
section
variable {K:Kx} {XO:XOT} {E:L2.St→XK} {F0 H0 F H F1 H1 F' H':Hp}
variable (K XO E) in
def SEt (t:TE) (m:En→R Tr):Prop:=∀ Λ F0 H0 F H σ δ Q,EnvOk K Λ F0 H0 F H σ δ→Aft E XO σ F H (fun T F' H'=>∀ a bs,Tab K F' H' a bs T→(∀ b ∈ a :: bs,F' b=none∧H b=none)→Q (.ref a) H') (m δ)→t σ H Q
end
end PM
namespace L2
open PySem PySem.Spec PyProof.Rows
section
variable {X:Cx}
end
end L2
namespace PM
open PySem L2
section
variable {K:Kx} {XO:XOT} {E:L2.St→XK} {F0 H0 F H F1 H1 F' H':Hp}
end
end PM
namespace PM
open PySem L2
section
variable {K:Kx} {XO:XOT} {E:L2.St→XK} {Λ:List (Nat × Addr × HO)} {F0 H0 F H:Hp} {σ:L2.St} {δ:En}
end
end PM
namespace L2
open PySem PySem.Spec PyProof.Rows
section
variable {prog:Program} {w:World} {A:Around} {E:Value→Shared→Prop} {s:Shared}
end
section
variable {X:Cx}
end
end L2
namespace PM
open PySem L2
section
variable {K:Kx} {XO:XOT} {E:L2.St→XK}
end
end PM
namespace L2
open PySem PySem.Spec PyProof.Rows
section
variable {X:Cx} {x:Str} {C:Addr} {p pos:Pos}
end
end L2
namespace PM
open PySem L2
section
variable {K:Kx} {XO:XOT} {E:L2.St→XK} {F0 H0 F H F1 H1 F' H':Hp}
variable (K XO E) in
def SEg (t:TE) (m:En→R Tr):Prop:=∀ Λ F0 H0 F H σ δ Q,EnvOk K Λ F0 H0 F H σ δ→Aft E XO σ F H (fun T F' H'=>∀ v fp,TrOk K F' H' T v fp→fp.Nodup→(∀ b ∈ fp,F' b=none∧H b=none)→Q v H') (m δ)→t σ H Q
def mPr (ma mb:En→R D) (δ:En):R Tr:=(ma δ).bind fun x=>(mb δ).bind fun y=>match y with | .lst l=>.ok (.t [.d x,.l (l.map .d)]) | _=>.no
theorem zmF {ta tb:TE} {ma mb:En→R D} (ha:SE K XO E ta ma) (hb:SEo K XO E tb mb):SEg K XO E (tTup (zci ta (zci tb tNil))) (mPr ma mb):=by
  intro Λ F0 H0 F H σ δ Q I a
  refine ha Λ F0 H0 F H σ δ _ I (a.bind.imp fun x F1 H1 e1 a1 v rv=>?_)
  refine hb Λ F0 H0 F1 H1 σ δ _ (I.grow e1) (a1.bind.imp fun y F2 H2 e2 a2 b b0 b1 bo=>⟨by simp [sizeLine],fun c hc=>?_⟩)
  cases y with
  | lst l =>
    obtain ⟨ws,b4,b5⟩:=bo
    have x2:Ext F2 H2 (upd F2 c (.tup [v,.ref b])) (upd H2 c (.tup [v,.ref b])):=.new e2.fh hc
    have bc:b ≠ c:=zak b4 hc
    refine a2 _ _ x2 (.ref c) [b] ?_ (by simp) fun y hy=>?_
    · simp only [TrOk,TrOkL]
      exact ⟨c,[v,.ref b],rfl,zai,v,[.ref b],[],[b],rfl,rfl,⟨rfl,Rep.mono (e2.ff.trans x2.ff) x rv⟩,.ref b,[],[b],[],rfl,rfl,⟨b,ws,[],rfl,rfl,by rw [zag bc]; exact b4,leaf_iff.mpr ⟨b5.mono x2.ff,rfl⟩⟩,rfl,rfl⟩
    · rw [List.mem_singleton.mp hy]; exact ⟨by rw [zag bc]; exact b0,e1.hh.free b1⟩
  | _=>exact a2.elim
def zjm (b:D→En→Option En) (me:En→R Tr) (δ:En) (d:D):R Tr:=match b d δ with
  | none=>.no
  | some δ1=>(me δ1).nev
def zcD (f:D→R Tr):List D→R (List Tr)
  | []=>.ok []
  | d :: l=>(f d).bind fun o=>(zcD f l).bind fun r=>.ok (o :: r)
def zlb (mi:En→R (List D)) (ix:List Nat) (n:Nat) (b:D→En→Option En) (me:En→R Tr) (δ:En):R Tr :=
  (mi δ).bind fun ds=>ifC (ds.length ≤ sizeLine) ((zcD (zjm b me (zaF δ ix n)) ds).nev.bind fun l=>.ok (.l l)) .no
theorem zhu {f:D→R Tr} {d:D} {l:List D} {r:List Tr} (h:zcD f (d :: l) = .ok r):∃ o r',f d = .ok o∧zcD f l = .ok r'∧r=o :: r':=by
  unfold zcD at h
  cases q:f d with
  | no=>rw [q] at h; cases h
  | ex x=>rw [q] at h; cases h
  | ok o =>
    rw [q] at h
    cases q2:zcD f l with
    | no=>rw [R.bind_ok,q2] at h; cases h
    | ex x=>rw [R.bind_ok,q2] at h; cases h
    | ok r'=>rw [R.bind_ok,q2] at h; cases h; exact ⟨o,r',rfl,rfl,rfl⟩
mutual
theorem zoR:∀ (T:Tr) {v:V} {fp:List Addr},TrOk K F H T v fp→∀ b ∈ fp,∃ o,H b=some o
  | .d x,v,fp,h,b,hb=>by
    simp only [TrOk] at h
    rw [h.1] at hb; cases hb
  | .l ts,v,fp,h,b,hb=>by
    simp only [TrOk] at h
    obtain ⟨a,vs,fs,_,rfl,h3,h4⟩:=h
    rcases List.mem_cons.mp hb with rfl | hb
    · exact ⟨_,h3⟩
    · exact zf9 ts h4 b hb
  | .t ts,v,fp,h,b,hb=>by
    simp only [TrOk] at h
    obtain ⟨a,vs,_,_,h4⟩:=h
    exact zf9 ts h4 b hb
theorem zf9:∀ (ts:List Tr) {vs:List V} {fp:List Addr},TrOkL K F H ts vs fp→∀ b ∈ fp,∃ o,H b=some o
  | [],vs,fp,h,b,hb=>by
    simp only [TrOkL] at h
    rw [h.2] at hb; cases hb
  | t :: ts,vs,fp,h,b,hb=>by
    simp only [TrOkL] at h
    obtain ⟨v,r,f1,f2,_,rfl,h3,h4⟩:=h
    rcases List.mem_append.mp hb with hb | hb
    · exact zoR t h3 b hb
    · exact zf9 ts h4 b hb
end
theorem zmh {te:TE} {me:En→R Tr} {wi:TI} {mi:En→R (List D)} {ix:List Nat} {n:Nat} {g:TG} {b:D→En→Option En}
    (hi:SIc K XO E wi mi) (hix:ix.Nodup) (hg:SG K g b) (hw:BW b) (he:SEg K XO EN te me):SEt K XO E (zlU wi ix n g none te) (zlb mi ix n b me):=by
  intro Λ F0 H0 F H σ δ Q I a
  refine hi Λ F0 H0 F H σ δ _ I (a.bind.imp fun ds F1 H1 e1 a1 J hJ p hp=>?_)
  unfold ifC at a1
  split at a1
  case isFalse=>exact a1.elim
  rename_i hsz
  have I1:=I.grow e1
  obtain ⟨Λc,Ic,hown,hall⟩:=zhc (n:=n) I1 hix
  cases qg':(zcD (zjm b me (zaF δ ix n)) ds).nev with
  | no=>rw [qg'] at a1; exact a1.elim
  | ex x=>cases q2:zcD (zjm b me (zaF δ ix n)) ds <;> (rw [q2] at qg'; cases qg')
  | ok l =>
  rw [qg'] at a1
  have qg:=nev_ok qg'
  have hlent:∀ x ∈ Λc,∃ d,(zaF δ ix n)[x.1]?=some (.l d):=fun x hx=>(Ic.lent x hx).1
  have hpn:∀ x ∈ Λc,x.2.1 ≠ p:=fun x hx e=>by
    obtain ⟨o,ho⟩:=hall x hx
    rw [e,hp] at ho; cases ho
  have p0:H0 p=none:=I1.ext.hh.free hp
  have f1:F1 p=none:=e1.fh.free hp
  refine ⟨fun i k ys σ2 H2=>∃ F2 l1 l2 fs,EnvOk K Λc F0 H0 F2 H2 σ2 (zaF δ ix n)∧Ext F1 H1 F2 H2∧H2 p=some (.lst ys)∧TrOkL K F2 H2 l1 ys fs∧(p :: fs).Nodup∧(∀ c ∈ p :: fs,F2 c=none∧H1 c=none)∧zcD (zjm b me (zaF δ ix n)) (ds.drop i) = .ok l2∧l=l1 ++ l2∧k=ds.length - i∧i ≤ ds.length∧ys.length ≤ i,
    ⟨_,F1,[],l,[],?_,.newO e1.fh hp,zai,by simp [TrOkL],by simp,fun c hc=>?_,qg,rfl,rfl,Nat.zero_le _,Nat.le_refl _⟩,?_⟩
  · exact Ic.grow (.newO e1.fh hp)
  · rw [List.mem_singleton.mp hc]; exact ⟨f1,hp⟩
  rintro i k ys σ2 H2 ⟨F2,l1,l2,fs,I2,x2,hp2,tb,nd,hfr,qd,rfl,rfl,hil,hys⟩
  refine ⟨hp2,?_⟩
  by_cases hlt:i < ds.length
  · have e:ds.drop i=ds[i] :: ds.drop (i + 1):=List.drop_eq_getElem_cons hlt
    rw [e] at qd
    obtain ⟨row,l3,q1,q3,rfl⟩:=zhu qd
    obtain ⟨h1,h2⟩:=(hJ F2 H2 x2 i).1 ds[i] (by simp [hlt])
    refine .inr ⟨h1,fun ys' σ' H'=>∃ F' fs',EnvOk K Λc F0 H0 F' H' σ' (zaF δ ix n)∧Ext F1 H1 F' H'∧H' p=some (.lst ys')∧TrOkL K F' H' (l1 ++ [row]) ys' fs'∧(p :: fs').Nodup∧(∀ c ∈ p :: fs',F' c=none∧H1 c=none)∧ys'.length ≤ i + 1,
      fun ys' σ' H' ⟨F',fs',w1,w2,w3,w4,w5,w6,w7⟩=>⟨_,by omega,F',l1 ++ [row],l3,fs',w1,w2,w3,w4,w5,w6,q3,by simp,rfl,hlt,w7⟩,fun x H' y=>?_⟩
    obtain ⟨F3,e3,rx⟩:=h2 x H' y
    unfold zjm at q1
    cases qb:b ds[i] (zaF δ ix n) with
    | none=>rw [qb] at q1; cases q1
    | some δ1 =>
      rw [qb] at q1
      dsimp only at q1
      have hwk:=hw _ _ _ qb
      refine hg Λc F0 H0 F3 H' σ2 _ _ x δ1 _ (I2.grow e3) rx qb fun σ3 I3=>?_
      unfold zlJ
      simp only [if_true]
      have qm:=nev_ok q1
      refine he Λc F0 H0 F3 H' σ3 δ1 _ I3 ?_
      rw [qm]
      intro F5 H5 e5 v fp tv ndv fv
      have z:=e3.trans e5
      have tb5:=TrOkL.mono z.ff z.hh l1 tb
      have z2:F5 p=none:=z.nw p _ (hfr p (by simp)).1 hp2
      have fH2:∀ c ∈ fp,H2 c=none:=fun c hc=>e3.hh.free (fv c hc).2
      have cne:∀ q ∈ p :: fs,q ∉ fp:=fun q hq w=>by
        have:∃ o,H2 q=some o:=by
          rcases List.mem_cons.mp hq with rfl | hq
          · exact ⟨_,hp2⟩
          · exact zf9 l1 tb q hq
        obtain ⟨o,ho⟩:=this
        rw [fH2 q w] at ho; cases ho
      have pf:p ∉ fs:=(List.nodup_cons.mp nd).1
      refine ⟨z.hh _ _ hp2,?_,F5,fs ++ fp,((I3.grow e5).weakL hwk hlent).side hown hpn p0 z2,?_,zai,TrOkL.append (TrOkL.at' l1 tb5 fun c hc=>zag fun w=>pf (w ▸ hc)) ?_,?_,fun q hq=>?_,by simpa using hys⟩
      · omega
      · have w:=x2.trans z
        exact ⟨w.ff,fun c o q=>by rw [zag (zak q hp)]; exact w.hh c o q,fun c o q=>by rw [zag (zak q z2)]; exact w.fh c o q,w.nw⟩
      · simp only [TrOkL]
        exact ⟨v,[],fp,[],rfl,by rw [List.append_nil],TrOk.at' row tv fun c hc=>zag fun w=>cne p (by simp) (w ▸ hc),rfl,rfl⟩
      · rw [← List.cons_append,List.nodup_append]
        exact ⟨nd,ndv,fun q hq r hr ee=>cne q hq (ee ▸ hr)⟩
      · rw [← List.cons_append] at hq
        rcases List.mem_append.mp hq with w | w
        · have:∃ o,H2 q=some o:=by
            rcases List.mem_cons.mp w with rfl | w
            · exact ⟨_,hp2⟩
            · exact zf9 l1 tb q w
          obtain ⟨o,ho⟩:=this
          exact ⟨z.nw q o (hfr q w).1 ho,(hfr q w).2⟩
        · exact ⟨(fv q w).1,x2.hh.free (fH2 q w)⟩
  · have e:i=ds.length:=by omega
    subst e
    rw [List.drop_length] at qd
    cases qd
    refine .inl ⟨(hJ F2 H2 x2 _).2 (by simp),a1 F2 H2 x2 p fs ⟨?_,nd⟩ fun c hc=>⟨(hfr c hc).1,e1.hh.free (hfr c hc).2⟩⟩
    rw [List.append_nil]
    simp only [TrOk]
    exact ⟨p,ys,fs,rfl,rfl,hp2,tb⟩
mutual
def zfz:Tr→Bool
  | .d x=>zdT x
  | .l ts=>zeU ts
  | .t ts=>zeU ts
def zeU:List Tr→Bool
  | []=>true
  | t :: ts=>zfz t && zeU ts
end
mutual
theorem ziZ {G:Hp} (x:Ext (zbC F1 H1) H1 F H) (sG:Same (minH F1 H1 F) G):∀ (T:Tr) {v:V} {fp:List Addr},zfz T=true→TrOk K F H T v fp→(∀ b ∈ fp,G b=H b)→Rep K G (trD T) v
  | .d d,v,fp,c,h,_=>by
    simp only [TrOk] at h
    simp only [zfz] at c
    simp only [trD]
    exact Rep.mono sG d (zh1 x d c h.2)
  | .l ts,v,fp,c,h,e=>by
    simp only [TrOk] at h
    simp only [zfz] at c
    obtain ⟨a,vs,fs,rfl,rfl,h3,h4⟩:=h
    simp only [trD,Rep]
    exact ⟨a,vs,rfl,.inl (by rw [e a (by simp)]; exact h3),zfO x sG ts c h4 fun b hb=>e b (by simp [hb])⟩
  | .t ts,v,fp,c,h,e=>by
    simp only [TrOk] at h
    simp only [zfz] at c
    obtain ⟨a,vs,rfl,h3,h4⟩:=h
    simp only [trD,Rep]
    exact ⟨a,vs,rfl,sG _ _ (zks x h3 (fun _ z=>by cases z) (fun _ z=>by cases z) (fun _ _ z=>by cases z) (fun _ _ _ z=>by cases z)),zfO x sG ts c h4 e⟩
theorem zfO {G:Hp} (x:Ext (zbC F1 H1) H1 F H) (sG:Same (minH F1 H1 F) G):∀ (ts:List Tr) {vs:List V} {fp:List Addr},zeU ts=true→TrOkL K F H ts vs fp→(∀ b ∈ fp,G b=H b)→RepL K G (trDL ts) vs
  | [],vs,fp,c,h,_=>by
    simp only [TrOkL] at h
    simp only [trDL,RepL]; exact h.1
  | t :: ts,vs,fp,c,h,e=>by
    simp only [TrOkL] at h
    simp only [zeU,Bool.and_eq_true] at c
    obtain ⟨v,r,f1,f2,rfl,rfl,h3,h4⟩:=h
    simp only [trDL]
    exact .cons (ziZ x sG t c.1 h3 fun b hb=>e b (List.mem_append_left _ hb)) (zfO x sG ts c.2 h4 fun b hb=>e b (List.mem_append_right _ hb))
end
def zih (f:Str) (me:En→R Tr) (δ:En) (ks:List Str) (l:List D):R (List Str × List D):=(me δ).nev.bind fun T=>ifC (ks.length < 1000∧zfz T=true) (.ok (putN ks f,putV ks l f (trD T))) .no
theorem zkn {f:Str} {me:En→R Tr} {δ:En} {ks:List Str} {l:List D} {x:Xc}:zih f me δ ks l ≠ .ex x:=by
  unfold zih ifC
  cases me δ with
  | ok d=>simp only [R.nev_ok,R.bind_ok]; split <;> exact fun h=>by cases h
  | _=>exact fun h=>by cases h
theorem zlQ {c:Nat} {f:Str} {te:TE} {me:En→R Tr} (hc:Cls K.f (K.ca c)∧NoAttr K.f (K.ca c) f) (h:SEt K XO E te me):SInB K c (sFld K.f (tVar 0) te f) (zih f me):=by
  intro F1 H1 F H σ δ x dx fs l Dn hv I hx h0 hF hH hl a
  refine h [] _ _ F H σ δ _ I ?_
  unfold zih at a
  cases q:me δ with
  | no=>rw [q] at a; exact a
  | ex xx=>rw [q] at a; exact a.elim
  | ok T =>
    rw [q] at a
    intro F2 H2 e p bs tb hn
    simp only [R.nev_ok,R.bind_ok,ifC] at a
    by_cases z1:(fs.map (·.1)).length < 1000∧zfz T=true
    · rw [if_pos z1] at a
      have x1:=e.hh _ _ hH
      have F2x:F2 x=none:=e.nw x _ hF hH
      have inB:∀ b ∈ p :: bs,zfE F2 H2 (p :: bs) b=H2 b:=fun b hb=>by unfold zfE; rw [if_pos hb]
      have outB:∀ b,b ∉ p :: bs→zfE F2 H2 (p :: bs) b=F2 b:=fun b hb=>by unfold zfE; rw [if_neg hb]
      have ff:Same F2 (zfE F2 H2 (p :: bs)):=fun b o h=>by
        rw [outB b fun z=>by rw [(hn b z).1] at h; cases h]
        exact h
      have fh:Same (zfE F2 H2 (p :: bs)) H2:=fun b o h=>by
        unfold zfE at h
        split at h
        · exact h
        · exact e.fh b o h
      have xp:x ∉ p :: bs:=fun z=>by rw [(hn x z).2] at hH; cases hH
      have e3:Ext F H (zfE F2 H2 (p :: bs)) H2:=⟨e.ff.trans ff,e.hh,fh,fun b o g1 g2=>by
        rw [outB b fun z=>by rw [(hn b z).2] at g2; cases g2]
        exact e.nw b o g1 g2⟩
      have F3x:zfE F2 H2 (p :: bs) x=none:=by rw [outB x xp]; exact F2x
      have I3:=I.grow e3
      have nb:∀ b ∈ p :: bs,H1 b=none:=fun b hb=>I.ext.hh.free (hn b hb).2
      have inM:∀ b ∈ p :: bs,minH F1 H1 (zfE F2 H2 (p :: bs)) b=H2 b:=fun b hb=>by
        unfold minH
        rw [if_neg (fun w=>w.2 (nb b hb)),inB b hb]
      have rp:Rep K (minH F1 H1 (zfE F2 H2 (p :: bs))) (trD T) (.ref p):=ziZ (I.grow e).ext (zdi ff) T z1.2 tb.ok inM
      obtain ⟨g3,g4⟩:=zgc (f:=f) rp (hl.mono (zdi e3.ff))
      refine ⟨_,hx,x,_,dx,fs,rfl,x1,hc.1,hc.2,by simpa using z1.1,?_⟩
      exact a _ _ _ (I3.poke hv h0 F3x) F3x zai g3 g4
    · rw [if_neg z1] at a; exact a.elim
theorem zld {c:Nat} {f:Str} {te:TE} {me:En→R Tr} (hc:Cls K.f (K.ca c)∧NoAttr K.f (K.ca c) f) (h:SEt K XO E te me):SInX K XO E c (sFld K.f (tVar 0) te f) (zih f me):=(zlQ hc h).x fun _ _ _ _=>zkn
def znH:D→Bool
  | .lst _=>true
  | _=>false
def zgg (f g:Str) (m:List D→R D) (_δ:En) (ks:List Str) (l:List D):R (List Str × List D):=match getF ks l g with
  | some d=>(m [d]).nev.bind fun r=>ifC (ks.length < 1000∧znH r=true) (.ok (putN ks f,putV ks l f r)) .no
  | none=>.no
def orH (F G:Hp):Hp:=fun b=>match F b with | some o=>some o | none=>G b
theorem zkj {c:Nat} {f g:Str} {m:List D→R D} {E':XK} (hc:Cls K.f (K.ca c)∧NoAttr K.f (K.ca c) f) (hg:Cls K.f (K.ca c)∧NoAttr K.f (K.ca c) g):SInB K c (sFld K.f (tVar 0) (zhY (spO K XO m) [] E' (zci (tFld K.f (tVar 0) g) tNil)) f) (zgg f g m):=by
  intro F1 H1 F H σ δ x dx fs l Dn hv I hx h0 hF hH hl a
  unfold zgg at a
  cases qg:getF (fs.map (·.1)) l g with
  | none=>rw [qg] at a; exact a.elim
  | some d =>
    rw [qg] at a
    dsimp only at a
    obtain ⟨v,lk,rv⟩:=zib rfl hl qg
    have sm:Same (minH F1 H1 F) H:=min_sub.trans I.ext.fh
    refine ⟨_,hx,x,_,dx,fs,v,rfl,hH,hg.1,hg.2,lk,minH F1 H1 F,[d],sm,by rw [List.append_nil]; exact .cons rv .nil,?_⟩
    cases q:m [d] with
    | no=>rw [q] at a; exact a.elim
    | ex xx=>rw [q] at a; exact a.elim
    | ok r =>
      rw [q] at a
      simp only [R.nev_ok,R.bind_ok,ifC] at a
      intro F2 H2 e p hp0 hp1 o
      by_cases z:(fs.map (·.1)).length < 1000∧znH r=true
      · rw [if_pos z] at a
        cases r with
        | lst r =>
          obtain ⟨vs,g1,g2⟩:=o
          have e2:=zlD e hp0 hp1 g1
          -- all that is frozen now
          have mN:∀ b,F b=none→minH F1 H1 F b=none:=fun b hb=>by
            unfold minH; split
            · rfl
            · exact hb
          have s1:Same F (orH F (upd F2 p (.lst vs))):=fun b u hb=>by unfold orH; rw [hb]
          have e3:Ext F H (orH F (upd F2 p (.lst vs))) H2:=by
            refine ⟨s1,e.hh,fun b u hb=>?_,fun b u hb hh=>?_⟩
            · unfold orH at hb
              split at hb
              · rename_i o' hz
                cases hb
                exact e.hh _ _ (I.ext.fh _ _ hz)
              · exact e2.fh b u hb
            · unfold orH
              rw [hb]
              exact e2.nw b u (mN b hb) hh
          have s2:Same (upd F2 p (.lst vs)) (minH F1 H1 (orH F (upd F2 p (.lst vs)))):=fun b u hb=>by
            cases w:minH F1 H1 F b with
            | some u' =>
              have:=e2.ff b u' w
              rw [hb] at this
              cases this
              exact zdi s1 b _ w
            | none =>
              have hb0:H b=none:=by
                cases y:H b with
                | none=>rfl
                | some u' =>
                  have:=e2.nw b u' w y
                  rw [this] at hb; cases hb
              have h1b:H1 b=none:=I.ext.hh.free hb0
              have fb:F b=none:=I.ext.fh.free hb0
              unfold minH
              rw [if_neg (fun y=>y.2 h1b)]
              unfold orH
              rw [fb]
              exact hb
          have F3x:orH F (upd F2 p (.lst vs)) x=none:=e3.nw x _ hF hH
          have x1:=e.hh _ _ hH
          have I3:=I.grow e3
          have rp:Rep K (minH F1 H1 (orH F (upd F2 p (.lst vs)))) (.lst r) (.ref p):=by
            refine Rep.mono s2 _ ?_
            simp only [Rep]
            exact ⟨p,vs,rfl,.inl zai,g2.mono fun b u hb=>by rw [zag (zak hb hp0)]; exact hb⟩
          obtain ⟨g3,g4⟩:=zgc (f:=f) rp (hl.mono (zdi s1))
          refine ⟨_,hx,x,_,dx,fs,rfl,x1,hc.1,hc.2,by simpa using z.1,?_⟩
          exact a _ _ _ (I3.poke hv h0 F3x) F3x zai g3 g4
        | _=>cases z.2
      · rw [if_neg z] at a; exact a.elim
theorem zjz {f g:Str} {m:List D→R D} {δ:En} {ks:List Str} {l:List D} {x:Xc}:zgg f g m δ ks l ≠ .ex x:=by
  unfold zgg ifC
  cases getF ks l g with
  | none=>exact fun h=>by cases h
  | some d =>
    dsimp only
    cases m [d] with
    | ok d=>simp only [R.nev_ok,R.bind_ok]; split <;> exact fun h=>by cases h
    | _=>exact fun h=>by cases h
theorem zjh {c:Nat} {f g:Str} {m:List D→R D} {E':XK} (hc:Cls K.f (K.ca c)∧NoAttr K.f (K.ca c) f) (hg:Cls K.f (K.ca c)∧NoAttr K.f (K.ca c) g):SInX K XO E c (sFld K.f (tVar 0) (zhY (spO K XO m) [] E' (zci (tFld K.f (tVar 0) g) tNil)) f) (zgg f g m):=(zkj hc hg).x fun _ _ _ _=>zjz
def znj:List D→Option D
  | [.dct ks l]=>some (.dct ks l)
  | _=>none
def zix (ml:En→R (List D)) (δ:En):R D:=(ml δ).bind fun l=>R.of (znj l)
theorem zkY {tl:TA} {ml:En→R (List D)} (h:SA K XO E tl ml):SEo K XO E (tCB zkX tl) (zix ml):=by
  intro Λ F0 H0 F H σ δ Q I a
  refine h Λ F0 H0 F H σ δ _ I (a.bind.imp fun ds F1 H1 e1 a1 vs r=>?_)
  unfold znj at a1
  split at a1
  · rename_i ks l
    obtain ⟨v,rfl,rv⟩:=RepL.one r
    simp only [Rep] at rv
    obtain ⟨p,kvs,rfl,h1,h2,h3⟩:=rv
    refine ⟨p,kvs,rfl,.inl (e1.fh _ _ h1),fun l hl=>?_⟩
    exact a1 F1 _ (.newO e1.fh hl) l (e1.fh.free hl) (e1.hh.free hl) ⟨kvs,zai,h2,h3⟩
  · exact a1.elim
end
end PM
namespace PM
open PySem L2
section
variable {K:Kx} {XO:XOT} {E:L2.St→XK} {Λ:List (Nat × Addr × HO)} {F0 H0 F H:Hp} {σ:L2.St} {δ:En}
def prT (p:D × List D):Tr:=.t [.d p.1,.l (p.2.map .d)]
end
end PM
namespace PM
open PySem L2
section
variable {K:Kx} {XO:XOT} {E:L2.St→XK} {F0 H0 F H F1 H1 F' H':Hp} {α:Type} {An:α→V→Hp→Hp→Hp→Prop}
end
end PM
namespace HT
open PySem PyProof.Rows
section
open PySem.SeqAt
open PySem.AutoSeq1 (wpAny_loadPart')
open PySem.MeetsSeq PySem.MeetsSeq2 PySem.MeetsSeq3
variable {prog:Program} {w:World} {A:Around} {E:Value→Shared→Prop} {s:Shared}
theorem getItem_tuple_same {t sl:Addr} {items:Array Value} {vl vu:Value} {lo hi:Option Int} {Q:Value→Shared→Prop} (ht:IsTup s.heap t items) (hs:s.heap.IsSliceOf sl vl vu .none) (pl:IsPart vl lo) (pu:IsPart vu hi)
    (hw:sIx items.size 0 lo=0∧sIx items.size items.size hi=items.size) (h:Q (.ref t) s):wpAny (model prog w) A (getItem (.ref t) (.ref sl)) Q E s:=by
  obtain ⟨os,hos,hcs,hds⟩:=id hs
  have hTs:s.TypeIs (.ref sl) "slice":=⟨os,hos,hcs⟩
  unfold getItem
  try with_reducible refine wpAny_holding ?_
  first | refine wpAny_bind (wpAny_pure ?_) | skip
  refine wpAny_bind (wpAny_sequenceKey ht.typeIs (by decide) ?_)
  refine wpAny_bind (wpAny_callSpecial?_slot (name:=Str.ofString "__getitem__") ht.typeIs PyProof.Rows.slot_tuple_getitem
    (wpAny_call_entry PyProof.Rows.slot_tuple_getitem ht.typeIs entry_tuple_getitem ?_ (args_tuple_getitem _ _)))
  show wpAny _ _ (Builtin.Tuple.tupleItemsOf (.ref t) >>= _) _ _ s
  refine wpAny_bind (tupleItemsOf_ ht ?_)
  refine wpAny_bind (wpAny_typeOf hTs ?_)
  rw [if_pos (by decide)]
  refine wpAny_bind (zdv hs pl pu ?_)
  have hyes:(((sIx items.size 0 lo:Nat):Int) == 0 && (1:Int) == 1 && (sIx items.size items.size hi - sIx items.size 0 lo) == items.size)=true:=by
    rw [hw.1,hw.2]; simp
  show wpAny _ _ (if (((sIx items.size 0 lo:Nat):Int) == 0 && (1:Int) == 1 && (sIx items.size items.size hi - sIx items.size 0 lo) == items.size)=true then _ else _) _ _ s
  rw [if_pos hyes]
  refine wpAny_bind ?_
  unfold Builtin.Tuple.tupleIsExact
  refine wpAny_bind (wpAny_typeOf ht.typeIs (wpAny_pure ?_))
  rw [if_pos (by decide)]
  first
    | exact wpAny_bind (wpAny_rule (wpAny_pure ⟨_,rfl,wpAny_pure h⟩))
    | exact wpAny_bind (wpAny_rule ⟨_,rfl,wpAny_pure h⟩)
end
end HT
namespace L2
open PySem PySem.Spec PyProof.Rows
section
variable {X:Cx}
def rSlA (K:PySem.W.Frag):V→Option Int→Option Int→Hp→VK→Prop:=fun x lo hi H Q=>∃ a xs,x = .ref a∧SqT K H a xs ∧
  ((HT.sIx xs.length 0 lo=0∧HT.sIx xs.length xs.length hi=xs.length)→Q x H)∧(¬ (HT.sIx xs.length 0 lo=0∧HT.sIx xs.length xs.length hi=xs.length)→∀ p,H p=none→Q (.ref p) (upd H p (.tup (cutV xs lo hi))))
theorem zou:SlR X (rSlA X.K):=by
  intro pins s σ H x v vl vu lo hi sl Q I rx hs pl pu h
  obtain ⟨a,xs,rfl,hx,q1,q2⟩:=h
  by_cases hw:HT.sIx xs.length 0 lo=0∧HT.sIx xs.length xs.length hi=xs.length
  · cases rx
    obtain ⟨its,r,ht,hz⟩:=I.tuple hx
    have hlen:its.toArray.size=xs.length:=by rw [List.size_toArray]; exact r.length.symm
    refine ⟨"tuple",_,PyProof.Rows.slot_tuple_getitem.lookup,ht.typeIs,?_⟩
    exact HT.getItem_tuple_same ht hs pl pu (by rw [hlen]; exact hw) ⟨.ref a,H,I,rfl,q1 hw⟩
  · exact zpQ pins s σ H _ v vl vu lo hi sl Q I rx hs pl pu ⟨a,xs,rfl,hx,hw,q2 hw⟩
theorem zkN {prog:Program} {w:World} {κ:Type} [DecidableEq κ] {knd:HeapKind prog w κ} {A:Around} {E:Value→Shared→Prop} {s:Shared} {d:Addr} {xs:List (κ × Addr × Value)} {Q:Value→Shared→Prop} (hd:(d == sysModules)=false) (hm:s.heap.DictOfH knd d xs) (hfit:(xs.length:Int) < 2 ^ 63)
    (h:Q (.int xs.length (s.toks + 1)) { s with toks:=s.toks + 1 + 1 }):wpAny (model prog w) A (call (.builtin "len") [.ref d]) Q E s:=by
  refine Calls.call_function_entry kind_len plain_len entry_len (args_len1 _) ?_
  unfold Builtin.«len»
  refine wpAny_bind (m:=oneArg "len" _) (wpAny_pure ?_)
  have mt:MeetsIn prog w (Builtin.«dict.__len__» ⟨[.ref d],[]⟩) (fun _ R s=>∃ xs:List (κ × Addr × Value),s.heap.DictOfH knd d xs∧R (.ok (.ret (.int xs.length s.toks))) { s with toks:=s.toks + 1 }):=.of_wp fun A R s ⟨kvs,hm,h⟩=>by
    obtain ⟨o,es,ep,ho,hc,hdat,hk,_⟩:=hm
    show wpAny _ _ (dictSize d >>= _) _ _ s
    unfold dictSize
    refine wpAny_bind (wpAny_bind (wpAny_dictEntries ho hdat (wpAny_pure ?_)))
    show wpAny _ _ (Builtin.Dict.pendingCount d >>= _) _ _ s
    refine wpAny_bind (wpAny_pendingCount_other hd ?_)
    refine wpAny_ret_mkInt ?_
    rw [Nat.add_zero,size_of_entries hk]; exact h
  refine wpAny_bind (m:=callSpecial? (.ref d) (Str.ofString "__len__")) (wpAny_callSpecial?_slot (name:=Str.ofString "__len__") hm.typeIs F.slot_dict_len
    (call_meetsIn F.slot_dict_len hm.typeIs F.entry_dict_len (F.args_dict_len_1 _) mt ⟨xs,hm,?_⟩))
  show wpAny _ _ _ _ _ { s with toks:=s.toks + 1 }
  refine wpAny_bind (wpAny_holding (wpAny_pure ?_))
  refine wpAny_bind (wpAny_letGo ?_)
  show wpAny _ _ (if ((xs.length:Nat):Int) < 0 then _ else _) _ _ _
  rw [if_neg (by omega)]
  show wpAny _ _ (if ((xs.length:Nat):Int) ≥ 2 ^ 63 then _ else _) _ _ _
  rw [if_neg (by omega)]
  exact wpAny_bind (wpAny_mkInt (wpAny_pure ⟨_,rfl,h⟩))
def zpg:List V→Hp→VK→Prop:=fun xs H Q=>∃ a kvs,xs = [V.ref a]∧H a=some (.dT kvs)∧Q (.int kvs.length) H
theorem zlj:zgV X (.builtin "len") zpg:=by
  intro pins s σ H xs us Q I r h
  obtain ⟨a,kvs,rfl,ha,q⟩:=h
  obtain ⟨u,rfl,ru⟩:=zgq r
  cases ru
  obtain ⟨z,hd,ys,rel,dd⟩:=zpA I.hok ha
  have hl:ys.length=kvs.length:=rel.length.symm
  refine zkN hd dd (by rw [hl]; rw [sizeLine_eq] at z; omega) ?_
  rw [hl]
  exact ⟨.int kvs.length,H,I.tok _,⟨_,rfl⟩,q⟩
end
section
variable {P:Program} {w:World} {K:PySem.W.Frag} {mg:Str→Option Value} {base:Heap} {d:V}
theorem FunD.ok1 {x qual:Str} {st:Stmt} {f:Addr} {fd:FuncData} {N ps:List Str} {k:Nat} {sp:Sp} (F:FunD K x qual st f fd d) (S:FnScope N ps (zah st)) (len:∀ vs H Q E,sp vs H Q E→vs.length=ps.length)
    (hbody:∀ (cdv:Value) (A:Around) (outer:List Env) (s:Shared) (H:Hp) (vs:List V) (Q:VK) (E:XK),Room k (A.deeper (envOfC qual (zah st) s.heap.objs.size f cdv))→sp vs H Q E →
      ∃ t,PSs (cx1 P w K mg base N qual (zah st) f cdv A outer s H E) (zbu st) t∧t { nx:=fun _ H'=>Q .non H',rt:=Q } (start N vs) H):FnOk P w K mg base (CX1 P w) (k + 1) f fd ps sp:=by
  obtain ⟨oc,od,T,kV,doc,pm,an,cdv,ct,osl,rfl,lk,hcd,_⟩:=F.ex
  exact zn6 lk hcd S len fun A outer s H vs Q E hr hsp=>hbody cdv A outer s H vs Q E hr hsp
end
section
variable {X:Cx} {CX:CXT} {k:Nat} {x:Str} {ps:List Str} {sp:Sp} {p pos:Pos} {a:Expr} {ta:TE} {d:V}
theorem zmH {E:XK} (G:HasD X.prog X.w X.K X.mg X.base CX k x ps sp d) (hr:Room k X.A) (hg:Gl X x) (hx:zcJ CX X E) (ha:PE X a ta)
    (hdb:(x == ("__debug__" : Str))=false:=by decide) (h1:starEach [a] X.env=(false,eval a X.env) :: starEach [] X.env:=by rfl) (hpl:(backTo pos (starEach [] X.env)).any (·.1)=false:=by rfl) :
    PE X (.Call (.Name x p) [a] [] pos) (zhY sp [] E (zci ta (zci (tC d) tNil))):=by
  obtain ⟨f,fd,F,hm,hk,_,u,ru,hbd⟩:=G.ex
  have:=zly (X:=X) (p:=p) (pos:=pos) (dvs:=[d]) F hr hg hm hk hbd (.cons ru .nil) hx (zaa ha zaf h1) hdb h1 hpl
  exact this
theorem zjM {E:St→XK} (G:HasD X.prog X.w X.K X.mg X.base CX k x ps sp d) (hr:Room k X.A) (hg:Gl X x) (hx:zg3 CX X E) (ha:PE X a ta)
    (hdb:(x == ("__debug__" : Str))=false:=by decide) (h1:starEach [a] X.env=(false,eval a X.env) :: starEach [] X.env:=by rfl) (hpl:(backTo pos (starEach [] X.env)).any (·.1)=false:=by rfl) :
    PE X (.Call (.Name x p) [a] [] pos) (zkr sp E (zci ta (zci (tC d) tNil))):=by
  obtain ⟨f,fd,F,hm,hk,_,u,ru,hb⟩:=G.ex
  intro pins s σ H Q I h
  have h':(zci ta tNil) σ H (fun vs H1=>sp (vs ++ [d]) H1 Q (E σ)):=h
  refine wpAny_Call_Name_kw (zdL I hg hm ?_ hdb)
  refine PySem.W.callWith_K (h₀:=X.base) I.ok.mod.kin hk (thn (zaa ha zaf h1 pos pins s σ H _ I h') fun us s1 ⟨vs,H1,I1,r,q⟩=>⟨I1.kIn,?_⟩) h1 hpl
  have r2:Vals (vs ++ [d]) (us ++ [u]):=r.append (.cons ru .nil)
  have hl:(us ++ [u]).length=ps.length:=by rw [← r2.length]; exact F.len _ _ _ _ q
  refine wpAny_call (codeAny_mono (F.run X.A X.stack s1 H1 ⟨us,[]⟩ (us ++ [u]) (vs ++ [d]) Q (E σ) hr I1.env0 (hb s1 us I1.kIn hl) r2 q) fun rs s' hq=>?_)
  cases rs with
  | error e'=>exact hx pins σ H1 s1 e' s' I1 hq
  | ok fl =>
    cases fl with
    | ret u=>exact I1.after hq
    | next=>exact False.elim hq
    | brk=>exact False.elim hq
    | cont=>exact False.elim hq
end
end L2
namespace PM
open PySem L2
section
variable {K:Kx} {XO:XOT} {E:L2.St→XK} {F0 H0 F H F1 H1 F' H':Hp}
def zfP (i:Nat) (me:En→R D) (δ:En):O:=match δ[i]? with
  | some (.o (.lst l))=>(me δ).toO δ fun d=>(match d with | .lst r=>ifC (l.length + r.length ≤ sizeLine) (.nx (δ.set i (.o (.lst (l ++ r))))) .no | _=>.no)
  | _=>.no
theorem zk1 {i:Nat} {te:TE} {me:En→R D} (h:SEo K XO E te me):SS K XO E (zky (tBM K.f "list" zk5 (tVar i) (zci te tNil))) (zfP i me):=by
  intro Λ F0 H0 F H σ δ Dn I a
  unfold zfP at a
  split at a
  · rename_i l q
    obtain ⟨p,s1,vs,s2,s3⟩:=I.own q
    refine ⟨_,s1,.inl ⟨rfl,vs,.inl (.inl s2)⟩,?_⟩
    refine h Λ F0 H0 F H σ δ _ I ((AftS.of I a).imp fun d F1 H1 e c b b0 b1 bo=>?_)
    cases d with
    | lst r =>
      obtain ⟨ws,b2,b3⟩:=bo
      dsimp only at c
      unfold ifC at c
      split at c
      · rename_i hl
        refine ⟨p,b,vs,ws,rfl,rfl,e.hh _ _ s2,b2,by rw [s3.length,b3.length]; exact hl,?_⟩
        exact c σ F1 _ ((I.grow e).chg q s1 ⟨_,zai,(s3.mono e.ff).append b3⟩)
      · exact c.elim
    | _=>exact c.elim
  · exact a.elim
def encC (c:List Int):D:=.tup (c.map .int)
def asTI:D→Option (List Int)
  | .tup l=>asIs l
  | _=>none
theorem zjV {d:D} {c:List Int} (h:asTI d=some c):d=encC c:=by
  cases d with
  | tup l=>rw [zdH h]; rfl
  | _=>cases h
def asCs:List D→Option (List (List Int))
  | []=>some []
  | d :: l=>(asTI d).bind fun c=>(asCs l).map (c :: ·)
theorem zhw:∀ {l:List D} {cs:List (List Int)},asCs l=some cs→l=cs.map encC
  | [],cs,h=>by cases h; rfl
  | d :: l,cs,h=>by
    unfold asCs at h
    cases q:asTI d with
    | none=>rw [q] at h; cases h
    | some c =>
      rw [q] at h
      cases q2:asCs l with
      | none=>simp [q2] at h
      | some r =>
        simp [q2] at h
        subst h
        rw [zjV q,zhw q2]; rfl
theorem zi0:∀ (cs:List (List Int)),asCs (cs.map encC)=some cs
  | []=>rfl
  | c :: cs=>by
    have e:asTI (encC c)=some c:=by
      show asIs (c.map .int)=some c
      induction c with
      | nil=>rfl
      | cons a c ih=>simp only [List.map_cons,asIs,ih]; rfl
    unfold asCs
    rw [List.map_cons]
    simp only [e,zi0 cs]; rfl
def pS (c:List Int):List (List Int):=(List.range (c.length + 1)).map (c.take ·)
def insP (S:List (List Int)) (c:List Int):List (List Int):=if c ∈ S then S else S ++ [c]
def zcl (cs:List (List Int)):List (List Int):=cs.foldl (fun S c=>(pS c).foldl insP S) []
def ze8 (ds:List D):R D:=match ds with
  | [.lst l]=>(match asCs l with
    | some cs=>ifC (cs.length ≤ 10000∧∀ c ∈ cs,c.length ≤ 100) (.ok (.int (zcl cs).length)) .no
    | none=>.no)
  | _=>.no
theorem zlW {S:List (List Int)} {c:List Int}:(insP S c).length ≤ S.length + 1:=by unfold insP; split <;> simp
def kc (c:List Int):List Key:=c.map Sum.inl
theorem zoE {c c':List Int} (h:kc c=kc c'):c=c':=by
  induction c generalizing c' with
  | nil=>cases c' with
    | nil=>rfl
    | cons _ _=>cases h
  | cons a c ih=>cases c' with
    | nil=>cases h
    | cons b c' =>
      simp only [kc,List.map_cons,List.cons.injEq,Sum.inl.injEq] at h
      rw [h.1,ih h.2]
theorem kc_V (c:List Int):(kc c).map kV=c.map V.int:=by unfold kc; rw [List.map_map]; rfl
theorem zme {kvs:List (List Key × V)} {S:List (List Int)} {c:List Int} {v:V} (h:kvs.map (·.1)=S.map kc):(putK kvs (kc c) v).map (·.1)=(insP S c).map kc:=by
  have any:(kvs.any fun kv=>decide (kv.1=kc c))=true ↔ c ∈ S:=by
    rw [List.any_eq_true]
    constructor
    · rintro ⟨kv,h1,h2⟩
      have h3:kv.1 ∈ S.map kc:=by rw [← h]; exact List.mem_map_of_mem h1
      obtain ⟨c',h4,h5⟩:=List.mem_map.mp h3
      have:kc c'=kc c:=by rw [h5]; exact of_decide_eq_true h2
      rw [← zoE this]; exact h4
    · intro hc
      have:kc c ∈ kvs.map (·.1):=by rw [h]; exact List.mem_map_of_mem hc
      obtain ⟨kv,h1,h2⟩:=List.mem_map.mp this
      exact ⟨kv,h1,decide_eq_true h2⟩
  unfold putK insP
  by_cases hc:c ∈ S
  · rw [if_pos (any.mpr hc),if_pos hc,List.map_map,← h]
    apply List.map_congr_left
    intro kv _
    simp only [Function.comp]
    split <;> rfl
  · rw [if_neg (fun z=>hc (any.mp z)),if_neg hc,List.map_append,List.map_append,h]; rfl
def zoe (K:Kx):TS :=
  tSeq (tAsg znk (zgj 1))
  (tSeq (tFor (zj4 K.f (tVar 0)) (zgj 2)
    (tFor (zoi (zci (tOp (rI0 fun i j=>.int (i + j)) (tCB (fun xs H Q=>∃ p ys,xs = [.ref p]∧(SqL K.f H p ys∨SqT K.f H p ys)∧Q (.int ys.length) H) (zci (tVar 2) tNil)) (tC (.int 1))) tNil)) (zgj 3)
      (znX (tVar 1) (tSl (rSlA K.f) (tVar 2) zlC (znv (tVar 3))) (tC (.bl true)))))
  (tRet (tCB zpg (zci (tVar 1) tNil))))
theorem zhP {vs:List V} {Q:VK} {E:XK} (sp:spM K XO ze8 vs H Q E):vs.length=1:=by
  obtain ⟨F,ds,s,r,a⟩:=sp
  unfold ze8 at a
  split at a
  · rw [r.length]; rfl
  · exact a.elim
theorem zjW {N:List Str} {vs:List V} {Q:VK} {E:XK} (hn:N.length=4) (sp:spM K XO ze8 vs H Q E):zoe K { nx:=fun _ H'=>Q .non H',rt:=Q } (L2.start N vs) H:=by
  obtain ⟨F,ds,s,r,a⟩:=sp
  unfold ze8 at a
  split at a
  case h_2=>exact a.elim
  rename_i l
  cases qc:asCs l with
  | none=>rw [qc] at a; exact a.elim
  | some cs =>
  rw [qc] at a
  dsimp only at a
  unfold ifC at a
  split at a
  case isFalse=>exact a.elim
  rename_i hb
  obtain ⟨hb1,hb2⟩:=hb
  have el:=zhw qc
  subst el
  obtain ⟨v0,rfl,rv⟩:=RepL.one r
  simp only [Rep] at rv
  obtain ⟨p0,ws,rfl,hp0,rws⟩:=rv
  have wl:ws.length=cs.length:=by rw [rws.length,List.length_map]
  have st:L2.start N [V.ref p0] = [some (.ref p0),none,none,none]:=by
    unfold L2.start
    rw [hn]; rfl
  rw [st]
  refine fun d hd=>?_
  show tSeq _ _ _ [some (.ref p0),some (.ref d),none,none] _
  have fd:F d=none:=s.free hd
  have el:∀ {F2 H2:Hp} {i:Nat} {c:List Int} {x:V},Ext F H F2 H2→cs[i]?=some c→ws[i]?=some x→∃ b,x = .ref b∧F2 b=some (.tup (c.map V.int)):=fun {F2 H2 i c x} e hc hx=>by
    obtain ⟨y,h1,h2⟩:=rws.get (i:=i) (d:=encC c) (by rw [List.getElem?_map,hc]; rfl)
    rw [hx] at h1
    cases h1
    simp only [encC,Rep] at h2
    obtain ⟨b,us,rfl,h3,h4⟩:=h2
    rw [zc5 h4] at h3
    exact ⟨b,rfl,e.ff _ _ h3⟩
  refine ⟨_,rfl,p0,rfl,⟨ws,.inl (PM.Same.rd (s.trans (Same.upd hd)) hp0)⟩,?_⟩
  refine ⟨fun i m σ H2=>m=cs.length - i∧i ≤ cs.length∧∃ F2 kvs x2 x3,Ext F H F2 H2∧F2 d=none∧H2 d=some (.dT kvs)∧kvs.map (·.1)=(zcl (cs.take i)).map kc∧(zcl (cs.take i)).length ≤ 101 * i∧σ = [some (.ref p0),some (.ref d),x2,x3],
    ⟨_,rfl,Nat.zero_le _,F,[],none,none,.newO s hd,fd,zai,rfl,Nat.le_refl _,rfl⟩,?_⟩
  rintro i m σ H2 ⟨rfl,hil,F2,kvs,x2,x3,e2,f2,h2,hk,hS,rfl⟩
  have sq:SqL K.f H2 p0 ws:=.inl (PM.Same.rd (e2.ff.trans e2.fh) hp0)
  by_cases hlt:i < cs.length
  · have hiw:i < ws.length:=by omega
    refine .inr ⟨⟨ws,ws[i],sq,List.getElem?_eq_getElem hiw⟩,fun σ' H'=>∃ F2 kvs x2 x3,Ext F H F2 H'∧F2 d=none∧H' d=some (.dT kvs)∧kvs.map (·.1)=(zcl (cs.take (i + 1))).map kc∧(zcl (cs.take (i + 1))).length ≤ 101 * (i + 1)∧σ' = [some (.ref p0),some (.ref d),x2,x3],fun σ' H' w=>⟨_,by omega,rfl,hlt,w⟩,fun x H' y=>?_⟩
    obtain ⟨rfl,hy⟩:=y
    have hx:=hy ws sq
    have hc:cs[i]?=some cs[i]:=List.getElem?_eq_getElem hlt
    obtain ⟨c,ec⟩:∃ c,c=cs[i]:=⟨_,rfl⟩
    rw [← ec] at hc
    have cl:c.length ≤ 100:=hb2 c (List.mem_of_getElem? hc)
    obtain ⟨b,rfl,hb⟩:=el e2 hc hx
    have ls1:zcl (cs.take (i + 1))=(pS c).foldl insP (zcl (cs.take i)):=by
      unfold zcl
      rw [List.take_succ,hc,List.foldl_append]; rfl
    have ps1:∀ k,k ≤ c.length→(pS c).take (k + 1)=(pS c).take k ++ [c.take k]:=fun k hk=>by
      rw [List.take_succ]
      unfold pS
      rw [List.getElem?_map,List.getElem?_range (by omega)]; rfl
    show tFor _ _ _ _ [some (.ref p0),some (.ref d),some (.ref b),x3] _
    refine ⟨_,rfl,b,c.map V.int,rfl,.inr (.inl (.inl (e2.fh _ _ hb))),_,_,rfl,rfl,_,rfl,by omega,by simp; omega,?_⟩
    have nj:(((c.map V.int).length:Int) + 1).toNat=c.length + 1:=by rw [List.length_map]; omega
    rw [nj]
    refine ⟨fun k m σ H3=>m=c.length + 1 - k∧k ≤ c.length + 1∧∃ F3 kvs x3,Ext F H F3 H3∧F3 d=none∧H3 d=some (.dT kvs)∧F3 b=some (.tup (c.map V.int))∧kvs.map (·.1)=(((pS c).take k).foldl insP (zcl (cs.take i))).map kc∧(((pS c).take k).foldl insP (zcl (cs.take i))).length ≤ 101 * i + k∧σ = [some (.ref p0),some (.ref d),some (.ref b),x3],
      ⟨_,rfl,Nat.zero_le _,F2,kvs,x3,e2,f2,h2,hb,hk,hS,rfl⟩,?_⟩
    rintro k m2 σ2 H3 ⟨rfl,hkl,F3,kvs3,y3,e3,f3,h3,hb3,hk3,hS3,rfl⟩
    by_cases hkt:k < c.length + 1
    · refine .inr ⟨hkt,fun σ' H'=>∃ F3 kvs x3,Ext F H F3 H'∧F3 d=none∧H' d=some (.dT kvs)∧F3 b=some (.tup (c.map V.int))∧kvs.map (·.1)=(((pS c).take (k + 1)).foldl insP (zcl (cs.take i))).map kc∧(((pS c).take (k + 1)).foldl insP (zcl (cs.take i))).length ≤ 101 * i + (k + 1)∧σ' = [some (.ref p0),some (.ref d),some (.ref b),x3],fun σ' H' w=>⟨_,by omega,rfl,hkt,w⟩,fun x H' y=>?_⟩
      obtain ⟨rfl,rfl⟩:=y
      have hkc:k ≤ c.length:=by omega
      have fold:((pS c).take (k + 1)).foldl insP (zcl (cs.take i))=insP (((pS c).take k).foldl insP (zcl (cs.take i))) (c.take k):=by rw [ps1 k hkc,List.foldl_append]; rfl
      have lenS:(((pS c).take (k + 1)).foldl insP (zcl (cs.take i))).length ≤ 101 * i + (k + 1):=by
        rw [fold]
        exact Nat.le_trans zlW (by omega)
      have kl:kvs3.length < sizeLine:=by
        have:kvs3.length=(((pS c).take k).foldl insP (zcl (cs.take i))).length:=by
          have:=congrArg List.length hk3
          simpa using this
        rw [this,sizeLine_eq]; omega
      have put:∀ {H4 F4:Hp} {z:Addr},Ext F H F4 H4→F4 d=none→H4 d=some (.dT kvs3)→F4 b=some (.tup (c.map V.int))→H4 z=some (.tup ((c.take k).map V.int))→∃ a H5,V.ref d = .ref a∧DPut H4 a (.ref z) (.bl true) H5∧∃ F3 kvs x3,Ext F H F3 H5∧F3 d=none∧H5 d=some (.dT kvs)∧F3 b=some (.tup (c.map V.int))∧kvs.map (·.1)=(((pS c).take (k + 1)).foldl insP (zcl (cs.take i))).map kc∧(((pS c).take (k + 1)).foldl insP (zcl (cs.take i))).length ≤ 101 * i + (k + 1)∧([some (.ref p0),some (.ref d),some (.ref b),some (.int (0 + (k:Int)))]:L2.St) = [some (.ref p0),some (.ref d),some (.ref b),x3]:=fun {H4 F4 z} e4 f4 h4 hb4 hz=>by
        refine ⟨d,_,rfl,.t h4 (by rw [kc_V]; exact hz) kl,F4,_,_,⟨e4.ff,fun q o h=>?_,fun q o h=>?_,e4.nw⟩,f4,zai,hb4,by rw [fold]; exact zme hk3,lenS,rfl⟩
        · rw [zag (zak h hd)]; exact e4.hh q o h
        · rw [zag (zak h f4)]; exact e4.fh q o h
      have s1:HT.sIx (c.map V.int).length 0 none=0:=rfl
      have s2:HT.sIx (c.map V.int).length (c.map V.int).length (some (0 + (k:Int)))=k:=by
        show (if (0 + (k:Int)) < 0 then ((0 + (k:Int)) + ((c.map V.int).length:Int)).toNat else min (0 + (k:Int)).toNat (c.map V.int).length)=k
        rw [if_neg (by omega),List.length_map]; omega
      refine ⟨_,rfl,_,rfl,_,rfl,_,rfl,b,c.map V.int,rfl,.inl (.inl (e3.fh _ _ hb3)),fun hw=>?_,fun hw z hz=>?_⟩
      · have ek:k=c.length:=by
          have:=hw.2
          rw [s2,List.length_map] at this; exact this
        refine put e3 f3 h3 hb3 ?_
        rw [ek,List.take_length]
        exact e3.fh _ _ hb3
      · have ct:cutV (c.map V.int) none (some (0 + (k:Int)))=(c.take k).map V.int:=by
          unfold cutV
          rw [s1,s2,List.drop_zero,Nat.sub_zero,List.map_take]
        rw [ct]
        have zd:d ≠ z:=zak h3 hz
        have zb:b ≠ z:=zak (e3.fh _ _ hb3) hz
        refine put (F4:=upd F3 z (.tup ((c.take k).map V.int))) (e3.trans (.new e3.fh hz)) ?_ ?_ ?_ zai
        · rw [zag zd]; exact f3
        · rw [zag zd]; exact h3
        · rw [zag zb]; exact hb3
    · have ek:k=c.length + 1:=by omega
      have full:(pS c).take k=pS c:=by rw [ek]; apply List.take_of_length_le; simp [pS]
      rw [full] at hk3 hS3
      refine .inl ⟨Nat.le_of_not_lt hkt,F3,kvs3,_,_,e3,f3,h3,by rw [ls1]; exact hk3,by rw [ls1]; omega,rfl⟩
  · have ei:i=cs.length:=by omega
    refine .inl ⟨⟨ws,sq,by omega⟩,?_⟩
    refine ⟨_,rfl,d,kvs,rfl,h2,?_⟩
    have ln:kvs.length=(zcl cs).length:=by
      have:=congrArg List.length hk
      rw [ei,List.take_length] at this
      simpa using this
    exact a F2 H2 e2 _ (by simp only [Rep,ln])
end
end PM
namespace My
open PySem L2 PM
def zdz:Nat→Bool
  | 3=>true
  | 4=>true
  | _=>false
def zcs (c:Nat):Bool:=zdz (c % 16)
def zfg:Nat→Option Bool
  | 3=>some false
  | 4=>some false
  | _=>none
def zeE (c:Nat):Option Bool:=zfg (c % 16)
def zem:Nat→Option Bool
  | 3=>some false
  | 4=>some false
  | _=>none
def zdc (c:Nat):Option Bool:=zem (c % 16)
def zfn:Nat→Option Bool
  | 3=>some true
  | 4=>some false
  | _=>none
def zeA (c:Nat):Option Bool:=zfn (c % 16)
def zfe:Nat→Option Bool
  | 3=>some false
  | 4=>some true
  | _=>none
def zez (c:Nat):Option Bool:=zfe (c % 16)
def zfM:Nat→Option Bool
  | 3=>some false
  | 4=>some false
  | _=>none
def zfb (c:Nat):Option Bool:=zfM (c % 16)
def zfy:Nat→Option Bool
  | 3=>some false
  | 4=>some false
  | _=>none
def zeZ (c:Nat):Option Bool:=zfy (c % 16)
def zdZ:Nat→Option Bool
  | 3=>some true
  | 4=>some true
  | _=>none
def zcL (c:Nat):Option Bool:=zdZ (c % 16)
def zlS:Nat→Bool
  | _=>false
def zqt (c:Nat):Bool:=zlS (c % 16)
def zhy:Nat→Bool
  | 4=>true
  | _=>false
def zlM (c:Nat):Bool:=zhy (c % 16)
def zbh:Nat→Bool
  | 8=>true
  | _=>false
def zf6:Nat→Bool
  | 8=>true
  | _=>false
def zha:Nat→Bool
  | 9=>true
  | _=>false
def zcC:Nat→Bool
  | 8=>true
  | _=>false
def zcz:Nat→Bool
  | 9=>true
  | _=>false
def zne:Nat→Option Bool
  | 8=>some true
  | 9=>some true
  | _=>none
def zjy:Nat→Option Bool
  | 8=>some true
  | 9=>some false
  | _=>none
def zjL:Nat→Option Bool
  | 8=>some false
  | 9=>some true
  | _=>none
def zcj:En→O:=(mSeq (mIfS (zaz (m2 oLt (mRd 1) (mCB fLen (zab (mRd 0) mNil))))
  (mRet (m2 oIxL (mRd 0) (mRd 1)))
  zbm)
  (mRet (mC (.int 0))))
def zaA:List D→R D:=runF 2 0 zcj
def zdS:En→O:=(mRet (m2 oMod (m2 oMul (m2 oAdd (m2 oAdd (m2 oMod (mRd 0) (m2 oPow (mC (.int 10)) (mC (.int 20)))) (m2 oMul (mRd 1) (mRd 1))) (mC (.int 3))) (m2 oAdd (mC (.int 39373)) (m2 oMul (mC (.int 2)) (mRd 1)))) (mC (.int 2147483647))))
def za0:List D→R D:=runF 2 0 zdS
def zbP:En→O:=(mSeq (mAsg (m2 oMod (mRd 1) (mC (.int 5))) (zat 2))
  (mSeq (mAsg (m2 oDiv (mRd 1) (mC (.int 5))) (zat 3))
  (mSeq (mIfS (zaz (m2 oEq (mRd 2) (mC (.int 0))))
  (mRet (m2 oMod (mRd 3) (mC (.int 4))))
  zbm)
  (mSeq (mIfS (zaz (m2 oEq (mRd 2) (mC (.int 1))))
  (mRet (m2 oMod (mRd 0) (m2 oAdd (m2 oPow (mC (.int 10)) (mC (.int 18))) (mC (.int 1)))))
  zbm)
  (mSeq (mIfS (zaz (m2 oEq (mRd 2) (mC (.int 2))))
  (mRet (m2 oSub (m2 oPow (mC (.int 10)) (mC (.int 18))) (m2 oMod (mRd 3) (mC (.int 3)))))
  zbm)
  (mRet (m2 oMod (mRd 3) (mC (.int 30)))))))))
def zaN:List D→R D:=runF 2 2 zbP
def zev:En→R D:=zeV (mRng (zab (mVar 1) mNil)) [5] 1 (zba 1) (some (zaz (m2 oEq (m2 oMod (m2 oDiv (mRd 0) (m2 oShl (mC (.int 1)) (mRd 1))) (mC (.int 2))) (mC (.int 1))))) (mVar 1)
def zdV:En→O:=(mSeq (mAsg (m2 oDiv (zap za0 (zab (mVar 4) (zab (mVar 3) mNil))) (mC (.int 16))) (zat 5))
  (mSeq (mAsg zev (zat 6))
  (zbY 2 (mTup (zab (zap zaN (zab (mVar 4) (zab (m2 oDiv (mRd 5) (mC (.int 1024))) mNil))) (zab (mVar 6) mNil))))))
def zfY:En→O:=mFor (zlc (zab (mVar 0) mNil)) (bTup 2 (zco (zat 3) (zco (zat 4) bNil))) zdV
def zff:En→O:=(zfp 7 (mVar 9) (mC (.bl true)))
def zfQ:En→O:=mFor (mItL (mVar 6)) (zat 9) zff
def zdO:En→O:=zfQ
def zer:En→O:=zlL 2 (bTup 2 (zco (zat 8) (zco (zat 6) bNil))) zdO
def zdo:En→R D:=zeV (mRng (zab (mVar 1) mNil)) [7] 1 (zba 1) (some (zaz (m2 zen (mVar 1) (mRd 0)))) (mVar 1)
def zgD:En→O:=(mSeq (mAsg (mLst mNil) (bNew 2))
  (mSeq zfY
  (mSeq (mAsg (mC (.dct [] [])) (bNew 7))
  (mSeq zer
  (zd3 (m2 oCat (mRd 2) (mLst (zab (mTup (zab (mC (.int 7)) (zab zdo mNil))) mNil))))))))
def zcq:List D→R D:=runO 2 8 zgD
def zcG:En→O:=(zfp 2 (mVar 4) (mC (.bl true)))
def zcW:En→O:=mFor (mItL (m2 oIxT (mRd 3) (mC (.int 1)))) (zat 4) zcG
def zbT:En→O:=zcW
def zc8:En→O:=mFor (mItL (mVar 1)) (zat 3) zbT
def zbS:En→O:=(mIfS (zaz (m2 zen (mVar 4) (mRd 2)))
  (zkC 4 (zab (mVar 4) mNil))
  zbm)
def zc7:En→O:=mFor (mRng (zab (mVar 0) mNil)) (zat 4) zbS
def zdy:En→O:=(mSeq (mAsg (mC (.dct [] [])) (bNew 2))
  (mSeq zc8
  zc7))
def zbl:List D→R D:=runF 2 3 zdy
def zdu:En→O:=(zfp 4 (mVar 5) (mCB znI (zab (mRd 2) (zab (zjR (mRd 4) (mVar 5) (mVar 2)) mNil))))
def zd2:En→O:=mFor (mItL (mVar 3)) (zat 5) zdu
def zdB:En→O:=(mSeq (mAsg (zix (zab (m2 oIxL (mRd 1) (m1 oNeg (mC (.int 1)))) mNil)) (bNew 4))
  (mSeq zd2
  (mFrz 4 (zbY 1 (mVar 4)))))
def zd4:En→O:=mFor (mRev (zab (mVar 0) mNil)) (bTup 2 (zco (zat 2) (zco (zat 3) bNil))) zdB
def zef:En→O:=(mSeq (mAsg (mLst (zab (mC (.dct [] [])) mNil)) (bNew 1))
  (mSeq zd4
  (zd3 (zgH (mRd 1)))))
def zbJ:List D→R D:=runO 1 5 zef
def za6:En→R Tr:=zlb (mItL (mRd 2)) [] 2 (bTup 2 (zco (zba 0) (zco (zba 1) bNil))) (mPr (mVar 0) (mCB zin (zab (mRd 1) mNil)))
def zaT:En→List Str→List D→R (List Str × List D):=(iSeq (zmw (zf5 zbl (zab (mVar 1) (zab (mVar 2) mNil))))
  (iSeq (zg4 "many" (mVar 1))
  (iSeq (zih "sets" za6)
  (zgg "cheapest" "sets" zbJ))))
def zaC:List D→R D:=runN 8 2 zaT
def zaY:En→List Str→List D→R (List Str × List D):=(iSeq (zg4 "room" (mVar 1))
  (zhX "things" (mCB zin (zab (mRd 2) mNil))))
def zaB:List D→R D:=runN 9 2 zaY
def zdw:En→O:=(zbY 2 (mTup (zab (zap zaN (zab (mVar 4) (zab (m2 oDiv (zap za0 (zab (mVar 4) (zab (m2 oAdd (mRd 3) (mC (.int 9))) mNil))) (mC (.int 64))) mNil))) (zab (m2 oAdd (mC (.int 1)) (m2 oMod (m2 oDiv (zap za0 (zab (mVar 4) (zab (mVar 3) mNil))) (mC (.int 32))) (mC (.int 9)))) mNil))))
def zdI:En→O:=mFor (zlc (zab (mSl (mRd 0) (ze3 (mC (.int 2))) (ze3 (mC (.int 9)))) mNil)) (bTup 2 (zco (zat 3) (zco (zat 4) bNil))) zdw
def zei:En→O:=(mSeq (mIfS (zaz (m2 oEq (m2 oMod (mRd 1) (mC (.int 2))) (mC (.int 0))))
  (mRet (zap zaC (zab (m2 oMod (m2 oDiv (mRd 1) (mC (.int 2))) (mC (.int 8))) (zab (zap zcq (zab (mSl (mRd 0) (ze3 (mC (.int 2))) (ze3 (mC (.int 8)))) (zab (m2 oMod (m2 oDiv (mRd 1) (mC (.int 2))) (mC (.int 8))) mNil))) mNil))))
  zbm)
  (mSeq (mAsg (mLst mNil) (bNew 2))
  (mSeq zdI
  (mRet (zap zaB (zab (m2 oMod (m2 oDiv (mRd 1) (mC (.int 2))) (mC (.int 40))) (zab (mRd 2) mNil)))))))
def zbo:List D→R D:=runF 2 3 zei
def zdG:En→R D:=zeV (zku (zab (mVar 0) mNil)) [1] 2 (bTup 2 (zco (zba 1) (zco (zba 2) bNil))) (some (zaz (m2 oEq (mRd 2) (mRd 0)))) (mVar 1)
def zfF:En→O:=(zd3 zdG)
def za4:List D→R D:=runO 2 0 zfF
def zbk:En→O:=(zfp 2 (mVar 4) (mC (.bl true)))
def zbt:En→O:=mFor (mItL (m2 oIxT (m2 oIxL (m1 (oFld zcC "sets") (mRd 0)) (mRd 3)) (mC (.int 1)))) (zat 4) zbk
def zaW:En→O:=zbt
def zbq:En→O:=mFor (mItL (zap za4 (zab (mVar 1) (zab (mC (.int 1)) mNil)))) (zat 3) zaW
def zaZ:En→R D:=zeV (mRng (zab (m1 (oFld zf6 "many") (mRd 0)) mNil)) [2] 1 (zba 1) (some (zaz (m2 zen (mVar 1) (mRd 0)))) (mVar 1)
def zby:En→O:=(mSeq (mAsg (mC (.dct [] [])) (bNew 2))
  (mSeq zbq
  (zd3 zaZ)))
def zas:List D→R D:=runO 2 3 zby
def zfZ:En→R D:=zeV (mItL (mRd 1)) [0] 1 (zba 1) none (m2 oIxT (m2 oIxL (mRd 0) (mRd 1)) (mC (.int 0)))
def zgB:En→O:=(mRet (mCB fSum (zab zfZ mNil)))
def zcV:List D→R D:=runF 2 0 zgB
def zbD:En→R D:=zeV (mItL (zb4 8 "not_covered" zas (mVar 0) (zab (mVar 1) mNil))) [2] 1 (zba 1) none (zjR (mRd 0) (mVar 1) (mC (.int 0)))
def zcA:En→O:=(mSeq (mAsg (m2 oIxL (m1 (oFld zbh "cheapest") (mRd 0)) (mCB fLen (zab (mRd 1) mNil))) (zat 2))
  (mSeq (mAsg (zmv (zab zbD mNil) (mC (.int 0))) (zat 3))
  (mRet (m2 oAdd (zap zcV (zab (m1 (oFld zcC "sets") (mRd 0)) (zab (zap za4 (zab (mVar 1) (zab (mC (.int 1)) mNil))) mNil))) (mRd 3)))))
def zaH:List D→R D:=runF 2 2 zcA
def zct:En→R D:=zeV (mItL (zap za4 (zab (mVar 1) (zab (mC (.int 1)) mNil)))) [0] 1 (zba 1) none (m2 oIxT (m2 oIxL (m1 (oFld zcz "things") (mRd 0)) (mRd 1)) (mC (.int 0)))
def zcF:En→O:=(mRet (mCB fSum (zab zct mNil)))
def zaJ:List D→R D:=runF 2 0 zcF
def zb2:En→O:=(mRet (mCB fLen (zab (m1 (oFld zcC "sets") (mRd 0)) mNil)))
def zaD:List D→R D:=runF 1 0 zb2
def zcg:En→O:=(mRet (mCB fLen (zab (m1 (oFld zcz "things") (mRd 0)) mNil)))
def zaE:List D→R D:=runF 1 0 zcg
def zay:En→O:=(mIfS (mAnd (zaz (m2 oIn (mRd 4) (mRd 3))) (zaz (m2 zen (mVar 4) (mRd 2))))
  (zd3 (mLst (zab (mC (.int 1)) mNil)))
  zbm)
def zbx:En→O:=mFor (mItL (zb4 8 "not_covered" zas (mVar 0) (zab (mVar 1) mNil))) (zat 4) zay
def zcc:En→O:=(mSeq (mAsg (m2 oIxL (m1 (oFld zbh "cheapest") (mRd 0)) (m2 oAdd (mCB fLen (zab (mRd 1) mNil)) (mC (.int 1)))) (zat 2))
  (mSeq (mAsg (m2 oIxT (m2 oIxL (m1 (oFld zcC "sets") (mRd 0)) (mCB fLen (zab (mRd 1) mNil))) (mC (.int 1))) (zat 3))
  (mSeq zbx
  (zd3 (mLst (zab (mC (.int 0)) (zab (mC (.int 1)) mNil)))))))
def zaM:List D→R D:=runO 2 3 zcc
def zbE:En→R D:=zeV (mItL (zap za4 (zab (mVar 1) (zab (mC (.int 0)) mNil)))) [0] 1 (zba 1) none (m2 oIxT (m2 oIxL (m1 (oFld zcz "things") (mRd 0)) (mRd 1)) (mC (.int 1)))
def zcu:En→O:=(mSeq (mAsg (mCB fSum (zab zbE mNil)) (zat 2))
  (mSeq (mIfS (zaz (m2 oLe (m2 oAdd (mRd 2) (m2 oIxT (m2 oIxL (m1 (oFld zcz "things") (mRd 0)) (mCB fLen (zab (mRd 1) mNil))) (mC (.int 1)))) (m1 (oFld zha "room") (mRd 0))))
  (zd3 (mLst (zab (mC (.int 0)) (zab (mC (.int 1)) mNil))))
  zbm)
  (zd3 (mLst (zab (mC (.int 1)) mNil)))))
def zaP:List D→R D:=runO 2 1 zcu
def ze4:En→R D:=zeV (mRev (zab (mAlt 0 8 (zb4 8 "ways" zaM (mVar 0) (zab (mVar 1) mNil)) (zb4 9 "ways" zaP (mVar 0) (zab (mVar 1) mNil))) mNil)) [1] 1 (zba 1) none (m2 zla (mRd 0) (mTup (zab (mVar 1) mNil)))
def zhJ:En→O:=(zd3 ze4)
def zb6:List D→R D:=runO 2 0 zhJ
def za3:En→R Bool:=(zaz (m2 oGt (mCB fLen (zab (mRd 6) mNil)) (mC (.int 0))))
def zaI:En→O:=(mSeq (mAug (fun i j=>i + j) 5 (mC (.int 1)))
  (mSeq (mIfS (zaz (m2 oGt (mRd 5) (mRd 1)))
  (zhM 3 (zab (mC (.str "more cases than may be looked at")) mNil))
  zbm)
  (mSeq (zkt 6 (zat 7))
  (mSeq (mAsg (mAlt 0 8 (zb4 8 "low" zaH (mVar 0) (zab (mVar 7) mNil)) (zb4 9 "low" zaJ (mVar 0) (zab (mVar 7) mNil))) (zat 8))
  (mIfS (mAnd (zaz (m2 zhB (mRd 3) (mC .non))) (zaz (m2 oGe (mRd 8) (mRd 3))))
  (zbY 4 (mVar 7))
  (mIfS (zaz (m2 oEq (mCB fLen (zab (mRd 7) mNil)) (mAlt 0 8 (zb4 8 "steps" zaD (mVar 0) mNil) (zb4 9 "steps" zaE (mVar 0) mNil))))
  (mSeq (zbY 4 (mVar 7))
  (mSeq (mAsg (mVar 7) (zat 2))
  (mAsg (mVar 8) (zat 3))))
  (zfP 6 (zap zb6 (zab (mVar 0) (zab (mVar 7) mNil))))))))))
def zca:En→O:=zgr za3 zaI
def zcv:En→O:=(mSeq (mAsg (mC .non) (zat 2))
  (mSeq (mAsg (mC .non) (zat 3))
  (mSeq (mAsg (mLst mNil) (bNew 4))
  (mSeq (mAsg (mC (.int 0)) (zat 5))
  (mSeq (mAsg (mLst (zab (mTup mNil) mNil)) (bNew 6))
  (mSeq zca
  (mFrz 4 (mRet (mTup (zab (mVar 2) (zab (mVar 3) (zab (mVar 4) mNil))))))))))))
def zao:List D→R D:=runF 2 7 zcv
def zbv:List D→R D:=ze8
def zeM:En→O:=(mSeq (mAsg (mC .non) (zat 2))
  (mSeq (mTry (mIfS (zaz (m2 oIs (mRd 1) (mC .non)))
  (mDo (zf5 zao (zab (mVar 0) (zab (mC (.int 2000)) mNil))))
  (mDo (zf5 zao (zab (mVar 0) (zab (mVar 1) mNil))))) zcs 3 (mAsg (mVar 3) (zat 2)))
  (mSeq (mIfS (mOr (zaz (m2 oIs (mRd 2) (mC .non))) (mOr (mNot (zaz (m1 (zeb zeA) (mRd 2)))) (mNot (zaz (m1 (zeb zcL) (mRd 2))))))
  (mRet (mC (.bl false)))
  zbm)
  (mSeq (mIfS (mOr (zaz (m1 (zeb zez) (mRd 2))) (mOr (zaz (m1 (zeb zdc) (mRd 2))) (zaz (m1 (zeb zfb) (mRd 2)))))
  (mRet (mC (.bl false)))
  zbm)
  (mRet (zom (zlR (m1 (zeb zeE) (mRd 2))) (zlR (m1 (zeb zeZ) (mRd 2)))))))))
def zaK:List D→R D:=runF 2 2 zeM
def zfm:En→R D:=zeV (mRng (zab (mVar 0) mNil)) [] 1 (zba 0) none (mTup (zab (mC (.int 1)) (zab (mC (.int 1)) mNil)))
def zf2:En→O:=(mRet (zap zaB (zab (mC (.int 5)) (zab zfm mNil))))
def za7:List D→R D:=runF 1 0 zf2
def zo3:En→O:=(mSeq (mAsg (m2 oMod (zap zaA (zab (mVar 0) (zab (mC (.int 0)) mNil))) (m2 oPow (mC (.int 10)) (mC (.int 12)))) (zat 1))
  (mSeq (mAsg (zap zbo (zab (mVar 0) (zab (mVar 1) mNil))) (zat 2))
  (mSeq (mAsg (zap zao (zab (mVar 2) (zab (mC (.int 5000)) mNil))) (zat 3))
  (mSeq (mAsg (zap zbv (zab (m2 oIxT (mRd 3) (mC (.int 2))) mNil)) (zat 4))
  (mSeq (mIfS (zaz (m2 oNeD (zap zao (zab (mVar 2) (zab (mVar 4) mNil))) (mRd 3)))
  (mRet (mC (.bl false)))
  zbm)
  (mSeq (mIfS (zaz (m2 oGt (mRd 4) (mC (.int 1))))
  (mSeq (mAsg (m2 oAdd (mC (.int 1)) (m2 oMod (zap zaA (zab (mVar 0) (zab (mC (.int 1)) mNil))) (m2 oSub (mRd 4) (mC (.int 1))))) (zat 5))
  (mIfS (mOr (mNot (zaz (zap zaK (zab (mVar 2) (zab (m2 oSub (mRd 4) (mC (.int 1))) mNil))))) (mNot (zaz (zap zaK (zab (mVar 2) (zab (mVar 5) mNil))))))
  (mRet (mC (.bl false)))
  zbm))
  zbm)
  (mSeq (mIfS (zaz (m2 oNe (m2 oMod (m2 oDiv (zap zaA (zab (mVar 0) (zab (mC (.int 1)) mNil))) (mC (.int 300))) (mC (.int 32))) (mC (.int 7))))
  (mRet (mC (.bl true)))
  zbm)
  (mSeq (mAsg (zap za7 (zab (mC (.int 11)) mNil)) (zat 6))
  (mSeq (mAsg (zap za7 (zab (mC (.int 12)) mNil)) (zat 7))
  (mSeq (mIfS (mOr (zaz (m2 oNe (m2 oIxT (zap zao (zab (mVar 6) (zab (mC (.int 2000)) mNil))) (mC (.int 1))) (mC (.int 6)))) (mNot (zaz (zap zaK (zab (mVar 7) (zab (mC .non) mNil))))))
  (mRet (mC (.bl false)))
  zbm)
  (mRet (m2 oEq (m2 oIxT (zap zao (zab (mVar 7) (zab (mC (.int 3000)) mNil))) (mC (.int 1))) (mC (.int 7))))))))))))))
def zpF:List D→R D:=runF 1 7 zo3
end My
namespace My
open PySem L2 PM
def upt (n:Nat):List Int:=(List.range n).map fun (k:Nat)=>(k:Int)
theorem mem_upt {n:Nat} {t:Int}:t ∈ upt n ↔ 0 ≤ t∧t < (n:Int):=by
  unfold upt
  rw [List.mem_map]
  constructor
  · rintro ⟨a,h,rfl⟩
    have:=List.mem_range.mp h
    omega
  · rintro ⟨h0,h1⟩
    exact ⟨t.toNat,List.mem_range.mpr (by omega),by omega⟩
theorem zgh {n:Nat}:(upt n).length=n:=by simp [upt]
theorem rngT {n:Nat} (h:n ≤ 1000):rng [.int (n:Int)]=some ((upt n).map .int):=by
  rw [rng1 (by omega) (by omega),Int.toNat_natCast,zkW,upt,List.map_map]; rfl
def gA (L:List Int) (i:Int):Int:=L.getD i.toNat 0
theorem zlf {α:Type} {f:D→R (Option D)} (enc:α→D) (p:α→Bool) (g:α→D) (l:List α) (h:∀ x ∈ l,f (enc x) = .ok (if p x=true then some (g x) else none)):zcd f (l.map enc) = .ok ((l.filter p).map g):=by
  induction l with
  | nil=>rfl
  | cons a l ih =>
    have h1:=h a (by simp)
    have h2:=ih fun x hx=>h x (by simp [hx])
    rw [List.map_cons,zcd,h1,R.bind_ok,h2,R.bind_ok]
    by_cases e:p a=true
    · simp [e]
    · simp [e]
theorem zh9 (ns:List Int):fSum [iL ns]=some (.int ns.sum):=by simp [fSum,iL,zgU]
end My
namespace My
open PySem L2 PM
theorem p20:oPow (.int 10) (.int 20)=some (.int 100000000000000000000):=zlo ⟨by decide,by decide,by decide⟩
theorem p18:oPow (.int 10) (.int 18)=some (.int 1000000000000000000):=zlo ⟨by decide,by decide,by decide⟩
theorem zgw (ns:List Int) (k:Nat):zaA [.scr ns,.int k] = .ok (.int (ns.getD k 0)):=by
  by_cases h:k < ns.length
  · have e:oIxL (.scr ns) (.int (k:Int))=some (.int (ns.getD k 0)):=by
      show (atI ns (k:Int)).map D.int=_
      rw [atI_nat (d:=ns.getD k 0) (by simp [h,List.getD_eq_getElem?_getD])]; rfl
    simp [zaA,runF,zb5,zcj,mSeq,mIfS,zaz,mRet,mRd,mC,mCB,zab,mNil,fLen,h,e]
  · have e:ns.getD k 0=0:=by simp [List.getD_eq_getElem?_getD,List.getElem?_eq_none_iff.mpr (Nat.le_of_not_lt h)]
    rw [e]
    simp [zaA,runF,zb5,zcj,mSeq,mIfS,zaz,mRet,mRd,mC,mCB,zab,mNil,fLen,h,zbm]
theorem zkk {m n:En→O} {δ:En} {d:D} (h:m δ = .rt d):mSeq m n δ = .rt d:=by unfold mSeq; rw [h]
theorem zpL {t:Int} (h0:0 ≤ t) (h1:t ≤ 1000):oShl (.int 1) (.int t)=some (.int (1 * 2 ^ t.toNat)):=zbj (p:=CPow 1 t) ⟨h0,by omega,by decide⟩
theorem zdp {i:Nat} {me:En→R D} {δ:En} {l:List D} {d:D} (h:δ[i]?=some (.o (.lst l))) (hy:me δ = .ok d) (hl:l.length ≤ 100000):zbY i me δ = .nx (δ.set i (.o (.lst (l ++ [d])))):=by
  unfold zbY
  rw [h]
  simp only [hy,R.toO_ok]
  rw [zbj (Nat.lt_of_le_of_lt hl (by decide))]
theorem zgG (a:Int) {b:Int} (h:0 < b):0 ≤ a % b:=Int.emod_nonneg _ (by omega)
theorem zgy (a:Int) {b:Int} (h:0 < b):a % b < b:=Int.emod_lt_of_pos _ h
end My
namespace My
open PySem L2 PM
abbrev Ps:=Int × List Int
def encS (s:Ps):D:=.tup [.int s.1,iL s.2]
def encP (l:List Ps):D:=.lst (l.map encS)
structure Good (n:Nat) (s:Ps):Prop where
  lo:0 ≤ s.1
  hi:s.1 ≤ 1000000000000000000
  nd:s.2.Nodup
  mem:∀ t ∈ s.2,0 ≤ t∧t < (n:Int)
theorem zhW (n:Nat):((List.range n).map fun (k:Nat)=>(k:Int)).Nodup:=by
  refine List.Pairwise.map _ (fun a b h e=>h (Int.ofNat.inj e)) List.nodup_range
theorem rngN {n:Nat} (h:n ≤ 1000):rng [.int (n:Int)]=some (((List.range n).map fun (k:Nat)=>(k:Int)).map .int):=by
  rw [rng1 (by omega) (by omega),Int.toNat_natCast,zkW,List.map_map]; rfl
def upto (n:Nat):List Int:=(List.range n).map fun (k:Nat)=>(k:Int)
theorem mem_upto {n:Nat} {t:Int}:t ∈ upto n ↔ 0 ≤ t∧t < (n:Int):=by
  unfold upto
  rw [List.mem_map]
  constructor
  · rintro ⟨a,h,rfl⟩
    have:=List.mem_range.mp h
    omega
  · rintro ⟨h0,h1⟩
    exact ⟨t.toNat,List.mem_range.mpr (by omega),by omega⟩
theorem zg1 {n:Nat}:(upto n).length=n:=by simp [upto]
theorem zgz (n:Nat):(upto n).Nodup:=zhW n
theorem rngU {n:Nat} (h:n ≤ 1000):rng [.int (n:Int)]=some ((upto n).map .int):=rngN h
end My
namespace My
open PySem L2 PM
def ins (L:List Int) (t:Int):List Int:=if t ∈ L then L else L ++ [t]
def zav (L ts:List Int):List Int:=ts.foldl ins L
theorem mem_insAll {ts:List Int}:∀ {L:List Int} {t:Int},t ∈ zav L ts ↔ t ∈ L∨t ∈ ts:=by
  induction ts with
  | nil=>intro L t; simp [zav]
  | cons a l ih =>
    intro L t
    show t ∈ zav (ins L a) l ↔ _
    rw [ih]
    unfold ins
    by_cases h:a ∈ L
    · rw [if_pos h,List.mem_cons]
      constructor
      · rintro (z | z)
        · exact .inl z
        · exact .inr (.inr z)
      · rintro (z | rfl | z)
        · exact .inl z
        · exact .inl h
        · exact .inr z
    · rw [if_neg h,List.mem_append,List.mem_singleton,List.mem_cons]
      constructor
      · rintro ((z | z) | z)
        · exact .inl z
        · exact .inr (.inl z)
        · exact .inr (.inr z)
      · rintro (z | z | z)
        · exact .inl (.inl z)
        · exact .inl (.inr z)
        · exact .inr z
theorem zbO {ts:List Int}:∀ {L:List Int},L.Nodup→(zav L ts).Nodup:=by
  induction ts with
  | nil=>intro L h; exact h
  | cons a l ih =>
    intro L h
    refine ih (L:=ins L a) ?_
    unfold ins
    by_cases z:a ∈ L
    · rw [if_pos z]; exact h
    · rw [if_neg z]
      rw [List.nodup_append]
      exact ⟨h,by simp,fun x hx y hy e=>by
        have:y=a:=by simpa using hy
        subst this; subst e; exact z hx⟩
theorem zd6 {ts us L:List Int}:zav L (ts ++ us)=zav (zav L ts) us:=by simp [zav]
theorem ze6 {n:Nat} {L:List Int} (h:L.Nodup) (hs:∀ t ∈ L,t ∈ upto n):L.length ≤ n:=by
  have:=List.Nodup.length_le_of_subset h hs
  rwa [zg1] at this
theorem zfx {i j:Nat} (hij:i ≠ j) {n:Nat} (hn:n ≤ 1000):∀ (ts:List Int) (δ:En) (L:List Int) (o:Option D),δ[j]?=some (.o (dk L))→δ[i]?=some (sv o)→L.Nodup→(∀ t ∈ L,t ∈ upto n)→(∀ t ∈ ts,t ∈ upto n) →
    ∃ o',zdt (zat i) (zfp j (mVar i) (mC (.bl true))) (ts.map .int) δ = .nx ((δ.set j (.o (dk (zav L ts)))).set i (sv o'))
  | [],δ,L,o,hj,hi,_,_,_=>by
    refine ⟨o,?_⟩
    have e1:δ.set j (.o (dk L))=δ:=by
      apply List.ext_getElem?
      intro k
      by_cases e:j=k
      · subst e; rw [List.getElem?_set_self (List.getElem?_eq_some_iff.mp hj).1,hj]
      · rw [List.getElem?_set_ne e]
    have e2:δ.set i (sv o)=δ:=by
      apply List.ext_getElem?
      intro k
      by_cases e:i=k
      · subst e; rw [List.getElem?_set_self (List.getElem?_eq_some_iff.mp hi).1,hi]
      · rw [List.getElem?_set_ne e]
    show O.nx δ = .nx ((δ.set j (.o (dk L))).set i (sv o))
    rw [e1,e2]
  | t :: ts,δ,L,o,hj,hi,hL,hs,ht=>by
    have hil:=(List.getElem?_eq_some_iff.mp hi).1
    have hjl:=(List.getElem?_eq_some_iff.mp hj).1
    have b1:zat i (.int t) δ=some (δ.set i (.v (.int t))):=zdn hi
    have g1:(δ.set i (.v (.int t)))[j]?=some (.o (dk L)):=by rw [List.getElem?_set_ne hij]; exact hj
    have g2:mVar i (δ.set i (.v (.int t))) = .ok (.int t):=by unfold mVar; rw [List.getElem?_set_self hil]
    have len:=ze6 hL hs
    have p:=zmM (mk:=mVar i) (me:=mC (.bl true)) g1 g2 rfl (by omega)
    obtain ⟨o',ih⟩:=zfx hij hn ts ((δ.set i (.v (.int t))).set j (.o (dk (ins L t)))) (ins L t) (some (.int t)) (List.getElem?_set_self (by simpa using hjl)) (by rw [List.getElem?_set_ne (Ne.symm hij),List.getElem?_set_self hil]; rfl)
      (zbO (ts:=[t]) hL) (fun x hx=>by
        rcases (mem_insAll (ts:=[t])).mp hx with z | z
        · exact hs x z
        · have:x=t:=by simpa using z
          subst this; exact ht x List.mem_cons_self) (fun x hx=>ht x (List.mem_cons_of_mem _ hx))
    refine ⟨o',?_⟩
    rw [List.map_cons]
    unfold zdt
    rw [b1]
    simp only
    rw [show zfp j (mVar i) (mC (.bl true)) (δ.set i (.v (.int t))) = .nx ((δ.set i (.v (.int t))).set j (.o (dk (ins L t)))) from p]
    simp only
    rw [ih]
    congr 1
    apply List.ext_getElem?
    intro k
    by_cases e1:i=k
    · subst e1
      rw [List.getElem?_set_self (by simpa using hil),List.getElem?_set_self (by simpa using hil)]
    · rw [List.getElem?_set_ne e1,List.getElem?_set_ne e1]
      by_cases e2:j=k
      · subst e2
        rw [List.getElem?_set_self (by simpa using hjl),List.getElem?_set_self (by simpa using hjl)]
        rfl
      · rw [List.getElem?_set_ne e2,List.getElem?_set_ne e2,List.getElem?_set_ne e2,List.getElem?_set_ne e1]
end My
namespace My
open PySem L2 PM
structure SetsOk (n:Nat) (sets:List Ps):Prop where
  good:∀ s ∈ sets,Good n s
  few:sets.length ≤ 1000
  n1:n ≤ 1000
def things (sets:List Ps):List Int:=sets.flatMap (·.2)
end My
namespace My
open PySem L2 PM
def num (c k:Int):Int:=(c % 100000000000000000000 + k * k + 3) * (39373 + 2 * k) % 2147483647
theorem zfW (c k:Int) (h0:0 ≤ k) (h1:k ≤ 1000):za0 [.int c,.int k] = .ok (.int (num c k)):=by
  have e1:0 ≤ c % 100000000000000000000:=Int.emod_nonneg _ (by decide)
  have e2:c % 100000000000000000000 < 100000000000000000000:=Int.emod_lt_of_pos _ (by decide)
  have e3:0 ≤ k * k:=Int.mul_nonneg h0 h0
  have e4:k * k ≤ 1000 * 1000:=Int.mul_le_mul h1 h1 h0 (by decide)
  have f1:Fit k:=fitN 1000 (by omega)
  have f2:Fit 2:=fitN 1000 (by decide)
  have f3:Fit (c % 100000000000000000000 + k * k + 3):=fitN (10 ^ 21) (by omega)
  have f4:Fit (39373 + 2 * k):=fitN (10 ^ 21) (by omega)
  simp [za0,runF,zb5,zdS,mRet,mRd,mC,p20,zcf,zpk,f1,f2,f3,f4,num]
end My
namespace My
open PySem L2 PM
def dm (L:List Int) (f:Int→Int):D:=.dct (L.map .inl) (L.map fun t=>.int (f t))
theorem zm6 (L:List Int) (f:Int→Int) (t:Int):getK (L.map .inl) (L.map fun t=>D.int (f t)) (.inl t)=if t ∈ L then some (.int (f t)) else none:=by
  induction L with
  | nil=>rfl
  | cons a l ih =>
    simp only [List.map_cons,getK,ih]
    by_cases h:a=t
    · subst h; simp
    · have h':¬ (Sum.inl a:Key)=Sum.inl t:=fun e=>h (Sum.inl.inj e)
      rw [if_neg h']
      have e:(t ∈ a :: l)=(t ∈ l):=by
        rw [List.mem_cons]
        exact propext ⟨fun z=>z.resolve_left (fun e=>h e.symm),.inr⟩
      simp only [e]
theorem znS (L:List Int) (f:Int→Int) (t v:Int):putL (L.map .inl) (L.map fun t=>D.int (f t)) (.inl t) (.int v)=L.map fun u=>.int (if u=t then v else f u):=by
  induction L with
  | nil=>rfl
  | cons a l ih =>
    simp only [List.map_cons,putL,ih]
    by_cases h:a=t
    · subst h; simp
    · have h':¬ (Sum.inl a:Key)=Sum.inl t:=fun e=>h (Sum.inl.inj e)
      simp [h,h']
theorem zoY (L:List Int) (f:Int→Int) (t v:Int):putD (L.map .inl) (L.map fun t=>D.int (f t)) (.inl t) (.int v)=dm (ins L t) (fun u=>if u=t then v else f u):=by
  unfold putD ins
  rw [znq]
  by_cases h:t ∈ L
  · rw [if_pos (by simpa using h),if_pos h,znS]; rfl
  · rw [if_neg (by simpa using h),if_neg h]
    unfold dm
    have:L.map (fun t=>D.int (f t))=L.map fun u=>D.int (if u=t then v else f u):=List.map_congr_left fun u hu=>by rw [if_neg (fun e:u=t=>h (e ▸ hu))]
    rw [this]
    simp
theorem ziW {L:List Int} {f g:Int→Int} (h:∀ t ∈ L,f t=g t):dm L f=dm L g:=by
  unfold dm
  rw [List.map_congr_left (f:=fun t=>D.int (f t)) (g:=fun t=>D.int (g t)) fun t ht=>by rw [h t ht]]
@[simp] theorem zpV (L:List Int) (f:Int→Int) (t:Int):zen (.int t) (dm L f)=some (.bl (!decide (t ∈ L))):=by
  simp only [zen,asK,dm,zm6]
  by_cases h:t ∈ L <;> simp [h]
theorem zmb {i:Nat} {mk me:En→R D} {δ:En} {L:List Int} {f:Int→Int} {t v:Int} (h:δ[i]?=some (.o (dm L f))) (h1:mk δ = .ok (.int t)) (h2:me δ = .ok (.int v)) (hl:L.length ≤ 100000) :
    zfp i mk me δ = .nx (δ.set i (.o (dm (ins L t) (fun u=>if u=t then v else f u)))):=by
  unfold zfp
  rw [h]
  simp only [dm,h2,h1,R.toO_ok,asK]
  rw [zbj (by rw [List.length_map]; exact zjZ hl),zoY]
  rfl
theorem zkT {L:List Int} {f:Int→Int} {t v:Int} {md mk mx:En→R D} {δ:En} (hd:md δ = .ok (dm L f)) (hk:mk δ = .ok (.int t)) (hx:mx δ = .ok (.int v)):zjR md mk mx δ = .ok (.int (if t ∈ L then f t else v)):=by
  unfold zjR
  rw [hd,hk,hx]
  have g:=zm6 L f t
  show R.ok ((getK (L.map .inl) (L.map fun t=>D.int (f t)) (.inl t)).getD (D.int v))=_
  rw [g]
  by_cases h:t ∈ L <;> simp [h]
def zc1:List Ps→List Int
  | []=>[]
  | s :: l=>zav (zc1 l) s.2
def minP:List Ps→Int→Int
  | [],_=>0
  | s :: l,t=>if t ∈ s.2 then (if t ∈ zc1 l then min s.1 (minP l t) else s.1) else minP l t
theorem mem_keysP:∀ {l:List Ps} {t:Int},t ∈ zc1 l ↔ ∃ s ∈ l,t ∈ s.2
  | [],t=>by simp [zc1]
  | s :: l,t=>by
    rw [zc1,mem_insAll,mem_keysP (l:=l)]
    constructor
    · rintro (⟨s',h1,h2⟩ | h)
      · exact ⟨s',by simp [h1],h2⟩
      · exact ⟨s,by simp,h⟩
    · rintro ⟨s',h1,h2⟩
      rcases List.mem_cons.mp h1 with rfl | h1
      · exact .inr h2
      · exact .inl ⟨s',h1,h2⟩
theorem zeC:∀ (l:List Ps),(zc1 l).Nodup
  | []=>by simp [zc1]
  | s :: l=>zbO (zeC l)
theorem zid:∀ {l:List Ps} {t:Int},t ∈ zc1 l→(∃ s ∈ l,t ∈ s.2∧s.1=minP l t)∧∀ s ∈ l,t ∈ s.2→minP l t ≤ s.1
  | [],t,h=>by simp [zc1] at h
  | s :: l,t,h=>by
    unfold minP
    by_cases h1:t ∈ s.2
    · rw [if_pos h1]
      by_cases h2:t ∈ zc1 l
      · rw [if_pos h2]
        obtain ⟨⟨s',a,b,c⟩,d⟩:=zid h2
        refine ⟨?_,fun u hu ht=>?_⟩
        · rcases Int.le_total s.1 (minP l t) with z | z
          · exact ⟨s,by simp,h1,by omega⟩
          · exact ⟨s',by simp [a],b,by omega⟩
        · rcases List.mem_cons.mp hu with rfl | hu
          · omega
          · have:=d u hu ht; omega
      · rw [if_neg h2]
        refine ⟨⟨s,by simp,h1,rfl⟩,fun u hu ht=>?_⟩
        rcases List.mem_cons.mp hu with rfl | hu
        · omega
        · exact absurd (mem_keysP.mpr ⟨u,hu,ht⟩) h2
    · rw [if_neg h1]
      have h2:t ∈ zc1 l:=by
        obtain ⟨u,hu,ht⟩:=mem_keysP.mp h
        rcases List.mem_cons.mp hu with rfl | hu
        · exact absurd ht h1
        · exact mem_keysP.mpr ⟨u,hu,ht⟩
      obtain ⟨⟨s',a,b,c⟩,d⟩:=zid h2
      refine ⟨⟨s',by simp [a],b,c⟩,fun u hu ht=>?_⟩
      rcases List.mem_cons.mp hu with rfl | hu
      · exact absurd ht h1
      · exact d u hu ht
def rowD (l:List Ps):D:=dm (zc1 l) (minP l)
def zbQ:List Ps→List D
  | []=>[rowD []]
  | s :: l=>zbQ l ++ [rowD (s :: l)]
theorem zeY:∀ (l:List Ps),(zbQ l).length=l.length + 1
  | []=>rfl
  | s :: l=>by simp [zbQ,zeY l]
theorem zh2:∀ (l:List Ps),∃ r,zbQ l=r ++ [rowD l]
  | []=>⟨[],rfl⟩
  | s :: l=>⟨zbQ l,rfl⟩
theorem zhU:∀ (l:List Ps) (k:Nat),k ≤ l.length→(zbQ l).reverse[k]?=some (rowD (l.drop k))
  | [],k,h=>by
    have:k=0:=by simpa using h
    subst this; rfl
  | s :: l,0,_=>by simp [zbQ]
  | s :: l,k + 1,h=>by
    have:=zhU l k (by simpa using h)
    simpa [zbQ] using this
theorem zmu {l:List D} {d:D}:oIxL (.lst (l ++ [d])) (.int (-1))=some d:=by
  show atI (l ++ [d]) (-1)=_
  unfold atI ixN
  rw [if_neg (by omega),if_pos (by simp; omega)]
  have:(-1 + ((l ++ [d]).length:Int)).toNat=l.length:=by simp; omega
  simp only [Option.bind,this]
  simp
theorem zlZ {n:Nat} {l:List Ps} (h:∀ s ∈ l,Good n s):(zc1 l).length ≤ n :=
  ze6 (zeC l) fun t ht=>by
    obtain ⟨s,hs,h2⟩:=mem_keysP.mp ht
    exact mem_upto.mpr ((h s hs).mem t h2)
theorem zfJ {n:Nat} {sets:List Ps} (ok:SetsOk n sets):zbJ [encP sets] = .ok (.lst (zbQ sets).reverse):=by
  obtain ⟨A,eA⟩:∃ A,A=encP sets:=⟨_,rfl⟩
  obtain ⟨δ1,h1,o2,o3,o4,o5,rfl⟩:=zcI (b:=bTup 2 (zco (zat 2) (zco (zat 3) bNil))) (m:=zdB) encS (fun pre δ=>∃ o2 o3 o4 o5,δ = [.v A,.o (.lst (zbQ pre.reverse)),sv o2,sv o3,sv o4,sv o5]) sets.reverse
    (by
      rintro pre s post δ hall ⟨o2,o3,o4,o5,rfl⟩
      have hs:s ∈ sets:=List.mem_reverse.mp (by rw [hall]; simp)
      have hp:∀ s ∈ pre.reverse,Good n s:=fun s hs=>ok.good s (List.mem_reverse.mp (by rw [hall]; simp [List.mem_reverse.mp hs]))
      have g:=ok.good s hs
      obtain ⟨r,er⟩:=zh2 pre.reverse
      obtain ⟨L,eL⟩:∃ L,L=zc1 pre.reverse:=⟨_,rfl⟩
      obtain ⟨f,ef⟩:∃ f,f=minP pre.reverse:=⟨_,rfl⟩
      have kl:=zlZ hp
      rw [← eL] at kl
      have n1:=ok.n1
      have pl:pre.length ≤ 1000:=by
        have:sets.length=pre.length + (post.length + 1):=by rw [← List.length_reverse,hall]; simp
        have:=ok.few; omega
      obtain ⟨W,eW⟩:∃ W,W=zbQ pre.reverse:=⟨_,rfl⟩
      rw [← eW] at er
      have wl:W.length ≤ 1001:=by rw [eW,zeY,List.length_reverse]; omega
      have a1:mAsg (zix (zab (m2 oIxL (mRd 1) (m1 oNeg (mC (.int 1)))) mNil)) (bNew 4) [.v A,.o (.lst W),.v (.int s.1),.v (iL s.2),sv o4,sv o5] = .nx [.v A,.o (.lst W),.v (.int s.1),.v (iL s.2),.o (dm L f),sv o5]:=by
        refine za9 (d:=dm L f) ?_ (znL (o:=o4) rfl)
        have ix:oIxL (.lst W) (.int (-1))=some (dm L f):=by rw [er,zmu,eL,ef]; rfl
        simp only [zix,zab,mNil,mRd,mC,zqu,zi5,List.getElem?_cons_succ,List.getElem?_cons_zero,R.bind_ok,zpU,R.of_some,ix]
        rfl
      -- the things of the set
      obtain ⟨δ2,h2,o5',rfl⟩:=zcI (b:=zat 5) (m:=zdu) D.int (fun q δ=>∃ o5,δ = [.v A,.o (.lst W),.v (.int s.1),.v (iL s.2),.o (dm (zav L q) (fun u=>if u ∈ q then (if u ∈ L then min s.1 (f u) else s.1) else f u)),sv o5]) s.2
        (by
          rintro q x post' δ hal ⟨o5,rfl⟩
          have nd:=g.nd
          rw [hal] at nd
          have xq:x ∉ q:=fun z=>(List.nodup_append.mp nd).2.2 x z x (by simp) rfl
          have ql:(zav L q).length ≤ 1000:=by
            have:=ze6 (n:=n) (L:=zav L q) (zbO (by rw [eL]; exact zeC _)) fun t ht=>by
              rcases mem_insAll.mp ht with z | z
              · rw [eL] at z
                obtain ⟨s',hs',h'⟩:=mem_keysP.mp z
                exact mem_upto.mpr ((hp s' hs').mem t h')
              · exact mem_upto.mpr (g.mem t (by rw [hal]; simp [z]))
            omega
          have xi:(x ∈ zav L q)=(x ∈ L):=propext ⟨fun z=>(mem_insAll.mp z).resolve_right xq,fun z=>mem_insAll.mpr (.inl z)⟩
          refine ⟨_,_,zdn (o:=o5) rfl,.inl (zmb (t:=x) (v:=if x ∈ L then min s.1 (f x) else s.1) (f:=fun u=>if u ∈ q then (if u ∈ L then min s.1 (f u) else s.1) else f u) (L:=zav L q) rfl rfl ?_ (by omega)),some (.int x),?_⟩
          · have g2:=zkT (md:=mRd 4) (mk:=mVar 5) (mx:=mVar 2) (δ:=([.v A,.o (.lst W),.v (.int s.1),.v (iL s.2),.o (dm (zav L q) (fun u=>if u ∈ q then (if u ∈ L then min s.1 (f u) else s.1) else f u)),sv o5]:En).set 5 (.v (.int x))) (L:=zav L q) (f:=fun u=>if u ∈ q then (if u ∈ L then min s.1 (f u) else s.1) else f u) (t:=x) (v:=s.1) rfl rfl rfl
            simp only [xi,if_neg xq] at g2
            simp only [mCB,zab,mNil]
            rw [g2]
            simp only [mRd,List.set_cons_succ,List.set_cons_zero,List.getElem?_cons_succ,List.getElem?_cons_zero,R.bind_ok]
            show R.of (some (D.int (if (if x ∈ L then f x else s.1) < s.1 then (if x ∈ L then f x else s.1) else s.1)))=_
            rw [R.of_some]
            congr 2
            by_cases z:x ∈ L
            · simp only [if_pos z]
              split <;> omega
            · simp [if_neg z]
          · have e1:ins (zav L q) x=zav L (q ++ [x]):=by rw [zd6]; rfl
            have e2:dm (ins (zav L q) x) (fun u=>if u=x then (if x ∈ L then min s.1 (f x) else s.1) else if u ∈ q then (if u ∈ L then min s.1 (f u) else s.1) else f u)=dm (zav L (q ++ [x])) (fun u=>if u ∈ q ++ [x] then (if u ∈ L then min s.1 (f u) else s.1) else f u):=by
              rw [e1]
              refine ziW fun u _=>?_
              by_cases z:u=x
              · subst z; simp
              · have:(u ∈ q ++ [x])=(u ∈ q):=by simp [z]
                simp only [this,if_neg z]
            show [_,_,_,_,Sl.o (dm (ins (zav L q) x) _),_]=_
            rw [e2]; rfl)
        [.v A,.o (.lst W),.v (.int s.1),.v (iL s.2),.o (dm L f),sv o5] ⟨o5,by
          have:zav L []=L:=rfl
          simp [this]⟩
      have a2:zd2 [.v A,.o (.lst W),.v (.int s.1),.v (iL s.2),.o (dm L f),sv o5] = .nx [.v A,.o (.lst W),.v (.int s.1),.v (iL s.2),.o (rowD (s :: pre.reverse)),sv o5']:=by
        refine ((zcr (by simp [mItL,mVar])).trans h2).trans ?_
        have:dm (zav L s.2) (fun u=>if u ∈ s.2 then (if u ∈ L then min s.1 (f u) else s.1) else f u)=rowD (s :: pre.reverse):=by
          unfold rowD
          rw [zc1,← eL]
          refine ziW fun u _=>?_
          rw [minP,← eL,← ef]
        rw [this]
      have a3:mFrz 4 (zbY 1 (mVar 4)) [.v A,.o (.lst W),.v (.int s.1),.v (iL s.2),.o (rowD (s :: pre.reverse)),sv o5'] = .nx [.v A,.o (.lst (W ++ [rowD (s :: pre.reverse)])),.v (.int s.1),.v (iL s.2),.v (rowD (s :: pre.reverse)),sv o5']:=by
        show zbY 1 (mVar 4) [.v A,.o (.lst W),.v (.int s.1),.v (iL s.2),.v (rowD (s :: pre.reverse)),sv o5']=_
        exact zdp rfl rfl (by omega)
      refine ⟨[.v A,.o (.lst W),.v (.int s.1),.v (iL s.2),sv o4,sv o5],[.v A,.o (.lst (W ++ [rowD (s :: pre.reverse)])),.v (.int s.1),.v (iL s.2),.v (rowD (s :: pre.reverse)),sv o5'],?_,.inl ?_,some (.int s.1),some (iL s.2),some (rowD (s :: pre.reverse)),o5',?_⟩
      · rw [eW]; rcases o2 with _ | o2 <;> rcases o3 with _ | o3 <;> rfl
      · exact (zar a1).trans ((zar a2).trans a3)
      · rw [List.reverse_append,eW]; rfl)
    [.v A,.o (.lst [rowD []]),.no,.no,.no,.no] ⟨none,none,none,none,rfl⟩
  rw [List.reverse_reverse] at h1
  refine zeB ?_
  rw [← eA]
  have q1:mAsg (mLst (zab (mC (.dct [] [])) mNil)) (bNew 1) [.v A,.no,.no,.no,.no,.no] = .nx [.v A,.o (.lst [rowD []]),.no,.no,.no,.no]:=by
    refine za9 (d:=.lst [rowD []]) ?_ rfl
    simp [mLst,zab,mNil,mC,sizeLine]; rfl
  have q2:zd4 [.v A,.o (.lst [rowD []]),.no,.no,.no,.no] = .nx [.v A,.o (.lst (zbQ sets)),sv o2,sv o3,sv o4,sv o5]:=by
    refine (zcr ?_).trans h1
    simp [mRev,zab,mNil,mVar,eA,encP,rev1]
  refine (zar q1).trans ((zar q2).trans ?_)
  have fl:(zbQ sets).length ≤ 1001:=by rw [zeY]; have:=ok.few; omega
  simp [zd3,zgH,mRd]
end My
namespace My
open PySem L2 PM
theorem zoa {np nv:Nat} {m:En→O} {ds:List D} {δ:En} {x:Xc} (h:m (zb5 nv ds) = .ex δ x) (hl:ds.length=np:=by rfl):runF np nv m ds = .ex x:=by unfold runF; rw [if_pos hl,h]
theorem ze9 {n:Nat} {sets:List Ps} (ok:SetsOk n sets) (hc:∀ t ∈ upto n,∃ s ∈ sets,t ∈ s.2):zbl [.int n,encP sets] = .ok .non:=by
  obtain ⟨δ1,h1,o3,o4,rfl⟩:=zcI (b:=zat 3) (m:=zbT) encS (fun pre δ=>∃ o3 o4,δ = [.v (.int n),.v (encP sets),.o (dk (zav [] (things pre))),sv o3,sv o4]) sets
    (by
      rintro pre s post δ hall ⟨o3,o4,rfl⟩
      have hs:s ∈ sets:=by rw [hall]; simp
      have g:=ok.good s hs
      obtain ⟨o',h⟩:=zfx (i:=4) (j:=2) (by decide) ok.n1 s.2 [.v (.int n),.v (encP sets),.o (dk (zav [] (things pre))),.v (encS s),sv o4] (zav [] (things pre)) o4 rfl rfl (zbO (by simp))
        (fun t ht=>by
          rcases mem_insAll.mp ht with z | z
          · cases z
          · obtain ⟨s',hs',h'⟩:=List.mem_flatMap.mp z
            exact mem_upto.mpr ((ok.good s' (by rw [hall]; exact List.mem_append_left _ hs')).mem t h')) (fun t ht=>mem_upto.mpr (g.mem t ht))
      refine ⟨[.v (.int n),.v (encP sets),.o (dk (zav [] (things pre))),.v (encS s),sv o4],[.v (.int n),.v (encP sets),.o (dk (zav (zav [] (things pre)) s.2)),.v (encS s),sv o'],?_,.inl ?_,some (encS s),o',?_⟩
      · rcases o3 with _ | o3 <;> rfl
      · unfold zbT zcW zcG
        exact (zcr (by simp [mItL,mRd,mC,encS])).trans h
      · rw [← zd6]
        have e:things (pre ++ [s])=things pre ++ s.2:=by simp [things]
        rw [e]; rfl)
    [.v (.int n),.v (encP sets),.o (dk []),.no,.no] ⟨none,none,rfl⟩
  obtain ⟨δ2,h2,o4',rfl⟩:=zcI (b:=zat 4) (m:=zbS) D.int (fun pre δ=>∃ o4,δ = [.v (.int n),.v (encP sets),.o (dk (zav [] (things sets))),sv o3,sv o4]) (upto n)
    (by
      rintro pre t post δ hall ⟨o4,rfl⟩
      have ht:t ∈ upto n:=by rw [hall]; simp
      obtain ⟨s,hs,hts⟩:=hc t ht
      have hm:t ∈ zav [] (things sets):=mem_insAll.mpr (.inr (List.mem_flatMap.mpr ⟨s,hs,hts⟩))
      refine ⟨_,_,zdn (o:=o4) rfl,.inl ?_,some (.int t),rfl⟩
      simp [zbS,mIfS,zaz,mVar,mRd,hm,zbm])
    _ ⟨o4,rfl⟩
  have l2:zc8 [.v (.int n),.v (encP sets),.o (dk []),.no,.no] = .nx [.v (.int n),.v (encP sets),.o (dk (zav [] (things sets))),sv o3,sv o4]:=(zcr (by simp [mItL,mVar,encP])).trans h1
  have l3:zc7 [.v (.int n),.v (encP sets),.o (dk (zav [] (things sets))),sv o3,sv o4] = .nx [.v (.int n),.v (encP sets),.o (dk (zav [] (things sets))),sv o3,sv o4']:=(zcr (by simp [mRng,zab,mNil,mVar,rngU ok.n1])).trans h2
  refine zon (δ:=[.v (.int n),.v (encP sets),.o (dk (zav [] (things sets))),sv o3,sv o4']) ?_
  have e0:mAsg (mC (.dct [] [])) (bNew 2) [.v (.int n),.v (encP sets),.no,.no,.no] = .nx [.v (.int n),.v (encP sets),.o (dk []),.no,.no]:=rfl
  show mSeq _ _ [.v (.int n),.v (encP sets),.no,.no,.no]=_
  rw [zar e0,zar l2]
  exact l3
end My
namespace My
open PySem L2 PM
theorem zfK (f:D→R Tr) (hf:∀ s:Ps,f (encS s) = .ok (prT (.int s.1,s.2.map .int))):∀ (l:List Ps),zcD f (l.map encS) = .ok (l.map fun s=>prT (.int s.1,s.2.map .int))
  | []=>rfl
  | s :: l=>by rw [List.map_cons,zcD,hf,R.bind_ok,zfK f hf l,R.bind_ok]; rfl
def trP (l:List Ps):Tr:=.l (l.map fun s=>prT (.int s.1,s.2.map .int))
theorem zlz (l:List Int):trDL ((l.map D.int).map .d)=l.map .int:=by
  induction l with
  | nil=>rfl
  | cons a l ih=>simp only [List.map_cons,trDL,trD,ih]
theorem zoc (l:List Ps):trD (trP l)=encP l:=by
  unfold trP encP
  simp only [trD]
  congr 1
  induction l with
  | nil=>rfl
  | cons s l ih =>
    simp only [List.map_cons,trDL,ih]
    congr 1
    simp only [prT,trD,trDL,zlz,encS,iL]
theorem zh5 (l:List Int):zeU ((l.map D.int).map .d)=true:=by
  induction l with
  | nil=>rfl
  | cons a l ih=>simp only [List.map_cons,zeU,zfz,zdT,ih,Bool.and_self]
theorem zl4 (l:List Ps):zfz (trP l)=true:=by
  unfold trP
  simp only [zfz]
  induction l with
  | nil=>rfl
  | cons s l ih =>
    rw [List.map_cons,zeU,ih]
    simp only [prT,zfz,zdT,zeU,zh5,Bool.and_self]
def zbV (n:Nat) (sets:List Ps):D:=.obj 8 ["many","sets","cheapest"] [.int n,encP sets,.lst (zbQ sets).reverse]
theorem zoD:¬ (("many" : Str) = "sets"):=by decide
theorem zoP:¬ (("many" : Str) = "cheapest"):=by decide
theorem zpE:¬ (("sets" : Str) = "cheapest"):=by decide
theorem zn4 {n:Nat} {sets:List Ps} (ok:SetsOk n sets) (hc:∀ t ∈ upto n,∃ s ∈ sets,t ∈ s.2):zaC [.int n,encP sets] = .ok (zbV n sets):=by
  have h:zaT [.no,.v (.int n),.v (encP sets)] [] [] = .ok (["many","sets","cheapest"],[.int n,encP sets,.lst (zbQ sets).reverse]):=by
    have k:za6 [.no,.v (.int n),.v (encP sets)] = .ok (trP sets):=by
      unfold za6 zlb
      have e:mItL (mRd 2) [.no,.v (.int n),.v (encP sets)] = .ok (sets.map encS):=rfl
      have f:=ok.few
      rw [e,R.bind_ok,zbj (by rw [List.length_map]; exact zlP (by omega)),zfK]
      · rfl
      · intro s
        simp [zjm,zaF,bTup,zco,bNil,zba,encS,mPr,mVar,mCB,zab,mNil,mRd,iL,prT]
    unfold zaT iSeq zmw zg4 zih zgg
    have rm:=ze9 ok hc
    have lp:=zfJ ok
    simp [mVar,zf5,zab,mNil,rm,ifC,zdT,putN,putV,k,zl4,zoc,getF,zoD,zoP,zpE,lp,znH]
  show R.bind _ _=_
  simp only [List.map_cons,List.map_nil]
  rw [h]; rfl
theorem zmQ {n:Nat} {sets:List Ps}:oFld zf6 "many" (zbV n sets)=some (.int n):=by simp [oFld,zbV,zf6,getF]
theorem zfs {n:Nat} {sets:List Ps}:oFld zcC "sets" (zbV n sets)=some (encP sets):=by simp [oFld,zbV,zcC,getF,zoD]
theorem zhj {n:Nat} {sets:List Ps}:oFld zbh "cheapest" (zbV n sets)=some (.lst (zbQ sets).reverse):=by simp [oFld,zbV,zbh,getF,zoP,zpE]
theorem zhg {n:Nat} {sets:List Ps} {m:Str} (h:m ∉ (["many","sets","cheapest"]:List Str)):PM.isObj 8 m (zbV n sets)=some ():=by
  show (if (8:Nat)=8∧m ∉ (["many","sets","cheapest"]:List Str) then some () else none)=some ()
  rw [if_pos ⟨rfl,h⟩]
def gP (sets:List Ps) (k:Int):Ps:=sets.getD k.toNat (0,[])
theorem zm5 {sets:List Ps} {k:Int} (h:k.toNat < sets.length):sets[k.toNat]?=some (gP sets k):=by simp [gP,List.getD_eq_getElem?_getD,h]
theorem zn2 {sets:List Ps} {k:Int} (h0:0 ≤ k) (h1:k < sets.length):oIxL (encP sets) (.int k)=some (encS (gP sets k)) :=
  zng h0 (by rw [List.getElem?_map,zm5 (by omega)]; rfl)
theorem zoX {sets:List Ps} {k:Int} (h0:0 ≤ k) (h1:k < sets.length):gP sets k ∈ sets:=List.mem_of_getElem? (zm5 (by omega))
theorem zl9 {n:Nat} {sets:List Ps}:zaD [zbV n sets] = .ok (.int sets.length):=by
  refine zcB ?_
  show mRet _ [.v (zbV n sets)]=_
  have le:fLen [encP sets]=some (.int sets.length):=by simp [encP]
  simp [mRet,mCB,zab,mNil,mRd,zfs,le]
def chA (cs:List Int) (ch:Int):List Int:=(upt cs.length).filter fun k=>decide (gA cs k=ch)
theorem ch_mem {cs:List Int} {ch k:Int}:k ∈ chA cs ch ↔ (0 ≤ k∧k < cs.length)∧gA cs k=ch:=by
  unfold chA; rw [List.mem_filter,mem_upt,decide_eq_true_eq]
theorem zjS (cs:List Int) (ch:Int):(chA cs ch).length ≤ cs.length:=by
  have:=List.length_filter_le (fun k=>decide (gA cs k=ch)) (upt cs.length)
  rw [zgh] at this; exact this
theorem zlO (n:Nat):upt (n + 1)=upt n ++ [(n:Int)]:=by simp [upt,List.range_succ]
theorem zm0 (cs:List Int) (c ch:Int):chA (cs ++ [c]) ch=chA cs ch ++ (if c=ch then [(cs.length:Int)] else []):=by
  have h1:gA (cs ++ [c]) (cs.length:Int)=c:=by simp [gA]
  have h2:(upt cs.length).filter (fun k=>decide (gA (cs ++ [c]) k=ch))=chA cs ch:=by
    unfold chA
    apply List.filter_congr
    intro k hk
    obtain ⟨a,b⟩:=mem_upt.mp hk
    have:gA (cs ++ [c]) k=gA cs k:=by
      have:k.toNat < cs.length:=by omega
      simp [gA,List.getD_eq_getElem?_getD,List.getElem?_append_left this]
    rw [this]
  have h0:chA (cs ++ [c]) ch=(upt (cs.length + 1)).filter (fun k=>decide (gA (cs ++ [c]) k=ch)):=by
    unfold chA; rw [List.length_append]; rfl
  rw [h0,zlO,List.filter_append,h2]
  congr 1
  by_cases z:c=ch
  · rw [if_pos z,List.filter_cons,h1,if_pos (by simpa using z)]; rfl
  · rw [if_neg z,List.filter_cons,h1,if_neg (by simpa using z)]; rfl
theorem zeO {cs:List Int} {ch:Int} (hn:cs.length ≤ 100):za4 [encC cs,.int ch] = .ok (iL (chA cs ch)):=by
  refine zeB ?_
  have en:zf3 (cs.map .int)=(upt cs.length).map fun k=>D.tup [.int k,.int (gA cs k)]:=by
    rw [zgX]
    apply List.ext_getElem (by simp [upt])
    intro i h1 h2
    simp at h1
    simp [upt,gA,h1]
  have k:zdG [.v (encC cs),.v (.int ch)] = .ok (iL (chA cs ch)):=by
    refine zb0 (l:=(upt cs.length).map fun k=>D.tup [.int k,.int (gA cs k)]) (by simp [zku,zab,mNil,mVar,encC,zht,en]) (by rw [List.length_map,zgh]; omega) ?_
    refine zlf (fun k=>D.tup [.int k,.int (gA cs k)]) _ .int _ fun k _=>?_
    by_cases c:gA cs k=ch <;> simp [zed,zaF,zfa,bTup,zco,bNil,zba,zaz,mRd,mVar,mC,c]
  show R.toO (zdG [.v (encC cs),.v (.int ch)]) _ _=_
  rw [k]; rfl
def hv (sets:List Ps) (l:List Int):List Int:=l.flatMap fun k=>(gP sets k).2
theorem mem_hv {sets:List Ps} {l:List Int} {t:Int}:t ∈ hv sets l ↔ ∃ k ∈ l,t ∈ (gP sets k).2:=List.mem_flatMap
def nc (n:Nat) (sets:List Ps) (l:List Int):List Int:=(upt n).filter fun t=>!decide (t ∈ hv sets l)
theorem mem_nc {n:Nat} {sets:List Ps} {l:List Int} {t:Int}:t ∈ nc n sets l ↔ (0 ≤ t∧t < n)∧t ∉ hv sets l:=by
  unfold nc; rw [List.mem_filter,mem_upt]; simp
theorem zep {n:Nat} {sets:List Ps} (ok:SetsOk n sets) {cs:List Int} (hc:cs.length ≤ sets.length) (h100:sets.length ≤ 100):zas [zbV n sets,encC cs] = .ok (iL (nc n sets (chA cs 1))):=by
  obtain ⟨S,eS⟩:∃ S,S=zbV n sets:=⟨_,rfl⟩
  have fs:oFld zcC "sets" S=some (encP sets):=by rw [eS]; exact zfs
  have fm:oFld zf6 "many" S=some (.int n):=by rw [eS]; exact zmQ
  rw [← eS]
  have ig:∀ k ∈ chA cs 1,Good n (gP sets k):=fun k hk=>by
    obtain ⟨⟨a,b⟩,_⟩:=ch_mem.mp hk
    exact ok.good _ (zoX a (by omega))
  have n1:=ok.n1
  obtain ⟨δ1,h1,o3,o4,rfl⟩:=zcI (b:=zat 3) (m:=zaW) D.int (fun pre δ=>∃ o3 o4,δ = [.v S,.v (encC cs),.o (dk (zav [] (hv sets pre))),sv o3,sv o4]) (chA cs 1)
    (by
      rintro pre k post δ hall ⟨o3,o4,rfl⟩
      have hk:k ∈ chA cs 1:=by rw [hall]; simp
      obtain ⟨⟨a,b⟩,_⟩:=ch_mem.mp hk
      have g:=ig k hk
      obtain ⟨o',h⟩:=zfx (i:=4) (j:=2) (by decide) n1 (gP sets k).2 [.v S,.v (encC cs),.o (dk (zav [] (hv sets pre))),.v (.int k),sv o4] (zav [] (hv sets pre)) o4 rfl rfl (zbO (by simp))
        (fun t ht=>by
          rcases mem_insAll.mp ht with z | z
          · cases z
          · obtain ⟨k',hk',h'⟩:=mem_hv.mp z
            exact mem_upto.mpr ((ig k' (by rw [hall]; simp [hk'])).mem t h')) (fun t ht=>mem_upto.mpr (g.mem t ht))
      refine ⟨[.v S,.v (encC cs),.o (dk (zav [] (hv sets pre))),.v (.int k),sv o4],[.v S,.v (encC cs),.o (dk (zav (zav [] (hv sets pre)) (gP sets k).2)),.v (.int k),sv o'],?_,.inl ?_,some (.int k),o',?_⟩
      · rcases o3 with _ | o3 <;> rfl
      · unfold zaW zbt zbk
        exact (zcr (by simp [mItL,mRd,mC,fs,zn2 a (show k < sets.length by omega),encS])).trans h
      · rw [← zd6]
        have e:hv sets (pre ++ [k])=hv sets pre ++ (gP sets k).2:=by simp [hv]
        rw [e]; rfl)
    [.v S,.v (encC cs),.o (dk []),.no,.no] ⟨none,none,rfl⟩
  have l2:zbq [.v S,.v (encC cs),.o (dk []),.no,.no] = .nx [.v S,.v (encC cs),.o (dk (zav [] (hv sets (chA cs 1)))),sv o3,sv o4]:=(zcr (by simp [mItL,zap,zab,mNil,mVar,mC,zeO (show cs.length ≤ 100 by omega)])).trans h1
  have k2:zaZ [.v S,.v (encC cs),.o (dk (zav [] (hv sets (chA cs 1)))),sv o3,sv o4] = .ok (iL (nc n sets (chA cs 1))):=by
    refine zb0 (l:=(upt n).map .int) (by simp [mRng,zab,mNil,mRd,fm,rngT n1]) (by rw [List.length_map,zgh]; omega) ?_
    refine zdg .int _ _ fun t _=>?_
    have mi:(t ∈ zav [] (hv sets (chA cs 1)))=(t ∈ hv sets (chA cs 1)):=propext ⟨fun z=>(mem_insAll.mp z).resolve_left (by simp),fun z=>mem_insAll.mpr (.inr z)⟩
    by_cases hz:t ∈ hv sets (chA cs 1) <;> simp [zed,zaF,zfa,zba,zaz,mVar,mRd,hz,mi]
  have e0:mAsg (mC (.dct [] [])) (bNew 2) [.v S,.v (encC cs),.no,.no,.no] = .nx [.v S,.v (encC cs),.o (dk []),.no,.no]:=rfl
  refine zeB ((zar e0).trans ((zar l2).trans ?_))
  show R.toO (zaZ _) _ _=_
  rw [k2]; rfl
end My
namespace My
open PySem L2 PM
theorem zjO (t:Int) (l:List Int):oIn (.int t) (iL l)=some (.bl (decide (t ∈ l))):=by
  show (asIs (l.map .int)).map _=_
  rw [zgU]; rfl
def mxv (l:List Int):Int:=l.foldl max 0
theorem zmX (l:List Int):(mxv l=0∨mxv l ∈ l)∧0 ≤ mxv l∧∀ w ∈ l,w ≤ mxv l:=by
  have key:∀ (l:List Int) (a:Int),0 ≤ a→(l.foldl max a=a∨l.foldl max a ∈ l)∧a ≤ l.foldl max a∧∀ w ∈ l,w ≤ l.foldl max a:=by
    intro l
    induction l with
    | nil=>intro a h; simp
    | cons x l ih =>
      intro a h
      obtain ⟨h1,h2,h3⟩:=ih (max a x) (by omega)
      rw [List.foldl_cons]
      refine ⟨?_,by omega,fun w hw=>?_⟩
      · rcases h1 with z | z
        · rcases Int.le_total a x with c | c
          · right; rw [z,show max a x=x by omega]; simp
          · left; rw [z]; omega
        · exact .inr (List.mem_cons_of_mem _ z)
      · rcases List.mem_cons.mp hw with rfl | hw
        · omega
        · exact h3 w hw
  exact key l 0 (by omega)
theorem zpm {l:List Int} {b:Int} (h0:0 ≤ b) (h:∀ w ∈ l,w ≤ b):mxv l ≤ b:=by
  rcases (zmX l).1 with z | z
  · omega
  · exact h _ z
theorem znO {l:List Int} (h:∀ w ∈ l,0 ≤ w):zh0 [iL l] (.int 0)=some (.int (mxv l)):=by
  cases l with
  | nil=>rfl
  | cons a l =>
    have e:zh0 [iL (a :: l)] (.int 0)=some (.int (maxI l a)):=by simp [zh0,iL,zgU]
    rw [e]
    obtain ⟨h1,h2,h3⟩:=L2.maxI_ge l a
    obtain ⟨g1,g2,g3⟩:=zmX (a :: l)
    have a0:=h a (by simp)
    have:maxI l a ≤ mxv (a :: l):=by
      rcases h3 with z | z
      · rw [z]; exact g3 a (by simp)
      · exact g3 _ (by simp [z])
    have:mxv (a :: l) ≤ maxI l a:=zpm (by omega) fun w hw=>by
      rcases List.mem_cons.mp hw with rfl | hw
      · exact h1
      · exact h2 w hw
    congr 2
    omega
theorem zhH {b:D→En→Option En} {m:En→O} {P:En→Prop} {p:Int→Bool} {d:D}:∀ (l:List Int) (_:∀ x ∈ l,∀ δ,P δ→∃ δ1,b (.int x) δ=some δ1∧(p x=true→m δ1 = .ro d)∧(p x=false→∃ δ2,m δ1 = .nx δ2∧P δ2)) (δ:En) (_:P δ),
    (l.any p=true→zdt b m (l.map .int) δ = .ro d)∧(l.any p=false→∃ δ',zdt b m (l.map .int) δ = .nx δ'∧P δ')
  | [],_,δ,h=>⟨fun z=>(by cases z),fun _=>⟨δ,rfl,h⟩⟩
  | x :: l,st,δ,h=>by
    obtain ⟨δ1,h1,h2,h3⟩:=st x (by simp) δ h
    rw [List.map_cons]
    unfold zdt
    rw [h1,List.any_cons]
    cases c:p x with
    | true =>
      refine ⟨fun _=>?_,fun z=>(by cases z)⟩
      simp only [h2 c]
    | false =>
      obtain ⟨δ2,e,q⟩:=h3 c
      simp only [e,Bool.false_or]
      exact zhH l (fun y hy=>st y (List.mem_cons_of_mem _ hy)) δ2 q
def Cov (n:Nat) (sets:List Ps) (cs:List Int):Prop:=∀ t ∈ nc n sets (chA cs 1),t ∈ zc1 (sets.drop cs.length)
def need (n:Nat) (sets:List Ps) (cs:List Int):Bool:=(nc n sets (chA cs 1)).any fun t=>decide (t ∈ (gP sets cs.length).2) && !decide (t ∈ zc1 (sets.drop (cs.length + 1)))
def wy (n:Nat) (sets:List Ps) (cs:List Int):List Int:=if need n sets cs=true then [1] else [0,1]
theorem zoI (n:Nat) (sets:List Ps) (cs:List Int):0 < (wy n sets cs).length∧(wy n sets cs).length ≤ 2:=by
  unfold wy; split <;> simp
theorem zof {n:Nat} {sets:List Ps} (ok:SetsOk n sets) {cs:List Int} (hc:cs.length < sets.length) (h100:sets.length ≤ 100):zaM [zbV n sets,encC cs] = .ok (iL (wy n sets cs)):=by
  have nq:=zep ok (Nat.le_of_lt hc) h100
  obtain ⟨S,eS⟩:∃ S,S=zbV n sets:=⟨_,rfl⟩
  have fs:oFld zcC "sets" S=some (encP sets):=by rw [eS]; exact zfs
  have fc:oFld zbh "cheapest" S=some (.lst (zbQ sets).reverse):=by rw [eS]; exact zhj
  have io:PM.isObj 8 "not_covered" S=some ():=by rw [eS]; exact zhg (by decide)
  rw [← eS] at nq ⊢
  obtain ⟨C,eC⟩:∃ C,C=encC cs:=⟨_,rfl⟩
  have le:fLen [C]=some (.int cs.length):=by rw [eC]; simp [encC]
  rw [← eC] at nq ⊢
  obtain ⟨L,eL⟩:∃ L,L=zc1 (sets.drop (cs.length + 1)):=⟨_,rfl⟩
  obtain ⟨ts,ets⟩:∃ ts,ts=(gP sets cs.length).2:=⟨_,rfl⟩
  have ix:oIxL (.lst (zbQ sets).reverse) (.int ((cs.length:Int) + 1))=some (rowD (sets.drop (cs.length + 1))):=zko (k:=cs.length + 1) (zhU sets _ (by omega))
  have ix2:=zn2 (sets:=sets) (k:=(cs.length:Int)) (by omega) (by omega)
  obtain ⟨f,ef⟩:∃ f,f=minP (sets.drop (cs.length + 1)):=⟨_,rfl⟩
  have er:rowD (sets.drop (cs.length + 1))=dm L f:=by rw [eL,ef]; rfl
  have q1:mAsg (m2 oIxL (m1 (oFld zbh "cheapest") (mRd 0)) (m2 oAdd (mCB fLen (zab (mRd 1) mNil)) (mC (.int 1)))) (zat 2) [.v S,.v C,.no,.no,.no] = .nx [.v S,.v C,.v (dm L f),.no,.no]:=za9 (d:=dm L f) (by simp [mRd,mC,mCB,zab,mNil,fc,le,ix,er]) rfl
  have q2:mAsg (m2 oIxT (m2 oIxL (m1 (oFld zcC "sets") (mRd 0)) (mCB fLen (zab (mRd 1) mNil))) (mC (.int 1))) (zat 3) [.v S,.v C,.v (dm L f),.no,.no] = .nx [.v S,.v C,.v (dm L f),.v (iL ts),.no]:=za9 (d:=iL ts) (by simp [mRd,mC,mCB,zab,mNil,fs,le,ix2,encS,ets]) rfl
  obtain ⟨l1,l2⟩:=zhH (b:=zat 4) (m:=zay) (d:=iL [1]) (P:=fun δ=>∃ o,δ = [.v S,.v C,.v (dm L f),.v (iL ts),sv o]) (p:=fun t=>decide (t ∈ ts) && !decide (t ∈ L)) (nc n sets (chA cs 1))
    (by
      rintro x _ δ ⟨o,rfl⟩
      refine ⟨_,zdn (o:=o) rfl,fun h=>?_,fun h=>⟨[.v S,.v C,.v (dm L f),.v (iL ts),.v (.int x)],?_,some (.int x),rfl⟩⟩
      · have:x ∈ ts∧x ∉ L:=by simpa using h
        show zay [.v S,.v C,.v (dm L f),.v (iL ts),.v (.int x)]=_
        simp [zay,mIfS,mAnd,zaz,mRd,mVar,zjO,this,zd3,mLst,zab,mNil,mC,sizeLine]; rfl
      · show zay [.v S,.v C,.v (dm L f),.v (iL ts),.v (.int x)]=_
        by_cases z:x ∈ ts
        · have:x ∈ L:=by
            have h':(decide (x ∈ ts) && !decide (x ∈ L))=false:=h
            rw [decide_eq_true z] at h'
            simpa using h'
          simp [zay,mIfS,mAnd,zaz,mRd,mVar,zjO,z,this,zbm]
        · simp [zay,mIfS,mAnd,zaz,mRd,mVar,zjO,z,zbm])
    [.v S,.v C,.v (dm L f),.v (iL ts),.no] ⟨none,rfl⟩
  have fo:zbx [.v S,.v C,.v (dm L f),.v (iL ts),.no]=zdt (zat 4) zay ((nc n sets (chA cs 1)).map .int) [.v S,.v C,.v (dm L f),.v (iL ts),.no]:=zcr (by simp [mItL,zb4,mVar,zab,mNil,io,nq])
  refine zeB ((zar q1).trans ((zar q2).trans ?_))
  unfold wy need
  rw [← eL,← ets]
  cases c:((nc n sets (chA cs 1)).any fun t=>decide (t ∈ ts) && !decide (t ∈ L)) with
  | true =>
    rw [if_pos rfl]
    show mSeq zbx _ _=_
    unfold mSeq
    rw [fo,l1 c]
  | false =>
    rw [if_neg (by simp)]
    obtain ⟨δ',e,o,rfl⟩:=l2 c
    refine (zar (fo.trans e)).trans ?_
    simp [zd3,mLst,zab,mNil,mC,sizeLine,iL]
def prS (sets:List Ps) (l:List Int):Int:=(l.map fun k=>(gP sets k).1).sum
def lowV (n:Nat) (sets:List Ps) (cs:List Int):Int:=prS sets (chA cs 1) + mxv ((nc n sets (chA cs 1)).map (minP (sets.drop cs.length)))
theorem zmr {sets:List Ps} {l:List Int} (h:∀ k ∈ l,0 ≤ k∧k < sets.length) (hl:l.length ≤ 1000):zcV [encP sets,iL l] = .ok (.int (prS sets l)):=by
  refine zcB ?_
  have k:zfZ [.v (encP sets),.v (iL l)] = .ok (iL (l.map fun k=>(gP sets k).1)):=by
    refine Eq.trans (zb0 (l:=l.map .int) (r:=l.map fun k=>.int (gP sets k).1) rfl (by rw [List.length_map]; omega) ?_) (by simp [iL])
    refine zcp .int (fun k=>.int (gP sets k).1) _ fun k hk=>?_
    have ix:=zn2 (sets:=sets) (h k hk).1 (h k hk).2
    simp [zed,zaF,zfa,zba,mRd,mC,ix,encS]
  show mRet _ [.v (encP sets),.v (iL l)]=_
  simp [mRet,mCB,zab,mNil,k,zh9,prS]
theorem znC {n:Nat} {l:List Ps} (h:∀ s ∈ l,Good n s) {t:Int} (ht:t ∈ zc1 l):0 ≤ minP l t:=by
  obtain ⟨⟨s,a,_,c⟩,_⟩:=zid ht
  rw [← c]; exact (h s a).lo
theorem zpM {n:Nat} {sets:List Ps} (ok:SetsOk n sets) {cs:List Int} (hc:cs.length ≤ sets.length) (h100:sets.length ≤ 100) (cv:Cov n sets cs):zaH [zbV n sets,encC cs] = .ok (.int (lowV n sets cs)):=by
  have nq:=zep ok hc h100
  obtain ⟨S,eS⟩:∃ S,S=zbV n sets:=⟨_,rfl⟩
  have fs:oFld zcC "sets" S=some (encP sets):=by rw [eS]; exact zfs
  have fc:oFld zbh "cheapest" S=some (.lst (zbQ sets).reverse):=by rw [eS]; exact zhj
  have io:PM.isObj 8 "not_covered" S=some ():=by rw [eS]; exact zhg (by decide)
  rw [← eS] at nq ⊢
  have ch:=zeO (cs:=cs) (ch:=1) (by omega)
  obtain ⟨C,eC⟩:∃ C,C=encC cs:=⟨_,rfl⟩
  have le:fLen [C]=some (.int cs.length):=by rw [eC]; simp [encC]
  rw [← eC] at nq ch ⊢
  obtain ⟨L,eL⟩:∃ L,L=zc1 (sets.drop cs.length):=⟨_,rfl⟩
  obtain ⟨f,ef⟩:∃ f,f=minP (sets.drop cs.length):=⟨_,rfl⟩
  have ix:oIxL (.lst (zbQ sets).reverse) (.int (cs.length:Int))=some (dm L f):=by rw [eL,ef]; exact zko (k:=cs.length) (zhU sets _ hc)
  have dg:∀ s ∈ sets.drop cs.length,Good n s:=fun s hs=>ok.good s (List.mem_of_mem_drop hs)
  obtain ⟨N,eN⟩:∃ N,N=nc n sets (chA cs 1):=⟨_,rfl⟩
  have Nl:N.length ≤ 1000:=by
    rw [eN]
    have:=List.length_filter_le (fun t=>!decide (t ∈ hv sets (chA cs 1))) (upt n)
    rw [zgh] at this
    have:=ok.n1
    unfold nc; omega
  have cvN:∀ t ∈ N,t ∈ L:=by rw [eN,eL]; exact cv
  rw [← eN] at nq
  have q1:mAsg (m2 oIxL (m1 (oFld zbh "cheapest") (mRd 0)) (mCB fLen (zab (mRd 1) mNil))) (zat 2) [.v S,.v C,.no,.no] = .nx [.v S,.v C,.v (dm L f),.no]:=za9 (d:=dm L f) (by simp [mRd,mCB,zab,mNil,fc,le,ix]) rfl
  have k:zbD [.v S,.v C,.v (dm L f),.no] = .ok (iL (N.map f)):=by
    refine Eq.trans (zb0 (l:=N.map .int) (r:=N.map fun t=>.int (f t)) (by simp [mItL,zb4,mVar,zab,mNil,io,nq]) (by rw [List.length_map]; omega) ?_) (by simp [iL])
    refine zcp .int (fun t=>.int (f t)) _ fun t ht=>?_
    have g2:=zkT (md:=mRd 0) (mk:=mVar 1) (mx:=mC (.int 0)) (δ:=[.v (dm L f),.v (.int t)]) (L:=L) (f:=f) (t:=t) (v:=0) rfl rfl rfl
    rw [if_pos (cvN t ht)] at g2
    simp only [zed,zaF,zfa,zba,List.map_cons,List.map_nil,List.getElem?_cons_succ,List.getElem?_cons_zero]
    simp
    rw [g2]; rfl
  have q2:mAsg (zmv (zab zbD mNil) (mC (.int 0))) (zat 3) [.v S,.v C,.v (dm L f),.no] = .nx [.v S,.v C,.v (dm L f),.v (.int (mxv (N.map f)))]:=by
    refine za9 (d:=.int (mxv (N.map f))) ?_ rfl
    have mq:=znO (l:=N.map f) fun w hw=>by
      obtain ⟨t,ht,rfl⟩:=List.mem_map.mp hw
      rw [ef]; exact znC dg (by rw [← eL]; exact cvN t ht)
    simp [zmv,zab,mNil,k,mC,mq]
  have pq:=zmr (sets:=sets) (l:=chA cs 1) (fun k hk=>by obtain ⟨⟨a,b⟩,_⟩:=ch_mem.mp hk; omega) (by have:=zjS cs 1; omega)
  refine zcB ((zar q1).trans ((zar q2).trans ?_))
  unfold lowV
  rw [← eN,← ef]
  simp [mRet,zap,zab,mNil,mRd,mVar,mC,fs,ch,pq]
theorem zhQ {sets:List Ps} {k:Nat} (h:k < sets.length):sets.drop k=gP sets k :: sets.drop (k + 1):=by
  rw [List.drop_eq_getElem_cons h]
  congr 1
  simp [gP,h]
theorem nc_app {n:Nat} {sets:List Ps} {cs:List Int} {t:Int}:t ∈ nc n sets (chA (cs ++ [1]) 1) ↔ t ∈ nc n sets (chA cs 1)∧t ∉ (gP sets cs.length).2:=by
  rw [mem_nc,mem_nc,zm0,if_pos rfl,mem_hv,mem_hv]
  constructor
  · rintro ⟨h,z⟩
    exact ⟨⟨h,fun ⟨k,a,b⟩=>z ⟨k,by simp [a],b⟩⟩,fun b=>z ⟨_,by simp,b⟩⟩
  · rintro ⟨⟨h,z⟩,y⟩
    refine ⟨h,fun ⟨k,a,b⟩=>?_⟩
    rcases List.mem_append.mp a with a | a
    · exact z ⟨k,a,b⟩
    · rw [List.mem_singleton.mp a] at b; exact y b
theorem ch0 (cs:List Int) {w:Int} (h:w ≠ 1):chA (cs ++ [w]) 1=chA cs 1:=by rw [zm0,if_neg h,List.append_nil]
theorem zl1 {n:Nat} {sets:List Ps} {cs:List Int} {w:Int} (h:w ∈ wy n sets cs):w=1∨w=0∧need n sets cs=false:=by
  unfold wy at h
  split at h
  · exact .inl (by simpa using h)
  · rename_i z
    rcases (show w=0∨w=1 by simpa using h) with e | e
    · exact .inr ⟨e,by simpa using z⟩
    · exact .inl e
theorem zmD {n:Nat} {sets:List Ps} {cs:List Int} (hc:cs.length < sets.length) (cv:Cov n sets cs) {w:Int} (hw:w ∈ wy n sets cs):Cov n sets (cs ++ [w]):=by
  intro t ht
  rw [List.length_append,List.length_singleton]
  rcases zl1 hw with rfl | ⟨rfl,nd⟩
  · obtain ⟨h1,h2⟩:=nc_app.mp ht
    have h3:=mem_keysP.mp (cv t h1)
    rw [zhQ hc] at h3
    obtain ⟨s,hs,h⟩:=h3
    rcases List.mem_cons.mp hs with rfl | hs
    · exact absurd h h2
    · exact mem_keysP.mpr ⟨s,hs,h⟩
  · rw [ch0 cs (by decide)] at ht
    have h3:=mem_keysP.mp (cv t ht)
    rw [zhQ hc] at h3
    obtain ⟨s,hs,h⟩:=h3
    rcases List.mem_cons.mp hs with rfl | hs
    · have:=List.any_eq_false.mp nd t ht
      simpa [h] using this
    · exact mem_keysP.mpr ⟨s,hs,h⟩
theorem znR {n:Nat} {sets:List Ps} (hc:∀ t ∈ upto n,∃ s ∈ sets,t ∈ s.2):Cov n sets []:=fun t ht=>by
  obtain ⟨h,_⟩:=mem_nc.mp ht
  exact mem_keysP.mpr (hc t (mem_upto.mpr h))
end My
namespace My
open PySem L2 PM
abbrev Fr:=Int × Int
def encF (f:Fr):D:=.tup [.int f.1,.int f.2]
def zb8 (ts:List Fr):D:=.lst (ts.map encF)
def th (ts:List Fr) (k:Int):Fr:=ts.getD k.toNat (0,1)
theorem zpt {ts:List Fr} {k:Int} (h:k.toNat < ts.length):ts[k.toNat]?=some (th ts k):=by simp [th,List.getD_eq_getElem?_getD,h]
theorem zow {ts:List Fr} {k:Int} (h0:0 ≤ k) (h1:k < ts.length):oIxL (zb8 ts) (.int k)=some (encF (th ts k)) :=
  zng h0 (by rw [List.getElem?_map,zpt (by omega)]; rfl)
def wgt (ts:List Fr) (l:List Int):Int:=(l.map fun k=>(th ts k).2).sum
def wrt (ts:List Fr) (l:List Int):Int:=(l.map fun k=>(th ts k).1).sum
end My
namespace My
open PySem L2 PM
def zcE (r:Int) (ts:List Fr):D:=.obj 9 ["room","things"] [.int r,zb8 ts]
theorem zpf:¬ (("room" : Str) = "things"):=by decide
theorem ziY {r:Int} {ts:List Fr}:zaB [.int r,zb8 ts] = .ok (zcE r ts):=by
  have c:zeN (ts.map encF)=true:=by
    induction ts with
    | nil=>rfl
    | cons t ts ih=>simp [zeN,zdT,encF,ih]
  have h:zaY [.no,.v (.int r),.v (zb8 ts)] [] [] = .ok (["room","things"],[.int r,zb8 ts]):=by
    unfold zaY iSeq zg4 zhX
    have e:mCB zin (zab (mRd 2) mNil) [.no,.v (.int r),.v (zb8 ts)] = .ok (zb8 ts):=by simp [mCB,zab,mNil,mRd,zin,zb8]
    have c2:∃ r',zb8 ts=D.lst r'∧zeN r'=true:=⟨_,rfl,c⟩
    simp [mVar,e,ifC,zdT,c2,putN,putV,zpf]
  show R.bind _ _=_
  simp only [List.map_cons,List.map_nil]
  rw [h]; rfl
theorem zmj {r:Int} {ts:List Fr}:oFld zha "room" (zcE r ts)=some (.int r):=by simp [oFld,zcE,zha,getF]
theorem zd9 {r:Int} {ts:List Fr}:oFld zcz "things" (zcE r ts)=some (zb8 ts):=by simp [oFld,zcE,zcz,getF,zpf]
theorem zkI {r:Int} {ts:List Fr}:zaE [zcE r ts] = .ok (.int ts.length):=by
  refine zcB ?_
  show mRet _ [.v (zcE r ts)]=_
  have le:fLen [zb8 ts]=some (.int ts.length):=by simp [zb8]
  simp [mRet,mCB,zab,mNil,mRd,zd9,le]
theorem zoB {r:Int} {ts:List Fr} {cs:List Int} (hc:cs.length ≤ ts.length) (hn:ts.length ≤ 100):zaJ [zcE r ts,encC cs] = .ok (.int (wrt ts (chA cs 1))):=by
  refine zcB ?_
  have k:zct [.v (zcE r ts),.v (encC cs)] = .ok (iL ((chA cs 1).map fun k=>(th ts k).1)):=by
    refine Eq.trans (zb0 (l:=(chA cs 1).map .int) (r:=(chA cs 1).map fun k=>.int (th ts k).1) ?_ (by have:=zjS cs 1; rw [List.length_map]; omega) ?_) (by simp [iL])
    · simp [mItL,zap,zab,mNil,mVar,mC,zeO (show cs.length ≤ 100 by omega),iL]
    · refine zcp .int (fun k=>.int (th ts k).1) _ fun k hk=>?_
      obtain ⟨⟨a,b⟩,_⟩:=ch_mem.mp hk
      have ix:=zow (ts:=ts) a (by omega)
      simp [zed,zaF,zfa,zba,mRd,mC,zd9,ix,encF]
  show mRet _ [.v (zcE r ts),.v (encC cs)]=_
  simp [mRet,mCB,zab,mNil,k,zh9,wrt]
theorem zmC {r:Int} {ts:List Fr} {cs:List Int} (hc:cs.length < ts.length) (hn:ts.length ≤ 100):zaP [zcE r ts,encC cs] = .ok (iL (if wgt ts (chA cs 0) + (th ts cs.length).2 ≤ r then [0,1] else [1])):=by
  refine zeB ?_
  have k:zbE [.v (zcE r ts),.v (encC cs),.no] = .ok (iL ((chA cs 0).map fun k=>(th ts k).2)):=by
    refine Eq.trans (zb0 (l:=(chA cs 0).map .int) (r:=(chA cs 0).map fun k=>.int (th ts k).2) ?_ (by have:=zjS cs 0; rw [List.length_map]; omega) ?_) (by simp [iL])
    · simp [mItL,zap,zab,mNil,mVar,mC,zeO (show cs.length ≤ 100 by omega),iL]
    · refine zcp .int (fun k=>.int (th ts k).2) _ fun k hk=>?_
      obtain ⟨⟨a,b⟩,_⟩:=ch_mem.mp hk
      have ix:=zow (ts:=ts) a (by omega)
      simp [zed,zaF,zfa,zba,mRd,mC,zd9,ix,encF]
  have ix:=zow (ts:=ts) (k:=(cs.length:Int)) (by omega) (by omega)
  have le:fLen [encC cs]=some (.int cs.length):=by simp [encC]
  have q1:mAsg (mCB fSum (zab zbE mNil)) (zat 2) [.v (zcE r ts),.v (encC cs),.no] = .nx [.v (zcE r ts),.v (encC cs),.v (.int (wgt ts (chA cs 0)))]:=za9 (d:=.int (wgt ts (chA cs 0))) (by simp [mCB,zab,mNil,k,zh9,wgt]) rfl
  refine (zar q1).trans ?_
  by_cases c:wgt ts (chA cs 0) + (th ts cs.length).2 ≤ r <;> simp [mSeq,mIfS,zaz,mCB,zab,mNil,mRd,mC,zd9,zmj,ix,encF,le,c,zbm,zd3,mLst,sizeLine,iL]
end My
namespace My
open PySem L2 PM
abbrev Bst:=Option (List Int × Int)
structure Qs where
  st:Nat
  low:List Int→Int
  wy:List Int→List Int
def zfU (q:Qs) (b:Bst) (c:List Int):Bool:=match b with | some (_,k)=>decide (k ≤ q.low c) | none=>false
def zet (q:Qs) (b:Bst) (c:List Int):Bool:=zfU q b c || decide (c.length=q.st)
def nb (q:Qs) (b:Bst) (c:List Int):Bst:=if zfU q b c=true then b else if c.length=q.st then some (c,q.low c) else b
def nk (q:Qs) (b:Bst) (c:List Int):List (List Int):=if zet q b c=true then [] else (q.wy c).map fun w=>c ++ [w]
def ncl (q:Qs) (b:Bst) (c:List Int):List (List Int):=if zet q b c=true then [c] else []
structure Rn where
  b:Bst
  cl:List (List Int)
  vs:List (List Int)
def run (q:Qs):Nat→Bst→List (List Int)→Option Rn
  | _,b,[]=>some ⟨b,[],[]⟩
  | 0,_,_ :: _=>none
  | n + 1,b,c :: W=>(run q n (nb q b c) (nk q b c ++ W)).map fun r=>⟨r.b,ncl q b c ++ r.cl,c :: r.vs⟩
theorem zd7 {q:Qs} {n:Nat} {b:Bst} {c:List Int} {W:List (List Int)} {r:Rn} (h:run q n b (c :: W)=some r):∃ m r',n=m + 1∧run q m (nb q b c) (nk q b c ++ W)=some r'∧r=⟨r'.b,ncl q b c ++ r'.cl,c :: r'.vs⟩:=by
  cases n with
  | zero=>cases h
  | succ m =>
    unfold run at h
    cases z:run q m (nb q b c) (nk q b c ++ W) with
    | none=>rw [z] at h; cases h
    | some r'=>rw [z] at h; cases h; exact ⟨m,r',rfl,z,rfl⟩
theorem zki {q:Qs}:∀ {n:Nat} {b:Bst} {W:List (List Int)} {r:Rn},run q n b W=some r→r.vs.length ≤ n
  | n,b,[],r,h=>by unfold run at h; cases h; simp
  | n,b,c :: W,r,h=>by
    obtain ⟨m,r',rfl,h1,rfl⟩:=zd7 h
    have:=zki h1
    simp; omega
def szW (st:Nat) (W:List (List Int)):Nat:=(W.map fun c=>2 ^ (st + 1 - c.length) - 1).sum
theorem ziw {q:Qs} (h2:∀ c,(q.wy c).length ≤ 2):∀ (n:Nat) (b:Bst) (W:List (List Int)),(∀ c ∈ W,c.length ≤ q.st)→szW q.st W ≤ n→∃ r,run q n b W=some r
  | n,b,[],_,_=>⟨_,by unfold run; rfl⟩
  | n,b,c :: W,hW,hn=>by
    have hc:=hW c (by simp)
    have e:szW q.st (c :: W)=(2 ^ (q.st + 1 - c.length) - 1) + szW q.st W:=by simp [szW]
    have p1:2 ≤ 2 ^ (q.st + 1 - c.length):=by
      rw [show q.st + 1 - c.length=(q.st - c.length) + 1 by omega,Nat.pow_succ]
      have:0 < 2 ^ (q.st - c.length):=Nat.pow_pos (by decide)
      omega
    cases n with
    | zero=>omega
    | succ n =>
      have key:szW q.st (nk q b c ++ W) ≤ n∧∀ x ∈ nk q b c ++ W,x.length ≤ q.st:=by
        have app:szW q.st (nk q b c ++ W)=szW q.st (nk q b c) + szW q.st W:=by simp [szW,List.sum_append]
        unfold nk at app ⊢
        by_cases z:zet q b c=true
        · rw [if_pos z] at app ⊢
          exact ⟨by simp [szW] at app e hn ⊢; omega,fun x hx=>hW x (by simp at hx ⊢; exact .inr hx)⟩
        · rw [if_neg z] at app ⊢
          have ne:c.length ≠ q.st:=fun w=>z (by unfold zet; simp [w])
          have kids:szW q.st ((q.wy c).map fun w=>c ++ [w])=(q.wy c).length * (2 ^ (q.st - c.length) - 1):=by
            unfold szW
            rw [List.map_map]
            generalize q.wy c=l
            induction l with
            | nil=>simp
            | cons a l ih =>
              simp only [List.map_cons,List.sum_cons,ih,Function.comp,List.length_append,List.length_cons,List.length_nil]
              rw [show q.st + 1 - (c.length + (0 + 1))=q.st - c.length by omega,Nat.add_mul]; omega
          have le:(q.wy c).length * (2 ^ (q.st - c.length) - 1) ≤ 2 * (2 ^ (q.st - c.length) - 1):=Nat.mul_le_mul_right _ (h2 c)
          have pw:2 ^ (q.st + 1 - c.length)=2 * 2 ^ (q.st - c.length):=by rw [show q.st + 1 - c.length=(q.st - c.length) + 1 by omega,Nat.pow_succ]; omega
          have pp:0 < 2 ^ (q.st - c.length):=Nat.pow_pos (by decide)
          refine ⟨by omega,fun x hx=>?_⟩
          rcases List.mem_append.mp hx with w | w
          · obtain ⟨a,_,rfl⟩:=List.mem_map.mp w
            simp; omega
          · exact hW x (by simp [w])
      obtain ⟨r,hr⟩:=ziw h2 n (nb q b c) (nk q b c ++ W) key.2 key.1
      exact ⟨_,by unfold run; rw [hr]; rfl⟩
def Cmp (a b:List Int):Prop:=a <+: b∨b <+: a
theorem Cmp.of {a b e:List Int} (h1:a <+: e) (h2:b <+: e):Cmp a b:=by
  rcases Nat.le_total a.length b.length with z | z
  · exact .inl (List.prefix_of_prefix_length_le h1 h2 z)
  · exact .inr (List.prefix_of_prefix_length_le h2 h1 z)
def zl7 (W:List (List Int)):Prop:=W.Pairwise fun a b=>¬ Cmp a b
theorem zos {a c:List Int} {w:Int} (h:a <+: c ++ [w]):a <+: c∨a=c ++ [w]:=by
  rcases Nat.lt_or_ge a.length (c.length + 1) with z | z
  · exact .inl (List.prefix_of_prefix_length_le h (List.prefix_append c [w]) (by omega))
  · exact .inr (h.eq_of_length (by have:=h.length_le; simp at this ⊢; omega))
theorem zjb {q:Qs} (hw:∀ c,(q.wy c).Nodup) {b:Bst} {c:List Int} {W:List (List Int)} (h:zl7 (c :: W)):zl7 (nk q b c ++ W):=by
  obtain ⟨h1,h2⟩:=List.pairwise_cons.mp h
  unfold nk
  by_cases z:zet q b c=true
  · rw [if_pos z]; exact h2
  · rw [if_neg z]
    refine List.pairwise_append.mpr ⟨?_,h2,fun x hx y hy cmp=>?_⟩
    · refine List.Pairwise.map _ (fun a b (ne:a ≠ b) cmp=>?_) (hw c)
      have e:c ++ [a]=c ++ [b]:=by
        rcases cmp with w | w
        · exact w.eq_of_length (by simp)
        · exact (w.eq_of_length (by simp)).symm
      simp at e
      exact ne e
    · obtain ⟨a,_,rfl⟩:=List.mem_map.mp hx
      rcases cmp with w | w
      · exact h1 y hy (.inl ((List.prefix_append c [a]).trans w))
      · rcases zos w with w | w
        · exact h1 y hy (.inr w)
        · exact h1 y hy (.inl (by rw [w]; exact List.prefix_append c [a]))
structure Told (W:List (List Int)) (r:Rn):Prop where
  up:∀ v ∈ r.vs,∃ w ∈ W,w <+: v
  all:∀ w ∈ W,w ∈ r.vs
  nd:r.vs.Nodup
  end_:∀ v ∈ r.vs,∃ e ∈ r.cl,v <+: e
  cup:∀ e ∈ r.cl,∃ w ∈ W,w <+: e
  back:∀ e ∈ r.cl,∀ x,x <+: e→(∃ w ∈ W,w <+: x)→x ∈ r.vs
theorem ziP {q:Qs} (hw:∀ c,(q.wy c).Nodup) (hne:∀ c,q.wy c ≠ []):∀ {n:Nat} {b:Bst} {W:List (List Int)} {r:Rn},run q n b W=some r→zl7 W→Told W r
  | n,b,[],r,h,_=>by
    unfold run at h
    cases h
    exact ⟨fun v hv=>(by cases hv),fun w hw=>(by cases hw),List.nodup_nil,fun v hv=>(by cases hv),fun e he=>(by cases he),fun e he=>(by cases he)⟩
  | n,b,c :: W,r,h,ap=>by
    obtain ⟨m,r',rfl,h1,rfl⟩:=zd7 h
    have T:=ziP hw hne h1 (zjb hw ap)
    obtain ⟨a1,a2⟩:=List.pairwise_cons.mp ap
    have kid:∀ k ∈ nk q b c,∃ a,k=c ++ [a]:=fun k hk=>by
      unfold nk at hk
      split at hk
      · cases hk
      · obtain ⟨a,_,rfl⟩:=List.mem_map.mp hk; exact ⟨a,rfl⟩
    have up':∀ v:List Int,(∃ w ∈ nk q b c ++ W,w <+: v)→(∃ a,c ++ [a] ∈ nk q b c∧c ++ [a] <+: v)∨∃ w ∈ W,w <+: v:=fun v ⟨w,hw,hv⟩=>by
      rcases List.mem_append.mp hw with z | z
      · obtain ⟨a,rfl⟩:=kid w z; exact .inl ⟨a,z,hv⟩
      · exact .inr ⟨w,z,hv⟩
    refine ⟨fun v hv=>?_,fun w hw'=>?_,?_,fun v hv=>?_,fun e he=>?_,fun e he x hx hwx=>?_⟩
    · rcases List.mem_cons.mp hv with rfl | hv
      · exact ⟨v,by simp,List.prefix_refl v⟩
      · rcases up' v (T.up v hv) with ⟨a,_,z⟩ | ⟨w,z1,z2⟩
        · exact ⟨c,by simp,(List.prefix_append c [a]).trans z⟩
        · exact ⟨w,by simp [z1],z2⟩
    · rcases List.mem_cons.mp hw' with rfl | hw'
      · simp
      · exact List.mem_cons_of_mem _ (T.all w (List.mem_append_right _ hw'))
    · refine List.nodup_cons.mpr ⟨fun hc=>?_,T.nd⟩
      rcases up' c (T.up c hc) with ⟨a,_,z⟩ | ⟨w,z1,z2⟩
      · have:=z.length_le
        rw [List.length_append,List.length_singleton] at this
        omega
      · exact a1 w z1 (.inr z2)
    · rcases List.mem_cons.mp hv with rfl | hv
      · by_cases z:zet q b v=true
        · exact ⟨v,by simp [ncl,z],List.prefix_refl v⟩
        · obtain ⟨a,ha⟩:=List.exists_mem_of_ne_nil _ (hne v)
          have hk:v ++ [a] ∈ nk q b v:=by unfold nk; rw [if_neg z]; exact List.mem_map_of_mem ha
          obtain ⟨e,he,hp⟩:=T.end_ _ (T.all _ (List.mem_append_left _ hk))
          exact ⟨e,List.mem_append_right _ he,(List.prefix_append v [a]).trans hp⟩
      · obtain ⟨e,he,hp⟩:=T.end_ v hv
        exact ⟨e,List.mem_append_right _ he,hp⟩
    · rcases List.mem_append.mp he with z | z
      · unfold ncl at z
        split at z
        · rw [List.mem_singleton.mp z]; exact ⟨c,by simp,List.prefix_refl c⟩
        · cases z
      · rcases up' e (T.cup e z) with ⟨a,_,w⟩ | ⟨w,z1,z2⟩
        · exact ⟨c,by simp,(List.prefix_append c [a]).trans w⟩
        · exact ⟨w,by simp [z1],z2⟩
    · show x ∈ c :: r'.vs
      by_cases xc:x=c
      · rw [xc]; simp
      obtain ⟨w0,hw0,hp0⟩:=hwx
      rcases List.mem_append.mp he with z | z
      · have ec:e=c:=by
          unfold ncl at z
          split at z
          · exact List.mem_singleton.mp z
          · cases z
        subst ec
        rcases List.mem_cons.mp hw0 with rfl | hw0
        · exact absurd (hx.eq_of_length_le hp0.length_le) xc
        · exact absurd (.inr (hp0.trans hx)) (a1 w0 hw0)
      · refine List.mem_cons_of_mem _ (T.back e z x hx ?_)
        rcases List.mem_cons.mp hw0 with rfl | hw0
        · rcases up' e (T.cup e z) with ⟨a,k1,k2⟩ | ⟨w,z1,z2⟩
          · refine ⟨w0 ++ [a],List.mem_append_left _ k1,?_⟩
            refine List.prefix_of_prefix_length_le k2 hx ?_
            have l1:=hp0.length_le
            have:w0.length ≠ x.length:=fun w=>xc (hp0.eq_of_length w).symm
            simp; omega
          · exact absurd (Cmp.of (hp0.trans hx) z2) (a1 w z1)
        · exact ⟨w0,List.mem_append_right _ hw0,hp0⟩
theorem zob {S:List (List Int)} {c:List Int} (h:S.Nodup):(insP S c).Nodup:=by
  unfold insP
  split
  · exact h
  · rename_i hc
    exact List.nodup_append.mpr ⟨h,by simp,fun a ha b hb e=>by rw [List.mem_singleton.mp hb] at e; exact hc (e ▸ ha)⟩
theorem zmg {S:List (List Int)} {c x:List Int}:x ∈ insP S c ↔ x ∈ S∨x=c:=by
  unfold insP
  split
  · exact ⟨.inl,fun h=>h.elim id fun e=>by rw [e]; assumption⟩
  · simp
theorem zhd:∀ (l S:List (List Int)),S.Nodup→(l.foldl insP S).Nodup∧∀ x,x ∈ l.foldl insP S ↔ x ∈ S∨x ∈ l
  | [],S,h=>⟨h,fun x=>by simp⟩
  | c :: l,S,h=>by
    obtain ⟨h1,h2⟩:=zhd l (insP S c) (zob h)
    refine ⟨h1,fun x=>?_⟩
    rw [List.foldl_cons,h2,zmg]
    simp [or_assoc]
theorem zoJ {c x:List Int}:x ∈ pS c ↔ x <+: c:=by
  unfold pS
  rw [List.mem_map]
  constructor
  · rintro ⟨k,_,rfl⟩; exact List.take_prefix k c
  · intro h
    refine ⟨x.length,List.mem_range.mpr (by have:=h.length_le; omega),?_⟩
    exact (List.prefix_iff_eq_take.mp h).symm
theorem zl8 (cs:List (List Int)):(zcl cs).Nodup∧∀ x,x ∈ zcl cs ↔ ∃ e ∈ cs,x <+: e:=by
  have key:∀ (cs S:List (List Int)),S.Nodup→(cs.foldl (fun S c=>(pS c).foldl insP S) S).Nodup∧∀ x,x ∈ cs.foldl (fun S c=>(pS c).foldl insP S) S ↔ x ∈ S∨∃ e ∈ cs,x <+: e:=by
    intro cs
    induction cs with
    | nil=>intro S h; exact ⟨h,fun x=>by simp⟩
    | cons c cs ih =>
      intro S h
      obtain ⟨f1,f2⟩:=zhd (pS c) S h
      obtain ⟨h1,h2⟩:=ih _ f1
      refine ⟨h1,fun x=>?_⟩
      rw [List.foldl_cons,h2,f2,zoJ]
      simp only [List.mem_cons,exists_eq_or_imp,or_assoc]
  obtain ⟨h1,h2⟩:=key cs [] List.nodup_nil
  exact ⟨h1,fun x=>by unfold zcl; rw [h2]; simp⟩
theorem zi7 {q:Qs} (hw:∀ c,(q.wy c).Nodup) (hne:∀ c,q.wy c ≠ []) {n:Nat} {b:Bst} {r:Rn} (h:run q n b [[]]=some r):(zcl r.cl).length=r.vs.length:=by
  have T:=ziP hw hne h (by unfold zl7; simp)
  obtain ⟨l1,l2⟩:=zl8 r.cl
  refine ((List.perm_ext_iff_of_nodup l1 T.nd).mpr fun x=>?_).length_eq
  rw [l2]
  exact ⟨fun ⟨e,he,hx⟩=>T.back e he x hx ⟨[],by simp,List.nil_prefix⟩,fun hx=>T.end_ x hx⟩
end My
namespace My
open PySem L2 PM
def encB:Bst→D
  | none=>.non
  | some (c,_)=>encC c
def encK:Bst→D
  | none=>.non
  | some (_,k)=>.int k
structure QOk (q:D) (Q:Qs) (Ok:List Int→Prop):Prop where
  nil:Ok []
  few:Q.st ≤ 40
  len:∀ c,Ok c→c.length ≤ Q.st
  step:∀ c,Ok c→c.length < Q.st→∀ w ∈ Q.wy c,Ok (c ++ [w])
  w2:∀ c,Q.wy c = [1]∨Q.wy c = [0,1]
  low:∀ (c:List Int) (δ:En),Ok c→δ[0]?=some (.v q)→δ[7]?=some (.v (encC c))→mAlt 0 8 (zb4 8 "low" zaH (mVar 0) (zab (mVar 7) mNil)) (zb4 9 "low" zaJ (mVar 0) (zab (mVar 7) mNil)) δ = .ok (.int (Q.low c))
  steps:∀ (δ:En),δ[0]?=some (.v q)→mAlt 0 8 (zb4 8 "steps" zaD (mVar 0) mNil) (zb4 9 "steps" zaE (mVar 0) mNil) δ = .ok (.int Q.st)
  gone:∀ (c:List Int),Ok c→c.length < Q.st→zb6 [q,encC c] = .ok (.lst (((Q.wy c).map fun w=>c ++ [w]).reverse.map encC))
theorem QOk.wl {q:D} {Q:Qs} {Ok:List Int→Prop} (h:QOk q Q Ok) (c:List Int):(Q.wy c).length ≤ 2:=by rcases h.w2 c with e | e <;> rw [e] <;> decide
theorem QOk.wd {q:D} {Q:Qs} {Ok:List Int→Prop} (h:QOk q Q Ok) (c:List Int):(Q.wy c).Nodup:=by rcases h.w2 c with e | e <;> rw [e] <;> decide
theorem QOk.wn {q:D} {Q:Qs} {Ok:List Int→Prop} (h:QOk q Q Ok) (c:List Int):Q.wy c ≠ []:=by rcases h.w2 c with e | e <;> rw [e] <;> decide
def dS (q:D) (M:Int) (b:Bst) (cl:List (List Int)) (k:Nat) (W:List (List Int)) (s7 s8:Sl):En:=[.v q,.v (.int M),.v (encB b),.v (encK b),.o (.lst (cl.map encC)),.v (.int k),.o (.lst (W.reverse.map encC)),s7,s8]
theorem zmS {q:D} {Q:Qs} {Ok:List Int→Prop} (h:QOk q Q Ok) (b:Bst) (c:List Int):(nk Q b c).length ≤ 2:=by
  unfold nk
  split
  · simp
  · rw [List.length_map]; exact h.wl c
theorem zlt {q:D} {Q:Qs} {Ok:List Int→Prop} (h:QOk q Q Ok) {M:Int} {b:Bst} {cl W:List (List Int)} {k:Nat} {c:List Int} {o7 o8:Option D} (ok:Ok c) (hM:(k:Int) + 1 ≤ M) (hcl:cl.length ≤ 100000) (hW:W.length ≤ 100000) :
    zaI (dS q M b cl k (c :: W) (sv o7) (sv o8)) = .nx (dS q M (nb Q b c) (cl ++ ncl Q b c) (k + 1) (nk Q b c ++ W) (.v (encC c)) (.v (.int (Q.low c)))):=by
  have cast:((k + 1:Nat):Int)=(k:Int) + 1:=by omega
  have q1:mAug (fun i j=>i + j) 5 (mC (.int 1)) (dS q M b cl k (c :: W) (sv o7) (sv o8)) = .nx [.v q,.v (.int M),.v (encB b),.v (encK b),.o (.lst (cl.map encC)),.v (.int (k + 1)),.o (.lst ((c :: W).reverse.map encC)),sv o7,sv o8]:=rfl
  have q2:mIfS (zaz (m2 oGt (mRd 5) (mRd 1))) (zhM 3 (zab (mC (.str "more cases than may be looked at")) mNil)) zbm [.v q,.v (.int M),.v (encB b),.v (encK b),.o (.lst (cl.map encC)),.v (.int (k + 1)),.o (.lst ((c :: W).reverse.map encC)),sv o7,sv o8] = .nx [.v q,.v (.int M),.v (encB b),.v (encK b),.o (.lst (cl.map encC)),.v (.int (k + 1)),.o (.lst ((c :: W).reverse.map encC)),sv o7,sv o8]:=by
    rw [zf1]
    · rfl
    · have:¬ M < (k:Int) + 1:=by omega
      simp [zaz,mRd,this]
  have q3:zkt 6 (zat 7) [.v q,.v (.int M),.v (encB b),.v (encK b),.o (.lst (cl.map encC)),.v (.int (k + 1)),.o (.lst ((c :: W).reverse.map encC)),sv o7,sv o8] = .nx [.v q,.v (.int M),.v (encB b),.v (encK b),.o (.lst (cl.map encC)),.v (.int (k + 1)),.o (.lst (W.reverse.map encC)),.v (encC c),sv o8]:=by
    have e:(c :: W).reverse.map encC=W.reverse.map encC ++ [encC c]:=by simp
    rw [e]
    unfold zkt
    dsimp only [List.getElem?_cons_succ,List.getElem?_cons_zero]
    rw [show (W.reverse.map encC ++ [encC c])[(W.reverse.map encC ++ [encC c]).length - 1]?=some (encC c) by simp,List.dropLast_concat]
    dsimp only
    rcases o7 with _ | o7 <;> rfl
  have q4:mAsg (mAlt 0 8 (zb4 8 "low" zaH (mVar 0) (zab (mVar 7) mNil)) (zb4 9 "low" zaJ (mVar 0) (zab (mVar 7) mNil))) (zat 8) [.v q,.v (.int M),.v (encB b),.v (encK b),.o (.lst (cl.map encC)),.v (.int (k + 1)),.o (.lst (W.reverse.map encC)),.v (encC c),sv o8] = .nx [.v q,.v (.int M),.v (encB b),.v (encK b),.o (.lst (cl.map encC)),.v (.int (k + 1)),.o (.lst (W.reverse.map encC)),.v (encC c),.v (.int (Q.low c))]:=za9 (h.low c _ ok rfl rfl) (zdn rfl)
  have t5:mAnd (zaz (m2 zhB (mRd 3) (mC .non))) (zaz (m2 oGe (mRd 8) (mRd 3))) [.v q,.v (.int M),.v (encB b),.v (encK b),.o (.lst (cl.map encC)),.v (.int (k + 1)),.o (.lst (W.reverse.map encC)),.v (encC c),.v (.int (Q.low c))] = .ok (zfU Q b c):=by
    cases b with
    | none =>
      have:zhB (encK none) .non=some (.bl false):=rfl
      simp [mAnd,zaz,mRd,mC,this,zfU]
    | some x =>
      obtain ⟨c0,k0⟩:=x
      have:zhB (encK (some (c0,k0))) .non=some (.bl true):=rfl
      have g:oGe (.int (Q.low c)) (encK (some (c0,k0)))=some (.bl (decide (k0 ≤ Q.low c))):=rfl
      simp [mAnd,zaz,mRd,mC,this,g,zfU]
  have ap:zbY 4 (mVar 7) [.v q,.v (.int M),.v (encB b),.v (encK b),.o (.lst (cl.map encC)),.v (.int (k + 1)),.o (.lst (W.reverse.map encC)),.v (encC c),.v (.int (Q.low c))] = .nx [.v q,.v (.int M),.v (encB b),.v (encK b),.o (.lst ((cl ++ [c]).map encC)),.v (.int (k + 1)),.o (.lst (W.reverse.map encC)),.v (encC c),.v (.int (Q.low c))]:=by
    have:=zdp (i:=4) (me:=mVar 7) (δ:=[.v q,.v (.int M),.v (encB b),.v (encK b),.o (.lst (cl.map encC)),.v (.int (k + 1)),.o (.lst (W.reverse.map encC)),.v (encC c),.v (.int (Q.low c))]) (l:=cl.map encC) (d:=encC c) rfl rfl (by rw [List.length_map]; exact hcl)
    rw [this,List.map_append]; rfl
  unfold zaI
  refine (zar q1).trans ((zar q2).trans ((zar q3).trans ((zar q4).trans ?_)))
  by_cases z:zfU Q b c=true
  · rw [zga (t5.trans (by rw [z])),ap]
    have e:zet Q b c=true:=by unfold zet; rw [z]; rfl
    unfold dS nb ncl nk
    rw [if_pos z,if_pos e,if_pos e,cast]; rfl
  · have z':zfU Q b c=false:=by simpa using z
    rw [zf1 (t5.trans (by rw [z']))]
    have le:fLen [encC c]=some (.int c.length):=by simp [encC]
    have t6:zaz (m2 oEq (mCB fLen (zab (mRd 7) mNil)) (mAlt 0 8 (zb4 8 "steps" zaD (mVar 0) mNil) (zb4 9 "steps" zaE (mVar 0) mNil))) [.v q,.v (.int M),.v (encB b),.v (encK b),.o (.lst (cl.map encC)),.v (.int (k + 1)),.o (.lst (W.reverse.map encC)),.v (encC c),.v (.int (Q.low c))] = .ok (decide (c.length=Q.st)):=by
      have s:=h.steps [.v q,.v (.int M),.v (encB b),.v (encK b),.o (.lst (cl.map encC)),.v (.int (k + 1)),.o (.lst (W.reverse.map encC)),.v (encC c),.v (.int (Q.low c))] rfl
      simp only [zaz,zi5,mCB,zab,mNil,mRd,List.getElem?_cons_succ,List.getElem?_cons_zero,R.bind_ok,le,R.of_some,s,zqr,zpO]
      congr 1
      rw [decide_eq_decide]; omega
    by_cases y:c.length=Q.st
    · rw [zga (t6.trans (by rw [decide_eq_true y]))]
      have e:zet Q b c=true:=by unfold zet; rw [decide_eq_true y]; simp
      refine (zar ap).trans ?_
      have q5:mAsg (mVar 7) (zat 2) [.v q,.v (.int M),.v (encB b),.v (encK b),.o (.lst ((cl ++ [c]).map encC)),.v (.int (k + 1)),.o (.lst (W.reverse.map encC)),.v (encC c),.v (.int (Q.low c))] = .nx [.v q,.v (.int M),.v (encC c),.v (encK b),.o (.lst ((cl ++ [c]).map encC)),.v (.int (k + 1)),.o (.lst (W.reverse.map encC)),.v (encC c),.v (.int (Q.low c))]:=rfl
      refine (zar q5).trans ?_
      unfold dS nb ncl nk
      rw [if_neg z,if_pos y,if_pos e,if_pos e,cast]; rfl
    · rw [zf1 (t6.trans (by rw [decide_eq_false y]))]
      have e:¬ zet Q b c=true:=by unfold zet; rw [z',decide_eq_false y]; simp
      have cl':=h.len c ok
      have g:=h.gone c ok (by omega)
      have wl:=h.wl c
      have ex:zfP 6 (zap zb6 (zab (mVar 0) (zab (mVar 7) mNil))) [.v q,.v (.int M),.v (encB b),.v (encK b),.o (.lst (cl.map encC)),.v (.int (k + 1)),.o (.lst (W.reverse.map encC)),.v (encC c),.v (.int (Q.low c))] = .nx [.v q,.v (.int M),.v (encB b),.v (encK b),.o (.lst (cl.map encC)),.v (.int (k + 1)),.o (.lst ((((Q.wy c).map fun w=>c ++ [w]) ++ W).reverse.map encC)),.v (encC c),.v (.int (Q.low c))]:=by
        unfold zfP
        dsimp only [List.getElem?_cons_succ,List.getElem?_cons_zero]
        have cal:zap zb6 (zab (mVar 0) (zab (mVar 7) mNil)) [.v q,.v (.int M),.v (encB b),.v (encK b),.o (.lst (cl.map encC)),.v (.int (k + 1)),.o (.lst (W.reverse.map encC)),.v (encC c),.v (.int (Q.low c))] = .ok (.lst (((Q.wy c).map fun w=>c ++ [w]).reverse.map encC)):=by
          simp only [zap,zab,mNil,mVar,List.getElem?_cons_succ,List.getElem?_cons_zero,R.bind_ok,g,R.nev_ok]
        rw [cal,R.toO_ok]
        dsimp only
        rw [zbj (by simp only [List.length_map,List.length_reverse]; rw [sizeLine_eq]; omega),List.reverse_append,List.map_append]; rfl
      rw [ex]
      unfold dS nb ncl nk
      rw [if_neg z,if_neg y,if_neg e,if_neg e,cast,List.append_nil]
theorem zor {m n:En→O} {δ δ':En} {x:Xc} (h:m δ = .ex δ' x):mSeq m n δ = .ex δ' x:=by unfold mSeq; rw [h]
theorem znJ {q:D} {M:Int} {b:Bst} {cl W:List (List Int)} {k:Nat} {c:List Int} {s7 s8:Sl} (hM:(k:Int)=M):∃ δ,zaI (dS q M b cl k (c :: W) s7 s8) = .ex δ ⟨3⟩:=by
  have q1:mAug (fun i j=>i + j) 5 (mC (.int 1)) (dS q M b cl k (c :: W) s7 s8) = .nx [.v q,.v (.int M),.v (encB b),.v (encK b),.o (.lst (cl.map encC)),.v (.int (k + 1)),.o (.lst ((c :: W).reverse.map encC)),s7,s8]:=rfl
  have q2:mIfS (zaz (m2 oGt (mRd 5) (mRd 1))) (zhM 3 (zab (mC (.str "more cases than may be looked at")) mNil)) zbm [.v q,.v (.int M),.v (encB b),.v (encK b),.o (.lst (cl.map encC)),.v (.int (k + 1)),.o (.lst ((c :: W).reverse.map encC)),s7,s8] = .ex [.v q,.v (.int M),.v (encB b),.v (encK b),.o (.lst (cl.map encC)),.v (.int (k + 1)),.o (.lst ((c :: W).reverse.map encC)),s7,s8] ⟨3⟩:=by
    rw [zga]
    · unfold zhM
      show (R.ok [D.str "more cases than may be looked at"]).toO _ _=_
      rw [R.toO_ok,zbj (by simp [sizeLine])]
    · have:M < (k:Int) + 1:=by omega
      simp [zaz,mRd,this]
  unfold zaI
  exact ⟨_,(zar q1).trans (zor q2)⟩
theorem ziR {c:En→R Bool} {m:En→O} {n:Nat} {δ δ':En} (h1:c δ = .ok true) (h2:m δ = .nx δ'):zcZ c m (n + 1) δ=zcZ c m n δ':=by
  show (c δ).toO δ _=_
  rw [h1]
  simp only [R.toO_ok,if_true,h2]
theorem zmy {c:En→R Bool} {m:En→O} {n:Nat} {δ δ':En} {x:Xc} (h1:c δ = .ok true) (h2:m δ = .ex δ' x):zcZ c m (n + 1) δ = .ex δ' x:=by
  unfold zcZ
  rw [h1]
  simp only [R.toO_ok,if_true,h2]
theorem zl2 {q:D} {M:Int} {b:Bst} {cl W:List (List Int)} {k:Nat} {s7 s8:Sl}:za3 (dS q M b cl k W s7 s8) = .ok (decide (0 < W.length)):=by
  have le:fLen [.lst (W.reverse.map encC)]=some (.int W.length):=by simp
  unfold dS za3
  simp only [zaz,zi5,mCB,zab,mNil,mRd,mC,List.getElem?_cons_succ,List.getElem?_cons_zero,R.bind_ok,le,R.of_some,zqv,zpO]
  congr 1
  rw [decide_eq_decide]; omega
theorem zkg {q:D} {Q:Qs} {Ok:List Int→Prop} (h:QOk q Q Ok) {M:Int}:∀ (n:Nat) (b:Bst) (W cl:List (List Int)) (k:Nat) (r:Rn) (o7 o8:Option D),run Q n b W=some r→(∀ c ∈ W,Ok c)→W.length + 2 * n ≤ 50000→cl.length + n ≤ 50000→(k:Int) + r.vs.length ≤ M →
    ∃ p7 p8,zcZ za3 zaI (r.vs.length + 1) (dS q M b cl k W (sv o7) (sv o8)) = .nx (dS q M r.b (cl ++ r.cl) (k + r.vs.length) [] (sv p7) (sv p8))
  | n,b,[],cl,k,r,o7,o8,hr,_,_,_,_=>by
    unfold run at hr
    cases hr
    refine ⟨o7,o8,?_⟩
    unfold zcZ
    rw [zl2]
    simp
  | n,b,c :: W,cl,k,r,o7,o8,hr,hW,hn,hc,hM=>by
    obtain ⟨m,r',rfl,h1,rfl⟩:=zd7 hr
    have ok:=hW c (by simp)
    have kl:=zmS h b c
    have ncl1:(ncl Q b c).length ≤ 1:=by unfold ncl; split <;> simp
    simp only [List.length_cons] at hn hM ⊢
    have t:=zlt h (M:=M) (b:=b) (cl:=cl) (W:=W) (k:=k) (o7:=o7) (o8:=o8) ok (by omega) (by omega) (by omega)
    rw [ziR (by rw [zl2]; simp) t]
    obtain ⟨p7,p8,e⟩:=zkg (M:=M) h m (nb Q b c) (nk Q b c ++ W) (cl ++ ncl Q b c) (k + 1) r' (some (encC c)) (some (.int (Q.low c))) h1 (fun x hx=>by
      rcases List.mem_append.mp hx with z | z
      · unfold nk at z
        split at z
        · cases z
        · rename_i ne
          obtain ⟨w,hw,rfl⟩:=List.mem_map.mp z
          have l1:=h.len c ok
          have l2:c.length ≠ Q.st:=fun e=>ne (by unfold zet; simp [e])
          exact h.step c ok (by omega) w hw
      · exact hW x (by simp [z])) (by simp; omega) (by simp; omega) (by omega)
    refine ⟨p7,p8,?_⟩
    rw [show k + (r'.vs.length + 1)=k + 1 + r'.vs.length by omega,← List.append_assoc]
    exact e
theorem zlG {q:D} {Q:Qs} {Ok:List Int→Prop} (h:QOk q Q Ok) {M:Int}:∀ (n:Nat) (b:Bst) (W cl:List (List Int)) (k:Nat) (r:Rn) (o7 o8:Option D),run Q n b W=some r→(∀ c ∈ W,Ok c)→W.length + 2 * n ≤ 50000→cl.length + n ≤ 50000→(k:Int) ≤ M→M < (k:Int) + r.vs.length →
    ∃ m δ,zcZ za3 zaI m (dS q M b cl k W (sv o7) (sv o8)) = .ex δ ⟨3⟩
  | n,b,[],cl,k,r,o7,o8,hr,_,_,_,h1,h2=>by
    unfold run at hr
    cases hr
    simp at h2; omega
  | n,b,c :: W,cl,k,r,o7,o8,hr,hW,hn,hc,hM,hx=>by
    obtain ⟨m,r',rfl,h1,rfl⟩:=zd7 hr
    have ok:=hW c (by simp)
    have kl:=zmS h b c
    have ncl1:(ncl Q b c).length ≤ 1:=by unfold ncl; split <;> simp
    simp only [List.length_cons] at hn hx ⊢
    by_cases e:(k:Int)=M
    · obtain ⟨δ,t⟩:=znJ (q:=q) (M:=M) (b:=b) (cl:=cl) (W:=W) (c:=c) (s7:=sv o7) (s8:=sv o8) e
      exact ⟨1,δ,zmy (by rw [zl2]; simp) t⟩
    · have t:=zlt h (M:=M) (b:=b) (cl:=cl) (W:=W) (k:=k) (o7:=o7) (o8:=o8) ok (by omega) (by omega) (by omega)
      obtain ⟨j,δ,e⟩:=zlG (M:=M) h m (nb Q b c) (nk Q b c ++ W) (cl ++ ncl Q b c) (k + 1) r' (some (encC c)) (some (.int (Q.low c))) h1 (fun x hx=>by
        rcases List.mem_append.mp hx with z | z
        · unfold nk at z
          split at z
          · cases z
          · rename_i ne
            obtain ⟨w,hw,rfl⟩:=List.mem_map.mp z
            have l1:=h.len c ok
            have l2:c.length ≠ Q.st:=fun e=>ne (by unfold zet; simp [e])
            exact h.step c ok (by omega) w hw
        · exact hW x (by simp [z])) (by simp; omega) (by simp; omega) (by omega) (by omega)
      exact ⟨j + 1,δ,(ziR (by rw [zl2]; simp) t).trans e⟩
end My
namespace My
open PySem L2 PM
theorem zgu {q:D} {M:Int} {o:O} (h:mSeq zca (mFrz 4 (mRet (mTup (zab (mVar 2) (zab (mVar 3) (zab (mVar 4) mNil)))))) (dS q M none [] 0 [[]] .no .no)=o):zcv [.v q,.v (.int M),.no,.no,.no,.no,.no,.no,.no]=o:=by
  have q1:mAsg (mC .non) (zat 2) [.v q,.v (.int M),.no,.no,.no,.no,.no,.no,.no] = .nx [.v q,.v (.int M),.v .non,.no,.no,.no,.no,.no,.no]:=rfl
  have q2:mAsg (mC .non) (zat 3) [.v q,.v (.int M),.v .non,.no,.no,.no,.no,.no,.no] = .nx [.v q,.v (.int M),.v .non,.v .non,.no,.no,.no,.no,.no]:=rfl
  have q3:mAsg (mLst mNil) (bNew 4) [.v q,.v (.int M),.v .non,.v .non,.no,.no,.no,.no,.no] = .nx [.v q,.v (.int M),.v .non,.v .non,.o (.lst []),.no,.no,.no,.no]:=za9 (d:=.lst []) (by simp [mLst,mNil,sizeLine]) rfl
  have q4:mAsg (mC (.int 0)) (zat 5) [.v q,.v (.int M),.v .non,.v .non,.o (.lst []),.no,.no,.no,.no] = .nx [.v q,.v (.int M),.v .non,.v .non,.o (.lst []),.v (.int 0),.no,.no,.no]:=rfl
  have q5:mAsg (mLst (zab (mTup mNil) mNil)) (bNew 6) [.v q,.v (.int M),.v .non,.v .non,.o (.lst []),.v (.int 0),.no,.no,.no] = .nx [.v q,.v (.int M),.v .non,.v .non,.o (.lst []),.v (.int 0),.o (.lst [.tup []]),.no,.no]:=za9 (d:=.lst [.tup []]) (by simp [mLst,mTup,zab,mNil,sizeLine]) rfl
  exact (zar q1).trans ((zar q2).trans ((zar q3).trans ((zar q4).trans ((zar q5).trans h))))
def encA (r:Rn):D:=.tup [encB r.b,encK r.b,.lst (r.cl.map encC)]
theorem zgM {q:D} {Q:Qs} {Ok:List Int→Prop} (h:QOk q Q Ok) {n:Nat} {r:Rn} (hr:run Q n none [[]]=some r) (hn:n ≤ 5000) {M:Int} (hM:(r.vs.length:Int) ≤ M):zao [q,.int M] = .ok (encA r):=by
  refine zcB (zgu ?_)
  obtain ⟨p7,p8,e⟩:=zkg (M:=M) h n none [[]] [] 0 r none none hr (fun c hc=>by rw [List.mem_singleton.mp hc]; exact h.nil) (by simp; omega) (by simp; omega) (by simpa using hM)
  have w:=zhr e (fun z=>by cases z)
  refine (zar w).trans ?_
  have z:mTup (zab (mVar 2) (zab (mVar 3) (zab (mVar 4) mNil))) [.v q,.v (.int M),.v (encB r.b),.v (encK r.b),.v (.lst (r.cl.map encC)),.v (.int ((0 + r.vs.length:Nat):Int)),.o (.lst []),sv p7,sv p8] = .ok (encA r):=by
    unfold mTup
    exact zbj (show 3 ≤ sizeLine by decide)
  show (mTup (zab (mVar 2) (zab (mVar 3) (zab (mVar 4) mNil))) [.v q,.v (.int M),.v (encB r.b),.v (encK r.b),.v (.lst (r.cl.map encC)),.v (.int ((0 + r.vs.length:Nat):Int)),.o (.lst []),sv p7,sv p8]).toO _ _=_
  rw [z]; rfl
theorem zlp {q:D} {Q:Qs} {Ok:List Int→Prop} (h:QOk q Q Ok) {n:Nat} {r:Rn} (hr:run Q n none [[]]=some r) (hn:n ≤ 5000) {M:Int} (h0:0 ≤ M) (hM:M < (r.vs.length:Int)):zao [q,.int M] = .ex ⟨3⟩:=by
  obtain ⟨m,δ,e⟩:=zlG (M:=M) h n none [[]] [] 0 r none none hr (fun c hc=>by rw [List.mem_singleton.mp hc]; exact h.nil) (by simp; omega) (by simp; omega) (by simpa using h0) (by simpa using hM)
  have w:=zhr e (fun z=>by cases z)
  refine zoa (δ:=δ) (zgu ?_)
  unfold mSeq
  unfold zca
  have w':zgr za3 zaI (dS q M none [] 0 [[]] .no .no) = .ex δ ⟨3⟩:=w
  rw [w']
theorem catC {cs ws:List Int} (h:cs.length + ws.length ≤ 1000):zla (encC cs) (encC ws)=some (encC (cs ++ ws)):=by
  show ifC _ _ _=_
  rw [zbj (by simp only [List.length_map]; exact zlP (by omega)),← List.map_append]; rfl
theorem zmA {c:Nat} {m:Str} {f:List D→R D} {i:Nat} {ma:En→R D} {δ:En} {S x d:D} (h:δ[i]?=some (.v S)) (io:PM.isObj c m S=some ()) (hx:ma δ = .ok x) (hf:f [S,x] = .ok d):zb4 c m f (mVar i) (zab ma mNil) δ = .ok d:=by
  unfold zb4 zab
  simp only [mVar,h,R.bind_ok,io,R.of_some,hx,mNil,hf,R.nev_ok]
theorem zpr {c:Nat} {m:Str} {f:List D→R D} {i:Nat} {δ:En} {S d:D} (h:δ[i]?=some (.v S)) (io:PM.isObj c m S=some ()) (hf:f [S] = .ok d):zb4 c m f (mVar i) mNil δ = .ok d:=by
  unfold zb4
  simp only [mVar,h,R.bind_ok,io,R.of_some,mNil,hf,R.nev_ok]
theorem zmZ {i:Nat} {δ:En} {d:D} (h:δ[i]?=some (.v d)):mVar i δ = .ok d:=by unfold mVar; rw [h]
theorem zlv {q:D} {c ws:List Int} (hw:mAlt 0 8 (zb4 8 "ways" zaM (mVar 0) (zab (mVar 1) mNil)) (zb4 9 "ways" zaP (mVar 0) (zab (mVar 1) mNil)) [.v q,.v (encC c)] = .ok (iL ws)) (hc:c.length ≤ 100) (hl:ws.length ≤ 100):zb6 [q,encC c] = .ok (.lst ((ws.map fun w=>c ++ [w]).reverse.map encC)):=by
  refine zeB ?_
  show zd3 ze4 [.v q,.v (encC c)]=_
  have k:ze4 [.v q,.v (encC c)] = .ok (.lst ((ws.map fun w=>c ++ [w]).reverse.map encC)):=by
    refine Eq.trans (zb0 (l:=ws.reverse.map .int) (r:=ws.reverse.map fun w=>encC (c ++ [w])) ?_ (by rw [List.length_map,List.length_reverse]; omega) ?_) ?_
    · simp only [mRev,zab,mNil,hw,R.bind_ok]
      show R.of (some (ws.map D.int).reverse)=_
      rw [List.map_reverse]; rfl
    · refine zcp .int (fun w=>encC (c ++ [w])) _ fun w _=>?_
      have ct:zla (encC c) (.tup [.int w])=some (encC (c ++ [w])):=catC (cs:=c) (ws:=[w]) (by simp; omega)
      simp [zed,zaF,zfa,zba,mRd,mTup,zab,mNil,mVar,sizeLine,ct]
    · rw [← List.map_reverse,List.map_map]; rfl
  simp [zd3,k]
theorem alt8 {ks:List Str} {l:List D} {i:Nat} {m1 m2:En→R D} {δ:En} (h:δ[i]?=some (.v (.obj 8 ks l))):mAlt i 8 m1 m2 δ=m1 δ:=by unfold mAlt; rw [h]; rfl
theorem alt9 {ks:List Str} {l:List D} {i:Nat} {m1 m2:En→R D} {δ:En} (h:δ[i]?=some (.v (.obj 9 ks l))):mAlt i 8 m1 m2 δ=m2 δ:=by unfold mAlt; rw [h]; rfl
def zm1 (n:Nat) (sets:List Ps):Qs:=⟨sets.length,lowV n sets,wy n sets⟩
theorem znM {n:Nat} {sets:List Ps} (ok:SetsOk n sets) (h40:sets.length ≤ 40) (hc:∀ t ∈ upto n,∃ s ∈ sets,t ∈ s.2):QOk (zbV n sets) (zm1 n sets) (fun c=>c.length ≤ sets.length∧Cov n sets c) where
  nil:=⟨Nat.zero_le _,znR hc⟩
  few:=h40
  len:=fun c h=>h.1
  step:=fun c h hl w hw=>⟨by simp at hl ⊢; exact hl,zmD hl h.2 hw⟩
  w2:=fun c=>by
    show wy n sets c = [1]∨wy n sets c = [0,1]
    unfold wy
    split
    · exact .inl rfl
    · exact .inr rfl
  low:=fun c δ h h0 h7=>by
    rw [alt8 h0]
    exact zmA h0 (zhg (by decide)) (zmZ h7) (zpM ok h.1 (by omega) h.2)
  steps:=fun δ h0=>by
    rw [alt8 h0]
    exact zpr h0 (zhg (by decide)) zl9
  gone:=fun c h hl=>by
    have w2:(wy n sets c).length ≤ 2:=(zoI n sets c).2
    refine zlv ?_ (by have:=h.1; omega) (by show (wy n sets c).length ≤ 100; omega)
    rw [alt8 rfl]
    exact zmA rfl (zhg (by decide)) rfl (zof ok hl (by omega))
def zjA (r:Int) (ts:List Fr):Qs:=⟨ts.length,fun c=>wrt ts (chA c 1),fun c=>if wgt ts (chA c 0) + (th ts c.length).2 ≤ r then [0,1] else [1]⟩
theorem zkm {r:Int} {ts:List Fr} {m:Str} (h:m ∉ (["room","things"]:List Str)):PM.isObj 9 m (zcE r ts)=some ():=by
  show (if (9:Nat)=9∧m ∉ (["room","things"]:List Str) then some () else none)=some ()
  rw [if_pos ⟨rfl,h⟩]
theorem zjN {r:Int} {ts:List Fr} (h40:ts.length ≤ 40):QOk (zcE r ts) (zjA r ts) (fun c=>c.length ≤ ts.length) where
  nil:=Nat.zero_le _
  few:=h40
  len:=fun c h=>h
  step:=fun c h hl w hw=>by simp at hl ⊢; exact hl
  w2:=fun c=>by
    dsimp only [zjA]
    split
    · exact .inr rfl
    · exact .inl rfl
  low:=fun c δ h h0 h7=>by
    rw [alt9 h0]
    exact zmA h0 (zkm (by decide)) (zmZ h7) (zoB h (by omega))
  steps:=fun δ h0=>by
    rw [alt9 h0]
    exact zpr h0 (zkm (by decide)) zkI
  gone:=fun c h hl=>by
    refine zlv ?_ (by omega) ?_
    · rw [alt9 rfl]
      exact zmA rfl (zkm (by decide)) rfl (zmC hl (by omega))
    · dsimp only [zjA]
      split <;> decide
end My
namespace My
open PySem L2 PM
theorem p12:oPow (.int 10) (.int 12)=some (.int 1000000000000):=zlo ⟨by decide,by decide,by decide⟩
theorem zho (c n:Int):∃ p:Int,(0 ≤ p∧p ≤ 1000000000000000000)∧zaN [.int c,.int n] = .ok (.int p):=by
  have f5:Fit 5:=fitN 1000 (by decide)
  have a1:=zgG (n / 5) (show (0:Int) < 4 by decide)
  have a2:=zgy (n / 5) (show (0:Int) < 4 by decide)
  have a3:=zgG c (show (0:Int) < 1000000000000000001 by decide)
  have a4:=zgy c (show (0:Int) < 1000000000000000001 by decide)
  have a5:=zgG (n / 5) (show (0:Int) < 3 by decide)
  have a6:=zgy (n / 5) (show (0:Int) < 3 by decide)
  have a7:=zgG (n / 5) (show (0:Int) < 30 by decide)
  have a8:=zgy (n / 5) (show (0:Int) < 30 by decide)
  by_cases h0:n % 5=0
  · exact ⟨n / 5 % 4,by omega,by simp [zaN,runF,zb5,zbP,mSeq,mIfS,zaz,mRet,mRd,mC,zbm,mAsg,zat,zcf,zdA,f5,p18,h0]⟩
  · by_cases h1:n % 5=1
    · exact ⟨c % 1000000000000000001,by omega,by simp [zaN,runF,zb5,zbP,mSeq,mIfS,zaz,mRet,mRd,mC,zbm,mAsg,zat,zcf,zdA,f5,p18,h1]⟩
    · by_cases h2:n % 5=2
      · exact ⟨1000000000000000000 - n / 5 % 3,by omega,by simp [zaN,runF,zb5,zbP,mSeq,mIfS,zaz,mRet,mRd,mC,zbm,mAsg,zat,zcf,zdA,f5,p18,h2]⟩
      · exact ⟨n / 5 % 30,by omega,by simp [zaN,runF,zb5,zbP,mSeq,mIfS,zaz,mRet,mRd,mC,zbm,mAsg,zat,zcf,zdA,f5,p18,h0,h1,h2]⟩
theorem zok (cs:List Int) (n:Nat) (hn:n ≤ 8) (hcs:cs.length ≤ 63):∃ sets:List Ps,zcq [iL cs,.int n] = .ok (encP sets)∧(∀ s ∈ sets,Good n s)∧sets.length=cs.length + 1∧∀ t ∈ upto n,∃ s ∈ sets,t ∈ s.2:=by
  have f16:Fit 16:=fitN 2000 (by decide)
  have f1024:Fit 1024:=fitN 2000 (by decide)
  obtain ⟨δ,h1,S,o3,o4,o5,o6,rfl,sl',good⟩:=zcI (b:=bTup 2 (zco (zat 3) (zco (zat 4) bNil))) (m:=zdV) (fun p:Int × Nat=>D.tup [.int (p.2:Int),.int p.1]) (fun pre δ=>∃ (S:List Ps) (o3 o4 o5 o6:Option D),δ = [.v (iL cs),.v (.int n),.o (encP S),sv o3,sv o4,sv o5,sv o6,.no,.no,.no]∧S.length=pre.length∧∀ s ∈ S,Good n s) cs.zipIdx
    (by
      rintro pre ⟨c,k⟩ post δ hall ⟨S,o3,o4,o5,o6,rfl,hl,hg⟩
      obtain ⟨z1,z2,z3⟩:=zfj hall
      dsimp only at z1 z2 z3
      have hk:k < cs.length:=(List.getElem?_eq_some_iff.mp z2).1
      have nm:=zfW c (k:Int) (by omega) (by omega)
      obtain ⟨bs,ebs⟩:∃ bs,bs=num c k / 16:=⟨_,rfl⟩
      obtain ⟨ts,ets⟩:∃ ts:List Int,ts=(upto n).filter fun t=>decide (bs / 2 ^ t.toNat % 2=1):=⟨_,rfl⟩
      obtain ⟨p,⟨p0,p1⟩,hp⟩:=zho c (bs / 1024)
      have q1:mAsg (m2 oDiv (zap za0 (zab (mVar 4) (zab (mVar 3) mNil))) (mC (.int 16))) (zat 5) [.v (iL cs),.v (.int n),.o (encP S),.v (.int k),.v (.int c),sv o5,sv o6,.no,.no,.no] = .nx [.v (iL cs),.v (.int n),.o (encP S),.v (.int k),.v (.int c),.v (.int bs),sv o6,.no,.no,.no]:=by
        refine za9 (d:=.int bs) ?_ (zdn rfl)
        simp [zap,zab,mNil,mVar,mC,nm,zdA,f16,ebs]
      have k1:zev [.v (iL cs),.v (.int n),.o (encP S),.v (.int k),.v (.int c),.v (.int bs),sv o6,.no,.no,.no] = .ok (iL ts):=by
        refine zb0 (l:=(upto n).map .int) (by simp [mRng,zab,mNil,mVar,rngU (show n ≤ 1000 by omega)]) (by rw [List.length_map,zg1]; omega) ?_
        rw [ets]
        refine zdg .int _ _ fun t ht=>?_
        have ht':=mem_upto.mp ht
        have sh:=zpL (t:=t) (by omega) (by omega)
        rw [Int.one_mul] at sh
        have p2:(0:Int) < 2 ^ t.toNat:=Int.pow_pos (by decide)
        have f:Fit (2 ^ t.toNat:Int):=by
          refine fitN (2 ^ 40) ?_
          rw [Int.natAbs_pow]
          exact Nat.pow_le_pow_right (by decide) (by omega)
        have dv:=zdA (i:=bs) p2 f
        simp only [zed,zaF,zfa,zba,zaz,mVar,mRd,mC,zi5]
        simp [sh,dv,zcf]
        by_cases hz:bs / 2 ^ t.toNat % 2=1 <;> simp [dv,zcf,hz]
      have q2:mAsg zev (zat 6) [.v (iL cs),.v (.int n),.o (encP S),.v (.int k),.v (.int c),.v (.int bs),sv o6,.no,.no,.no] = .nx [.v (iL cs),.v (.int n),.o (encP S),.v (.int k),.v (.int c),.v (.int bs),.v (iL ts),.no,.no,.no]:=za9 k1 (zdn rfl)
      have q3:zbY 2 (mTup (zab (zap zaN (zab (mVar 4) (zab (m2 oDiv (mRd 5) (mC (.int 1024))) mNil))) (zab (mVar 6) mNil))) [.v (iL cs),.v (.int n),.o (encP S),.v (.int k),.v (.int c),.v (.int bs),.v (iL ts),.no,.no,.no] = .nx [.v (iL cs),.v (.int n),.o (encP (S ++ [(p,ts)])),.v (.int k),.v (.int c),.v (.int bs),.v (iL ts),.no,.no,.no]:=by
        refine (zdp (l:=S.map encS) (d:=encS (p,ts)) rfl (by simp [mTup,zap,zab,mNil,mVar,mRd,mC,zdA,f1024,hp,encS,sizeLine]) (by rw [List.length_map]; omega)).trans ?_
        simp [encP]
      refine ⟨[.v (iL cs),.v (.int n),.o (encP S),.v (.int k),.v (.int c),sv o5,sv o6,.no,.no,.no],[.v (iL cs),.v (.int n),.o (encP (S ++ [(p,ts)])),.v (.int k),.v (.int c),.v (.int bs),.v (iL ts),.no,.no,.no],?_,.inl ?_,S ++ [(p,ts)],some _,some _,some _,some _,rfl,by simp [hl],fun s hs=>?_⟩
      · rcases o3 with _ | o3 <;> rcases o4 with _ | o4 <;> rfl
      · unfold zdV
        exact (zar q1).trans ((zar q2).trans q3)
      · rcases List.mem_append.mp hs with z | z
        · exact hg s z
        · rw [List.mem_singleton.mp z]
          refine ⟨p0,p1,by rw [ets]; exact (zgz n).filter _,fun t ht=>?_⟩
          rw [ets] at ht
          exact mem_upto.mp (List.mem_filter.mp ht).1)
    [.v (iL cs),.v (.int n),.o (encP []),.no,.no,.no,.no,.no,.no,.no] ⟨[],none,none,none,none,rfl,rfl,fun s hs=>by cases hs⟩
  have sl:S.length=cs.length:=by rw [sl']; simp
  have ok:SetsOk n S:=⟨good,by omega,by omega⟩
  obtain ⟨δ2,h2,p6,p8,p9,rfl⟩:=zcI (b:=bTup 2 (zco (zat 8) (zco (zat 6) bNil))) (m:=zdO) encS (fun pre δ=>∃ p6 p8 p9,δ = [.v (iL cs),.v (.int n),.l (encP S),sv o3,sv o4,sv o5,sv p6,.o (dk (zav [] (things pre))),sv p8,sv p9]) S
    (by
      rintro pre s post δ hall ⟨p6,p8,p9,rfl⟩
      have hs:s ∈ S:=by rw [hall]; simp
      have g:=ok.good s hs
      obtain ⟨o',h⟩:=zfx (i:=9) (j:=7) (by decide) ok.n1 s.2 [.v (iL cs),.v (.int n),.l (encP S),sv o3,sv o4,sv o5,.v (iL s.2),.o (dk (zav [] (things pre))),.v (.int s.1),sv p9] (zav [] (things pre)) p9 rfl rfl (zbO (by simp))
        (fun t ht=>by
          rcases mem_insAll.mp ht with z | z
          · cases z
          · obtain ⟨s',hs',h'⟩:=List.mem_flatMap.mp z
            exact mem_upto.mpr ((ok.good s' (by rw [hall]; exact List.mem_append_left _ hs')).mem t h')) (fun t ht=>mem_upto.mpr (g.mem t ht))
      refine ⟨[.v (iL cs),.v (.int n),.l (encP S),sv o3,sv o4,sv o5,.v (iL s.2),.o (dk (zav [] (things pre))),.v (.int s.1),sv p9],[.v (iL cs),.v (.int n),.l (encP S),sv o3,sv o4,sv o5,.v (iL s.2),.o (dk (zav (zav [] (things pre)) s.2)),.v (.int s.1),sv o'],?_,.inl ?_,some (iL s.2),some (.int s.1),o',?_⟩
      · rcases p6 with _ | p6 <;> rcases p8 with _ | p8 <;> rfl
      · unfold zdO zfQ zff
        exact (zcr (by simp [mItL,mVar])).trans h
      · rw [← zd6]
        have e:things (pre ++ [s])=things pre ++ s.2:=by simp [things]
        rw [e]; rfl)
    [.v (iL cs),.v (.int n),.l (encP S),sv o3,sv o4,sv o5,sv o6,.o (dk []),.no,.no] ⟨o6,none,none,rfl⟩
  have l3:zer [.v (iL cs),.v (.int n),.o (encP S),sv o3,sv o4,sv o5,sv o6,.o (dk []),.no,.no] = .nx [.v (iL cs),.v (.int n),.o (encP S),sv o3,sv o4,sv o5,sv p6,.o (dk (zav [] (things S))),sv p8,sv p9]:=by
    unfold zer zlL
    show unl 2 (zdt _ _ (S.map encS) [.v (iL cs),.v (.int n),.l (encP S),sv o3,sv o4,sv o5,sv o6,.o (dk []),.no,.no])=_
    rw [h2]; rfl
  obtain ⟨ms,ems⟩:∃ ms,ms=(upto n).filter fun t=>!decide (t ∈ zav [] (things S)):=⟨_,rfl⟩
  have k2:zdo [.v (iL cs),.v (.int n),.o (encP S),sv o3,sv o4,sv o5,sv p6,.o (dk (zav [] (things S))),sv p8,sv p9] = .ok (iL ms):=by
    refine zb0 (l:=(upto n).map .int) (by simp [mRng,zab,mNil,mVar,rngU ok.n1]) (by rw [List.length_map,zg1]; omega) ?_
    rw [ems]
    refine zdg .int _ _ fun t _=>?_
    simp [zed,zaF,zfa,zba,zaz,mVar,mRd]
    by_cases hz:t ∈ zav [] (things S) <;> simp [hz]
  refine ⟨S ++ [(7,ms)],zeB ?_,fun s hs=>?_,by simp [sl],fun t ht=>?_⟩
  · show mSeq _ _ [.v (iL cs),.v (.int n),.no,.no,.no,.no,.no,.no,.no,.no]=_
    have e1:mAsg (mLst mNil) (bNew 2) [.v (iL cs),.v (.int n),.no,.no,.no,.no,.no,.no,.no,.no] = .nx [.v (iL cs),.v (.int n),.o (encP []),.no,.no,.no,.no,.no,.no,.no]:=za9 (d:=encP []) (by simp [mLst,mNil,encP,sizeLine]) rfl
    have e2:zfY [.v (iL cs),.v (.int n),.o (encP []),.no,.no,.no,.no,.no,.no,.no] = .nx [.v (iL cs),.v (.int n),.o (encP S),sv o3,sv o4,sv o5,sv o6,.no,.no,.no]:=(zcr (by simp [zlc,zab,mNil,mVar,iL,zkv,asL',zgX,List.zipIdx_map])).trans h1
    have e3:mAsg (mC (.dct [] [])) (bNew 7) [.v (iL cs),.v (.int n),.o (encP S),sv o3,sv o4,sv o5,sv o6,.no,.no,.no] = .nx [.v (iL cs),.v (.int n),.o (encP S),sv o3,sv o4,sv o5,sv o6,.o (dk []),.no,.no]:=rfl
    refine (zar e1).trans ((zar e2).trans ((zar e3).trans ((zar l3).trans ?_)))
    have ct:oCat (.lst (S.map encS)) (.lst [encS (7,ms)])=some (encP (S ++ [(7,ms)])):=by
      rw [zpJ (by simp; omega)]; simp [encP]
    have ls:mLst (zab (mTup (zab (mC (.int 7)) (zab zdo mNil))) mNil) [.v (iL cs),.v (.int n),.o (encP S),sv o3,sv o4,sv o5,sv p6,.o (dk (zav [] (things S))),sv p8,sv p9] = .ok (.lst [encS (7,ms)]):=by
      simp [mLst,mTup,zab,mNil,mC,k2,sizeLine,encS]
    have:m2 oCat (mRd 2) (mLst (zab (mTup (zab (mC (.int 7)) (zab zdo mNil))) mNil)) [.v (iL cs),.v (.int n),.o (encP S),sv o3,sv o4,sv o5,sv p6,.o (dk (zav [] (things S))),sv p8,sv p9] = .ok (encP (S ++ [(7,ms)])):=by
      rw [zi5,ls]
      show ((R.ok (D.lst (S.map encS))).bind _)=_
      rw [R.bind_ok,R.bind_ok,ct]; rfl
    unfold zd3
    rw [this]; rfl
  · rcases List.mem_append.mp hs with z | z
    · exact good s z
    · rw [List.mem_singleton.mp z]
      refine ⟨show (0:Int) ≤ 7 by decide,show (7:Int) ≤ 1000000000000000000 by decide,by rw [ems]; exact (zgz n).filter _,fun t ht=>?_⟩
      rw [ems] at ht
      exact mem_upto.mp (List.mem_filter.mp ht).1
  · by_cases z:t ∈ zav [] (things S)
    · rcases mem_insAll.mp z with z | z
      · cases z
      · obtain ⟨s,hs,h⟩:=List.mem_flatMap.mp z
        exact ⟨s,by simp [hs],h⟩
    · exact ⟨(7,ms),by simp,by rw [ems]; exact List.mem_filter.mpr ⟨ht,by simpa using z⟩⟩
theorem zhZ (ns:List Int) (f:Int):∃ q Q Ok,zbo [.scr ns,.int f] = .ok q∧QOk q Q Ok∧Q.st ≤ 7:=by
  have f2:Fit 2:=fitN 1000 (by decide)
  have f64:Fit 64:=fitN 1000 (by decide)
  have f32:Fit 32:=fitN 1000 (by decide)
  by_cases hf:f % 2=0
  · have a0:=zgG (f / 2) (show (0:Int) < 8 by decide)
    have a1:=zgy (f / 2) (show (0:Int) < 8 by decide)
    obtain ⟨n,en⟩:∃ n:Nat,f / 2 % 8=(n:Int):=⟨(f / 2 % 8).toNat,by omega⟩
    obtain ⟨cs,hcut,hcl,hc6⟩:∃ cs:List Int,cutD (ns.map D.int) (some 2) (some 8)=cs.map D.int∧cs.length ≤ ns.length∧cs.length ≤ 6:=by
      obtain ⟨cs,h1,h2⟩:=ziJ ns (some 2) (some 8)
      refine ⟨cs,h1,h2,?_⟩
      have:=congrArg List.length h1
      rw [List.length_map] at this
      rw [← this]
      unfold cutD
      have e1:HT.sIx (ns.map D.int).length 0 (some 2)=min 2 (ns.map D.int).length:=rfl
      have e2:HT.sIx (ns.map D.int).length (ns.map D.int).length (some 8)=min 8 (ns.map D.int).length:=rfl
      rw [e1,e2,List.length_take,List.length_drop]
      omega
    obtain ⟨sets,hs,hg,hl,hc⟩:=zok cs n (by omega) (by omega)
    have ok:SetsOk n sets:=⟨hg,by omega,by omega⟩
    refine ⟨zbV n sets,zm1 n sets,_,zcB ?_,znM ok (by omega) hc,by show sets.length ≤ 7; omega⟩
    show mSeq _ _ [.v (.scr ns),.v (.int f),.no,.no,.no]=_
    refine zkk ?_
    have sl:mSl (mRd 0) (ze3 (mC (.int 2))) (ze3 (mC (.int 8))) [.v (.scr ns),.v (.int f),.no,.no,.no] = .ok (iL cs):=by
      simp only [mSl,mRd,ze3,mC,List.getElem?_cons_zero,R.bind_ok,zpR,R.of_some,asL,hcut]
      rfl
    rw [zga (by simp [zaz,mRd,mC,zcf,hf])]
    have it:=zn4 ok hc
    simp [mRet,zap,zab,mNil,mRd,mC,zdA,f2,zcf,en,sl,hs,it]
  · obtain ⟨cs,hcut,hcl,hc7⟩:∃ cs:List Int,cutD (ns.map D.int) (some 2) (some 9)=cs.map D.int∧cs.length ≤ ns.length∧cs.length ≤ 7:=by
      obtain ⟨cs,h1,h2⟩:=ziJ ns (some 2) (some 9)
      refine ⟨cs,h1,h2,?_⟩
      have:=congrArg List.length h1
      rw [List.length_map] at this
      rw [← this]
      unfold cutD
      have e1:HT.sIx (ns.map D.int).length 0 (some 2)=min 2 (ns.map D.int).length:=rfl
      have e2:HT.sIx (ns.map D.int).length (ns.map D.int).length (some 9)=min 9 (ns.map D.int).length:=rfl
      rw [e1,e2,List.length_take,List.length_drop]
      omega
    obtain ⟨δ,h1,ts,o3,o4,rfl,hl⟩:=zcI (b:=bTup 2 (zco (zat 3) (zco (zat 4) bNil))) (m:=zdw) (fun p:Int × Nat=>D.tup [.int (p.2:Int),.int p.1]) (fun pre δ=>∃ (ts:List Fr) (o3 o4:Option D),δ = [.v (.scr ns),.v (.int f),.o (zb8 ts),sv o3,sv o4]∧ts.length=pre.length) cs.zipIdx
      (by
        rintro pre ⟨c,k⟩ post δ hall ⟨ts,o3,o4,rfl,hl⟩
        obtain ⟨z1,z2,z3⟩:=zfj hall
        dsimp only at z1 z2 z3
        have hk:k < cs.length:=(List.getElem?_eq_some_iff.mp z2).1
        have n1:=zfW c (k:Int) (by omega) (by omega)
        have n9:=zfW c ((k:Int) + 9) (by omega) (by omega)
        obtain ⟨p,_,hp⟩:=zho c (num c ((k:Int) + 9) / 64)
        refine ⟨[.v (.scr ns),.v (.int f),.o (zb8 ts),.v (.int k),.v (.int c)],[.v (.scr ns),.v (.int f),.o (zb8 (ts ++ [(p,1 + num c k / 32 % 9)])),.v (.int k),.v (.int c)],?_,.inl ?_,ts ++ [(p,1 + num c k / 32 % 9)],some _,some _,rfl,by simp [hl]⟩
        · rcases o3 with _ | o3 <;> rcases o4 with _ | o4 <;> rfl
        · refine (zdp (l:=ts.map encF) (d:=encF (p,1 + num c k / 32 % 9)) rfl (by simp [mTup,zap,zab,mNil,mVar,mRd,mC,n1,n9,zdA,f64,f32,zcf,hp,encF,sizeLine]) (by rw [List.length_map]; omega)).trans ?_
          simp [zb8])
      [.v (.scr ns),.v (.int f),.o (zb8 []),.no,.no] ⟨[],none,none,rfl,rfl⟩
    have tl:ts.length=cs.length:=by rw [hl]; simp
    refine ⟨zcE (f / 2 % 40) ts,zjA (f / 2 % 40) ts,_,zcB ?_,zjN (by omega),by show ts.length ≤ 7; omega⟩
    show mSeq _ _ [.v (.scr ns),.v (.int f),.no,.no,.no]=_
    have e0:mIfS (zaz (m2 oEq (m2 oMod (mRd 1) (mC (.int 2))) (mC (.int 0)))) (mRet (zap zaC (zab (m2 oMod (m2 oDiv (mRd 1) (mC (.int 2))) (mC (.int 8))) (zab (zap zcq (zab (mSl (mRd 0) (ze3 (mC (.int 2))) (ze3 (mC (.int 8)))) (zab (m2 oMod (m2 oDiv (mRd 1) (mC (.int 2))) (mC (.int 8))) mNil))) mNil)))) zbm [.v (.scr ns),.v (.int f),.no,.no,.no] = .nx [.v (.scr ns),.v (.int f),.no,.no,.no]:=by
      rw [zf1 (by simp [zaz,mRd,mC,zcf,hf])]; rfl
    have e1:mAsg (mLst mNil) (bNew 2) [.v (.scr ns),.v (.int f),.no,.no,.no] = .nx [.v (.scr ns),.v (.int f),.o (zb8 []),.no,.no]:=za9 (d:=zb8 []) (by simp [mLst,mNil,zb8,sizeLine]) rfl
    have sl:mSl (mRd 0) (ze3 (mC (.int 2))) (ze3 (mC (.int 9))) [.v (.scr ns),.v (.int f),.o (zb8 []),.no,.no] = .ok (iL cs):=by
      simp only [mSl,mRd,ze3,mC,List.getElem?_cons_zero,R.bind_ok,zpR,R.of_some,asL,hcut]
      rfl
    have e2:zdI [.v (.scr ns),.v (.int f),.o (zb8 []),.no,.no] = .nx [.v (.scr ns),.v (.int f),.o (zb8 ts),sv o3,sv o4]:=(zcr (by simp [zlc,zab,mNil,sl,iL,zkv,asL',zgX,List.zipIdx_map])).trans h1
    refine (zar e0).trans ((zar e1).trans ((zar e2).trans ?_))
    have it:=ziY (r:=f / 2 % 40) (ts:=ts)
    simp [mRet,zap,zab,mNil,mRd,mC,zdA,f2,zcf,it]
end My
namespace My
open PySem L2 PM
theorem zm9 {q:Qs}:∀ {n:Nat} {b:Bst} {W:List (List Int)} {r:Rn},run q n b W=some r→r.cl.length ≤ r.vs.length
  | n,b,[],r,h=>by unfold run at h; cases h; simp
  | n,b,c :: W,r,h=>by
    obtain ⟨m,r',rfl,h1,rfl⟩:=zd7 h
    have:=zm9 h1
    have ncl1:(ncl q b c).length ≤ 1:=by unfold ncl; split <;> simp
    simp; omega
theorem zhE {q:Qs}:∀ {n:Nat} {b:Bst} {W:List (List Int)} {r:Rn},run q n b W=some r→(∀ c ∈ W,c.length ≤ q.st)→∀ c ∈ r.cl,c.length ≤ q.st
  | n,b,[],r,h,_=>by
    unfold run at h
    cases h
    exact fun c hc=>by cases hc
  | n,b,c :: W,r,h,hW=>by
    obtain ⟨m,r',rfl,h1,rfl⟩:=zd7 h
    have hc:=hW c (by simp)
    have ih:=zhE h1 fun x hx=>by
      rcases List.mem_append.mp hx with z | z
      · unfold nk at z
        split at z
        · cases z
        · rename_i ne
          obtain ⟨w,hw,rfl⟩:=List.mem_map.mp z
          have l2:c.length ≠ q.st:=fun e=>ne (by unfold zet; simp [e])
          simp; omega
      · exact hW x (by simp [z])
    intro e he
    rcases List.mem_append.mp he with z | z
    · unfold ncl at z
      split at z
      · rw [List.mem_singleton.mp z]; exact hc
      · cases z
    · exact ih e z
theorem zlu {q:Qs} (h40:q.st ≤ 40) {n:Nat} (hn:n ≤ 5000) {r:Rn} (h:run q n none [[]]=some r):zbv [.lst (r.cl.map encC)] = .ok (.int (zcl r.cl).length):=by
  have v:=zki h
  have c:=zm9 h
  have s:=zhE h fun c hc=>by rw [List.mem_singleton.mp hc]; exact Nat.zero_le _
  unfold zbv ze8
  dsimp only
  rw [zi0]
  dsimp only
  rw [zbj ⟨by omega,fun c hc=>by have:=s c hc; omega⟩]
theorem zkL (c:List Int) (k:Nat):zbc (k + 1) (encC c)=true:=by
  show (c.map D.int).all (zbc k)=true
  rw [List.all_map,List.all_eq_true]
  intro x _
  cases k <;> rfl
theorem zn0 (r:Rn):zbc 8 (encA r)=true:=by
  have a1:zbc 7 (encB r.b)=true:=by
    cases r.b with
    | none=>rfl
    | some x=>exact zkL x.1 6
  have a2:zbc 7 (encK r.b)=true:=by
    cases r.b with
    | none=>rfl
    | some x=>rfl
  have a3:zbc 7 (.lst (r.cl.map encC))=true:=by
    show (r.cl.map encC).all (zbc 6)=true
    rw [List.all_map,List.all_eq_true]
    intro c _
    exact zkL c 5
  show [encB r.b,encK r.b,.lst (r.cl.map encC)].all (zbc 7)=true
  simp [a1,a2,a3]
theorem zgA {q mo:D} {M:Int} (hm:mo = .int M∨mo = .non∧M=2000) (h:zao [q,.int M] = .ex ⟨3⟩):zaK [q,mo] = .ok (.bl true):=by
  refine zcB ?_
  show mSeq _ _ [.v q,.v mo,.no,.no]=_
  have q1:mAsg (mC .non) (zat 2) [.v q,.v mo,.no,.no] = .nx [.v q,.v mo,.v .non,.no]:=rfl
  have q2:mTry (mIfS (zaz (m2 oIs (mRd 1) (mC .non))) (mDo (zf5 zao (zab (mVar 0) (zab (mC (.int 2000)) mNil)))) (mDo (zf5 zao (zab (mVar 0) (zab (mVar 1) mNil))))) zcs 3 (mAsg (mVar 3) (zat 2)) [.v q,.v mo,.v .non,.no] = .nx [.v q,.v mo,.v (.exc 3),.no]:=by
    have:mIfS (zaz (m2 oIs (mRd 1) (mC .non))) (mDo (zf5 zao (zab (mVar 0) (zab (mC (.int 2000)) mNil)))) (mDo (zf5 zao (zab (mVar 0) (zab (mVar 1) mNil)))) [.v q,.v mo,.v .non,.no] = .ex [.v q,.v mo,.v .non,.no] ⟨3⟩:=by
      rcases hm with e | ⟨e,e2⟩
      · subst e
        have t:isN (.int M)=false:=rfl
        rw [zf1 (by simp [zaz,mRd,mC,t])]
        simp [mDo,zf5,zab,mNil,mVar,h,R.toO]
      · subst e e2
        have t:isN .non=true:=rfl
        rw [zga (by simp [zaz,mRd,mC,t])]
        simp [mDo,zf5,zab,mNil,mVar,mC,h,R.toO]
    unfold mTry
    rw [this]
    rfl
  have t0:isN (.exc 3)=false:=rfl
  have t1:zeb zeA (.exc 3)=some (.bl true):=rfl
  have t2:zeb zcL (.exc 3)=some (.bl true):=rfl
  have t3:zeb zez (.exc 3)=some (.bl false):=rfl
  have t4:zeb zdc (.exc 3)=some (.bl false):=rfl
  have t5:zeb zfb (.exc 3)=some (.bl false):=rfl
  have t6:zeb zeE (.exc 3)=some (.bl false):=rfl
  have t7:zeb zeZ (.exc 3)=some (.bl false):=rfl
  refine (zar q1).trans ((zar q2).trans ?_)
  simp [mSeq,mIfS,mOr,mNot,zaz,mRd,mC,zbm,mRet,zom,zlR,t0,t1,t2,t3,t4,t5,t6,t7]
def alk (n:Nat):List Fr:=List.replicate n (1,1)
theorem ziM (n:Nat) (hn:n ≤ 100):za7 [.int n] = .ok (zcE 5 (alk n)):=by
  refine zcB ?_
  show mRet _ [.v (.int n)]=_
  have k:zfm [.v (.int n)] = .ok (zb8 (alk n)):=by
    refine Eq.trans (zb0 (l:=(upt n).map .int) (r:=(upt n).map fun _=>encF (1,1)) (by simp [mRng,zab,mNil,mVar,rngT (show n ≤ 1000 by omega)]) (by rw [List.length_map,zgh]; omega) ?_) ?_
    · exact zcp .int (fun _=>encF (1,1)) _ fun t _=>by simp [zed,zaF,zba,mTup,zab,mNil,mC,sizeLine,encF]
    · unfold zb8 alk upt
      congr 2
      rw [List.map_map,List.map_replicate]
      refine List.eq_replicate_iff.mpr ⟨by simp,fun d hd=>?_⟩
      obtain ⟨_,_,rfl⟩:=List.mem_map.mp hd
      rfl
  have it:=ziY (r:=5) (ts:=alk n)
  simp [mRet,zap,zab,mNil,mC,k,it]
def seeR (o:Option Rn):Option (Option Int × Nat):=o.map fun r=>(r.b.map (·.2),r.vs.length)
set_option maxRecDepth 1000000 in
theorem zp3:seeR (run (zjA 5 (alk 11)) 3000 none [[]])=some (some 6,1385):=by decide +kernel
set_option maxRecDepth 1000000 in
theorem zqw:seeR (run (zjA 5 (alk 12)) 3000 none [[]])=some (some 7,2507):=by decide +kernel
theorem seen {o:Option Rn} {k:Int} {n:Nat} (h:seeR o=some (some k,n)):∃ r,o=some r∧encK r.b = .int k∧r.vs.length=n:=by
  cases o with
  | none=>cases h
  | some r =>
    refine ⟨r,rfl,?_⟩
    obtain ⟨b,cl,vs⟩:=r
    cases b with
    | none=>cases h
    | some x =>
      simp [seeR] at h
      exact ⟨by rw [← h.1]; rfl,h.2⟩
theorem law_true (ns:List Int) (h:ns.length ≤ 63):zpF [.scr ns] = .ok (.bl true):=by
  obtain ⟨f,ef⟩:∃ f,f=ns.getD 0 0 % 1000000000000:=⟨_,rfl⟩
  obtain ⟨q,Q,Ok,hq,hQ,hst⟩:=zhZ ns f
  obtain ⟨r,hr⟩:=ziw (q:=Q) hQ.wl 5000 none [[]] (fun c hc=>by rw [List.mem_singleton.mp hc]; exact Nat.zero_le _) (by
    have:2 ^ (Q.st + 1) ≤ 2 ^ 8:=Nat.pow_le_pow_right (by decide) (by omega)
    simp [szW]
    omega)
  have rv:=zki hr
  have lk:=zlu hQ.few (Nat.le_refl _) hr
  rw [zi7 hQ.wd hQ.wn hr] at lk
  obtain ⟨c1,ec1⟩:∃ c1,c1=ns.getD 1 0:=⟨_,rfl⟩
  have ca0:zaA [.scr ns,.int 0] = .ok (.int (ns.getD 0 0)):=zgw ns 0
  have ca1:zaA [.scr ns,.int 1] = .ok (.int c1):=by rw [ec1]; exact zgw ns 1
  obtain ⟨m,em⟩:∃ m:Int,m=(r.vs.length:Int):=⟨_,rfl⟩
  rw [← em] at lk
  have b1:=zgM hQ hr (Nat.le_refl _) (M:=5000) (by omega)
  have b2:=zgM hQ hr (Nat.le_refl _) (M:=m) (by omega)
  have bx:∀ M:Int,0 ≤ M→M < m→zaK [q,.int M] = .ok (.bl true):=fun M h0 h1=>zgA (.inl rfl) (zlp hQ hr (Nat.le_refl _) h0 (by omega))
  obtain ⟨A,eA⟩:∃ A,A=encA r:=⟨_,rfl⟩
  rw [← eA] at b1 b2
  have i2:oIxT A (.int 2)=some (.lst (r.cl.map encC)):=by rw [eA]; rfl
  have pA:zbc 8 A=true:=by rw [eA]; exact zn0 r
  have ne:oNeD A A=some (.bl false):=znT pA pA rfl
  refine zcB ?_
  show mSeq _ _ [.v (.scr ns),.no,.no,.no,.no,.no,.no,.no]=_
  have q1:mAsg (m2 oMod (zap zaA (zab (mVar 0) (zab (mC (.int 0)) mNil))) (m2 oPow (mC (.int 10)) (mC (.int 12)))) (zat 1) [.v (.scr ns),.no,.no,.no,.no,.no,.no,.no] = .nx [.v (.scr ns),.v (.int f),.no,.no,.no,.no,.no,.no]:=by
    refine za9 (d:=.int f) ?_ rfl
    simp only [zi5,zap,zab,mNil,mVar,mC,List.getElem?_cons_zero,R.bind_ok,ca0,R.nev_ok,p12,R.of_some,zcf (show (0:Int) < 1000000000000 by decide),ef]
  have q2:mAsg (zap zbo (zab (mVar 0) (zab (mVar 1) mNil))) (zat 2) [.v (.scr ns),.v (.int f),.no,.no,.no,.no,.no,.no] = .nx [.v (.scr ns),.v (.int f),.v q,.no,.no,.no,.no,.no]:=by
    refine za9 (d:=q) ?_ rfl
    simp [zap,zab,mNil,mVar,hq]
  have q3:mAsg (zap zao (zab (mVar 2) (zab (mC (.int 5000)) mNil))) (zat 3) [.v (.scr ns),.v (.int f),.v q,.no,.no,.no,.no,.no] = .nx [.v (.scr ns),.v (.int f),.v q,.v A,.no,.no,.no,.no]:=by
    refine za9 (d:=A) ?_ rfl
    simp [zap,zab,mNil,mVar,mC,b1]
  have q4:mAsg (zap zbv (zab (m2 oIxT (mRd 3) (mC (.int 2))) mNil)) (zat 4) [.v (.scr ns),.v (.int f),.v q,.v A,.no,.no,.no,.no] = .nx [.v (.scr ns),.v (.int f),.v q,.v A,.v (.int m),.no,.no,.no]:=by
    refine za9 (d:=.int m) ?_ rfl
    simp [zap,zab,mNil,mRd,mC,i2,lk]
  have q5:mIfS (zaz (m2 oNeD (zap zao (zab (mVar 2) (zab (mVar 4) mNil))) (mRd 3))) (mRet (mC (.bl false))) zbm [.v (.scr ns),.v (.int f),.v q,.v A,.v (.int m),.no,.no,.no] = .nx [.v (.scr ns),.v (.int f),.v q,.v A,.v (.int m),.no,.no,.no]:=by
    simp [mIfS,zaz,zap,zab,mNil,mVar,mRd,b2,ne,zbm]
  obtain ⟨o5,q6⟩:∃ o5:Option D,mIfS (zaz (m2 oGt (mRd 4) (mC (.int 1)))) (mSeq (mAsg (m2 oAdd (mC (.int 1)) (m2 oMod (zap zaA (zab (mVar 0) (zab (mC (.int 1)) mNil))) (m2 oSub (mRd 4) (mC (.int 1))))) (zat 5)) (mIfS (mOr (mNot (zaz (zap zaK (zab (mVar 2) (zab (m2 oSub (mRd 4) (mC (.int 1))) mNil))))) (mNot (zaz (zap zaK (zab (mVar 2) (zab (mVar 5) mNil)))))) (mRet (mC (.bl false))) zbm)) zbm [.v (.scr ns),.v (.int f),.v q,.v A,.v (.int m),.no,.no,.no] = .nx [.v (.scr ns),.v (.int f),.v q,.v A,.v (.int m),sv o5,.no,.no]:=by
    by_cases hm:1 < m
    · have g0:=zgG c1 (show (0:Int) < m - 1 by omega)
      have g1:=zgy c1 (show (0:Int) < m - 1 by omega)
      obtain ⟨w,ew⟩:∃ w,w=1 + c1 % (m - 1):=⟨_,rfl⟩
      refine ⟨some (.int w),?_⟩
      rw [zga (by simp [zaz,mRd,mC,hm])]
      have s1:mAsg (m2 oAdd (mC (.int 1)) (m2 oMod (zap zaA (zab (mVar 0) (zab (mC (.int 1)) mNil))) (m2 oSub (mRd 4) (mC (.int 1))))) (zat 5) [.v (.scr ns),.v (.int f),.v q,.v A,.v (.int m),.no,.no,.no] = .nx [.v (.scr ns),.v (.int f),.v q,.v A,.v (.int m),.v (.int w),.no,.no]:=by
        refine za9 (d:=.int w) ?_ rfl
        simp [mC,zap,zab,mNil,mVar,mRd,ca1,zcf (show (0:Int) < m - 1 by omega),ew]
      refine (zar s1).trans ?_
      have r1:=bx (m - 1) (by omega) (by omega)
      have r2:=bx w (by omega) (by omega)
      simp [mIfS,mOr,mNot,zaz,zap,zab,mNil,mVar,mRd,mC,r1,r2,zbm,sv]
    · refine ⟨none,?_⟩
      rw [zf1 (by simp [zaz,mRd,mC,hm])]; rfl
  refine (zar q1).trans ((zar q2).trans ((zar q3).trans ((zar q4).trans ((zar q5).trans ((zar q6).trans ?_)))))
  have f300:Fit 300:=fitN 1000 (by decide)
  by_cases h7:c1 / 300 % 32=7
  · have q7:mIfS (zaz (m2 oNe (m2 oMod (m2 oDiv (zap zaA (zab (mVar 0) (zab (mC (.int 1)) mNil))) (mC (.int 300))) (mC (.int 32))) (mC (.int 7)))) (mRet (mC (.bl true))) zbm [.v (.scr ns),.v (.int f),.v q,.v A,.v (.int m),sv o5,.no,.no] = .nx [.v (.scr ns),.v (.int f),.v q,.v A,.v (.int m),sv o5,.no,.no]:=by
      rw [zf1 (by simp [zaz,zap,zab,mNil,mVar,mC,ca1,zdA,f300,zcf,h7])]; rfl
    obtain ⟨r11,e11,k11,n11⟩:=seen zp3
    obtain ⟨r12,e12,k12,n12⟩:=seen zqw
    have Q11:=zjN (r:=5) (ts:=alk 11) (by decide)
    have Q12:=zjN (r:=5) (ts:=alk 12) (by decide)
    have b11:=zgM Q11 e11 (by decide) (M:=2000) (by omega)
    have b12:=zgM Q12 e12 (by decide) (M:=3000) (by omega)
    have x12:=zgA (mo:=.non) (.inr ⟨rfl,rfl⟩) (zlp Q12 e12 (by decide) (M:=2000) (by decide) (by omega))
    have a11:za7 [.int 11] = .ok (zcE 5 (alk 11)):=ziM 11 (by decide)
    have a12:za7 [.int 12] = .ok (zcE 5 (alk 12)):=ziM 12 (by decide)
    have j11:oIxT (encA r11) (.int 1)=some (.int 6):=by rw [← k11]; rfl
    have j12:oIxT (encA r12) (.int 1)=some (.int 7):=by rw [← k12]; rfl
    generalize zcE 5 (alk 11)=S11 at b11 a11
    generalize zcE 5 (alk 12)=S12 at b12 a12 x12
    have q8:mAsg (zap za7 (zab (mC (.int 11)) mNil)) (zat 6) [.v (.scr ns),.v (.int f),.v q,.v A,.v (.int m),sv o5,.no,.no] = .nx [.v (.scr ns),.v (.int f),.v q,.v A,.v (.int m),sv o5,.v S11,.no]:=by
      refine za9 (d:=S11) ?_ rfl
      simp [zap,zab,mNil,mC,a11]
    have q9:mAsg (zap za7 (zab (mC (.int 12)) mNil)) (zat 7) [.v (.scr ns),.v (.int f),.v q,.v A,.v (.int m),sv o5,.v S11,.no] = .nx [.v (.scr ns),.v (.int f),.v q,.v A,.v (.int m),sv o5,.v S11,.v S12]:=by
      refine za9 (d:=S12) ?_ rfl
      simp [zap,zab,mNil,mC,a12]
    have q10:mIfS (mOr (zaz (m2 oNe (m2 oIxT (zap zao (zab (mVar 6) (zab (mC (.int 2000)) mNil))) (mC (.int 1))) (mC (.int 6)))) (mNot (zaz (zap zaK (zab (mVar 7) (zab (mC .non) mNil)))))) (mRet (mC (.bl false))) zbm [.v (.scr ns),.v (.int f),.v q,.v A,.v (.int m),sv o5,.v S11,.v S12] = .nx [.v (.scr ns),.v (.int f),.v q,.v A,.v (.int m),sv o5,.v S11,.v S12]:=by
      simp [mIfS,mOr,mNot,zaz,zap,zab,mNil,mVar,mC,b11,j11,x12,zbm]
    refine (zar q7).trans ((zar q8).trans ((zar q9).trans ((zar q10).trans ?_)))
    simp [mRet,zap,zab,mNil,mVar,mC,b12,j12]
  · refine zkk ?_
    rw [zga (by simp [zaz,zap,zab,mNil,mVar,mC,ca1,zdA,f300,zcf,h7])]; rfl
end My
namespace My
open PySem L2 PM PyProof.Rows
def top (i:Nat):Stmt:=PySem.Challenge.pw_goodenough_k41_too_many.main.body.getD i (.Pass ⟨0,0,0,0⟩)
abbrev XO0:XOT:=fun _ _ _ _ _=>False
def zp4:Stmt→Stmt
  | .ClassDef _ _ _ b _ _ _ _ _ _ _=>b.getD 0 (.Pass ⟨0,0,0,0⟩)
  | s=>s
structure Adr where
  EnoughError:Addr
  NoShare:Addr
  NoLengths:Addr
  TooMany:Addr
  NoCover:Addr
  NoRoom:Addr
  NoText:Addr
  CoverQuestion:Addr
  SackQuestion:Addr
  f_NoCover:Addr
def caT (ad:Adr):Nat→Addr
  | 0=>ad.EnoughError
  | 1=>ad.NoShare
  | 2=>ad.NoLengths
  | 3=>ad.TooMany
  | 4=>ad.NoCover
  | 5=>ad.NoRoom
  | 6=>ad.NoText
  | 8=>ad.CoverQuestion
  | 9=>ad.SackQuestion
  | _=>0
def caF (ad:Adr) (c:Nat):Addr:=caT ad (c % 16)
def anT:Nat→Str
  | 4=>"thing"
  | _=>Str.empty
def anF (c:Nat):Str:=anT (c % 16)
abbrev KX (K:PySem.W.Frag) (ad:Adr):Kx:=⟨K,caF ad,anF⟩
def ziH (K:PySem.W.Frag):Sp:=fun vs H Q _=>∃ (a:Addr) (ns:List Int),vs = [.ref a]∧SqL K H a (ns.map V.int)∧ns.length ≤ 63∧∀ H',Q (.bl true) H'
structure Txt (K:PySem.W.Frag) (mg:Str→Option Value) (ad:Adr):Prop where
  len:mg "len"=none
  isinstance:mg "isinstance"=none
  list:mg "list"=none
  sum:mg "sum"=none
  dict:mg "dict"=none
  range:mg "range"=none
  enumerate:mg "enumerate"=none
  reversed:mg "reversed"=none
  max:mg "max"=none
  min:mg "min"=none
  ValueError:mg "ValueError"=none
  m_CoverQuestion:mg "CoverQuestion"=some (.ref ad.CoverQuestion)
  m_SackQuestion:mg "SackQuestion"=some (.ref ad.SackQuestion)
  cl_CoverQuestion:Cls K ad.CoverQuestion
  na_CoverQuestion_cheapest:NoAttr K ad.CoverQuestion "cheapest"
  na_CoverQuestion_many:NoAttr K ad.CoverQuestion "many"
  na_CoverQuestion_sets:NoAttr K ad.CoverQuestion "sets"
  cl_SackQuestion:Cls K ad.SackQuestion
  na_SackQuestion_room:NoAttr K ad.SackQuestion "room"
  na_SackQuestion_things:NoAttr K ad.SackQuestion "things"
  m_EnoughError:mg "EnoughError"=some (.ref ad.EnoughError)
  m_NoShare:mg "NoShare"=some (.ref ad.NoShare)
  m_NoLengths:mg "NoLengths"=some (.ref ad.NoLengths)
  m_TooMany:mg "TooMany"=some (.ref ad.TooMany)
  m_NoCover:mg "NoCover"=some (.ref ad.NoCover)
  m_NoRoom:mg "NoRoom"=some (.ref ad.NoRoom)
  m_NoText:mg "NoText"=some (.ref ad.NoText)
  i_NoCover:zgv K ad.NoCover [.type "ValueError",.type "Exception",.type "BaseException",.type "object"] "ValueError.__new__" ad.f_NoCover=true
  fn_NoCover:PySem.W.isFn K (.ref ad.f_NoCover)=true
  na_NoCover:NoAttr K ad.NoCover "thing"
  e_TooMany:PySem.W.excIn K ad.TooMany [.type "ValueError",.type "Exception",.type "BaseException",.type "object"] "ValueError.__new__"=true
  b_EnoughError:PySem.W.mroIn K ad.EnoughError (.type "BaseException")=some true
  z_TooMany:ExcCls K ad.TooMany
  kc_TooMany_EnoughError:PySem.W.kitCls K (.ref ad.TooMany) (.ref ad.EnoughError)=some true
  k_TooMany_NoShare:PySem.W.kitOne K (.ref ad.TooMany) (.ref ad.NoShare)=some false
  k_TooMany_NoLengths:PySem.W.kitOne K (.ref ad.TooMany) (.ref ad.NoLengths)=some false
  k_TooMany_TooMany:PySem.W.kitOne K (.ref ad.TooMany) (.ref ad.TooMany)=some true
  k_TooMany_NoCover:PySem.W.kitOne K (.ref ad.TooMany) (.ref ad.NoCover)=some false
  k_TooMany_NoRoom:PySem.W.kitOne K (.ref ad.TooMany) (.ref ad.NoRoom)=some false
  k_TooMany_NoText:PySem.W.kitOne K (.ref ad.TooMany) (.ref ad.NoText)=some false
  k_TooMany_ValueError:PySem.W.kitOne K (.ref ad.TooMany) (.type "ValueError")=some true
  z_NoCover:ExcCls K ad.NoCover
  a_NoCover:ExcA K ad.NoCover
  kc_NoCover_EnoughError:PySem.W.kitCls K (.ref ad.NoCover) (.ref ad.EnoughError)=some true
  k_NoCover_NoShare:PySem.W.kitOne K (.ref ad.NoCover) (.ref ad.NoShare)=some false
  k_NoCover_NoLengths:PySem.W.kitOne K (.ref ad.NoCover) (.ref ad.NoLengths)=some false
  k_NoCover_TooMany:PySem.W.kitOne K (.ref ad.NoCover) (.ref ad.TooMany)=some false
  k_NoCover_NoCover:PySem.W.kitOne K (.ref ad.NoCover) (.ref ad.NoCover)=some true
  k_NoCover_NoRoom:PySem.W.kitOne K (.ref ad.NoCover) (.ref ad.NoRoom)=some false
  k_NoCover_NoText:PySem.W.kitOne K (.ref ad.NoCover) (.ref ad.NoText)=some false
  k_NoCover_ValueError:PySem.W.kitOne K (.ref ad.NoCover) (.type "ValueError")=some true
section
variable {P:Program} {w:World} {K:PySem.W.Frag} {mg:Str→Option Value} {base:Heap} {ad:Adr}
theorem zgk (T:Txt K mg ad):∀ c,zcs c=true→PySem.W.kitCls (KX K ad).f (.ref ((KX K ad).ca c)) (.ref ad.EnoughError)=some true:=by
  have key:∀ r,zdz r=true→PySem.W.kitCls K (.ref (caT ad r)) (.ref ad.EnoughError)=some true:=by
    intro c h
    match c,h with
    | 3,_=>exact T.kc_TooMany_EnoughError
    | 4,_=>exact T.kc_NoCover_EnoughError
  exact fun c h=>key (c % 16) h
theorem zjd (T:Txt K mg ad):∀ c b,zeE c=some b→ExcCls (KX K ad).f ((KX K ad).ca c)∧PySem.W.kitOne (KX K ad).f (.ref ((KX K ad).ca c)) (.ref ad.NoShare)=some b:=by
  have key:∀ r b,zfg r=some b→ExcCls K (caT ad r)∧PySem.W.kitOne K (.ref (caT ad r)) (.ref ad.NoShare)=some b:=by
    intro c b h
    match c,h with
    | 3,h=>cases h; exact ⟨T.z_TooMany,T.k_TooMany_NoShare⟩
    | 4,h=>cases h; exact ⟨T.z_NoCover,T.k_NoCover_NoShare⟩
  exact fun c b h=>key (c % 16) b h
theorem zhn (T:Txt K mg ad):∀ c b,zdc c=some b→ExcCls (KX K ad).f ((KX K ad).ca c)∧PySem.W.kitOne (KX K ad).f (.ref ((KX K ad).ca c)) (.ref ad.NoLengths)=some b:=by
  have key:∀ r b,zem r=some b→ExcCls K (caT ad r)∧PySem.W.kitOne K (.ref (caT ad r)) (.ref ad.NoLengths)=some b:=by
    intro c b h
    match c,h with
    | 3,h=>cases h; exact ⟨T.z_TooMany,T.k_TooMany_NoLengths⟩
    | 4,h=>cases h; exact ⟨T.z_NoCover,T.k_NoCover_NoLengths⟩
  exact fun c b h=>key (c % 16) b h
theorem zja (T:Txt K mg ad):∀ c b,zeA c=some b→ExcCls (KX K ad).f ((KX K ad).ca c)∧PySem.W.kitOne (KX K ad).f (.ref ((KX K ad).ca c)) (.ref ad.TooMany)=some b:=by
  have key:∀ r b,zfn r=some b→ExcCls K (caT ad r)∧PySem.W.kitOne K (.ref (caT ad r)) (.ref ad.TooMany)=some b:=by
    intro c b h
    match c,h with
    | 3,h=>cases h; exact ⟨T.z_TooMany,T.k_TooMany_TooMany⟩
    | 4,h=>cases h; exact ⟨T.z_NoCover,T.k_NoCover_TooMany⟩
  exact fun c b h=>key (c % 16) b h
theorem zjq (T:Txt K mg ad):∀ c b,zez c=some b→ExcCls (KX K ad).f ((KX K ad).ca c)∧PySem.W.kitOne (KX K ad).f (.ref ((KX K ad).ca c)) (.ref ad.NoCover)=some b:=by
  have key:∀ r b,zfe r=some b→ExcCls K (caT ad r)∧PySem.W.kitOne K (.ref (caT ad r)) (.ref ad.NoCover)=some b:=by
    intro c b h
    match c,h with
    | 3,h=>cases h; exact ⟨T.z_TooMany,T.k_TooMany_NoCover⟩
    | 4,h=>cases h; exact ⟨T.z_NoCover,T.k_NoCover_NoCover⟩
  exact fun c b h=>key (c % 16) b h
theorem zlI (T:Txt K mg ad):∀ c b,zfb c=some b→ExcCls (KX K ad).f ((KX K ad).ca c)∧PySem.W.kitOne (KX K ad).f (.ref ((KX K ad).ca c)) (.ref ad.NoRoom)=some b:=by
  have key:∀ r b,zfM r=some b→ExcCls K (caT ad r)∧PySem.W.kitOne K (.ref (caT ad r)) (.ref ad.NoRoom)=some b:=by
    intro c b h
    match c,h with
    | 3,h=>cases h; exact ⟨T.z_TooMany,T.k_TooMany_NoRoom⟩
    | 4,h=>cases h; exact ⟨T.z_NoCover,T.k_NoCover_NoRoom⟩
  exact fun c b h=>key (c % 16) b h
theorem zj9 (T:Txt K mg ad):∀ c b,zeZ c=some b→ExcCls (KX K ad).f ((KX K ad).ca c)∧PySem.W.kitOne (KX K ad).f (.ref ((KX K ad).ca c)) (.ref ad.NoText)=some b:=by
  have key:∀ r b,zfy r=some b→ExcCls K (caT ad r)∧PySem.W.kitOne K (.ref (caT ad r)) (.ref ad.NoText)=some b:=by
    intro c b h
    match c,h with
    | 3,h=>cases h; exact ⟨T.z_TooMany,T.k_TooMany_NoText⟩
    | 4,h=>cases h; exact ⟨T.z_NoCover,T.k_NoCover_NoText⟩
  exact fun c b h=>key (c % 16) b h
theorem zg5 (T:Txt K mg ad):∀ c b,zcL c=some b→ExcCls (KX K ad).f ((KX K ad).ca c)∧PySem.W.kitOne (KX K ad).f (.ref ((KX K ad).ca c)) (.type "ValueError")=some b:=by
  have key:∀ r b,zdZ r=some b→ExcCls K (caT ad r)∧PySem.W.kitOne K (.ref (caT ad r)) (.type "ValueError")=some b:=by
    intro c b h
    match c,h with
    | 3,h=>cases h; exact ⟨T.z_TooMany,T.k_TooMany_ValueError⟩
    | 4,h=>cases h; exact ⟨T.z_NoCover,T.k_NoCover_ValueError⟩
  exact fun c b h=>key (c % 16) b h
theorem zgb (T:Txt K mg ad):∀ c,zbh c=true→Cls (KX K ad).f ((KX K ad).ca c)∧NoAttr (KX K ad).f ((KX K ad).ca c) "cheapest":=by
  intro c h
  match c,h with
  | 8,_=>exact ⟨T.cl_CoverQuestion,T.na_CoverQuestion_cheapest⟩
theorem zcQ (T:Txt K mg ad):Cls (KX K ad).f ((KX K ad).ca 8)∧NoAttr (KX K ad).f ((KX K ad).ca 8) "cheapest":=⟨T.cl_CoverQuestion,T.na_CoverQuestion_cheapest⟩
theorem znZ (T:Txt K mg ad):∀ c,zf6 c=true→Cls (KX K ad).f ((KX K ad).ca c)∧NoAttr (KX K ad).f ((KX K ad).ca c) "many":=by
  intro c h
  match c,h with
  | 8,_=>exact ⟨T.cl_CoverQuestion,T.na_CoverQuestion_many⟩
theorem zdW (T:Txt K mg ad):Cls (KX K ad).f ((KX K ad).ca 8)∧NoAttr (KX K ad).f ((KX K ad).ca 8) "many":=⟨T.cl_CoverQuestion,T.na_CoverQuestion_many⟩
theorem zn8 (T:Txt K mg ad):∀ c,zha c=true→Cls (KX K ad).f ((KX K ad).ca c)∧NoAttr (KX K ad).f ((KX K ad).ca c) "room":=by
  intro c h
  match c,h with
  | 9,_=>exact ⟨T.cl_SackQuestion,T.na_SackQuestion_room⟩
theorem zee (T:Txt K mg ad):Cls (KX K ad).f ((KX K ad).ca 9)∧NoAttr (KX K ad).f ((KX K ad).ca 9) "room":=⟨T.cl_SackQuestion,T.na_SackQuestion_room⟩
theorem zg9 (T:Txt K mg ad):∀ c,zcC c=true→Cls (KX K ad).f ((KX K ad).ca c)∧NoAttr (KX K ad).f ((KX K ad).ca c) "sets":=by
  intro c h
  match c,h with
  | 8,_=>exact ⟨T.cl_CoverQuestion,T.na_CoverQuestion_sets⟩
theorem zb3 (T:Txt K mg ad):Cls (KX K ad).f ((KX K ad).ca 8)∧NoAttr (KX K ad).f ((KX K ad).ca 8) "sets":=⟨T.cl_CoverQuestion,T.na_CoverQuestion_sets⟩
theorem zeG (T:Txt K mg ad):∀ c,zcz c=true→Cls (KX K ad).f ((KX K ad).ca c)∧NoAttr (KX K ad).f ((KX K ad).ca c) "things":=by
  intro c h
  match c,h with
  | 9,_=>exact ⟨T.cl_SackQuestion,T.na_SackQuestion_things⟩
theorem zdC (T:Txt K mg ad):Cls (KX K ad).f ((KX K ad).ca 9)∧NoAttr (KX K ad).f ((KX K ad).ca 9) "things":=⟨T.cl_SackQuestion,T.na_SackQuestion_things⟩
theorem zjl (k:Nat):caF ad (4 + 16 * (k + 1))=ad.NoCover:=by
  unfold caF
  rw [show (4 + 16 * (k + 1)) % 16=4 by omega]; rfl
theorem zjt (k:Nat):anF (4 + 16 * (k + 1)) = "thing":=by
  unfold anF
  rw [show (4 + 16 * (k + 1)) % 16=4 by omega]; rfl
theorem zpZ (T:Txt K mg ad):∀ c,zlM c=true→ExcCls (KX K ad).f ((KX K ad).ca c)∧NoAttr (KX K ad).f ((KX K ad).ca c) "thing"∧(KX K ad).an c = "thing":=by
  have key:∀ r,zhy r=true→ExcCls K (caT ad r)∧NoAttr K (caT ad r) "thing"∧anT r = "thing":=by
    intro c h
    match c,h with
    | 4,_=>exact ⟨T.z_NoCover,T.na_NoCover,rfl⟩
  exact fun c h=>key (c % 16) h
abbrev zbn:Stmt:=zp4 (top 6)
theorem zfC:FnScope ["self","thing"] ["self","thing"] (zah zbn):=⟨rfl,rfl,rfl,by decide +kernel,rfl,by decide +kernel,by decide +kernel⟩
theorem zfT {f:Addr} {fd:FuncData} (F:Fun K "__init__" "NoCover.__init__" zbn f fd):FnOk P w K mg base CX0 1 f fd ["self","thing"] (spI K "thing"):=by
  refine F.ok zfC (fun vs H Q E h=>znV h) (fun cdv A outer s H vs Q E hr h=>?_)
  obtain ⟨e,C,xs,n,rfl,hH,zA,zN,q⟩:=h
  exact ⟨_,zan (znD (pv 0) (pv 1) rfl),_,rfl,_,rfl,e,C,xs,rfl,hH,zA,zN,fun dx hd=>q dx hd⟩
abbrev zdd:Stmt:=top 22
theorem zgl:FnScope ["_law_script","_law_k"] ["_law_script","_law_k"] (zah zdd):=⟨rfl,rfl,rfl,by decide +kernel,rfl,by decide +kernel,by decide +kernel⟩
theorem zgn {f:Addr} {fd:FuncData} (F:Fun K "_law_cell_at" "_law_cell_at" zdd f fd) (T:Txt K mg ad)  : FnOk P w K mg base CX0 1 f fd ["_law_script","_law_k"] (spM (KX K ad) (xoK (KX K ad)) zaA):=by
  refine F.ok zgl (fun vs H Q E h=>zbX h) (fun cdv A outer s H vs Q E hr h=>?_)
  have hu:=zcn hr
  exact ⟨_,(zae (zdb (zbb zp8 (pv 1) (zaO za1 (by rfl) T.len PySem.boot_len (zaa (pv 0) zaf)) (zbN _))
      (zan (zaR (zcX zcS (pv 0) (pv 1) (fun _ _=>rfl))))
      zbG)
      (zan (zaR zal))),zeK (K:=(KX K ad)) (XO:=(xoK (KX K ad))) (E:=E) (np:=2) (nv:=0) (m:=zcj)
      (zaw (zdk (za8 (zau zqb zad ((ze0 zeF (za5 zad zbw))).r))
      (zbs (zau zej zad zad))
      zbH)
      (zbs zaj)) rfl h⟩
abbrev zdR:Stmt:=top 23
theorem zgT:FnScope ["_law_cell","_law_k"] ["_law_cell","_law_k"] (zah zdR):=⟨rfl,rfl,rfl,by decide +kernel,rfl,by decide +kernel,by decide +kernel⟩
theorem zgK {f:Addr} {fd:FuncData} (F:Fun K "_law_number" "_law_number" zdR f fd) (T:Txt K mg ad)  : FnOk P w K mg base CX0 1 f fd ["_law_cell","_law_k"] (spM (KX K ad) (xoK (KX K ad)) za0):=by
  refine F.ok zgT (fun vs H Q E h=>zbX h) (fun cdv A outer s H vs Q E hr h=>?_)
  have hu:=zcn hr
  exact ⟨_,(zan (zaR (zaX zce (zaX zh8 (zaX zdU (zaX zdU (zaX zce (pv 0) (zaX ziN zal zal)) (zaX zh8 (pv 1) (pv 1))) zal) (zaX zdU zal (zaX zh8 zal (pv 1)))) zal))),zeK (K:=(KX K ad)) (XO:=(xoK (KX K ad))) (E:=E) (np:=2) (nv:=0) (m:=zdS)
      (zbs (zau zch ((zau zjT ((zau zek ((zau zek ((zau zch zad ((zau ziK (zaj).r (zaj).r)).r)).r ((zau zjT zad zad)).r)).r (zaj).r)).r ((zau zek (zaj).r ((zau zjT (zaj).r zad)).r)).r)).r (zaj).r)) rfl h⟩
abbrev zd0:Stmt:=top 24
theorem sc_law_amount:FnScope ["_law_cell","_law_number_here","_law_way","_law_part"] ["_law_cell","_law_number_here"] (zah zd0):=⟨rfl,rfl,rfl,by decide +kernel,rfl,by decide +kernel,by decide +kernel⟩
theorem zg2 {f:Addr} {fd:FuncData} (F:Fun K "_law_amount" "_law_amount" zd0 f fd) (T:Txt K mg ad)  : FnOk P w K mg base CX0 1 f fd ["_law_cell","_law_number_here"] (spM (KX K ad) (xoK (KX K ad)) zaN):=by
  refine F.ok sc_law_amount (fun vs H Q E h=>zbX h) (fun cdv A outer s H vs Q E hr h=>?_)
  have hu:=zcn hr
  exact ⟨_,(zae (zaU (i:=2) sc_law_amount.nd rfl (by first | exact Or.inl rfl | exact Or.inr rfl) (zaX zce (pv 1) zal))
      (zae (zaU (i:=3) sc_law_amount.nd rfl (by first | exact Or.inl rfl | exact Or.inr rfl) (zaX zb1 (pv 1) zal))
      (zae (zdb (zbb zhm (pv 2) zal (zbN _))
      (zan (zaR (zaX zce (pv 3) zal)))
      zbG)
      (zae (zdb (zbb zhm (pv 2) zal (zbN _))
      (zan (zaR (zaX zce (pv 0) (zaX zdU (zaX ziN zal zal) zal))))
      zbG)
      (zae (zdb (zbb zhm (pv 2) zal (zbN _))
      (zan (zaR (zaX zkR (zaX ziN zal zal) (zaX zce (pv 3) zal))))
      zbG)
      (zan (zaR (zaX zce (pv 3) zal)))))))),zeK (K:=(KX K ad)) (XO:=(xoK (KX K ad))) (E:=E) (np:=2) (nv:=2) (m:=zbP)
      (zaw (zbp (zau zch zad (zaj).r) zax)
      (zaw (zbp (zau zeg zad (zaj).r) zax)
      (zaw (zdk (za8 (zau zhz zad (zaj).r))
      (zbs (zau zch zad (zaj).r))
      zbH)
      (zaw (zdk (za8 (zau zhz zad (zaj).r))
      (zbs (zau zch zad ((zau zek ((zau ziK (zaj).r (zaj).r)).r (zaj).r)).r))
      zbH)
      (zaw (zdk (za8 (zau zhz zad (zaj).r))
      (zbs (zau zlg ((zau ziK (zaj).r (zaj).r)).r ((zau zch zad (zaj).r)).r))
      zbH)
      (zbs (zau zch zad (zaj).r))))))) rfl h⟩
abbrev zc3:Stmt:=top 26
theorem sc_law_sets:FnScope ["_law_cells","_law_many","_law_sets_here","_law_k","_law_cell","_law_bits","_law_things","_law_there","_law_price","_law_t"] ["_law_cells","_law_many"] (zah zc3):=⟨rfl,rfl,rfl,by decide +kernel,rfl,by decide +kernel,by decide +kernel⟩
theorem zik {f:Addr} {fd:FuncData} (F:Fun K "_law_sets" "_law_sets" zc3 f fd) (T:Txt K mg ad) (G_law_number:Has P w K mg base CX0 1 "_law_number" ["_law_cell","_law_k"] (spM (KX K ad) (xoK (KX K ad)) za0)) (G_law_amount:Has P w K mg base CX0 1 "_law_amount" ["_law_cell","_law_number_here"] (spM (KX K ad) (xoK (KX K ad)) zaN)):FnOk P w K mg base CX0 2 f fd ["_law_cells","_law_many"] (spO (KX K ad) (xoK (KX K ad)) zcq):=by
  refine F.ok sc_law_sets (fun vs H Q E h=>zeD h) (fun cdv A outer s H vs Q E hr h=>?_)
  have hu:=zcn hr
  exact ⟨_,(zae (zaU (i:=2) sc_law_sets.nd rfl (by first | exact Or.inl rfl | exact Or.inr rfl) (zeq zaf))
      (zae (zcH PassesOwn.never rfl (zj2 rfl T.enumerate (zaa (pv 0) zaf)) (zgt rfl (zbK (zaG (i:=3) sc_law_sets.nd rfl (by first | exact Or.inl rfl | exact Or.inr rfl)) (zbK (zaG (i:=4) sc_law_sets.nd rfl (by first | exact Or.inl rfl | exact Or.inr rfl)) zfc)))
      (zae (zaU (i:=5) sc_law_sets.nd rfl (by first | exact Or.inl rfl | exact Or.inr rfl) (zaX zb1 (zbd G_law_number (hr.mono (by decide)) (by rfl) zbA (zaa (pv 4) (zaa (pv 3) zaf))) zal))
      (zae (znz (i:=6) sc_law_sets.nd rfl (by first | exact Or.inl rfl | exact Or.inr rfl) rfl (zc2 rfl T.range (zaa (pv 1) zaf)) (zdX (zah zc3) ["_law_cells","_law_many","_law_sets_here","_law_k","_law_cell","_law_bits","_law_things","_law_there","_law_price","_law_t"] ["_law_bits","_law_t"] [5] 1 rfl rfl rfl (by decide +kernel) (by decide +kernel) (by decide +kernel) rfl (by decide +kernel) (fun cl C s H fp pins=>(zaG (i:=1) (show List.Nodup (["_law_bits","_law_t"]:List Str) by decide +kernel) rfl (Or.inl rfl))) (fun cl C s H fp pins=>(pv 1)) (Or.inr ⟨_,_,rfl,rfl,fun cl C s H fp pins=>(zbb zhm (zaX zce (zaX zb1 (pv 0) (zaX zpi zal (pv 1))) zal) zal (zbN _))⟩)) rfl)
      (zan (zdm (zjw PySem.F.plainAttrs_list PySem.F.slot_list_append PySem.F.type_list_append zcY (pv 2) (zaa (zfh (zaa (zbd G_law_amount (hr.mono (by decide)) (by rfl) zbA (zaa (pv 4) (zaa (zaX zb1 (pv 5) zal) zaf))) (zaa (pv 6) zaf))) zaf)))))))
      (zae (zaU (i:=7) sc_law_sets.nd rfl (by first | exact Or.inl rfl | exact Or.inr rfl) zfv)
      (zae (zcH PassesOwn.never rfl (zbR (pv 2)) (zgt rfl (zbK (zaG (i:=8) sc_law_sets.nd rfl (by first | exact Or.inl rfl | exact Or.inr rfl)) (zbK (zaG (i:=6) sc_law_sets.nd rfl (by first | exact Or.inl rfl | exact Or.inr rfl)) zfc)))
      (zan (zcH PassesOwn.never rfl (zbR (pv 6)) (zaG (i:=9) sc_law_sets.nd rfl (by first | exact Or.inl rfl | exact Or.inr rfl))
      (zan (zfN hu (pv 7) (pv 9) zgp rfl)))))
      (zan (zaR (zaX zov (pv 2) (zeq (zaa (zfh (zaa zal (zaa (zcK rfl (zc2 rfl T.range (zaa (pv 1) zaf)) (zdX (zah zc3) ["_law_cells","_law_many","_law_sets_here","_law_k","_law_cell","_law_bits","_law_things","_law_there","_law_price","_law_t"] ["_law_there","_law_t"] [7] 1 rfl rfl rfl (by decide +kernel) (by decide +kernel) (by decide +kernel) rfl (by decide +kernel) (fun cl C s H fp pins=>(zaG (i:=1) (show List.Nodup (["_law_there","_law_t"]:List Str) by decide +kernel) rfl (Or.inl rfl))) (fun cl C s H fp pins=>(pv 1)) (Or.inr ⟨_,_,rfl,rfl,fun cl C s H fp pins=>(ziu (zeH hu (pv 1) (pv 0)))⟩))) zaf))) zaf))))))))),zfL (K:=(KX K ad)) (XO:=(xoK (KX K ad))) (E:=E) (np:=2) (nv:=8) (m:=zgD)
      (zaw (zeR (zcR zaq))
      (zaw (zdK (zj5 (zac zam zaq)) (zgE (zbL zax (zbL zax ze5)))
      (zaw (zbp (zau zeg ((zaQ (zac zam (zac zam zaq)))).r (zaj).r) zax)
      (zaw (zbp ((zbZ (zdJ len1 (zac zam zaq)).c (by decide) zbB zbW (Or.inr ⟨_,_,rfl,rfl,(za8 (zau zhz ((zau zch ((zau zeg zad ((zau zpw (zaj).r zad)).r)).r (zaj).r)).r (zaj).r))⟩) zam)).e zax)
      (zdQ (zfG (zac (zaQ (zac zam (zac (zau zeg zad (zaj).r) zaq))) (zac zam zaq)))))))
      (zaw (zeR zft)
      (zaw (zny (zgE (zbL zax (zbL zax ze5)))
      (zdK (zes zam) zax
      (zgS zam zg6)))
      (zdf (zpc zoL zad ((zcR (zac (zfG (zac zaj (zac ((zbZ (zdJ len1 (zac zam zaq)).c (by decide) zbB zbW (Or.inr ⟨_,_,rfl,rfl,(st_b (zeL zam zad))⟩) zam)).e zaq))) zaq))).e.r)))))) rfl h⟩
abbrev zb9:Stmt:=top 13
theorem sc_refuse_missing:FnScope ["many","sets","held","one","thing"] ["many","sets"] (zah zb9):=⟨rfl,rfl,rfl,by decide +kernel,rfl,by decide +kernel,by decide +kernel⟩
theorem ze1 {f:Addr} {fd:FuncData} (F:Fun K "refuse_missing" "refuse_missing" zb9 f fd) (T:Txt K mg ad)  (I_NoCover:HasI P w K mg base ad.f_NoCover ["self","thing"] (spI K "thing")):FnOk P w K mg base (CX1 P w) 3 f fd ["many","sets"] (spM (KX K ad) (xoK (KX K ad)) zbl):=by
  refine F.ok1 sc_refuse_missing (fun vs H Q E h=>zbX h) (fun cdv A outer s H vs Q E hr h=>?_)
  have hu:=zcn hr
  exact ⟨_,(zae (zaU (i:=2) sc_refuse_missing.nd rfl (by first | exact Or.inl rfl | exact Or.inr rfl) zfv)
      (zae (zcH PassesOwn.leaving rfl (zbR (pv 1)) (zaG (i:=3) sc_refuse_missing.nd rfl (by first | exact Or.inl rfl | exact Or.inr rfl))
      (zan (zcH PassesOwn.leaving rfl (zbR (zcX zel (pv 3) zal (fun _ _=>rfl))) (zaG (i:=4) sc_refuse_missing.nd rfl (by first | exact Or.inl rfl | exact Or.inr rfl))
      (zan (zfN hu (pv 2) (pv 4) zgp rfl)))))
      (zan (zcH PassesOwn.leaving rfl (zc2 rfl T.range (zaa (pv 0) zaf)) (zaG (i:=4) sc_refuse_missing.nd rfl (by first | exact Or.inl rfl | exact Or.inr rfl))
      (zan (zdb (ziu (zeH hu (pv 4) (pv 2)))
      (zan (zkp rfl rfl (by rfl) T.m_NoCover T.i_NoCover PySem.F.excBase_ValueError (by decide +kernel) PySem.F.excBase_ValueError zoM I_NoCover (hr.mono (by decide)) T.fn_NoCover (zaa (pv 4) zaf)))
      zbG)))))),zeK (K:=(KX K ad)) (XO:=(xoK (KX K ad))) (E:=E) (np:=2) (nv:=3) (m:=zdy)
      (zaw (zeR zft)
      (zaw (zdK (zes zam) zax
      (zdK (zes (zau zeo zad (zaj).r)) zax
      (zgS zam zg6)))
      (zdK (zdJ len1 (zac zam zaq)) zax
      (zdk (st_b (zeL zam zad))
      (zkV (c0:=4) (by decide) (fun k=>(zjl k).symm) zjt T.a_NoCover T.na_NoCover (zac zam zaq))
      zbH)))) rfl h⟩
abbrev zcO:Stmt:=top 17
theorem sc_least_prices:FnScope ["sets","rows","price","things","row","thing"] ["sets"] (zah zcO):=⟨rfl,rfl,rfl,by decide +kernel,rfl,by decide +kernel,by decide +kernel⟩
theorem zfI {f:Addr} {fd:FuncData} (F:Fun K "least_prices" "least_prices" zcO f fd) (T:Txt K mg ad)  : FnOk P w K mg base CX0 1 f fd ["sets"] (spO (KX K ad) (xoK (KX K ad)) zbJ):=by
  refine F.ok sc_least_prices (fun vs H Q E h=>zeD h) (fun cdv A outer s H vs Q E hr h=>?_)
  have hu:=zcn hr
  exact ⟨_,(zae (zaU (i:=1) sc_least_prices.nd rfl (by first | exact Or.inl rfl | exact Or.inr rfl) (zeq (zaa zfv zaf)))
      (zae (zcH PassesOwn.never rfl (znb rfl T.reversed (zaa (pv 0) zaf)) (zgt rfl (zbK (zaG (i:=2) sc_least_prices.nd rfl (by first | exact Or.inl rfl | exact Or.inr rfl)) (zbK (zaG (i:=3) sc_least_prices.nd rfl (by first | exact Or.inl rfl | exact Or.inr rfl)) zfc)))
      (zae (zaU (i:=4) sc_least_prices.nd rfl (by first | exact Or.inl rfl | exact Or.inr rfl) (zf7 zim (by rfl) T.dict boot_dict (zaa (zcX zcS (pv 1) (zqm zpd zal) (fun _ _=>rfl)) zaf)))
      (zae (zcH PassesOwn.never rfl (zbR (pv 3)) (zaG (i:=5) sc_least_prices.nd rfl (by first | exact Or.inl rfl | exact Or.inr rfl))
      (zan (zfN hu (pv 4) (pv 5) (zaO (zkc rfl) (by rfl) T.min boot_min (zaa (pv 2) (zaa (ziF hu (pv 4) (pv 5) (pv 2) (zpq)) zaf))) rfl)))
      (zan (zdm (zjw PySem.F.plainAttrs_list PySem.F.slot_list_append PySem.F.type_list_append zcY (pv 1) (zaa (pv 4) zaf)))))))
      (zan (zaR (zjk rfl (by rfl) T.list (by rfl) T.reversed (pv 1)))))),zfL (K:=(KX K ad)) (XO:=(xoK (KX K ad))) (E:=E) (np:=1) (nv:=5) (m:=zef)
      (zaw (zeR (zcR (zac (zft).e zaq)))
      (zaw (zdK (zpy (zac zam zaq)) (zgE (zbL zax (zbL zax ze5)))
      (zaw (zeR (zkY (zac (zau zej zad ((zqj zoK (zaj).r)).r) zaq)))
      (zaw (zdK (zes zam) zax
      (zgS zam (ze0 znU (za5 zad (za5 ((zjU zad zam zam)).r zbw)))))
      (znp (i:=4) (zdQ zam)))))
      (zdf (zh4 zad)))) rfl h⟩
abbrev zaS:Stmt:=zde (top 19) 0
theorem zcM:FnScope ["self","many","sets"] ["self","many","sets"] (zah zaS):=⟨rfl,rfl,rfl,by decide +kernel,rfl,by decide +kernel,by decide +kernel⟩
theorem zcP {f:Addr} {fd:FuncData} (F:Fun K "__init__" "CoverQuestion.__init__" zaS f fd) (T:Txt K mg ad) (G_refuse_missing:Has P w K mg base (CX1 P w) 3 "refuse_missing" ["many","sets"] (spM (KX K ad) (xoK (KX K ad)) zbl)) (G_least_prices:Has P w K mg base CX0 1 "least_prices" ["sets"] (spO (KX K ad) (xoK (KX K ad)) zbJ)):FnOk P w K mg base (CX1 P w) 4 f fd ["self","many","sets"] (spX (KX K ad) 8 zaC):=by
  refine F.ok1 zcM (fun vs H Q E h=>zkF rfl h) (fun cdv A outer s H vs Q E hr h=>?_)
  have hu:=zcn hr
  exact ⟨_,(zae (zdm (zkU G_refuse_missing (hr.mono (by decide)) (by rfl) zqf (zaa (pv 1) (zaa (pv 2) zaf))))
      (zae (zhO (pv 0) (pv 1) rfl)
      (zae (zhO (pv 0) (zcK rfl (zbR (pv 2)) (zdX (zah zaS) ["self","many","sets"] ["price","things"] [] 2 rfl rfl rfl (by decide +kernel) (by decide +kernel) (by decide +kernel) rfl (by decide +kernel) (fun cl C s H fp pins=>(zgt rfl (zbK (zaG (i:=0) (show List.Nodup (["price","things"]:List Str) by decide +kernel) rfl (Or.inl rfl)) (zbK (zaG (i:=1) (show List.Nodup (["price","things"]:List Str) by decide +kernel) rfl (Or.inl rfl)) zfc)))) (fun cl C s H fp pins=>(zfh (zaa (pv 0) (zaa (zf7 zfi (by rfl) T.list boot_list (zaa (pv 1) zaf)) zaf)))) (Or.inl ⟨rfl,rfl⟩))) rfl)
      (zan (zhO (pv 0) (zbd G_least_prices (hr.mono (by decide)) (by rfl) zbA (zaa (zcU (pv 0) rfl) zaf)) rfl))))),zmW (K:=(KX K ad)) (E:=E) (N:=["self","many","sets"]) (m:=zaT)
      (zfw (zkJ (zg0 (zac zam (zac zam zaq))))
      (zfw (zhR (zdW T) zam)
      (zfw (zld (zb3 T) (zmh (zeP zad) (by decide) (zgE (zbL zbB (zbL zbB ze5))) (znd (zfr zbW (zfr zbW zkb))) (zmF zam (zm8 zlq (za5 zad zbw)))))
      (zjh (zcQ T) (zb3 T))))) rfl h⟩
abbrev zbi:Stmt:=zde (top 20) 0
theorem zc6:FnScope ["self","room","things"] ["self","room","things"] (zah zbi):=⟨rfl,rfl,rfl,by decide +kernel,rfl,by decide +kernel,by decide +kernel⟩
theorem zcT {f:Addr} {fd:FuncData} (F:Fun K "__init__" "SackQuestion.__init__" zbi f fd) (T:Txt K mg ad)  : FnOk P w K mg base CX0 1 f fd ["self","room","things"] (spX (KX K ad) 9 zaB):=by
  refine F.ok zc6 (fun vs H Q E h=>zkF rfl h) (fun cdv A outer s H vs Q E hr h=>?_)
  have hu:=zcn hr
  exact ⟨_,(zae (zhO (pv 0) (pv 1) rfl)
      (zan (zhO (pv 0) (zf7 zfi (by rfl) T.list boot_list (zaa (pv 2) zaf)) rfl))),zmW (K:=(KX K ad)) (E:=E) (N:=["self","room","things"]) (m:=zaY)
      (zfw (zhR (zee T) zam)
      (zkG (zdC T) (zm8 zlq (za5 zad zbw)))) rfl h⟩
abbrev zcN:Stmt:=top 29
theorem sc_law_question:FnScope ["_law_script","_law_first","_law_things","_law_k","_law_cell"] ["_law_script","_law_first"] (zah zcN):=⟨rfl,rfl,rfl,by decide +kernel,rfl,by decide +kernel,by decide +kernel⟩
theorem zf0 {f:Addr} {fd:FuncData} (F:Fun K "_law_question" "_law_question" zcN f fd) (T:Txt K mg ad) (G_law_number:Has P w K mg base CX0 1 "_law_number" ["_law_cell","_law_k"] (spM (KX K ad) (xoK (KX K ad)) za0)) (G_law_amount:Has P w K mg base CX0 1 "_law_amount" ["_law_cell","_law_number_here"] (spM (KX K ad) (xoK (KX K ad)) zaN)) (G_law_sets:Has P w K mg base CX0 2 "_law_sets" ["_law_cells","_law_many"] (spO (KX K ad) (xoK (KX K ad)) zcq)) (G_CoverQuestion___init__:HasC P w K mg base (CX1 P w) 4 "CoverQuestion" ad.CoverQuestion ["self","many","sets"] (spX (KX K ad) 8 zaC)) (G_SackQuestion___init__:HasC P w K mg base CX0 1 "SackQuestion" ad.SackQuestion ["self","room","things"] (spX (KX K ad) 9 zaB)):FnOk P w K mg base CX0 6 f fd ["_law_script","_law_first"] (spM (KX K ad) (xoK (KX K ad)) zbo):=by
  refine F.ok sc_law_question (fun vs H Q E h=>zbX h) (fun cdv A outer s H vs Q E hr h=>?_)
  have hu:=zcn hr
  exact ⟨_,(zae (zdb (zbb zhm (zaX zce (pv 1) zal) zal (zbN _))
      (zan (zaR (zij G_CoverQuestion___init__ (hr.mono (by decide)) (by rfl) zk8 (zaa (zaX zce (zaX zb1 (pv 1) zal) zal) (zaa (zbd G_law_sets (hr.mono (by decide)) (by rfl) zbA (zaa (zg8 zkQ (pv 0) (zgd zal) (zgd zal)) (zaa (zaX zce (zaX zb1 (pv 1) zal) zal) zaf))) zaf)))))
      zbG)
      (zae (zaU (i:=2) sc_law_question.nd rfl (by first | exact Or.inl rfl | exact Or.inr rfl) (zeq zaf))
      (zae (zcH PassesOwn.never rfl (zj2 rfl T.enumerate (zaa (zg8 zkQ (pv 0) (zgd zal) (zgd zal)) zaf)) (zgt rfl (zbK (zaG (i:=3) sc_law_question.nd rfl (by first | exact Or.inl rfl | exact Or.inr rfl)) (zbK (zaG (i:=4) sc_law_question.nd rfl (by first | exact Or.inl rfl | exact Or.inr rfl)) zfc)))
      (zan (zdm (zjw PySem.F.plainAttrs_list PySem.F.slot_list_append PySem.F.type_list_append zcY (pv 2) (zaa (zfh (zaa (zbd G_law_amount (hr.mono (by decide)) (by rfl) zbA (zaa (pv 4) (zaa (zaX zb1 (zbd G_law_number (hr.mono (by decide)) (by rfl) zbA (zaa (pv 4) (zaa (zaX zdU (pv 3) zal) zaf))) zal) zaf))) (zaa (zaX zdU zal (zaX zce (zaX zb1 (zbd G_law_number (hr.mono (by decide)) (by rfl) zbA (zaa (pv 4) (zaa (pv 3) zaf))) zal) zal)) zaf))) zaf)))))
      (zan (zaR (zij G_SackQuestion___init__ (hr.mono (by decide)) (by rfl) zbA (zaa (zaX zce (zaX zb1 (pv 1) zal) zal) (zaa (pv 2) zaf)))))))),zeK (K:=(KX K ad)) (XO:=(xoK (KX K ad))) (E:=E) (np:=2) (nv:=3) (m:=zei)
      (zaw (zdk (za8 (zau zhz ((zau zch zad (zaj).r)).r (zaj).r))
      (zbs ((zfd rfl (zeJ (zau zch ((zau zeg zad (zaj).r)).r (zaj).r) (zeJ ((zc0 (zac ((zhi zad (zgP zaj) (zgP zaj))).e (zac (zau zch ((zau zeg zad (zaj).r)).r (zaj).r) zaq)))).e zis)))).e)
      zbH)
      (zaw (zeR (zcR zaq))
      (zaw (zdK (zj5 (zac ((zhi zad (zgP zaj) (zgP zaj))).e zaq)) (zgE (zbL zax (zbL zax ze5)))
      (zdQ (zfG (zac (zaQ (zac zam (zac (zau zeg ((zaQ (zac zam (zac (zau zek zad (zaj).r) zaq)))).r (zaj).r) zaq))) (zac (zau zek (zaj).r ((zau zch ((zau zeg ((zaQ (zac zam (zac zam zaq)))).r (zaj).r)).r (zaj).r)).r) zaq)))))
      (zbs ((zfd rfl (zeJ (zau zch ((zau zeg zad (zaj).r)).r (zaj).r) (zoq zis)))).e)))) rfl h⟩
abbrev zdr:Stmt:=top 16
theorem zhs:FnScope ["case","choice"] ["case","choice"] (zah zdr):=⟨rfl,rfl,rfl,by decide +kernel,rfl,by decide +kernel,by decide +kernel⟩
theorem zhS {f:Addr} {fd:FuncData} (F:Fun K "chosen_by" "chosen_by" zdr f fd) (T:Txt K mg ad)  : FnOk P w K mg base CX0 1 f fd ["case","choice"] (spO (KX K ad) (xoK (KX K ad)) za4):=by
  refine F.ok zhs (fun vs H Q E h=>zeD h) (fun cdv A outer s H vs Q E hr h=>?_)
  have hu:=zcn hr
  exact ⟨_,(zan (zaR (zcK rfl (zmn rfl T.enumerate (zaa (pv 0) zaf)) (zdX (zah zdr) ["case","choice"] ["choice","number","made"] [1] 2 rfl rfl rfl (by decide +kernel) (by decide +kernel) (by decide +kernel) rfl (by decide +kernel) (fun cl C s H fp pins=>(zgt rfl (zbK (zaG (i:=1) (show List.Nodup (["choice","number","made"]:List Str) by decide +kernel) rfl (Or.inl rfl)) (zbK (zaG (i:=2) (show List.Nodup (["choice","number","made"]:List Str) by decide +kernel) rfl (Or.inl rfl)) zfc)))) (fun cl C s H fp pins=>(pv 1)) (Or.inr ⟨_,_,rfl,rfl,fun cl C s H fp pins=>(zbb zhm (pv 2) (pv 0) (zbN _))⟩))))),zfL (K:=(KX K ad)) (XO:=(xoK (KX K ad))) (E:=E) (np:=2) (nv:=0) (m:=zfF)
      (zdf (zbZ (zlT (zac zam zaq)).c (by decide) (zgE (zbL zbB (zbL zbB ze5))) (znd (zfr zbW (zfr zbW zkb))) (Or.inr ⟨_,_,rfl,rfl,(za8 (zau zhz zad zad))⟩) zam)) rfl h⟩
abbrev zaL:Stmt:=zde (top 19) 1
theorem sc_CoverQuestion_not_covered:FnScope ["self","case","held","number","thing"] ["self","case"] (zah zaL):=⟨rfl,rfl,rfl,by decide +kernel,rfl,by decide +kernel,by decide +kernel⟩
theorem zck {f:Addr} {fd:FuncData} (F:Fun K "not_covered" "CoverQuestion.not_covered" zaL f fd) (T:Txt K mg ad) (G_chosen_by:Has P w K mg base CX0 1 "chosen_by" ["case","choice"] (spO (KX K ad) (xoK (KX K ad)) za4)):FnOk P w K mg base CX0 2 f fd ["self","case"] (spO (KX K ad) (xoK (KX K ad)) zas):=by
  refine F.ok sc_CoverQuestion_not_covered (fun vs H Q E h=>zeD h) (fun cdv A outer s H vs Q E hr h=>?_)
  have hu:=zcn hr
  exact ⟨_,(zae (zaU (i:=2) sc_CoverQuestion_not_covered.nd rfl (by first | exact Or.inl rfl | exact Or.inr rfl) zfv)
      (zae (zcH PassesOwn.never rfl (zbR (zbd G_chosen_by (hr.mono (by decide)) (by rfl) zbA (zaa (pv 1) (zaa zal zaf)))) (zaG (i:=3) sc_CoverQuestion_not_covered.nd rfl (by first | exact Or.inl rfl | exact Or.inr rfl))
      (zan (zcH PassesOwn.never rfl (zbR (zcX zel (zcX zcS (zcU (pv 0) rfl) (pv 3) (fun _ _=>rfl)) zal (fun _ _=>rfl))) (zaG (i:=4) sc_CoverQuestion_not_covered.nd rfl (by first | exact Or.inl rfl | exact Or.inr rfl))
      (zan (zfN hu (pv 2) (pv 4) zgp rfl)))))
      (zan (zaR (zcK rfl (zc2 rfl T.range (zaa (zcU (pv 0) rfl) zaf)) (zdX (zah zaL) ["self","case","held","number","thing"] ["held","thing"] [2] 1 rfl rfl rfl (by decide +kernel) (by decide +kernel) (by decide +kernel) rfl (by decide +kernel) (fun cl C s H fp pins=>(zaG (i:=1) (show List.Nodup (["held","thing"]:List Str) by decide +kernel) rfl (Or.inl rfl))) (fun cl C s H fp pins=>(pv 1)) (Or.inr ⟨_,_,rfl,rfl,fun cl C s H fp pins=>(ziu (zeH hu (pv 1) (pv 0)))⟩))))))),zfL (K:=(KX K ad)) (XO:=(xoK (KX K ad))) (E:=E) (np:=2) (nv:=3) (m:=zby)
      (zaw (zeR zft)
      (zaw (zdK (zes ((zc0 (zac zam (zac zaj zaq)))).e) zax
      (zdK (zes (zau zeo ((zau zej ((zdx (zg9 T) zad)).r zad)).r (zaj).r)) zax
      (zgS zam zg6)))
      (zdf (zbZ (zdJ len1 (zac (zdx (znZ T) zad) zaq)).c (by decide) zbB zbW (Or.inr ⟨_,_,rfl,rfl,(st_b (zeL zam zad))⟩) zam)))) rfl h⟩
abbrev zd5:Stmt:=top 14
theorem zil:FnScope ["sets","chosen"] ["sets","chosen"] (zah zd5):=⟨rfl,rfl,rfl,by decide +kernel,rfl,by decide +kernel,by decide +kernel⟩
theorem zh6 {f:Addr} {fd:FuncData} (F:Fun K "price_of" "price_of" zd5 f fd) (T:Txt K mg ad)  : FnOk P w K mg base CX0 1 f fd ["sets","chosen"] (spM (KX K ad) (xoK (KX K ad)) zcV):=by
  refine F.ok zil (fun vs H Q E h=>zbX h) (fun cdv A outer s H vs Q E hr h=>?_)
  have hu:=zcn hr
  exact ⟨_,(zan (zaR (zaO (zdj rfl) (by rfl) T.sum boot_sum (zaa (zcK rfl (zbR (pv 1)) (zdX (zah zd5) ["sets","chosen"] ["sets","number"] [0] 1 rfl rfl rfl (by decide +kernel) (by decide +kernel) (by decide +kernel) rfl (by decide +kernel) (fun cl C s H fp pins=>(zaG (i:=1) (show List.Nodup (["sets","number"]:List Str) by decide +kernel) rfl (Or.inl rfl))) (fun cl C s H fp pins=>(zcX zel (zcX zcS (pv 0) (pv 1) (fun _ _=>rfl)) zal (fun _ _=>rfl))) (Or.inl ⟨rfl,rfl⟩))) zaf)))),zeK (K:=(KX K ad)) (XO:=(xoK (KX K ad))) (E:=E) (np:=2) (nv:=0) (m:=zgB)
      (zbs (ze0 zk9 (za5 ((zbZ (zeP zad) (by decide) zbB zbW (Or.inl ⟨rfl,rfl⟩) (zau zeo ((zau zej zad zad)).r (zaj).r))).e.r zbw))) rfl h⟩
abbrev zbg:Stmt:=zde (top 19) 4
theorem sc_CoverQuestion_low:FnScope ["self","case","still","besides"] ["self","case"] (zah zbg):=⟨rfl,rfl,rfl,by decide +kernel,rfl,by decide +kernel,by decide +kernel⟩
theorem zec {f:Addr} {fd:FuncData} (F:Fun K "low" "CoverQuestion.low" zbg f fd) (T:Txt K mg ad) (G_chosen_by:Has P w K mg base CX0 1 "chosen_by" ["case","choice"] (spO (KX K ad) (xoK (KX K ad)) za4)) (G_CoverQuestion_not_covered:HasM P w K mg base CX0 2 "not_covered" ad.CoverQuestion ["self","case"] (spO (KX K ad) (xoK (KX K ad)) zas)) (G_price_of:Has P w K mg base CX0 1 "price_of" ["sets","chosen"] (spM (KX K ad) (xoK (KX K ad)) zcV)):FnOk P w K mg base CX0 3 f fd ["self","case"] (spM (KX K ad) (xoK (KX K ad)) zaH):=by
  refine F.ok sc_CoverQuestion_low (fun vs H Q E h=>zbX h) (fun cdv A outer s H vs Q E hr h=>?_)
  have hu:=zcn hr
  exact ⟨_,(zae (zaU (i:=2) sc_CoverQuestion_low.nd rfl (by first | exact Or.inl rfl | exact Or.inr rfl) (zcX zcS (zcU (pv 0) rfl) (zaO za1 (by rfl) T.len PySem.boot_len (zaa (pv 1) zaf)) (fun _ _=>rfl)))
      (zae (zaU (i:=3) sc_CoverQuestion_low.nd rfl (by first | exact Or.inl rfl | exact Or.inr rfl) (znP rfl (by rfl) T.max (zaa (zcK rfl (zbR (zeW G_CoverQuestion_not_covered (hr.mono (by decide)) zbA (pv 0) (zaa (pv 1) zaf))) (zdX (zah zbg) ["self","case","still","besides"] ["still","thing"] [2] 1 rfl rfl rfl (by decide +kernel) (by decide +kernel) (by decide +kernel) rfl (by decide +kernel) (fun cl C s H fp pins=>(zaG (i:=1) (show List.Nodup (["still","thing"]:List Str) by decide +kernel) rfl (Or.inl rfl))) (fun cl C s H fp pins=>(ziF (by exact hu) (pv 0) (pv 1) zal (zpq))) (Or.inl ⟨rfl,rfl⟩))) zaf) zal))
      (zan (zaR (zaX zdU (zbd G_price_of (hr.mono (by decide)) (by rfl) zbA (zaa (zcU (pv 0) rfl) (zaa (zbd G_chosen_by (hr.mono (by decide)) (by rfl) zbA (zaa (pv 1) (zaa zal zaf))) zaf))) (pv 3)))))),zeK (K:=(KX K ad)) (XO:=(xoK (KX K ad))) (E:=E) (np:=2) (nv:=2) (m:=zcA)
      (zaw (zbp (zau zej ((zdx (zgb T) zad)).r ((ze0 zeF (za5 zad zbw))).r) zax)
      (zaw (zbp (zox (za5 ((zbZ (zeP ((zfu rfl zam (zac zam zaq))).e.r) (by decide) zbB zbW (Or.inl ⟨rfl,rfl⟩) (zjU zad zam zaj))).e.r zbw) zaj) zax)
      (zbs (zau zek ((zaQ (zac (zdx (zg9 T) zad) (zac ((zc0 (zac zam (zac zaj zaq)))).e zaq)))).r zad)))) rfl h⟩
abbrev zbr:Stmt:=zde (top 20) 3
theorem zex:FnScope ["self","case"] ["self","case"] (zah zbr):=⟨rfl,rfl,rfl,by decide +kernel,rfl,by decide +kernel,by decide +kernel⟩
theorem zew {f:Addr} {fd:FuncData} (F:Fun K "low" "SackQuestion.low" zbr f fd) (T:Txt K mg ad) (G_chosen_by:Has P w K mg base CX0 1 "chosen_by" ["case","choice"] (spO (KX K ad) (xoK (KX K ad)) za4)):FnOk P w K mg base CX0 2 f fd ["self","case"] (spM (KX K ad) (xoK (KX K ad)) zaJ):=by
  refine F.ok zex (fun vs H Q E h=>zbX h) (fun cdv A outer s H vs Q E hr h=>?_)
  have hu:=zcn hr
  exact ⟨_,(zan (zaR (zaO (zdj rfl) (by rfl) T.sum boot_sum (zaa (zcK rfl (zbR (zbd G_chosen_by (hr.mono (by decide)) (by rfl) zbA (zaa (pv 1) (zaa zal zaf)))) (zdX (zah zbr) ["self","case"] ["self","number"] [0] 1 rfl rfl rfl (by decide +kernel) (by decide +kernel) (by decide +kernel) rfl (by decide +kernel) (fun cl C s H fp pins=>(zaG (i:=1) (show List.Nodup (["self","number"]:List Str) by decide +kernel) rfl (Or.inl rfl))) (fun cl C s H fp pins=>(zcX zel (zcX zcS (zcU (pv 0) rfl) (pv 1) (fun _ _=>rfl)) zal (fun _ _=>rfl))) (Or.inl ⟨rfl,rfl⟩))) zaf)))),zeK (K:=(KX K ad)) (XO:=(xoK (KX K ad))) (E:=E) (np:=2) (nv:=0) (m:=zcF)
      (zbs (ze0 zk9 (za5 ((zbZ (zeP ((zc0 (zac zam (zac zaj zaq)))).e.r) (by decide) zbB zbW (Or.inl ⟨rfl,rfl⟩) (zau zeo ((zau zej ((zdx (zeG T) zad)).r zad)).r (zaj).r))).e.r zbw))) rfl h⟩
abbrev zbz:Stmt:=zde (top 19) 2
theorem zdE:FnScope ["self"] ["self"] (zah zbz):=⟨rfl,rfl,rfl,by decide +kernel,rfl,by decide +kernel,by decide +kernel⟩
theorem zdF {f:Addr} {fd:FuncData} (F:Fun K "steps" "CoverQuestion.steps" zbz f fd) (T:Txt K mg ad)  : FnOk P w K mg base CX0 1 f fd ["self"] (spM (KX K ad) (xoK (KX K ad)) zaD):=by
  refine F.ok zdE (fun vs H Q E h=>zbX h) (fun cdv A outer s H vs Q E hr h=>?_)
  have hu:=zcn hr
  exact ⟨_,(zan (zaR (zaO za1 (by rfl) T.len PySem.boot_len (zaa (zcU (pv 0) rfl) zaf)))),zeK (K:=(KX K ad)) (XO:=(xoK (KX K ad))) (E:=E) (np:=1) (nv:=0) (m:=zb2)
      (zbs (ze0 zeF (za5 ((zdx (zg9 T) zad)).r zbw))) rfl h⟩
abbrev zbI:Stmt:=zde (top 20) 1
theorem zdM:FnScope ["self"] ["self"] (zah zbI):=⟨rfl,rfl,rfl,by decide +kernel,rfl,by decide +kernel,by decide +kernel⟩
theorem zdN {f:Addr} {fd:FuncData} (F:Fun K "steps" "SackQuestion.steps" zbI f fd) (T:Txt K mg ad)  : FnOk P w K mg base CX0 1 f fd ["self"] (spM (KX K ad) (xoK (KX K ad)) zaE):=by
  refine F.ok zdM (fun vs H Q E h=>zbX h) (fun cdv A outer s H vs Q E hr h=>?_)
  have hu:=zcn hr
  exact ⟨_,(zan (zaR (zaO za1 (by rfl) T.len PySem.boot_len (zaa (zcU (pv 0) rfl) zaf)))),zeK (K:=(KX K ad)) (XO:=(xoK (KX K ad))) (E:=E) (np:=1) (nv:=0) (m:=zcg)
      (zbs (ze0 zeF (za5 ((zdx (zeG T) zad)).r zbw))) rfl h⟩
abbrev zbF:Stmt:=zde (top 19) 3
theorem sc_CoverQuestion_ways:FnScope ["self","case","later","here","thing"] ["self","case"] (zah zbF):=⟨rfl,rfl,rfl,by decide +kernel,rfl,by decide +kernel,by decide +kernel⟩
theorem zdP {f:Addr} {fd:FuncData} (F:Fun K "ways" "CoverQuestion.ways" zbF f fd) (T:Txt K mg ad) (G_CoverQuestion_not_covered:HasM P w K mg base CX0 2 "not_covered" ad.CoverQuestion ["self","case"] (spO (KX K ad) (xoK (KX K ad)) zas)):FnOk P w K mg base CX0 3 f fd ["self","case"] (spO (KX K ad) (xoK (KX K ad)) zaM):=by
  refine F.ok sc_CoverQuestion_ways (fun vs H Q E h=>zeD h) (fun cdv A outer s H vs Q E hr h=>?_)
  have hu:=zcn hr
  exact ⟨_,(zae (zaU (i:=2) sc_CoverQuestion_ways.nd rfl (by first | exact Or.inl rfl | exact Or.inr rfl) (zcX zcS (zcU (pv 0) rfl) (zaX zdU (zaO za1 (by rfl) T.len PySem.boot_len (zaa (pv 1) zaf)) zal) (fun _ _=>rfl)))
      (zae (zaU (i:=3) sc_CoverQuestion_ways.nd rfl (by first | exact Or.inl rfl | exact Or.inr rfl) (zcX zel (zcX zcS (zcU (pv 0) rfl) (zaO za1 (by rfl) T.len PySem.boot_len (zaa (pv 1) zaf)) (fun _ _=>rfl)) zal (fun _ _=>rfl)))
      (zae (zcH PassesOwn.never rfl (zbR (zeW G_CoverQuestion_not_covered (hr.mono (by decide)) zbA (pv 0) (zaa (pv 1) zaf))) (zaG (i:=4) sc_CoverQuestion_ways.nd rfl (by first | exact Or.inl rfl | exact Or.inr rfl))
      (zan (zdb ((zmR (zbb zlk (pv 4) (pv 3) (by with_unfolding_all rfl)) (zlF (ziu (zeH hu (pv 4) (pv 2)))))).pt
      (zan (zaR (zeq (zaa zal zaf))))
      zbG)))
      (zan (zaR (zeq (zaa zal (zaa zal zaf)))))))),zfL (K:=(KX K ad)) (XO:=(xoK (KX K ad))) (E:=E) (np:=2) (nv:=3) (m:=zcc)
      (zaw (zbp (zau zej ((zdx (zgb T) zad)).r ((zau zek ((ze0 zeF (za5 zad zbw))).r (zaj).r)).r) zax)
      (zaw (zbp (zau zeo ((zau zej ((zdx (zg9 T) zad)).r ((ze0 zeF (za5 zad zbw))).r)).r (zaj).r) zax)
      (zaw (zdK (zes ((zfu rfl zam (zac zam zaq))).e) zax
      (zdk (znh (za8 (zau zp9 zad zad)) (st_b (zeL zam zad)))
      (zdf (zcR (zac zaj zaq)))
      zbH))
      (zdf (zcR (zac zaj (zac zaj zaq))))))) rfl h⟩
abbrev zbe:Stmt:=zde (top 20) 2
theorem sc_SackQuestion_ways:FnScope ["self","case","taken"] ["self","case"] (zah zbe):=⟨rfl,rfl,rfl,by decide +kernel,rfl,by decide +kernel,by decide +kernel⟩
theorem zea {f:Addr} {fd:FuncData} (F:Fun K "ways" "SackQuestion.ways" zbe f fd) (T:Txt K mg ad) (G_chosen_by:Has P w K mg base CX0 1 "chosen_by" ["case","choice"] (spO (KX K ad) (xoK (KX K ad)) za4)):FnOk P w K mg base CX0 2 f fd ["self","case"] (spO (KX K ad) (xoK (KX K ad)) zaP):=by
  refine F.ok sc_SackQuestion_ways (fun vs H Q E h=>zeD h) (fun cdv A outer s H vs Q E hr h=>?_)
  have hu:=zcn hr
  exact ⟨_,(zae (zaU (i:=2) sc_SackQuestion_ways.nd rfl (by first | exact Or.inl rfl | exact Or.inr rfl) (zaO (zdj rfl) (by rfl) T.sum boot_sum (zaa (zcK rfl (zbR (zbd G_chosen_by (hr.mono (by decide)) (by rfl) zbA (zaa (pv 1) (zaa zal zaf)))) (zdX (zah zbe) ["self","case","taken"] ["self","number"] [0] 1 rfl rfl rfl (by decide +kernel) (by decide +kernel) (by decide +kernel) rfl (by decide +kernel) (fun cl C s H fp pins=>(zaG (i:=1) (show List.Nodup (["self","number"]:List Str) by decide +kernel) rfl (Or.inl rfl))) (fun cl C s H fp pins=>(zcX zel (zcX zcS (zcU (pv 0) rfl) (pv 1) (fun _ _=>rfl)) zal (fun _ _=>rfl))) (Or.inl ⟨rfl,rfl⟩))) zaf)))
      (zae (zdb (zbb zp7 (zaX zdU (pv 2) (zcX zel (zcX zcS (zcU (pv 0) rfl) (zaO za1 (by rfl) T.len PySem.boot_len (zaa (pv 1) zaf)) (fun _ _=>rfl)) zal (fun _ _=>rfl))) (zcU (pv 0) rfl) (zbN _))
      (zan (zaR (zeq (zaa zal (zaa zal zaf)))))
      zbG)
      (zan (zaR (zeq (zaa zal zaf)))))),zfL (K:=(KX K ad)) (XO:=(xoK (KX K ad))) (E:=E) (np:=2) (nv:=1) (m:=zcu)
      (zaw (zbp (ze0 zk9 (za5 ((zbZ (zeP ((zc0 (zac zam (zac zaj zaq)))).e.r) (by decide) zbB zbW (Or.inl ⟨rfl,rfl⟩) (zau zeo ((zau zej ((zdx (zeG T) zad)).r zad)).r (zaj).r))).e.r zbw)) zax)
      (zaw (zdk (za8 (zau zqy ((zau zek zad ((zau zeo ((zau zej ((zdx (zeG T) zad)).r ((ze0 zeF (za5 zad zbw))).r)).r (zaj).r)).r)).r ((zdx (zn8 T) zad)).r))
      (zdf (zcR (zac zaj (zac zaj zaq))))
      zbH)
      (zdf (zcR (zac zaj zaq))))) rfl h⟩
abbrev zeI:Stmt:=top 10
theorem zjG:FnScope ["question","case"] ["question","case"] (zah zeI):=⟨rfl,rfl,rfl,by decide +kernel,rfl,by decide +kernel,by decide +kernel⟩
theorem zjv {f:Addr} {fd:FuncData} (F:Fun K "gone_on" "gone_on" zeI f fd) (T:Txt K mg ad) (G_CoverQuestion_ways:HasM P w K mg base CX0 3 "ways" ad.CoverQuestion ["self","case"] (spO (KX K ad) (xoK (KX K ad)) zaM)) (G_SackQuestion_ways:HasM P w K mg base CX0 2 "ways" ad.SackQuestion ["self","case"] (spO (KX K ad) (xoK (KX K ad)) zaP)):FnOk P w K mg base CX0 4 f fd ["question","case"] (spO (KX K ad) (xoK (KX K ad)) zb6):=by
  refine F.ok zjG (fun vs H Q E h=>zeD h) (fun cdv A outer s H vs Q E hr h=>?_)
  have hu:=zcn hr
  exact ⟨_,(zan (zaR (zcK rfl (znb rfl T.reversed (zaa (zkS (zeW G_CoverQuestion_ways (hr.mono (by decide)) zbA (pv 0) (zaa (pv 1) zaf)) (zeW G_SackQuestion_ways (hr.mono (by decide)) zbA (pv 0) (zaa (pv 1) zaf))) zaf)) (zdX (zah zeI) ["question","case"] ["case","way"] [1] 1 rfl rfl rfl (by decide +kernel) (by decide +kernel) (by decide +kernel) rfl (by decide +kernel) (fun cl C s H fp pins=>(zaG (i:=1) (show List.Nodup (["case","way"]:List Str) by decide +kernel) rfl (Or.inl rfl))) (fun cl C s H fp pins=>(zaX znw (pv 0) (zfh (zaa (pv 1) zaf)))) (Or.inl ⟨rfl,rfl⟩))))),zfL (K:=(KX K ad)) (XO:=(xoK (KX K ad))) (E:=E) (np:=2) (nv:=0) (m:=zhJ)
      (zdf (zbZ (zoj (za5 ((zn9 (zfu rfl zam (zac zam zaq)) (zfu rfl zam (zac zam zaq)))).e.r zbw)) (by decide) zbB zbW (Or.inl ⟨rfl,rfl⟩) (zau znA zad ((zfG (zac zam zaq))).r))) rfl h⟩
abbrev zcy:Stmt:=top 11
theorem sc_best_by_cases:FnScope ["question","most","best","cost","closed","looked_at","waiting","case","least"] ["question","most"] (zah zcy):=⟨rfl,rfl,rfl,by decide +kernel,rfl,by decide +kernel,by decide +kernel⟩
theorem zfq {f:Addr} {fd:FuncData} (F:FunD K "best_by_cases" "best_by_cases" zcy f fd (.int 2000)) (T:Txt K mg ad) (G_CoverQuestion_low:HasM P w K mg base CX0 3 "low" ad.CoverQuestion ["self","case"] (spM (KX K ad) (xoK (KX K ad)) zaH)) (G_SackQuestion_low:HasM P w K mg base CX0 2 "low" ad.SackQuestion ["self","case"] (spM (KX K ad) (xoK (KX K ad)) zaJ)) (G_CoverQuestion_steps:HasM P w K mg base CX0 1 "steps" ad.CoverQuestion ["self"] (spM (KX K ad) (xoK (KX K ad)) zaD)) (G_SackQuestion_steps:HasM P w K mg base CX0 1 "steps" ad.SackQuestion ["self"] (spM (KX K ad) (xoK (KX K ad)) zaE)) (G_gone_on:Has P w K mg base CX0 4 "gone_on" ["question","case"] (spO (KX K ad) (xoK (KX K ad)) zb6)):FnOk P w K mg base (CX1 P w) 5 f fd ["question","most"] (spM (KX K ad) (xoK (KX K ad)) zao):=by
  refine F.ok1 sc_best_by_cases (fun vs H Q E h=>zbX h) (fun cdv A outer s H vs Q E hr h=>?_)
  have hu:=zcn hr
  exact ⟨_,(zae (zaU (i:=2) sc_best_by_cases.nd rfl (by first | exact Or.inl rfl | exact Or.inr rfl) zfH)
      (zae (zaU (i:=3) sc_best_by_cases.nd rfl (by first | exact Or.inl rfl | exact Or.inr rfl) zfH)
      (zae (zaU (i:=4) sc_best_by_cases.nd rfl (by first | exact Or.inl rfl | exact Or.inr rfl) (zeq zaf))
      (zae (zaU (i:=5) sc_best_by_cases.nd rfl (by first | exact Or.inl rfl | exact Or.inr rfl) zal)
      (zae (zaU (i:=6) sc_best_by_cases.nd rfl (by first | exact Or.inl rfl | exact Or.inr rfl) (zeq (zaa (zfh zaf) zaf)))
      (zae (zmK PassesOwn.leaving (zbb znr (zaO za1 (by rfl) T.len PySem.boot_len (zaa (pv 6) zaf)) zal (zbN _))
      (zae (zoS (i:=5) sc_best_by_cases.nd rfl (by first | exact Or.inl rfl | exact Or.inr rfl) zal zpC)
      (zae (zdb (zbb znr (pv 5) (pv 1) (zbN _))
      (zan (zmc rfl (by rfl) T.m_TooMany T.e_TooMany PySem.F.excBase_ValueError (by decide +kernel) PySem.F.excBase_ValueError zqe (zaa zpo zaf)))
      zbG)
      (zae (zaU (i:=7) sc_best_by_cases.nd rfl (by first | exact Or.inl rfl | exact Or.inr rfl) (zo6 PySem.F.plainAttrs_list PySem.F.slot_list_pop PySem.F.type_list_pop zpS (pv 6)))
      (zae (zaU (i:=8) sc_best_by_cases.nd rfl (by first | exact Or.inl rfl | exact Or.inr rfl) (zkS (zeW G_CoverQuestion_low (hr.mono (by decide)) zbA (pv 0) (zaa (pv 7) zaf)) (zeW G_SackQuestion_low (hr.mono (by decide)) zbA (pv 0) (zaa (pv 7) zaf))))
      (zan (zdb ((zmR (zbb zoo (pv 3) zfH (zbN _)) (zlF (zbb zqh (pv 8) (pv 3) (zbN _))))).pt
      (zan (zdm (zjw PySem.F.plainAttrs_list PySem.F.slot_list_append PySem.F.type_list_append zcY (pv 4) (zaa (pv 7) zaf))))
      (zan (zdb (zbb zhm (zaO za1 (by rfl) T.len PySem.boot_len (zaa (pv 7) zaf)) (zkS (ziU G_CoverQuestion_steps (hr.mono (by decide)) zbA (pv 0)) (ziU G_SackQuestion_steps (hr.mono (by decide)) zbA (pv 0))) (zbN _))
      (zae (zdm (zjw PySem.F.plainAttrs_list PySem.F.slot_list_append PySem.F.type_list_append zcY (pv 4) (zaa (pv 7) zaf)))
      (zae (zaU (i:=2) sc_best_by_cases.nd rfl (by first | exact Or.inl rfl | exact Or.inr rfl) (pv 7))
      (zan (zaU (i:=3) sc_best_by_cases.nd rfl (by first | exact Or.inl rfl | exact Or.inr rfl) (pv 8)))))
      (zan (zdm (zjw PySem.F.plainAttrs_list PySem.F.slot_list_extend PySem.F.type_list_extend zkP (pv 6) (zaa (zbd G_gone_on (hr.mono (by decide)) (by rfl) zbA (zaa (pv 0) (zaa (pv 7) zaf))) zaf)))))))))))))
      (zan (zaR (zfh (zaa (pv 2) (zaa (pv 3) (zaa (pv 4) zaf)))))))))))),zeK (K:=(KX K ad)) (XO:=(xoK (KX K ad))) (E:=E) (np:=2) (nv:=7) (m:=zcv)
      (zaw (zbp zfB zax)
      (zaw (zbp zfB zax)
      (zaw (zeR (zcR zaq))
      (zaw (zbp zaj zax)
      (zaw (zeR (zcR (zac (zfG zaq) zaq)))
      (zaw (zlY (za8 (zau zoz ((ze0 zeF (za5 zad zbw))).r (zaj).r))
      (zaw (zps zaj)
      (zaw (zdk (za8 (zau zoz zad zad))
      (zl0 (c:=3) rfl (by decide) (zac zph zaq))
      zbH)
      (zaw (znK zax)
      (zaw (zbp (znf (zgR rfl zam (zac zam zaq)) (zgR rfl zam (zac zam zaq))) zax)
      (zdk (znh (za8 (zau zmq zad (zfB).r)) (za8 (zau zp1 zad zad)))
      (zdQ zam)
      (zdk (za8 (zau zhz ((ze0 zeF (za5 zad zbw))).r ((znf (zgR rfl zam zaq) (zgR rfl zam zaq))).r))
      (zaw (zdQ zam)
      (zaw (zbp zam zax)
      (zbp zam zax)))
      (zk1 (zc0 (zac zam (zac zam zaq)))))))))))
      (znp (i:=4) (zbs (zfG (zac zam (zac zam (zac zam zaq)))))))))))) rfl h⟩
abbrev zd1:Stmt:=top 27
theorem sc_law_looked:FnScope ["_law_closed","_law_there","_law_case","_law_k"] ["_law_closed"] (zah zd1):=⟨rfl,rfl,rfl,by decide +kernel,rfl,by decide +kernel,by decide +kernel⟩
theorem zgN {f:Addr} {fd:FuncData} (F:Fun K "_law_looked" "_law_looked" zd1 f fd) (T:Txt K mg ad)  : FnOk P w K mg base CX0 1 f fd ["_law_closed"] (spM (KX K ad) (xoK (KX K ad)) zbv):=by
  refine F.ok sc_law_looked (fun vs H Q E h=>zhP h) (fun cdv A outer s H vs Q E hr h=>?_)
  have hu:=zcn hr
  exact ⟨_,(zae (zaU (i:=1) sc_law_looked.nd rfl (by first | exact Or.inl rfl | exact Or.inr rfl) zmx)
      (zae (zcH PassesOwn.never rfl (zbR (pv 0)) (zaG (i:=2) sc_law_looked.nd rfl (by first | exact Or.inl rfl | exact Or.inr rfl))
      (zan (zcH PassesOwn.never rfl (zc2 (by rfl) T.range (zaa (zaX zdU (zaO za1 (by rfl) T.len PySem.boot_len (zaa (pv 2) zaf)) zal) zaf)) (zaG (i:=3) sc_law_looked.nd rfl (by first | exact Or.inl rfl | exact Or.inr rfl))
      (zan (zfN hu (pv 1) (zg8 zou (pv 2) zod (zgd (pv 3))) zgp rfl)))))
      (zan (zaR (zaO zlj (by rfl) T.len PySem.boot_len (zaa (pv 1) zaf)))))),zjW (K:=(KX K ad)) (XO:=(xoK (KX K ad))) (E:=E) rfl h⟩
abbrev zdh:Stmt:=top 28
theorem sc_law_refused:FnScope ["_law_question_here","_law_most","_law_caught","error"] ["_law_question_here","_law_most"] (zah zdh):=⟨rfl,rfl,rfl,by decide +kernel,rfl,by decide +kernel,by decide +kernel⟩
theorem zgo {f:Addr} {fd:FuncData} (F:Fun K "_law_refused" "_law_refused" zdh f fd) (T:Txt K mg ad) (G_best_by_cases:HasD P w K mg base (CX1 P w) 5 "best_by_cases" ["question","most"] (spM (KX K ad) (xoK (KX K ad)) zao) (.int 2000)):FnOk P w K mg base CX0 6 f fd ["_law_question_here","_law_most"] (spM (KX K ad) (xoK (KX K ad)) zaK):=by
  refine F.ok sc_law_refused (fun vs H Q E h=>zbX h) (fun cdv A outer s H vs Q E hr h=>?_)
  have hu:=zcn hr
  exact ⟨_,(zae (zaU (i:=2) sc_law_refused.nd rfl (by first | exact Or.inl rfl | exact Or.inr rfl) zfH)
      (zae (zpv (i:=3) rfl rfl rfl sc_law_refused.nd rfl rfl (by rfl) T.m_EnoughError T.b_EnoughError (fun E pl xe hpx=>(zan (zdb (zbb zmT (pv 1) zfH (zbN _))
      (zan (zdm (zjM G_best_by_cases (hr.mono (by decide)) (by rfl) hpx (pv 0))))
      (zan (zdm (zkU G_best_by_cases.has (hr.mono (by decide)) (by rfl) hpx (zaa (pv 0) (zaa (pv 1) zaf))))))))
      (fun ea=>(zan (zaU (i:=2) sc_law_refused.nd rfl (by first | exact Or.inl rfl | exact Or.inr rfl) (pv 3)))))
      (zae (zdb ((zjg (zbb zmT (pv 2) zfH (zbN _)) (zjg (zhL (zfo (zaO zaV (by rfl) T.isinstance boot_isinstance (zaa (pv 2) (zaa (ze7 (v:=.ref ad.TooMany) (by rfl) T.m_TooMany rfl) zaf))))) (ziA (zhL (zfo (zaO zaV (by rfl) T.isinstance boot_isinstance (zaa (pv 2) (zaa (zn5 (v:=.ty "ValueError") (by rfl) T.ValueError PyProof.Rows.Boot.«ValueError» rfl) zaf))))))))).pt
      (zan (zaR zgp))
      zbG)
      (zae (zdb ((zjg (zfo (zaO zaV (by rfl) T.isinstance boot_isinstance (zaa (pv 2) (zaa (ze7 (v:=.ref ad.NoCover) (by rfl) T.m_NoCover rfl) zaf)))) (zjg (zfo (zaO zaV (by rfl) T.isinstance boot_isinstance (zaa (pv 2) (zaa (ze7 (v:=.ref ad.NoLengths) (by rfl) T.m_NoLengths rfl) zaf)))) (ziA (zfo (zaO zaV (by rfl) T.isinstance boot_isinstance (zaa (pv 2) (zaa (ze7 (v:=.ref ad.NoRoom) (by rfl) T.m_NoRoom rfl) zaf)))))))).pt
      (zan (zaR zgp))
      zbG)
      (zan (zaR (zpN (znl (zaO zaV (by rfl) T.isinstance boot_isinstance (zaa (pv 2) (zaa (ze7 (v:=.ref ad.NoShare) (by rfl) T.m_NoShare rfl) zaf)))) (zpu (znl (zaO zaV (by rfl) T.isinstance boot_isinstance (zaa (pv 2) (zaa (ze7 (v:=.ref ad.NoText) (by rfl) T.m_NoText rfl) zaf)))))))))))),zeK (K:=(KX K ad)) (XO:=(xoK (KX K ad))) (E:=E) (np:=2) (nv:=2) (m:=zeM)
      (zaw (zbp zfB zax)
      (zaw (zoG (zgk T) (fun _=>(zdk (za8 (zau zoH zad (zfB).r))
      (zkK (zg0 (zac zam (zac zaj zaq))))
      (zkK (zg0 (zac zam (zac zam zaq))))))
      (zbp zam zax))
      (zaw (zdk (zjI (za8 (zau zoH zad (zfB).r)) (zjI (zhk (st_b (zey rfl (zja T) zad))) (zhk (st_b (zey rfl (zg5 T) zad)))))
      (zbs zg6)
      zbH)
      (zaw (zdk (zjI (st_b (zey rfl (zjq T) zad)) (zjI (st_b (zey rfl (zhn T) zad)) (st_b (zey rfl (zlI T) zad))))
      (zbs zg6)
      zbH)
      (zbs (zo9 (zm7 (zey rfl (zjd T) zad)) (zm7 (zey rfl (zj9 T) zad)))))))) rfl h⟩
abbrev zda:Stmt:=top 30
theorem zhD:FnScope ["_law_many"] ["_law_many"] (zah zda):=⟨rfl,rfl,rfl,by decide +kernel,rfl,by decide +kernel,by decide +kernel⟩
theorem zhh {f:Addr} {fd:FuncData} (F:Fun K "_law_alike" "_law_alike" zda f fd) (T:Txt K mg ad) (G_SackQuestion___init__:HasC P w K mg base CX0 1 "SackQuestion" ad.SackQuestion ["self","room","things"] (spX (KX K ad) 9 zaB)):FnOk P w K mg base CX0 3 f fd ["_law_many"] (spM (KX K ad) (xoK (KX K ad)) za7):=by
  refine F.ok zhD (fun vs H Q E h=>zbX h) (fun cdv A outer s H vs Q E hr h=>?_)
  have hu:=zcn hr
  exact ⟨_,(zan (zaR (zij G_SackQuestion___init__ (hr.mono (by decide)) (by rfl) zbA (zaa zal (zaa (zcK rfl (zc2 rfl T.range (zaa (pv 0) zaf)) (zdX (zah zda) ["_law_many"] ["_law_k"] [] 1 rfl rfl rfl (by decide +kernel) (by decide +kernel) (by decide +kernel) rfl (by decide +kernel) (fun cl C s H fp pins=>(zaG (i:=0) (show List.Nodup (["_law_k"]:List Str) by decide +kernel) rfl (Or.inl rfl))) (fun cl C s H fp pins=>(zfh (zaa zal (zaa zal zaf)))) (Or.inl ⟨rfl,rfl⟩))) zaf))))),zeK (K:=(KX K ad)) (XO:=(xoK (KX K ad))) (E:=E) (np:=1) (nv:=0) (m:=zf2)
      (zbs ((zfd rfl (zeJ zaj (zeJ ((zbZ (zdJ len1 (zac zam zaq)).c (by decide) zbB zbW (Or.inl ⟨rfl,rfl⟩) (zfG (zac zaj (zac zaj zaq))))).e zis)))).e) rfl h⟩
abbrev zgO:Stmt:=top 31
theorem sc_law:FnScope ["_law_script","_law_first","_law_question_here","_law_found","_law_many","_law_fewer","_law_eleven","_law_twelve"] ["_law_script"] (zah zgO):=⟨rfl,rfl,rfl,by decide +kernel,rfl,by decide +kernel,by decide +kernel⟩
theorem zo4 {f:Addr} {fd:FuncData} (F:Fun K "law" "law" zgO f fd) (T:Txt K mg ad) (G_law_cell_at:Has P w K mg base CX0 1 "_law_cell_at" ["_law_script","_law_k"] (spM (KX K ad) (xoK (KX K ad)) zaA)) (G_law_question:Has P w K mg base CX0 6 "_law_question" ["_law_script","_law_first"] (spM (KX K ad) (xoK (KX K ad)) zbo)) (G_best_by_cases:HasD P w K mg base (CX1 P w) 5 "best_by_cases" ["question","most"] (spM (KX K ad) (xoK (KX K ad)) zao) (.int 2000)) (G_law_looked:Has P w K mg base CX0 1 "_law_looked" ["_law_closed"] (spM (KX K ad) (xoK (KX K ad)) zbv)) (G_law_refused:Has P w K mg base CX0 6 "_law_refused" ["_law_question_here","_law_most"] (spM (KX K ad) (xoK (KX K ad)) zaK)) (G_law_alike:Has P w K mg base CX0 3 "_law_alike" ["_law_many"] (spM (KX K ad) (xoK (KX K ad)) za7)):FnOk P w K mg base CX0 7 f fd ["_law_script"] (ziH K):=by
  refine F.ok sc_law (fun vs H Q E h=>?_) (fun cdv A outer s H vs Q E hr h=>?_)
  · obtain ⟨a,ns,rfl,_⟩:=h
    rfl
  · obtain ⟨a,ns,rfl,hS,hlen,hq⟩:=h
    have hu:=zcn hr
    exact ⟨_,(zae (zaU (i:=1) sc_law.nd rfl (by first | exact Or.inl rfl | exact Or.inr rfl) (zaX zce (zbd G_law_cell_at (hr.mono (by decide)) (by rfl) zbA (zaa (pv 0) (zaa zal zaf))) (zaX ziN zal zal)))
      (zae (zaU (i:=2) sc_law.nd rfl (by first | exact Or.inl rfl | exact Or.inr rfl) (zbd G_law_question (hr.mono (by decide)) (by rfl) zbA (zaa (pv 0) (zaa (pv 1) zaf))))
      (zae (zaU (i:=3) sc_law.nd rfl (by first | exact Or.inl rfl | exact Or.inr rfl) (zbd G_best_by_cases.has (hr.mono (by decide)) (by rfl) zk8 (zaa (pv 2) (zaa zal zaf))))
      (zae (zaU (i:=4) sc_law.nd rfl (by first | exact Or.inl rfl | exact Or.inr rfl) (zbd G_law_looked (hr.mono (by decide)) (by rfl) zbA (zaa (zcX zel (pv 3) zal (fun _ _=>rfl)) zaf)))
      (zae (zdb (zbb (zo0 hr.units) (zbd G_best_by_cases.has (hr.mono (by decide)) (by rfl) zk8 (zaa (pv 2) (zaa (pv 4) zaf))) (pv 3) (zbN _))
      (zan (zaR zgp))
      zbG)
      (zae (zdb (zbb znr (pv 4) zal (zbN _))
      (zae (zaU (i:=5) sc_law.nd rfl (by first | exact Or.inl rfl | exact Or.inr rfl) (zaX zdU zal (zaX zce (zbd G_law_cell_at (hr.mono (by decide)) (by rfl) zbA (zaa (pv 0) (zaa zal zaf))) (zaX zkR (pv 4) zal))))
      (zan (zdb ((zjg (zhL (zfo (zbd G_law_refused (hr.mono (by decide)) (by rfl) zbA (zaa (pv 2) (zaa (zaX zkR (pv 4) zal) zaf))))) (ziA (zhL (zfo (zbd G_law_refused (hr.mono (by decide)) (by rfl) zbA (zaa (pv 2) (zaa (pv 5) zaf)))))))).pt
      (zan (zaR zgp))
      zbG)))
      zbG)
      (zae (zdb (zbb zo5 (zaX zce (zaX zb1 (zbd G_law_cell_at (hr.mono (by decide)) (by rfl) zbA (zaa (pv 0) (zaa zal zaf))) zal) zal) zal (zbN _))
      (zan (zaR zgp))
      zbG)
      (zae (zaU (i:=6) sc_law.nd rfl (by first | exact Or.inl rfl | exact Or.inr rfl) (zbd G_law_alike (hr.mono (by decide)) (by rfl) zbA (zaa zal zaf)))
      (zae (zaU (i:=7) sc_law.nd rfl (by first | exact Or.inl rfl | exact Or.inr rfl) (zbd G_law_alike (hr.mono (by decide)) (by rfl) zbA (zaa zal zaf)))
      (zae (zdb ((zjg (zbb zo5 (zcX zel (zmH G_best_by_cases (hr.mono (by decide)) (by rfl) zk8 (pv 6)) zal (fun _ _=>rfl)) zal (zbN _)) (ziA (zhL (zfo (zbd G_law_refused (hr.mono (by decide)) (by rfl) zbA (zaa (pv 7) (zaa zfH zaf)))))))).pt
      (zan (zaR zgp))
      zbG)
      (zan (zaR (zn3 zhm (zcX zel (zbd G_best_by_cases.has (hr.mono (by decide)) (by rfl) zk8 (zaa (pv 7) (zaa zal zaf))) zal (fun _ _=>rfl)) zal (zbN _)))))))))))))),zeK (K:=(KX K ad)) (XO:=(xoK (KX K ad))) (E:=E) (np:=1) (nv:=7) (m:=zo3)
      (zaw (zbp (zau zch ((zaQ (zac zam (zac zaj zaq)))).r ((zau ziK (zaj).r (zaj).r)).r) zax)
      (zaw (zbp (zaQ (zac zam (zac zam zaq))) zax)
      (zaw (zbp (zaQ (zac zam (zac zaj zaq))) zax)
      (zaw (zbp (zaQ (zac (zau zeo zad (zaj).r) zaq)) zax)
      (zaw (zdk (za8 (zau zpX ((zaQ (zac zam (zac zam zaq)))).r zad))
      (zbs zg6)
      zbH)
      (zaw (zdk (za8 (zau zoz zad (zaj).r))
      (zaw (zbp (zau zek (zaj).r ((zau zch ((zaQ (zac zam (zac zaj zaq)))).r ((zau zlg zad (zaj).r)).r)).r) zax)
      (zdk (zjI (zhk (st_b (zaQ (zac zam (zac (zau zlg zad (zaj).r) zaq))))) (zhk (st_b (zaQ (zac zam (zac zam zaq))))))
      (zbs zg6)
      zbH))
      zbH)
      (zaw (zdk (za8 (zau zo7 ((zau zch ((zau zeg ((zaQ (zac zam (zac zaj zaq)))).r (zaj).r)).r (zaj).r)).r (zaj).r))
      (zbs zg6)
      zbH)
      (zaw (zbp (zaQ (zac zaj zaq)) zax)
      (zaw (zbp (zaQ (zac zaj zaq)) zax)
      (zaw (zdk (zjI (za8 (zau zo7 ((zau zeo ((zaQ (zac zam (zac zaj zaq)))).r (zaj).r)).r (zaj).r)) (zhk (st_b (zaQ (zac zam (zac zfB zaq))))))
      (zbs zg6)
      zbH)
      (zbs (zau zhz ((zau zeo ((zaQ (zac zam (zac zaj zaq)))).r (zaj).r)).r (zaj).r)))))))))))) rfl (zpB (f:=zpF) (law_true ns hlen) hS hq)⟩
end
theorem all_mk {l:PySem.W.OpenLaw} {w:World} {K:PySem.W.Frag} {h:Heap} {mg:Str→Option Value} {fa:Addr} (X:K.In h) (G:h.Ns mainGlobals mg) (hfa:mg "law"=some (.ref fa))
    (d0:∃ f fd,DefAt K "_law_cell_at" zdd f fd)
    (d1:∃ f fd,DefAt K "_law_number" zdR f fd)
    (d2:∃ f fd,DefAt K "_law_amount" zd0 f fd)
    (d3:∃ f fd,DefAt K "_law_sets" zc3 f fd)
    (d4:∃ f fd,DefAt K "refuse_missing" zb9 f fd)
    (d5:∃ f fd,DefAt K "least_prices" zcO f fd)
    (d6:∃ f fd,DefAt K "_law_question" zcN f fd)
    (d7:∃ f fd,DefAt K "chosen_by" zdr f fd)
    (d8:∃ f fd,DefAt K "price_of" zd5 f fd)
    (d9:∃ f fd,DefAt K "gone_on" zeI f fd)
    (d10:∃ f fd,DefAtD K "best_by_cases" zcy f fd (.int 2000))
    (d11:∃ f fd,DefAt K "_law_looked" zd1 f fd)
    (d12:∃ f fd,DefAt K "_law_refused" zdh f fd)
    (d13:∃ f fd,DefAt K "_law_alike" zda f fd)
    {fL:Addr} {oc:Value} {od an:Option Addr} {osl:Array (Option Value)} {kV doc pm cdv ct:Value} (aL:PySem.W.nsIn K mainGlobals "law"=some (some (.ref fL)))
    (lL:K.lookup fL=some ⟨oc,od,.func (PySem.W.fnOf "law" "law" (zbU zgO) (zbu zgO) (zah zgO) .none kV doc pm an cdv ct),osl⟩) (cL:PySem.W.codeIn K cdv "law"=true) (kL:PySem.W.keepIn K (.ref fL)=true)
    (z0:PySem.W.nsIn K mainGlobals "len"=some none)
    (z1:PySem.W.nsIn K mainGlobals "isinstance"=some none)
    (z2:PySem.W.nsIn K mainGlobals "list"=some none)
    (z3:PySem.W.nsIn K mainGlobals "sum"=some none)
    (z4:PySem.W.nsIn K mainGlobals "dict"=some none)
    (z5:PySem.W.nsIn K mainGlobals "range"=some none)
    (z6:PySem.W.nsIn K mainGlobals "enumerate"=some none)
    (z7:PySem.W.nsIn K mainGlobals "reversed"=some none)
    (z8:PySem.W.nsIn K mainGlobals "max"=some none)
    (z9:PySem.W.nsIn K mainGlobals "min"=some none)
    (z10:PySem.W.nsIn K mainGlobals "ValueError"=some none)
    {cEnoughError cNoShare cNoLengths cTooMany cNoCover cNoRoom cNoText cCoverQuestion cSackQuestion:Addr}
    {fNoCover:Addr} {ocNoCover:Value} {odNoCover anNoCover:Option Addr} {oslNoCover:Array (Option Value)} {kVNoCover docNoCover pmNoCover cdvNoCover ctNoCover:Value}
    (un_CoverQuestion:PySem.W.nsIn K mainGlobals "CoverQuestion"=some (some (.ref cCoverQuestion)))
    (un_SackQuestion:PySem.W.nsIn K mainGlobals "SackQuestion"=some (some (.ref cSackQuestion)))
    (pzn:PySem.W.specialIn K (.builtin "object.__class__") "__get__"=some (some (.builtin "getset_descriptor.__get__")))
    (pzt:PySem.W.takesIn K (.builtin "object.__class__")=some true)
    (phd_CoverQuestion:PySem.W.hasDictIn K cCoverQuestion=true)
    (phd_SackQuestion:PySem.W.hasDictIn K cSackQuestion=true)
    (ppg_CoverQuestion:PySem.W.plainGet K cCoverQuestion Str.empty=true)
    (ppo_CoverQuestion:PySem.W.plainOver K cCoverQuestion=true)
    (psa_CoverQuestion:PySem.W.findIn K (.ref cCoverQuestion) "__setattr__"=some (some (.builtin "object.__setattr__")))
    (pna_CoverQuestion_cheapest:PySem.W.findIn K (.ref cCoverQuestion) "cheapest"=some none)
    (pna_CoverQuestion_many:PySem.W.findIn K (.ref cCoverQuestion) "many"=some none)
    (pna_CoverQuestion_sets:PySem.W.findIn K (.ref cCoverQuestion) "sets"=some none)
    (pmk_CoverQuestion:PySem.W.makesIn K cCoverQuestion=true)
    (pkp_CoverQuestion:PySem.W.keepIn K (.ref cCoverQuestion)=true)
    (ppg_SackQuestion:PySem.W.plainGet K cSackQuestion Str.empty=true)
    (ppo_SackQuestion:PySem.W.plainOver K cSackQuestion=true)
    (psa_SackQuestion:PySem.W.findIn K (.ref cSackQuestion) "__setattr__"=some (some (.builtin "object.__setattr__")))
    (pna_SackQuestion_room:PySem.W.findIn K (.ref cSackQuestion) "room"=some none)
    (pna_SackQuestion_things:PySem.W.findIn K (.ref cSackQuestion) "things"=some none)
    (pmk_SackQuestion:PySem.W.makesIn K cSackQuestion=true)
    (pkp_SackQuestion:PySem.W.keepIn K (.ref cSackQuestion)=true)
    (un_EnoughError:PySem.W.nsIn K mainGlobals "EnoughError"=some (some (.ref cEnoughError)))
    (un_NoShare:PySem.W.nsIn K mainGlobals "NoShare"=some (some (.ref cNoShare)))
    (un_NoLengths:PySem.W.nsIn K mainGlobals "NoLengths"=some (some (.ref cNoLengths)))
    (un_TooMany:PySem.W.nsIn K mainGlobals "TooMany"=some (some (.ref cTooMany)))
    (un_NoCover:PySem.W.nsIn K mainGlobals "NoCover"=some (some (.ref cNoCover)))
    (un_NoRoom:PySem.W.nsIn K mainGlobals "NoRoom"=some (some (.ref cNoRoom)))
    (un_NoText:PySem.W.nsIn K mainGlobals "NoText"=some (some (.ref cNoText)))
    (ui_NoCover:PySem.W.findIn K (.ref cNoCover) "__init__"=some (some (.ref fNoCover)))
    (ul_NoCover:K.lookup fNoCover=some ⟨ocNoCover,odNoCover,.func (PySem.W.fnOf "__init__" "NoCover.__init__" (zbU zbn) (zbu zbn) (zah zbn) .none kVNoCover docNoCover pmNoCover anNoCover cdvNoCover ctNoCover),oslNoCover⟩)
    (uc_NoCover:PySem.W.codeIn K cdvNoCover "NoCover.__init__"=true)
    (uk_NoCover:PySem.W.keepIn K (.ref fNoCover)=true)
    (ux_NoCover:zgv K cNoCover [.type "ValueError",.type "Exception",.type "BaseException",.type "object"] "ValueError.__new__" fNoCover=true)
    (uf_NoCover:PySem.W.isFn K (.ref fNoCover)=true)
    (una_NoCover:PySem.W.findIn K (.ref cNoCover) "thing"=some none)
    (usa_NoCover:PySem.W.findIn K (.ref cNoCover) "__setattr__"=some (some (.builtin "object.__setattr__")))
    (uov_NoCover:zlN K cNoCover=true)
    (ue_TooMany:PySem.W.excIn K cTooMany [.type "ValueError",.type "Exception",.type "BaseException",.type "object"] "ValueError.__new__"=true)
    (ub_EnoughError:PySem.W.mroIn K cEnoughError (.type "BaseException")=some true)
    (uzn:PySem.W.specialIn K (.builtin "object.__class__") "__get__"=some (some (.builtin "getset_descriptor.__get__")))
    (uzt:PySem.W.takesIn K (.builtin "object.__class__")=some true)
    (uhd_EnoughError:PySem.W.hasDictIn K cEnoughError=true)
    (uhd_NoShare:PySem.W.hasDictIn K cNoShare=true)
    (uhd_NoLengths:PySem.W.hasDictIn K cNoLengths=true)
    (uhd_TooMany:PySem.W.hasDictIn K cTooMany=true)
    (uhd_NoCover:PySem.W.hasDictIn K cNoCover=true)
    (uhd_NoRoom:PySem.W.hasDictIn K cNoRoom=true)
    (uhd_NoText:PySem.W.hasDictIn K cNoText=true)
    (uty_EnoughError:PySem.W.typeIn K (.ref cEnoughError)=some (.type "type"))
    (uty_NoShare:PySem.W.typeIn K (.ref cNoShare)=some (.type "type"))
    (uty_NoLengths:PySem.W.typeIn K (.ref cNoLengths)=some (.type "type"))
    (uty_TooMany:PySem.W.typeIn K (.ref cTooMany)=some (.type "type"))
    (uty_NoCover:PySem.W.typeIn K (.ref cNoCover)=some (.type "type"))
    (uty_NoRoom:PySem.W.typeIn K (.ref cNoRoom)=some (.type "type"))
    (uty_NoText:PySem.W.typeIn K (.ref cNoText)=some (.type "type"))
    (uga_TooMany:PySem.W.findIn K (.ref cTooMany) "__getattribute__"=some (some (.builtin "BaseException.__getattribute__")))
    (ugn_TooMany:PySem.W.findIn K (.ref cTooMany) "__getattr__"=some none)
    (uha_TooMany:PySem.W.findIn K (.ref cTooMany) "__class__"=some (some (.builtin "object.__class__")))
    (umr_TooMany_EnoughError:PySem.W.mroIn K cTooMany (.ref cEnoughError)=some true)
    (umr_TooMany_NoShare:PySem.W.mroIn K cTooMany (.ref cNoShare)=some false)
    (umr_TooMany_NoLengths:PySem.W.mroIn K cTooMany (.ref cNoLengths)=some false)
    (umr_TooMany_TooMany:PySem.W.mroIn K cTooMany (.ref cTooMany)=some true)
    (umr_TooMany_NoCover:PySem.W.mroIn K cTooMany (.ref cNoCover)=some false)
    (umr_TooMany_NoRoom:PySem.W.mroIn K cTooMany (.ref cNoRoom)=some false)
    (umr_TooMany_NoText:PySem.W.mroIn K cTooMany (.ref cNoText)=some false)
    (umt_TooMany_object:PySem.W.mroIn K cTooMany (.type "object")=some true)
    (umt_TooMany_BaseException:PySem.W.mroIn K cTooMany (.type "BaseException")=some true)
    (umt_TooMany_ValueError:PySem.W.mroIn K cTooMany (.type "ValueError")=some true)
    (uga_NoCover:PySem.W.findIn K (.ref cNoCover) "__getattribute__"=some (some (.builtin "BaseException.__getattribute__")))
    (ugn_NoCover:PySem.W.findIn K (.ref cNoCover) "__getattr__"=some none)
    (uha_NoCover:PySem.W.findIn K (.ref cNoCover) "__class__"=some (some (.builtin "object.__class__")))
    (umr_NoCover_EnoughError:PySem.W.mroIn K cNoCover (.ref cEnoughError)=some true)
    (umr_NoCover_NoShare:PySem.W.mroIn K cNoCover (.ref cNoShare)=some false)
    (umr_NoCover_NoLengths:PySem.W.mroIn K cNoCover (.ref cNoLengths)=some false)
    (umr_NoCover_TooMany:PySem.W.mroIn K cNoCover (.ref cTooMany)=some false)
    (umr_NoCover_NoCover:PySem.W.mroIn K cNoCover (.ref cNoCover)=some true)
    (umr_NoCover_NoRoom:PySem.W.mroIn K cNoCover (.ref cNoRoom)=some false)
    (umr_NoCover_NoText:PySem.W.mroIn K cNoCover (.ref cNoText)=some false)
    (umt_NoCover_object:PySem.W.mroIn K cNoCover (.type "object")=some true)
    (umt_NoCover_BaseException:PySem.W.mroIn K cNoCover (.type "BaseException")=some true)
    (umt_NoCover_ValueError:PySem.W.mroIn K cNoCover (.type "ValueError")=some true)
    (dm_CoverQuestion___init__:∃ f fd,MethAt K cCoverQuestion "__init__" "CoverQuestion.__init__" zaS f fd)
    (dm_SackQuestion___init__:∃ f fd,MethAt K cSackQuestion "__init__" "SackQuestion.__init__" zbi f fd)
    (dm_CoverQuestion_not_covered:∃ f fd,MethAt K cCoverQuestion "not_covered" "CoverQuestion.not_covered" zaL f fd)
    (dm_CoverQuestion_low:∃ f fd,MethAt K cCoverQuestion "low" "CoverQuestion.low" zbg f fd)
    (dm_SackQuestion_low:∃ f fd,MethAt K cSackQuestion "low" "SackQuestion.low" zbr f fd)
    (dm_CoverQuestion_steps:∃ f fd,MethAt K cCoverQuestion "steps" "CoverQuestion.steps" zbz f fd)
    (dm_SackQuestion_steps:∃ f fd,MethAt K cSackQuestion "steps" "SackQuestion.steps" zbI f fd)
    (dm_CoverQuestion_ways:∃ f fd,MethAt K cCoverQuestion "ways" "CoverQuestion.ways" zbF f fd)
    (dm_SackQuestion_ways:∃ f fd,MethAt K cSackQuestion "ways" "SackQuestion.ways" zbe f fd)
    : ∃ fd:FuncData,(∀ (s:Shared) (v:Value),BindsTo s fd ⟨[v],[]⟩ [("_law_script",v)])∧∀ base:Heap,K.In base→base.Ns mainGlobals mg→FnOk l.prog w K mg base CX0 7 fa fd ["_law_script"] (ziH K):=by
  have e:=hfa.symm.trans (PySem.W.mg_of X G aL)
  cases e
  let ad:Adr:=⟨cEnoughError,cNoShare,cNoLengths,cTooMany,cNoCover,cNoRoom,cNoText,cCoverQuestion,cSackQuestion,fNoCover⟩
  have T:Txt K mg ad:=⟨PySem.W.mg_none_of X G z0,PySem.W.mg_none_of X G z1,PySem.W.mg_none_of X G z2,PySem.W.mg_none_of X G z3,PySem.W.mg_none_of X G z4,PySem.W.mg_none_of X G z5,PySem.W.mg_none_of X G z6,PySem.W.mg_none_of X G z7,PySem.W.mg_none_of X G z8,PySem.W.mg_none_of X G z9,PySem.W.mg_none_of X G z10,PySem.W.mg_of X G un_CoverQuestion,PySem.W.mg_of X G un_SackQuestion,⟨ppg_CoverQuestion,phd_CoverQuestion,ppo_CoverQuestion,psa_CoverQuestion⟩,pna_CoverQuestion_cheapest,pna_CoverQuestion_many,pna_CoverQuestion_sets,⟨ppg_SackQuestion,phd_SackQuestion,ppo_SackQuestion,psa_SackQuestion⟩,pna_SackQuestion_room,pna_SackQuestion_things,PySem.W.mg_of X G un_EnoughError,PySem.W.mg_of X G un_NoShare,PySem.W.mg_of X G un_NoLengths,PySem.W.mg_of X G un_TooMany,PySem.W.mg_of X G un_NoCover,PySem.W.mg_of X G un_NoRoom,PySem.W.mg_of X G un_NoText,ux_NoCover,uf_NoCover,una_NoCover,ue_TooMany,ub_EnoughError,⟨uga_TooMany,ugn_TooMany,uhd_TooMany,uha_TooMany,uzn,uzt,umt_TooMany_object,umt_TooMany_BaseException⟩,ziq uhd_EnoughError uty_EnoughError umr_TooMany_EnoughError,zcb uhd_NoShare uty_NoShare umr_TooMany_NoShare umr_TooMany_TooMany,zcb uhd_NoLengths uty_NoLengths umr_TooMany_NoLengths umr_TooMany_TooMany,zcb uhd_TooMany uty_TooMany umr_TooMany_TooMany umr_TooMany_TooMany,zcb uhd_NoCover uty_NoCover umr_TooMany_NoCover umr_TooMany_TooMany,zcb uhd_NoRoom uty_NoRoom umr_TooMany_NoRoom umr_TooMany_TooMany,zcb uhd_NoText uty_NoText umr_TooMany_NoText umr_TooMany_TooMany,ziD zdY umt_TooMany_ValueError,⟨uga_NoCover,ugn_NoCover,uhd_NoCover,uha_NoCover,uzn,uzt,umt_NoCover_object,umt_NoCover_BaseException⟩,⟨⟨uga_NoCover,ugn_NoCover,uhd_NoCover,uha_NoCover,uzn,uzt,umt_NoCover_object,umt_NoCover_BaseException⟩,usa_NoCover,uov_NoCover⟩,ziq uhd_EnoughError uty_EnoughError umr_NoCover_EnoughError,zcb uhd_NoShare uty_NoShare umr_NoCover_NoShare umr_NoCover_NoCover,zcb uhd_NoLengths uty_NoLengths umr_NoCover_NoLengths umr_NoCover_NoCover,zcb uhd_TooMany uty_TooMany umr_NoCover_TooMany umr_NoCover_NoCover,zcb uhd_NoCover uty_NoCover umr_NoCover_NoCover umr_NoCover_NoCover,zcb uhd_NoRoom uty_NoRoom umr_NoCover_NoRoom umr_NoCover_NoCover,zcb uhd_NoText uty_NoText umr_NoCover_NoText umr_NoCover_NoCover,ziD zdY umt_NoCover_ValueError⟩
  obtain ⟨f0,g0,D0⟩:=d0
  obtain ⟨f1,g1,D1⟩:=d1
  obtain ⟨f2,g2,D2⟩:=d2
  obtain ⟨f3,g3,D3⟩:=d3
  obtain ⟨f4,g4,D4⟩:=d4
  obtain ⟨f5,g5,D5⟩:=d5
  obtain ⟨f6,g6,D6⟩:=d6
  obtain ⟨f7,g7,D7⟩:=d7
  obtain ⟨f8,g8,D8⟩:=d8
  obtain ⟨f9,g9,D9⟩:=d9
  obtain ⟨f10,g10,D10⟩:=d10
  obtain ⟨f11,g11,D11⟩:=d11
  obtain ⟨f12,g12,D12⟩:=d12
  obtain ⟨f13,g13,D13⟩:=d13
  obtain ⟨f_CoverQuestion___init__,g_CoverQuestion___init__,D_CoverQuestion___init__⟩:=dm_CoverQuestion___init__
  obtain ⟨f_SackQuestion___init__,g_SackQuestion___init__,D_SackQuestion___init__⟩:=dm_SackQuestion___init__
  obtain ⟨f_CoverQuestion_not_covered,g_CoverQuestion_not_covered,D_CoverQuestion_not_covered⟩:=dm_CoverQuestion_not_covered
  obtain ⟨f_CoverQuestion_low,g_CoverQuestion_low,D_CoverQuestion_low⟩:=dm_CoverQuestion_low
  obtain ⟨f_SackQuestion_low,g_SackQuestion_low,D_SackQuestion_low⟩:=dm_SackQuestion_low
  obtain ⟨f_CoverQuestion_steps,g_CoverQuestion_steps,D_CoverQuestion_steps⟩:=dm_CoverQuestion_steps
  obtain ⟨f_SackQuestion_steps,g_SackQuestion_steps,D_SackQuestion_steps⟩:=dm_SackQuestion_steps
  obtain ⟨f_CoverQuestion_ways,g_CoverQuestion_ways,D_CoverQuestion_ways⟩:=dm_CoverQuestion_ways
  obtain ⟨f_SackQuestion_ways,g_SackQuestion_ways,D_SackQuestion_ways⟩:=dm_SackQuestion_ways
  have FL:=zi2 (st:=zgO) lL cL kL
  refine ⟨PySem.W.fnOf "law" "law" (zbU zgO) (zbu zgO) (zah zgO) .none kV doc pm an cdv ct,fun s v=>.of_eq rfl,fun base _ _=>?_⟩
  have F_NoCover:=zi2 (st:=zbn) ul_NoCover uc_NoCover uk_NoCover
  have I_NoCover:HasI l.prog w K mg base fNoCover ["self","thing"] (spI K "thing"):=⟨_,zfT F_NoCover,F_NoCover.binds fun _ _ _ _ _ _ us hl=>match us,hl with | [_,_],_=>rfl⟩
  have G_law_cell_at:Has l.prog w K mg base CX0 1 "_law_cell_at" ["_law_script","_law_k"] (spM (KX K ad) (xoK (KX K ad)) zaA):=D0.has X G (zgn D0.fn T  ) (D0.fn.binds fun _ _ _ _ _ _ us hl=>match us,hl with | [_,_],_=>rfl)
  have G_law_number:Has l.prog w K mg base CX0 1 "_law_number" ["_law_cell","_law_k"] (spM (KX K ad) (xoK (KX K ad)) za0):=D1.has X G (zgK D1.fn T  ) (D1.fn.binds fun _ _ _ _ _ _ us hl=>match us,hl with | [_,_],_=>rfl)
  have G_law_amount:Has l.prog w K mg base CX0 1 "_law_amount" ["_law_cell","_law_number_here"] (spM (KX K ad) (xoK (KX K ad)) zaN):=D2.has X G (zg2 D2.fn T  ) (D2.fn.binds fun _ _ _ _ _ _ us hl=>match us,hl with | [_,_],_=>rfl)
  have G_law_sets:Has l.prog w K mg base CX0 2 "_law_sets" ["_law_cells","_law_many"] (spO (KX K ad) (xoK (KX K ad)) zcq):=D3.has X G (zik D3.fn T  G_law_number G_law_amount) (D3.fn.binds fun _ _ _ _ _ _ us hl=>match us,hl with | [_,_],_=>rfl)
  have G_refuse_missing:Has l.prog w K mg base (CX1 l.prog w) 3 "refuse_missing" ["many","sets"] (spM (KX K ad) (xoK (KX K ad)) zbl):=D4.has X G (ze1 D4.fn T  I_NoCover) (D4.fn.binds fun _ _ _ _ _ _ us hl=>match us,hl with | [_,_],_=>rfl)
  have G_least_prices:Has l.prog w K mg base CX0 1 "least_prices" ["sets"] (spO (KX K ad) (xoK (KX K ad)) zbJ):=D5.has X G (zfI D5.fn T  ) (D5.fn.binds fun _ _ _ _ _ _ us hl=>match us,hl with | [_],_=>rfl)
  have G_CoverQuestion___init__:HasC l.prog w K mg base (CX1 l.prog w) 4 "CoverQuestion" ad.CoverQuestion ["self","many","sets"] (spX (KX K ad) 8 zaC):=D_CoverQuestion___init__.hasC pmk_CoverQuestion pkp_CoverQuestion T.m_CoverQuestion (zcP D_CoverQuestion___init__.fn T  G_refuse_missing G_least_prices) (D_CoverQuestion___init__.fn.binds fun _ _ _ _ _ _ us hl=>match us,hl with | [_,_,_],_=>rfl)
  have G_SackQuestion___init__:HasC l.prog w K mg base CX0 1 "SackQuestion" ad.SackQuestion ["self","room","things"] (spX (KX K ad) 9 zaB):=D_SackQuestion___init__.hasC pmk_SackQuestion pkp_SackQuestion T.m_SackQuestion (zcT D_SackQuestion___init__.fn T  ) (D_SackQuestion___init__.fn.binds fun _ _ _ _ _ _ us hl=>match us,hl with | [_,_,_],_=>rfl)
  have G_law_question:Has l.prog w K mg base CX0 6 "_law_question" ["_law_script","_law_first"] (spM (KX K ad) (xoK (KX K ad)) zbo):=D6.has X G (zf0 D6.fn T  G_law_number G_law_amount G_law_sets G_CoverQuestion___init__ G_SackQuestion___init__) (D6.fn.binds fun _ _ _ _ _ _ us hl=>match us,hl with | [_,_],_=>rfl)
  have G_chosen_by:Has l.prog w K mg base CX0 1 "chosen_by" ["case","choice"] (spO (KX K ad) (xoK (KX K ad)) za4):=D7.has X G (zhS D7.fn T  ) (D7.fn.binds fun _ _ _ _ _ _ us hl=>match us,hl with | [_,_],_=>rfl)
  have G_CoverQuestion_not_covered:HasM l.prog w K mg base CX0 2 "not_covered" ad.CoverQuestion ["self","case"] (spO (KX K ad) (xoK (KX K ad)) zas):=D_CoverQuestion_not_covered.hasM T.cl_CoverQuestion (zck D_CoverQuestion_not_covered.fn T  G_chosen_by) (D_CoverQuestion_not_covered.fn.binds fun _ _ _ _ _ _ us hl=>match us,hl with | [_,_],_=>rfl)
  have G_price_of:Has l.prog w K mg base CX0 1 "price_of" ["sets","chosen"] (spM (KX K ad) (xoK (KX K ad)) zcV):=D8.has X G (zh6 D8.fn T  ) (D8.fn.binds fun _ _ _ _ _ _ us hl=>match us,hl with | [_,_],_=>rfl)
  have G_CoverQuestion_low:HasM l.prog w K mg base CX0 3 "low" ad.CoverQuestion ["self","case"] (spM (KX K ad) (xoK (KX K ad)) zaH):=D_CoverQuestion_low.hasM T.cl_CoverQuestion (zec D_CoverQuestion_low.fn T  G_chosen_by G_CoverQuestion_not_covered G_price_of) (D_CoverQuestion_low.fn.binds fun _ _ _ _ _ _ us hl=>match us,hl with | [_,_],_=>rfl)
  have G_SackQuestion_low:HasM l.prog w K mg base CX0 2 "low" ad.SackQuestion ["self","case"] (spM (KX K ad) (xoK (KX K ad)) zaJ):=D_SackQuestion_low.hasM T.cl_SackQuestion (zew D_SackQuestion_low.fn T  G_chosen_by) (D_SackQuestion_low.fn.binds fun _ _ _ _ _ _ us hl=>match us,hl with | [_,_],_=>rfl)
  have G_CoverQuestion_steps:HasM l.prog w K mg base CX0 1 "steps" ad.CoverQuestion ["self"] (spM (KX K ad) (xoK (KX K ad)) zaD):=D_CoverQuestion_steps.hasM T.cl_CoverQuestion (zdF D_CoverQuestion_steps.fn T  ) (D_CoverQuestion_steps.fn.binds fun _ _ _ _ _ _ us hl=>match us,hl with | [_],_=>rfl)
  have G_SackQuestion_steps:HasM l.prog w K mg base CX0 1 "steps" ad.SackQuestion ["self"] (spM (KX K ad) (xoK (KX K ad)) zaE):=D_SackQuestion_steps.hasM T.cl_SackQuestion (zdN D_SackQuestion_steps.fn T  ) (D_SackQuestion_steps.fn.binds fun _ _ _ _ _ _ us hl=>match us,hl with | [_],_=>rfl)
  have G_CoverQuestion_ways:HasM l.prog w K mg base CX0 3 "ways" ad.CoverQuestion ["self","case"] (spO (KX K ad) (xoK (KX K ad)) zaM):=D_CoverQuestion_ways.hasM T.cl_CoverQuestion (zdP D_CoverQuestion_ways.fn T  G_CoverQuestion_not_covered) (D_CoverQuestion_ways.fn.binds fun _ _ _ _ _ _ us hl=>match us,hl with | [_,_],_=>rfl)
  have G_SackQuestion_ways:HasM l.prog w K mg base CX0 2 "ways" ad.SackQuestion ["self","case"] (spO (KX K ad) (xoK (KX K ad)) zaP):=D_SackQuestion_ways.hasM T.cl_SackQuestion (zea D_SackQuestion_ways.fn T  G_chosen_by) (D_SackQuestion_ways.fn.binds fun _ _ _ _ _ _ us hl=>match us,hl with | [_,_],_=>rfl)
  have G_gone_on:Has l.prog w K mg base CX0 4 "gone_on" ["question","case"] (spO (KX K ad) (xoK (KX K ad)) zb6):=D9.has X G (zjv D9.fn T  G_CoverQuestion_ways G_SackQuestion_ways) (D9.fn.binds fun _ _ _ _ _ _ us hl=>match us,hl with | [_,_],_=>rfl)
  have G_best_by_cases:HasD l.prog w K mg base (CX1 l.prog w) 5 "best_by_cases" ["question","most"] (spM (KX K ad) (xoK (KX K ad)) zao) (.int 2000):=D10.has X G (zfq D10.fn T  G_CoverQuestion_low G_SackQuestion_low G_CoverQuestion_steps G_SackQuestion_steps G_gone_on) (D10.fn.binds (fun _ _ _ _ _ _ _ _ us hl=>match us,hl with | [_,_],_=>⟨_,rfl,rfl⟩) fun _ _ _ _ _ _ _ _ us hl=>match us,hl with | [_],_=>⟨_,rfl,rfl⟩)
  have G_law_looked:Has l.prog w K mg base CX0 1 "_law_looked" ["_law_closed"] (spM (KX K ad) (xoK (KX K ad)) zbv):=D11.has X G (zgN D11.fn T  ) (D11.fn.binds fun _ _ _ _ _ _ us hl=>match us,hl with | [_],_=>rfl)
  have G_law_refused:Has l.prog w K mg base CX0 6 "_law_refused" ["_law_question_here","_law_most"] (spM (KX K ad) (xoK (KX K ad)) zaK):=D12.has X G (zgo D12.fn T  G_best_by_cases) (D12.fn.binds fun _ _ _ _ _ _ us hl=>match us,hl with | [_,_],_=>rfl)
  have G_law_alike:Has l.prog w K mg base CX0 3 "_law_alike" ["_law_many"] (spM (KX K ad) (xoK (KX K ad)) za7):=D13.has X G (zhh D13.fn T  G_SackQuestion___init__) (D13.fn.binds fun _ _ _ _ _ _ us hl=>match us,hl with | [_],_=>rfl)
  exact zo4 FL T G_law_cell_at G_law_question G_best_by_cases G_law_looked G_law_refused G_law_alike
theorem walk {l:PySem.W.OpenLaw} {q:Program} {loose:List Str} {XP:(Str→Option Value)→Heap→Prop} {YP:World→Heap→Prop} {d:DefRec} {K:Params→PySem.W.Frag} (hn:l.most=some 63) (hdf:d.params.defaults = [])
    (hY:∀ (w:World) (h:Heap),YP w h→(K w.params).In h) (hT:∀ w:World,zlr (K w.params)=none)
    (F:∀ (w:World) (mg:Str→Option Value) (fa:Addr) (h:Heap),(K w.params).In h→h.Ns mainGlobals mg→mg d.name=some (.ref fa) →
      ∃ fd:FuncData,(∀ (s:Shared) (u:Value),BindsTo s fd ⟨[u],[]⟩ [("_law_script",u)])∧∀ base:Heap,(K w.params).In base→base.Ns mainGlobals mg→FnOk l.prog w (K w.params) mg base CX0 7 fa fd ["_law_script"] (ziH (K w.params))) :
    PySem.W.WalkO q loose XP YP l.row.toRowW d [] (fun f vs=>PySem.call f vs) :=
  L2.walk_of (n:=63) (k:=7) (x:="_law_script") (CX:=fun _=>CX0) (sp:=fun w=>ziH (K w.params)) hn (by decide) hdf ⟨rfl,by decide,by decide⟩ hY hT F (fun _ _ a ns hl _ hS=>⟨a,ns,rfl,hS,hl,fun _=>rfl⟩) fun _ _ _ _ _ z=>z
end My
def PySem.W.Fast.tw4263609162929239772:Nat:=0
def PySem.W.Fast.tw10872688454448228070:Nat:=0
def PySem.W.Fast.tw13605644090790398530:Nat:=0
def PySem.W.Fast.tw3180313643797337338:Nat:=0
def PySem.W.Fast.tw3240230682786176684:Nat:=0
def PySem.W.Fast.tw2364876135068080548:Nat:=0
def PySem.W.Fast.tw17916908365461844711:Nat:=0
def PySem.W.Fast.tw17007550263954063829:Nat:=0
def PySem.W.Fast.tw6809966981069701405:Nat:=0
def PySem.W.Fast.tw15236727306011853205:Nat:=0
def PySem.W.Fast.tw3805611431329532058:Nat:=0
def PySem.W.Fast.tw4526127922046098466:Nat:=0
def PySem.W.Fast.tw14235149985075421533:Nat:=0
def PySem.W.Fast.tw2773548136305909136:Nat:=0
open PySem PySem.W PyProof.Rows
set_option maxRecDepth 100000 in
set_option maxHeartbeats 0 in
theorem PySem.Challenge.cw_goodenough_k41_too_many_holds : PySem.Challenge.rw_goodenough_k41_too_many.Holds := by
  w_on; o_law; k_head; (case hw=>w_witness2)
  k_fill
  refine My.walk (l:=PySem.Challenge.rw_goodenough_k41_too_many) rfl rfl (fun w h Y=>by first | exact PySem.W.kIn_of Y | exact PySem.W.km_in_of Y) ?tab ?F
  (case tab=>intro w; kernel_rfl)
  case F =>
    intro w mg fa h KX G hmg
    refine' My.all_mk KX G hmg (L2.defAt_mk ?a0 ?l0 ?c0 ?k0) (L2.defAt_mk ?a1 ?l1 ?c1 ?k1) (L2.defAt_mk ?a2 ?l2 ?c2 ?k2) (L2.defAt_mk ?a3 ?l3 ?c3 ?k3) (L2.defAt_mk ?a4 ?l4 ?c4 ?k4) (L2.defAt_mk ?a5 ?l5 ?c5 ?k5) (L2.defAt_mk ?a6 ?l6 ?c6 ?k6) (L2.defAt_mk ?a7 ?l7 ?c7 ?k7) (L2.defAt_mk ?a8 ?l8 ?c8 ?k8) (L2.defAt_mk ?a9 ?l9 ?c9 ?k9) (L2.defAtD_mk ?a10 ?l10 ?c10 ?k10 ?t10) (L2.defAt_mk ?a11 ?l11 ?c11 ?k11) (L2.defAt_mk ?a12 ?l12 ?c12 ?k12) (L2.defAt_mk ?a13 ?l13 ?c13 ?k13) ?aL ?lL ?cL ?kL ?z0 ?z1 ?z2 ?z3 ?z4 ?z5 ?z6 ?z7 ?z8 ?z9 ?z10 ?un_CoverQuestion ?un_SackQuestion ?pzn ?pzt ?phd_CoverQuestion ?phd_SackQuestion ?ppg_CoverQuestion ?ppo_CoverQuestion ?psa_CoverQuestion ?pna_CoverQuestion_cheapest ?pna_CoverQuestion_many ?pna_CoverQuestion_sets ?pmk_CoverQuestion ?pkp_CoverQuestion ?ppg_SackQuestion ?ppo_SackQuestion ?psa_SackQuestion ?pna_SackQuestion_room ?pna_SackQuestion_things ?pmk_SackQuestion ?pkp_SackQuestion ?un_EnoughError ?un_NoShare ?un_NoLengths ?un_TooMany ?un_NoCover ?un_NoRoom ?un_NoText ?ui_NoCover ?ul_NoCover ?uc_NoCover ?uk_NoCover ?ux_NoCover ?uf_NoCover ?una_NoCover ?usa_NoCover ?uov_NoCover ?ue_TooMany ?ub_EnoughError ?uzn ?uzt ?uhd_EnoughError ?uhd_NoShare ?uhd_NoLengths ?uhd_TooMany ?uhd_NoCover ?uhd_NoRoom ?uhd_NoText ?uty_EnoughError ?uty_NoShare ?uty_NoLengths ?uty_TooMany ?uty_NoCover ?uty_NoRoom ?uty_NoText ?uga_TooMany ?ugn_TooMany ?uha_TooMany ?umr_TooMany_EnoughError ?umr_TooMany_NoShare ?umr_TooMany_NoLengths ?umr_TooMany_TooMany ?umr_TooMany_NoCover ?umr_TooMany_NoRoom ?umr_TooMany_NoText ?umt_TooMany_object ?umt_TooMany_BaseException ?umt_TooMany_ValueError ?uga_NoCover ?ugn_NoCover ?uha_NoCover ?umr_NoCover_EnoughError ?umr_NoCover_NoShare ?umr_NoCover_NoLengths ?umr_NoCover_TooMany ?umr_NoCover_NoCover ?umr_NoCover_NoRoom ?umr_NoCover_NoText ?umt_NoCover_object ?umt_NoCover_BaseException ?umt_NoCover_ValueError (L2.methAt_mk ?ma0 ?mi0 ?ml0 ?mc0 ?mk0) (L2.methAt_mk ?ma1 ?mi1 ?ml1 ?mc1 ?mk1) (L2.methAt_mk ?ma2 ?mi2 ?ml2 ?mc2 ?mk2) (L2.methAt_mk ?ma3 ?mi3 ?ml3 ?mc3 ?mk3) (L2.methAt_mk ?ma4 ?mi4 ?ml4 ?mc4 ?mk4) (L2.methAt_mk ?ma5 ?mi5 ?ml5 ?mc5 ?mk5) (L2.methAt_mk ?ma6 ?mi6 ?ml6 ?mc6 ?mk6) (L2.methAt_mk ?ma7 ?mi7 ?ml7 ?mc7 ?mk7) (L2.methAt_mk ?ma8 ?mi8 ?ml8 ?mc8 ?mk8)
    (case a0=>k_is); (case l0=>k_is); (case c0=>k_is); (case k0=>k_is)
    (case a1=>k_is); (case l1=>k_is); (case c1=>k_is); (case k1=>k_is)
    (case a2=>k_is); (case l2=>k_is); (case c2=>k_is); (case k2=>k_is)
    (case a3=>k_is); (case l3=>k_is); (case c3=>k_is); (case k3=>k_is)
    (case a4=>k_is); (case l4=>k_is); (case c4=>k_is); (case k4=>k_is)
    (case a5=>k_is); (case l5=>k_is); (case c5=>k_is); (case k5=>k_is)
    (case a6=>k_is); (case l6=>k_is); (case c6=>k_is); (case k6=>k_is)
    (case a7=>k_is); (case l7=>k_is); (case c7=>k_is); (case k7=>k_is)
    (case a8=>k_is); (case l8=>k_is); (case c8=>k_is); (case k8=>k_is)
    (case a9=>k_is); (case l9=>k_is); (case c9=>k_is); (case k9=>k_is)
    (case a10=>k_is); (case l10=>k_is); (case c10=>k_is); (case k10=>k_is); (case t10=>k_is)
    (case a11=>k_is); (case l11=>k_is); (case c11=>k_is); (case k11=>k_is)
    (case a12=>k_is); (case l12=>k_is); (case c12=>k_is); (case k12=>k_is)
    (case a13=>k_is); (case l13=>k_is); (case c13=>k_is); (case k13=>k_is)
    (case aL=>k_is); (case lL=>k_is); (case cL=>k_is); (case kL=>k_is)
    (case z0=>k_is)
    (case z1=>k_is)
    (case z2=>k_is)
    (case z3=>k_is)
    (case z4=>k_is)
    (case z5=>k_is)
    (case z6=>k_is)
    (case z7=>k_is)
    (case z8=>k_is)
    (case z9=>k_is)
    (case z10=>k_is)
    (case un_CoverQuestion=>k_is)
    (case un_SackQuestion=>k_is)
    (case pzn=>k_is)
    (case pzt=>k_is)
    (case phd_CoverQuestion=>k_is)
    (case phd_SackQuestion=>k_is)
    (case ppg_CoverQuestion=>k_is)
    (case ppo_CoverQuestion=>k_is)
    (case psa_CoverQuestion=>k_is)
    (case pna_CoverQuestion_cheapest=>k_is)
    (case pna_CoverQuestion_many=>k_is)
    (case pna_CoverQuestion_sets=>k_is)
    (case pmk_CoverQuestion=>k_is)
    (case pkp_CoverQuestion=>k_is)
    (case ppg_SackQuestion=>k_is)
    (case ppo_SackQuestion=>k_is)
    (case psa_SackQuestion=>k_is)
    (case pna_SackQuestion_room=>k_is)
    (case pna_SackQuestion_things=>k_is)
    (case pmk_SackQuestion=>k_is)
    (case pkp_SackQuestion=>k_is)
    (case un_EnoughError=>k_is)
    (case un_NoShare=>k_is)
    (case un_NoLengths=>k_is)
    (case un_TooMany=>k_is)
    (case un_NoCover=>k_is)
    (case un_NoRoom=>k_is)
    (case un_NoText=>k_is)
    (case ui_NoCover=>k_is)
    (case ul_NoCover=>k_is)
    (case uc_NoCover=>k_is)
    (case uk_NoCover=>k_is)
    (case ux_NoCover=>kernel_rfl)
    (case uf_NoCover=>k_is)
    (case una_NoCover=>k_is)
    (case usa_NoCover=>k_is)
    (case uov_NoCover=>kernel_rfl)
    (case ue_TooMany=>k_exc)
    (case ub_EnoughError=>k_is)
    (case uzn=>k_is)
    (case uzt=>k_is)
    (case uhd_EnoughError=>k_is)
    (case uhd_NoShare=>k_is)
    (case uhd_NoLengths=>k_is)
    (case uhd_TooMany=>k_is)
    (case uhd_NoCover=>k_is)
    (case uhd_NoRoom=>k_is)
    (case uhd_NoText=>k_is)
    (case uty_EnoughError=>k_is)
    (case uty_NoShare=>k_is)
    (case uty_NoLengths=>k_is)
    (case uty_TooMany=>k_is)
    (case uty_NoCover=>k_is)
    (case uty_NoRoom=>k_is)
    (case uty_NoText=>k_is)
    (case uga_TooMany=>k_is)
    (case ugn_TooMany=>k_is)
    (case uha_TooMany=>k_is)
    (case umr_TooMany_EnoughError=>k_is)
    (case umr_TooMany_NoShare=>k_is)
    (case umr_TooMany_NoLengths=>k_is)
    (case umr_TooMany_TooMany=>k_is)
    (case umr_TooMany_NoCover=>k_is)
    (case umr_TooMany_NoRoom=>k_is)
    (case umr_TooMany_NoText=>k_is)
    (case umt_TooMany_object=>k_is)
    (case umt_TooMany_BaseException=>k_is)
    (case umt_TooMany_ValueError=>k_is)
    (case uga_NoCover=>k_is)
    (case ugn_NoCover=>k_is)
    (case uha_NoCover=>k_is)
    (case umr_NoCover_EnoughError=>k_is)
    (case umr_NoCover_NoShare=>k_is)
    (case umr_NoCover_NoLengths=>k_is)
    (case umr_NoCover_TooMany=>k_is)
    (case umr_NoCover_NoCover=>k_is)
    (case umr_NoCover_NoRoom=>k_is)
    (case umr_NoCover_NoText=>k_is)
    (case umt_NoCover_object=>k_is)
    (case umt_NoCover_BaseException=>k_is)
    (case umt_NoCover_ValueError=>k_is)
    (case ma0=>k_is); (case mi0=>k_is); (case ml0=>k_is); (case mc0=>k_is); (case mk0=>k_is)
    (case ma1=>k_is); (case mi1=>k_is); (case ml1=>k_is); (case mc1=>k_is); (case mk1=>k_is)
    (case ma2=>k_is); (case mi2=>k_is); (case ml2=>k_is); (case mc2=>k_is); (case mk2=>k_is)
    (case ma3=>k_is); (case mi3=>k_is); (case ml3=>k_is); (case mc3=>k_is); (case mk3=>k_is)
    (case ma4=>k_is); (case mi4=>k_is); (case ml4=>k_is); (case mc4=>k_is); (case mk4=>k_is)
    (case ma5=>k_is); (case mi5=>k_is); (case ml5=>k_is); (case mc5=>k_is); (case mk5=>k_is)
    (case ma6=>k_is); (case mi6=>k_is); (case ml6=>k_is); (case mc6=>k_is); (case mk6=>k_is)
    (case ma7=>k_is); (case mi7=>k_is); (case ml7=>k_is); (case mc7=>k_is); (case mk7=>k_is)
    (case ma8=>k_is); (case mi8=>k_is); (case ml8=>k_is); (case mc8=>k_is); (case mk8=>k_is)
#print axioms PySem.Challenge.cw_goodenough_k41_too_many_holds
