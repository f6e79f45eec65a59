import PyProof.Rows.All
import Wide.All
import OpenK.AllK
import Wide.FinOn
import Lean
import PyProof.EqAt
import PyProof.EqKinds
import PyProof.TupleCall
import PySem.Challenge.RW_goodenough_k11_lines_pay
set_option Elab.async false
set_option linter.all false
set_option maxRecDepth 100000
set_option maxHeartbeats 4000000
noncomputable section
namespace L2
open PySem PySem.Spec PyProof.Rows
abbrev Key:=Sum Int Str
def zgQ:Key→Value→Bool
  | .inl k,v=>Value.isInt k v
  | .inr x,v=>Value.isStrOf x v
def keyH (w:World):Key→Int
  | .inl k=>hashInt k
  | .inr x=>hashStr w x
theorem zaP:∀ {k:Key} {v:Value},zgQ k v=true→(∃ i t,k=Sum.inl i∧v=Value.int i t)∨(∃ x t,k=Sum.inr x∧v=Value.str x t)
  | .inl i,v,h=>by
    obtain ⟨t,e⟩:=Value.isInt_shape (k:=i) (v:=v) h
    exact .inl ⟨i,t,rfl,e⟩
  | .inr x,v,h=>by
    obtain ⟨t,e⟩:=Value.isStrOf_shape (x:=x) (v:=v) h
    exact .inr ⟨x,t,rfl,e⟩
theorem zhJ (i:Int) (t:Tok):zgQ (.inl i) (.int i t)=true:=by simp [zgQ,Value.isInt]
theorem zhK (x:Str) (t:Tok):zgQ (.inr x) (.str x t)=true:=by simp [zgQ,Value.isStrOf]
theorem zjQ (a b:Int):decide ((Sum.inl a:Key)=Sum.inl b)=(a == b):=by
  by_cases e:a=b
  · subst e; simp
  · have h:¬ (Sum.inl a:Key)=Sum.inl b:=fun q=>e (Sum.inl.inj q)
    rw [decide_eq_false h]
    exact (beq_eq_false_iff_ne.mpr e).symm
theorem zjJ (a b:Str):decide ((Sum.inr a:Key)=Sum.inr b)=decide (a=b):=by
  by_cases e:a=b
  · subst e; simp
  · have h:¬ (Sum.inr a:Key)=Sum.inr b:=fun q=>e (Sum.inr.inj q)
    rw [decide_eq_false h,decide_eq_false e]
theorem zkj (a:Int) (b:Str):decide ((Sum.inl a:Key)=Sum.inr b)=false:=decide_eq_false (fun q=>nomatch q)
theorem zkm (a:Str) (b:Int):decide ((Sum.inr a:Key)=Sum.inl b)=false:=decide_eq_false (fun q=>nomatch q)
def zbh (prog:Program) (w:World):PySem.KeyKind prog w Key where
  is:=zgQ
  hash:=keyH w
  inj:=fun v a b ha hb=>by
    rcases zaP ha with ⟨i,t,rfl,rfl⟩ | ⟨x,t,rfl,rfl⟩
    · rcases zaP hb with ⟨j,u,rfl,e⟩ | ⟨y,u,rfl,e⟩
      · injection e with e1 _; rw [e1]
      · exact nomatch e
    · rcases zaP hb with ⟨j,u,rfl,e⟩ | ⟨y,u,rfl,e⟩
      · exact nomatch e
      · injection e with e1 _; rw [e1]
  byValue:=fun k v h=>by
    rcases zaP h with ⟨i,t,rfl,rfl⟩ | ⟨x,t,rfl,rfl⟩ <;> rfl
  pyHash:=fun hv h=>by
    rcases zaP hv with ⟨i,t,rfl,rfl⟩ | ⟨x,t,rfl,rfl⟩
    · exact wpAny_pyHash_int h
    · exact wpAny_pyHash_str h
  eqBool:=fun hu hv h=>by
    rcases zaP hu with ⟨i,t,rfl,rfl⟩ | ⟨x,t,rfl,rfl⟩
    · rcases zaP hv with ⟨j,u,rfl,rfl⟩ | ⟨y,u,rfl,rfl⟩
      · rw [zjQ] at h; exact wpAny_eqBool_int h
      · rw [zkj] at h; exact SeqAt.EqAt.int_str i t y u _ _ _ _ h
    · rcases zaP hv with ⟨j,u,rfl,rfl⟩ | ⟨y,u,rfl,rfl⟩
      · rw [zkm] at h; exact SeqAt.EqAt.str_int x t j u _ _ _ _ h
      · rw [zjJ] at h; exact wpAny_eqBool_str h
  «strs»:=fun k x t v h=>by
    rcases zaP h with ⟨i,u,rfl,e⟩ | ⟨y,u,rfl,e⟩
    · exact nomatch e
    · injection e with e1 _
      subst e1
      cases v <;> rfl
theorem zfP (prog:Program) (w:World) (i:Int) (t:Tok):(zbh prog w).is (.inl i) (.int i t)=true:=zhJ i t
theorem zfx (prog:Program) (w:World) (x:Str) (t:Tok):(zbh prog w).is (.inr x) (.str x t)=true:=zhK x t
end L2
namespace L2
open PySem PySem.Spec PyProof.Rows
inductive V where
  | non | bl (b:Bool) | int (i:Int) | str (x:Str) | byt (b:Array UInt8) | flt (b:UInt64) | ref (a:Addr) | ty (n:String)
  deriving DecidableEq
def RelV:V→Value→Prop
  | .non,u=>u=Value.none
  | .bl b,u=>u=Value.bool b
  | .int i,u=>∃ t,u=Value.int i t
  | .str x,u=>∃ t,u=Value.str x t
  | .byt b,u=>∃ t,u=Value.bytes b t
  | .flt b,u=>∃ t,u=Value.float b t
  | .ref a,u=>u=Value.ref a
  | .ty n,u=>u=Value.type n
abbrev Vals:List V→List Value→Prop:=Paired RelV
theorem Vals.length {xs:List V} {us:List Value} (r:Vals xs us):xs.length=us.length:=Paired.length r
theorem Vals.get:∀ {xs:List V} {us:List Value} {i:Nat} {x:V},Vals xs us→xs[i]?=some x→∃ u,us[i]?=some u∧RelV x u
  | _,_,_,_,.nil,e=>by simp at e
  | _,_,0,_,.cons r _,e=>by simp at e; subst e; exact ⟨_,rfl,r⟩
  | _,_,i + 1,x,.cons _ t,e=>by
    obtain ⟨u,h1,h2⟩:=Vals.get (i:=i) (x:=x) t (by simpa using e)
    exact ⟨u,by simpa using h1,h2⟩
theorem Vals.set {x:V} {u:Value} (r:RelV x u):∀ {xs:List V} {us:List Value} (i:Nat),Vals xs us→Vals (xs.set i x) (us.set i u)
  | _,_,_,.nil=>.nil
  | _,_,0,.cons _ t=>.cons r t
  | _,_,i + 1,.cons q t=>.cons q (Vals.set r i t)
theorem Vals.append:∀ {xs ys:List V} {us ws:List Value},Vals xs us→Vals ys ws→Vals (xs ++ ys) (us ++ ws)
  | _,_,_,_,.nil,s=>s
  | _,_,_,_,.cons r t,s=>.cons r (Vals.append t s)
theorem Vals.take:∀ {xs:List V} {us:List Value} (n:Nat),Vals xs us→Vals (xs.take n) (us.take n)
  | _,_,0,_=>.nil
  | _,_,_ + 1,.nil=>.nil
  | _,_,n + 1,.cons r t=>.cons r (Vals.take n t)
theorem Vals.drop:∀ {xs:List V} {us:List Value} (n:Nat),Vals xs us→Vals (xs.drop n) (us.drop n)
  | _,_,0,r=>r
  | _,_,_ + 1,.nil=>.nil
  | _,_,n + 1,.cons _ t=>Vals.drop n t
def RelO:Option V→Option Value→Prop
  | some v,some u=>RelV v u
  | none,none=>True
  | _,_=>False
def KV {κ:Type}:List (κ × V)→List (κ × Value)→Prop:=Paired fun (p:κ × V) (q:κ × Value)=>p.1=q.1∧RelV p.2 q.2
def kV:Key→V
  | .inl i=>.int i
  | .inr x=>.str x
inductive HO where
  | lst (xs:List V)
  | tup (xs:List V)
  | dK (kvs:List (Key × V)) | dT (kvs:List (List Key × V))
  | set (S:Int→Bool) (n:Nat)
  | ins (C dx:Addr) (fs:List (Str × V))
  | own (x:Addr)
  | xd (fs:List (Str × V))
  | met (f x:Addr)
  | rng (lo hi:Int)
  | frz (o:Obj) (u:HO)
  | tbl (ps:Array Value)
  | ext (φ:Heap→Prop)
abbrev Hp:=Addr→Option HO
def upd (H:Hp) (a:Addr) (o:HO):Hp:=fun b=>if b=a then some o else H b
theorem zam {H:Hp} {a:Addr} {o:HO}:upd H a o a=some o:=by unfold upd; rw [if_pos rfl]
theorem zag {H:Hp} {a b:Addr} {o:HO} (h:b ≠ a):upd H a o b=H b:=by unfold upd; rw [if_neg h]
theorem zkL {H:Hp} {a b:Addr} {o u:HO} (h:H a=some o) (h':H b=some u) (d:o ≠ u):a ≠ b:=by
  intro e; subst e; rw [h] at h'; exact d (Option.some.inj h')
theorem zaj {H:Hp} {a b:Addr} {o:HO} (h:H a=some o) (h':H b=none):a ≠ b:=by
  intro e; subst e; rw [h] at h'; cases h'
def zjN (fd:FuncData):Option Pos :=
  match fd.body with
  | .stmts [.Return (some (.Call _ _ [⟨_,.Lambda _ _ _ pos,_⟩] _)) _]=>some pos
  | _=>none
def tabAt (K:PySem.W.Frag) (v:Value):Option Addr :=
  match v with
  | .ref c=>match K.lookup c with
    | some o=>match o.data with
      | .fields vs=>match (vs[11]?:Option Value) with
        | some (.ref P)=>some P
        | _=>none
      | _=>none
    | _=>none
  | _=>none
def tabOf (K:PySem.W.Frag):Option (Addr × Array Value) :=
  K.findSome? fun p=>match p.2.data with
    | .func fd=>match zjN fd with
      | some pos=>(tabAt K fd.code).map fun P=>(P,#[.str (fd.qualname ++ ".<locals>." ++ "<lambda>") 0,rawInt pos.line,rawInt pos.col])
      | none=>none
    | _=>none
def TblOk (H:Hp) (h:Heap) (a:Addr) (ps:Array Value):Prop :=
  ∃ (q:Str) (t:Tok) (ln cl:Int) (more:List Value) (real:Array Value),ps.toList = .str q t :: rawInt ln :: rawInt cl :: more∧h.get? a=some { cls:=.none,data:=.fields real } ∧
    (real = #[]∨∃ (c:Addr) (o:Obj) (vs:Array Value) (u:Tok),real = #[rawInt ln,rawInt cl,.ref c]∧H c=some (.own a)∧h.get? c=some o∧o.data = .fields vs∧vs[1]?=some (.str q u))
theorem TblOk.lt {H:Hp} {h:Heap} {a:Addr} {ps:Array Value} (x:TblOk H h a ps):a < h.objs.size:=by
  obtain ⟨_,_,_,_,_,_,_,e,_⟩:=x
  exact Heap.lt_size e
theorem TblOk.stay {H H':Hp} {h h':Heap} {a:Addr} {ps:Array Value} (x:TblOk H h a ps) (k:∀ b u,(b=a∨H b=some (.own a))→h.get? b=some u→h'.get? b=some u)
    (ho:∀ b,H b=some (.own a)→H' b=some (.own a)):TblOk H' h' a ps:=by
  obtain ⟨q,t,ln,cl,more,real,e1,e2,e3⟩:=x
  refine ⟨q,t,ln,cl,more,real,e1,k _ _ (.inl rfl) e2,?_⟩
  rcases e3 with e3 | ⟨c,o,vs,u,r1,r2,r3,r4⟩
  · exact .inl e3
  · exact .inr ⟨c,o,vs,u,r1,ho _ r2,k _ _ (.inr r2) r3,r4⟩
def TbAt (K:PySem.W.Frag) (H:Hp):Prop:=∀ t,tabOf K=some t→∃ more,H t.1=some (.tbl (t.2 ++ more))
theorem TbAt.none {K:PySem.W.Frag} {H:Hp} (h:tabOf K = .none):TbAt K H:=fun t e=>by rw [h] at e; cases e
theorem TbAt.grown {K:PySem.W.Frag} {H H':Hp} (x:TbAt K H) (g:∀ b ps,H b=some (.tbl ps)→∃ more,H' b=some (.tbl (ps ++ more))):TbAt K H':=fun t e=>by
  obtain ⟨m1,e1⟩:=x t e
  obtain ⟨m2,e2⟩:=g _ _ e1
  exact ⟨m1 ++ m2,by rw [e2,Array.append_assoc]⟩
section
variable (P:Program) (w:World)
def ObjOk (H:Hp) (h:Heap) (a:Addr):HO→Prop
  | .lst xs=>xs.length ≤ sizeLine∧∃ (its:List Value) (n:Nat),Vals xs its∧h.get? a=some { cls:=.type "list",data:=.seq its.toArray n }
  | .tup xs=>xs.length ≤ sizeLine∧∃ its:List Value,Vals xs its∧IsTup h a its.toArray
  | .dK kvs=>kvs.length ≤ sizeLine∧(a == sysModules)=false∧∃ vs,KV kvs vs∧h.DictOf (zbh P w) a vs
  | .dT kvs=>kvs.length ≤ sizeLine∧(a == sysModules)=false∧∃ xs:List (List Key × Addr × Value),
      Paired (fun (p:List Key × V) (q:List Key × Addr × Value)=>p.1=q.1∧H q.2.1=some (.tup (p.1.map kV))∧RelV p.2 q.2.2) kvs xs ∧
      ∃ o es ep,h.get? a=some o∧o.ExactDict∧o.data = .dict es ep∧es.toList=xs.map (entryOfKey (tupleKind (zbh P w)))∧(xs.map (·.1)).Nodup
  | .set S n=>h.SetOf (intKind P w) a S n
  | .ins C dx fs=>H dx=some (.own a)∧fs.length ≤ 1000∧dx ≠ a∧h.get? a=some (PySem.W.instObj C dx) ∧
      ∃ mA,h.Ns1 dx mA∧(∀ f,RelO (fs.lookup f) (mA f))∧PySem.Within mA (fs.map (·.1))
  | .own _=>∃ o,h.get? a=some o
  | .xd fs=>∃ mA,h.Ns1 a mA∧∀ f,RelO (fs.lookup f) (mA f)
  | .rng lo hi=>∃ t u v,h.get? a=some { cls:=.type "range",data:=.fields #[.int lo t,.int hi u,.int 1 v] }
  | .frz o u=>h.get? a=some o∧ObjOk H h a u
  | .tbl ps=>TblOk H h a ps
  | .met f x=>h.get? a=some (PySem.W.methodObj (.ref f) (.ref x))
  | .ext φ=>φ h∧(∃ o,h.get? a=some o)∧∀ h1 h2:Heap,φ h1→(∀ o,h1.get? a=some o→h2.get? a=some o)→φ h2
def HOk (H:Hp) (h:Heap):Prop:=∀ a o,H a=some o→ObjOk P w H h a o
end
section
variable {P:Program} {w:World} {H H':Hp} {h h':Heap} {a:Addr} {o:HO}
theorem ObjOk.lt (x:ObjOk P w H h a o):a < h.objs.size:=by
  cases o with
  | lst xs=>obtain ⟨_,_,_,_,e⟩:=x; exact Heap.lt_size e
  | tup xs=>obtain ⟨_,_,_,p⟩:=x; exact p.lt
  | dK kvs=>obtain ⟨_,_,_,_,o,_,_,e,_⟩:=x; exact Heap.lt_size e
  | dT kvs=>obtain ⟨_,_,_,_,o,_,_,e,_⟩:=x; exact Heap.lt_size e
  | set S n=>obtain ⟨o,_,_,_,e,_⟩:=x; exact Heap.lt_size e
  | ins C dx fs=>obtain ⟨_,_,_,e,_⟩:=x; exact Heap.lt_size e
  | own y=>obtain ⟨_,e⟩:=x; exact Heap.lt_size e
  | xd fs=>obtain ⟨_,⟨_,_,_,e,_⟩,_⟩:=x; exact Heap.lt_size e
  | rng lo hi=>obtain ⟨_,_,_,e⟩:=x; exact Heap.lt_size e
  | frz ob u=>obtain ⟨e,_⟩:=x; exact Heap.lt_size e
  | tbl ps=>exact TblOk.lt x
  | met f y=>exact Heap.lt_size (show h.get? a=some _ from x)
  | ext φ=>obtain ⟨_,⟨_,e⟩,_⟩:=x; exact Heap.lt_size e
theorem Paired.mapP {α β:Type} {F G:α→β→Prop}:∀ {l₁:List α} {l₂:List β},Paired F l₁ l₂→(∀ a b,F a b→G a b)→Paired G l₁ l₂
  | _,_,.nil,_=>.nil
  | _,_,.cons r t,f=>.cons (f _ _ r) (Paired.mapP t f)
theorem ObjOk.stay (x:ObjOk P w H h a o) (k:∀ b u,(b=a∨H b=some (.own a))→h.get? b=some u→h'.get? b=some u)
    (ho:∀ b,H b=some (.own a)→H' b=some (.own a)) (ht:∀ b xs,H b=some (.tup xs)→H' b=some (.tup xs)):ObjOk P w H' h' a o:=by
  induction o with
  | lst xs=>obtain ⟨z,its,n,r,e⟩:=x; exact ⟨z,its,n,r,k _ _ (.inl rfl) e⟩
  | tup xs=>obtain ⟨z,its,r,ob,e,c⟩:=x; exact ⟨z,its,r,ob,k _ _ (.inl rfl) e,c⟩
  | dK kvs=>obtain ⟨z,y,vs,r,ob,es,ep,e,c⟩:=x; exact ⟨z,y,vs,r,ob,es,ep,k _ _ (.inl rfl) e,c⟩
  | dT kvs =>
    obtain ⟨z,y,xs,r,ob,es,ep,e,c⟩:=x
    exact ⟨z,y,xs,Paired.mapP r fun p q z=>⟨z.1,ht _ _ z.2.1,z.2.2⟩,ob,es,ep,k _ _ (.inl rfl) e,c⟩
  | set S n=>obtain ⟨ob,es,ep,t,e,c⟩:=x; exact ⟨ob,es,ep,t,k _ _ (.inl rfl) e,c⟩
  | ins C dx fs =>
    obtain ⟨d,z,ne,e,mA,⟨od,es,ep,e2,c⟩,r⟩:=x
    exact ⟨ho _ d,z,ne,k _ _ (.inl rfl) e,mA,⟨od,es,ep,k _ _ (.inr d) e2,c⟩,r⟩
  | own y=>obtain ⟨ob,e⟩:=x; exact ⟨ob,k _ _ (.inl rfl) e⟩
  | xd fs=>obtain ⟨mA,⟨od,es,ep,e,c⟩,r⟩:=x; exact ⟨mA,⟨od,es,ep,k _ _ (.inl rfl) e,c⟩,r⟩
  | rng lo hi=>obtain ⟨t,u,v,e⟩:=x; exact ⟨t,u,v,k _ _ (.inl rfl) e⟩
  | frz ob u ih=>obtain ⟨e,q⟩:=x; exact ⟨k _ _ (.inl rfl) e,ih q⟩
  | tbl ps=>exact TblOk.stay x k ho
  | met f y =>
    have e:h.get? a=some (PySem.W.methodObj (.ref f) (.ref y)):=x
    show h'.get? a=some (PySem.W.methodObj (.ref f) (.ref y))
    exact k a _ (.inl rfl) e
  | ext φ=>obtain ⟨p,⟨o,e⟩,st⟩:=x; exact ⟨st _ _ p fun o q=>k _ _ (.inl rfl) q,⟨o,k _ _ (.inl rfl) e⟩,st⟩
theorem HOk.lt (x:HOk P w H h) (e:H a=some o):a < h.objs.size:=(x a o e).lt
theorem HOk.fresh (x:HOk P w H h) (e:h.objs.size ≤ a):H a=none:=by
  cases q:H a with
  | none=>rfl
  | some u=>exact absurd (Nat.lt_of_lt_of_le (x.lt q) e) (Nat.lt_irrefl _)
theorem HOk.kept (x:HOk P w H h) (k:∀ b u,h.get? b=some u→h'.get? b=some u):HOk P w H h':=fun a o e =>
  (x a o e).stay (fun b u _ q=>k b u q) (fun _ q=>q) fun _ _ q=>q
theorem HOk.laid (x:HOk P w H h) (k:∀ b u,h.get? b=some u→h'.get? b=some u) (hp:h.objs.size ≤ a) (new:ObjOk P w (upd H a o) h' a o):HOk P w (upd H a o) h':=fun b u e=>by
  have hn:=x.fresh hp
  by_cases hb:b=a
  · subst hb; rw [zam] at e; cases e; exact new
  · rw [zag hb] at e
    exact (x b u e).stay (fun c v _ q=>k c v q) (fun c q=>by rw [zag (zaj q hn)]; exact q) fun c xs q=>by rw [zag (zaj q hn)]; exact q
end
def Rd (H:Hp) (a:Addr) (u:HO):Prop:=H a=some u∨∃ o,H a=some (.frz o u)
theorem Rd.ok {P:Program} {w:World} {H:Hp} {h:Heap} {a:Addr} {u:HO} (r:Rd H a u) (x:HOk P w H h):ObjOk P w H h a u:=by
  rcases r with r | ⟨o,r⟩
  · exact x a u r
  · obtain ⟨_,q⟩:=x a _ r
    exact q
def Mut:Option HO→Prop
  | some (.lst _)=>True
  | some (.dK _)=>True
  | some (.dT _)=>True
  | some (.set _ _)=>True
  | some (.ins _ _ _)=>True
  | some (.ext _)=>True
  | _=>False
section
variable {P:Program} {w:World} {H:Hp} {h h':Heap} {x e:Addr} {o':HO}
theorem HOk.write (ok:HOk P w H h) (mu:Mut (H x)) (he:e=x∨H e=some (.own x)) (k:∀ b u,b ≠ e→h.get? b=some u→h'.get? b=some u) (heo:∃ u,h'.get? e=some u)
    (new:ObjOk P w (upd H x o') h' x o'):HOk P w (upd H x o') h':=fun b u q=>by
  have nown:∀ c y,H c=some (.own y)→c ≠ x:=fun c y r z=>by subst z; rw [r] at mu; exact mu
  have ntup:∀ c xs,H c=some (.tup xs)→c ≠ x:=fun c xs r z=>by subst z; rw [r] at mu; exact mu
  by_cases hb:b=x
  · subst hb; rw [zam] at q; cases q; exact new
  · rw [zag hb] at q
    by_cases hbe:b=e
    · have q':H b=some (.own x):=by
        rcases he with z | z
        · exact absurd (hbe.trans z) hb
        · rw [hbe]; exact z
      rw [q] at q'; cases q'
      obtain ⟨v,hv⟩:=heo
      exact ⟨v,by rw [hbe]; exact hv⟩
    · refine (ok b u q).stay (fun c v hc r=>k c v ?_ r) (fun c r=>by rw [zag (nown c b r)]; exact r) fun c xs r=>by rw [zag (ntup c xs r)]; exact r
      rcases hc with rfl | hc
      · exact hbe
      · rintro rfl
        rcases he with z | z
        · exact nown c b hc z
        · rw [hc] at z; cases z; exact hb rfl
end
structure Un (fs ex:List Addr) (H H':Hp) (h h':Heap):Prop where
  keep:∀ b o,h.get? b=some o→H b=none→b ∉ fs→b ∉ ex→h'.get? b=some o
  slot:∀ b o,h.get? b=some o→H b=none→b ∈ fs→b ∉ ex→∃ sl,h'.get? b=some { o with slots:=sl }
  free:∀ b o,h.get? b=some o→H b=none→b ∉ ex→H' b=none
  there:∀ b o,h.get? b=some o→b ∉ ex→∃ o',h'.get? b=some o'
  tups:∀ b xs,H b=some (.tup xs)→H' b=some (.tup xs)
  frzs:∀ b o u,H b=some (.frz o u)→H' b=some (.frz o u)
  tbls:∀ b ps,H b=some (.tbl ps)→∃ more,H' b=some (.tbl (ps ++ more))
section
variable {fs fs' ex ex':List Addr} {H H1 H2:Hp} {h h1 h2 h':Heap} {a x e:Addr} {o:HO}
theorem Un.any (u:Un fs ex H H1 h h1) {b:Addr} {ob:Obj} (q:h.get? b=some ob) (n:H b=none) (hx:b ∉ ex):∃ sl,h1.get? b=some { ob with slots:=sl }:=by
  by_cases hb:b ∈ fs
  · exact u.slot b ob q n hb hx
  · exact ⟨ob.slots,u.keep b ob q n hb hx⟩
theorem Un.kept (k:∀ b u,h.get? b=some u→h'.get? b=some u):Un fs ex H H h h' :=
  ⟨fun b ob q _ _ _=>k b ob q,fun b ob q _ _ _=>⟨ob.slots,k b ob q⟩,fun _ _ _ n _=>n,fun b ob q _=>⟨ob,k b ob q⟩,fun _ _ q=>q,fun _ _ _ q=>q,fun _ ps q=>⟨#[],by rw [q]; simp⟩⟩
theorem Un.refl:Un fs ex H H h h:=Un.kept fun _ _ q=>q
theorem Un.laid (k:∀ b u,h.get? b=some u→h'.get? b=some u) (hp:h.objs.size ≤ a) (hn:H a=none):Un fs ex H (upd H a o) h h' where
  keep:=fun b u q _ _ _=>k b u q
  slot:=fun b u q _ _ _=>⟨u.slots,k b u q⟩
  free:=fun b u q n _=>by rw [zag (Nat.ne_of_lt (Nat.lt_of_lt_of_le (Heap.lt_size q) hp))]; exact n
  there:=fun b u q _=>⟨u,k b u q⟩
  tups:=fun b xs q=>by rw [zag (zaj q hn)]; exact q
  frzs:=fun b u xs q=>by rw [zag (zaj q hn)]; exact q
  tbls:=fun b ps q=>⟨#[],by rw [zag (zaj q hn),q]; simp⟩
theorem Un.write (mu:Mut (H x)) (he:e=x∨H e=some (.own x)) (k:∀ b u,b ≠ e→h.get? b=some u→h'.get? b=some u) (heo:∃ u,h'.get? e=some u):Un fs ex H (upd H x o) h h':=by
  have hx:∀ b,H b=none→b ≠ x:=fun b n z=>by subst z; rw [n] at mu; exact mu
  have hb:∀ b,H b=none→b ≠ e:=fun b n z=>by
    subst z
    rcases he with r | r
    · exact hx b n r
    · rw [n] at r; cases r
  have hm:∀ b u,H b=some u→¬ Mut (some u)→b ≠ x:=fun b u q nm z=>by subst z; rw [q] at mu; exact nm mu
  refine ⟨fun b u q n _ _=>k b u (hb b n) q,fun b u q n _ _=>⟨u.slots,k b u (hb b n) q⟩,fun b u q n _=>by rw [zag (hx b n)]; exact n,fun b u q _=>?_,
    fun b xs q=>by rw [zag (hm b _ q fun z=>z)]; exact q,fun b u xs q=>by rw [zag (hm b _ q fun z=>z)]; exact q,fun b ps q=>⟨#[],by rw [zag (hm b _ q fun z=>z),q]; simp⟩⟩
  by_cases hbe:b=e
  · subst hbe; exact heo
  · exact ⟨u,k b u hbe q⟩
end
def trk (h:Heap) (H:Hp):List Addr:=(List.range h.objs.size).filter fun a=>(H a).isSome
def hidT (h:Heap) (H:Hp):Heap:=PySem.W.hideAll h (trk h H)
theorem zh3 (h:Heap) (H:Hp):(hidT h H).objs.size=h.objs.size:=PySem.W.hideAll_size _ _
theorem zin {h:Heap} {H:Hp} {b:Addr} {o:Obj} (e:h.get? b=some o) (n:H b=none):(hidT h H).get? b=some o :=
  PySem.W.hideAll_get _ e fun hm=>by
    have q:(H b).isSome=true:=(List.mem_filter.mp hm).2
    rw [n] at q; simp at q
theorem zjj {h:Heap} {H:Hp} {b:Addr} {o:Obj} (e:(hidT h H).get? b=some o):h.get? b=some o∧H b=none:=by
  have e':h.get? b=some o:=PySem.W.of_hideAll (trk h H) e
  refine ⟨e',?_⟩
  cases q:H b with
  | none=>rfl
  | some x =>
    have hm:b ∈ trk h H:=List.mem_filter.mpr ⟨List.mem_range.mpr (Heap.lt_size e'),by simp [q]⟩
    have z:(hidT h H).get? b=none:=PySem.W.hideAll_none (trk h H) hm
    rw [z] at e; cases e
def zkw (g h:Heap) (L:Addr):List (Addr × Obj):=(List.range h.objs.size).filterMap fun a=>if a=L∨(g.get? a).isSome=true then none else (h.get? a).map fun o=>(a,o)
end L2
namespace L2
open PySem PySem.Spec PyProof.Rows
structure Mod (K:PySem.W.Frag) (mg:Str→Option Value) (base:Heap):Prop where
  kin:K.In base
  glob:base.Ns mainGlobals mg
  blt:∃ mb,base.Ns builtinsNs mb∧∀ x:Str,x ≠ "__name__"→mb x=bootBuiltins x
  nolimit:base.NoLimit
structure Cx where
  prog:Program
  w:World
  K:PySem.W.Frag
  mg:Str→Option Value
  base:Heap
  A:Around
  N:List Str
  s₀:Shared
  H₀:Hp
  env:Env
  outer:List Env
  stack:List Env
  ex:List Addr
  fn:Str→Bool
  calm:Bool
  pn:List (Addr × Obj)
  xe:Value→Shared→Prop
def frs (l:List Env):List Addr:=l.filterMap (·.frame)
abbrev Cx.fs (X:Cx):List Addr:=frs X.outer
def Vis (sc:Scope) (x:Str):Prop:=sc.names.lookup x=some .local∨sc.names.lookup x=some .cell∨sc.names.lookup x=some .free
def Loc (sc:Scope) (x:Str):Prop:=sc.names.lookup x=some .local∨sc.names.lookup x=some .cell
def Look (env:Env) (h:Heap) (m:Str→Option Value) (x:Str) (u:Value):Prop :=
  (env.kindOf x=some .local∧m x=some u)∨((env.kindOf x=some .cell∨env.kindOf x=some .free)∧∃ c,env.cells.lookup x=some c∧h.IsCell c (some u))
structure Cx.Ok (X:Cx):Prop where
  mod:Mod X.K X.mg X.base
  kind:X.env.scope.kind = .function
  glob:X.env.globals=mainGlobals
  blt:X.env.builtins=builtinsNs
  above:X.s₀.heap.objs.size ≤ X.env.locals
  inj:∀ x y c,X.env.cells.lookup x=some c→X.env.cells.lookup y=some c→x=y
  has:∀ x,(X.env.kindOf x=some .cell∨X.env.kindOf x=some .free)→∃ c,X.env.cells.lookup x=some c
  cab:∀ x c,X.fn x=true→X.env.cells.lookup x=some c→X.s₀.heap.objs.size ≤ c
  hd:X.calm=true→X.A.handled=none
  frames:X.A.frames=some X.stack
  stk:X.stack=X.outer∨(X.stack=X.env :: X.outer∧X.env.frame=some X.env.locals)
  exf:∀ b ∈ X.ex,b ≠ X.env.locals∧∀ x c,X.env.cells.lookup x=some c→c ≠ b
  bs:∀ b o,X.base.get? b=some o→X.s₀.heap.get? b=some o∧X.H₀ b=none
  bsz:X.base.objs.size ≤ X.s₀.heap.objs.size
  noex:∀ b o,X.base.get? b=some o→b ∉ X.ex
  exfs:∀ b ∈ X.ex,b ∉ X.fs
  funs:X.s₀.heap.FunFrames X.base X.outer
  frf:∀ b ∈ X.fs,X.H₀ b=none
  tb:TbAt X.K X.H₀
structure Inv (X:Cx) (pins:List (Addr × Obj)) (σ:List (Option V)) (H:Hp) (s:Shared):Prop where
  ok:X.Ok
  os:s.os=X.s₀.os
  bare:AllBare s.gens
  base:Un X.fs X.ex X.H₀ H X.s₀.heap s.heap
  loc:∃ m,s.heap.Ns X.env.locals m∧∀ (i:Nat) (x:Str) (v:V),X.N[i]?=some x→σ[i]?=some (some v)→Vis X.env.scope x→∃ u,RelV v u∧Look X.env s.heap m x u
  cell:∀ x c,X.env.cells.lookup x=some c→∃ v,s.heap.IsCell c v
  free:H X.env.locals=none
  freeC:∀ x c,X.env.cells.lookup x=some c→H c=none
  pin:∀ p ∈ X.pn ++ pins,s.heap.get? p.1=some p.2∧H p.1=none∧p.1 ≠ X.env.locals∧p.1 ∉ X.fs∧∀ v,p.2.data ≠ .cell v
  hok:HOk X.prog X.w H s.heap
  len:σ.length=X.N.length
section
variable {X:Cx} {pins:List (Addr × Obj)} {σ:List (Option V)} {H H':Hp} {s:Shared} {h':Heap}
theorem Cx.Ok.nofr (ok:X.Ok) {b:Addr} {o:Obj} (e:X.base.get? b=some o):b ∉ X.fs:=fun hb=>by
  have:=(ok.funs.mem hb).1
  rw [e] at this; cases this
theorem Inv.bs (I:Inv X pins σ H s):∀ b o,X.base.get? b=some o→s.heap.get? b=some o∧H b=none:=fun b o e =>
  ⟨I.base.keep b o (I.ok.bs b o e).1 (I.ok.bs b o e).2 (I.ok.nofr e) (I.ok.noex b o e),I.base.free b o (I.ok.bs b o e).1 (I.ok.bs b o e).2 (I.ok.noex b o e)⟩
theorem Inv.bk (I:Inv X pins σ H s):∀ b o,X.base.get? b=some o→s.heap.get? b=some o:=fun b o e=>(I.bs b o e).1
theorem Inv.mod (I:Inv X pins σ H s):Mod X.K X.mg X.base:=I.ok.mod
theorem Inv.kIn (I:Inv X pins σ H s):X.K.In s.heap:=I.ok.mod.kin.keeps I.bk
theorem Inv.lt (I:Inv X pins σ H s):X.env.locals < s.heap.objs.size:=let ⟨_,hn,_⟩:=I.loc; hn.lt
theorem Inv.sz (I:Inv X pins σ H s):X.s₀.heap.objs.size ≤ s.heap.objs.size:=Nat.le_trans I.ok.above (Nat.le_of_lt I.lt)
theorem Inv.nofs (I:Inv X pins σ H s) {a:Addr} (h:s.heap.objs.size ≤ a):a ∉ X.fs:=fun hb=>by
  obtain ⟨_,o,ho,_⟩:=I.ok.funs.mem hb
  exact absurd (Nat.lt_of_lt_of_le (Heap.lt_size ho) (Nat.le_trans I.sz h)) (Nat.lt_irrefl _)
theorem Inv.cne (I:Inv X pins σ H s):∀ x c,X.env.cells.lookup x=some c→c ≠ X.env.locals:=fun x c e z=>by
  obtain ⟨v,o,ho,hd⟩:=I.cell x c e
  obtain ⟨m,⟨o',es,ep,ho',hd',_⟩,_⟩:=I.loc
  rw [z,ho'] at ho; cases ho; rw [hd'] at hd; cases hd
theorem Inv.funs (I:Inv X pins σ H s):s.heap.FunFrames X.base X.outer:=by
  have all:∀ (l:List Env),(∀ b ∈ frs l,b ∈ X.fs)→X.s₀.heap.FunFrames X.base l→s.heap.FunFrames X.base l:=by
    intro l
    induction l with
    | nil=>intro _ _; trivial
    | cons env r ih =>
      intro hs hl
      obtain ⟨hk,⟨L,o,hf,hn,ho,hd⟩,hr⟩:=hl
      have hL:L ∈ X.fs:=hs L (by unfold frs; rw [List.filterMap_cons,hf]; exact List.mem_cons_self)
      obtain ⟨sl,e⟩:=I.base.slot L o ho (I.ok.frf L hL) hL fun z=>I.ok.exfs L z hL
      exact ⟨hk,⟨L,_,hf,hn,e,hd⟩,ih (fun b hb=>hs b (by unfold frs; rw [List.filterMap_cons,hf]; exact List.mem_cons_of_mem _ hb)) hr⟩
  exact all X.outer (fun _ hb=>hb) I.ok.funs
theorem Inv.stack (I:Inv X pins σ H s):s.heap.FunFrames X.base X.stack:=by
  rcases I.ok.stk with e | ⟨e,hf⟩
  · rw [e]; exact I.funs
  · rw [e]
    obtain ⟨m,hn,_⟩:=I.loc
    refine .cons (by rw [I.ok.kind]; decide) hf hn ?_ I.funs
    exact Heap.get?_none_of_le (Nat.le_trans I.ok.bsz I.ok.above)
theorem Inv.stkSub (I:Inv X pins σ H s):∀ b ∈ frs X.stack,b ∈ X.env.locals :: X.fs:=fun b hb=>by
  rcases I.ok.stk with e | ⟨e,hf⟩
  · rw [e] at hb; exact List.mem_cons_of_mem _ hb
  · rw [e] at hb
    unfold frs at hb
    rw [List.filterMap_cons,hf] at hb
    exact hb
theorem Inv.stkFree (I:Inv X pins σ H s):∀ b ∈ frs X.stack,H b=none:=fun b hb=>by
  rcases List.mem_cons.mp (I.stkSub b hb) with e | hb
  · rw [e]; exact I.free
  · obtain ⟨_,o,ho,_⟩:=I.ok.funs.mem hb
    exact I.base.free b o ho (I.ok.frf b hb) fun z=>I.ok.exfs b z hb
theorem Inv.step {g':Array GenState} {t':Nat} {d':Drawn} {ch:List Addr} (I:Inv X pins σ H s)
    (hch:∀ b ∈ ch,(b ∈ X.ex∨X.s₀.heap.objs.size ≤ b)∧b ≠ X.env.locals∧(∀ x c,X.env.cells.lookup x=some c→c ≠ b)∧∀ p ∈ X.pn ++ pins,p.1 ≠ b)
    (keep:∀ b o,b ≠ X.env.locals→b ∉ X.fs→b ∉ ch→s.heap.get? b=some o→H b=none→h'.get? b=some o)
    (slot:∀ b o,b ≠ X.env.locals→b ∈ X.fs→b ∉ ch→s.heap.get? b=some o→H b=none→∃ sl,h'.get? b=some { o with slots:=sl }) (free:∀ b o,b ∉ ch→s.heap.get? b=some o→H b=none→H' b=none)
    (there:∀ b o,b ∉ ch→s.heap.get? b=some o→∃ o',h'.get? b=some o')
    (tups:∀ b xs,H b=some (.tup xs)→H' b=some (.tup xs)) (frzs:∀ b o u,H b=some (.frz o u)→H' b=some (.frz o u)) (tbls:∀ b ps,H b=some (.tbl ps)→∃ more,H' b=some (.tbl (ps ++ more)))
    (ns:∀ m,s.heap.Ns X.env.locals m→h'.Ns X.env.locals m) (hok:HOk X.prog X.w H' h') (hg:AllBare g') :
    Inv X pins σ H' { s with heap:=h',gens:=g',drawn:=d',toks:=t' }:=by
  have neL:∀ b o,X.s₀.heap.get? b=some o→b ≠ X.env.locals:=fun b o e=>Nat.ne_of_lt (Nat.lt_of_lt_of_le (Heap.lt_size e) I.ok.above)
  have neC:∀ b o,X.s₀.heap.get? b=some o→b ∉ X.ex→b ∉ ch:=fun b o e hx hb=>by
    rcases (hch b hb).1 with z | z
    · exact hx z
    · exact absurd (Nat.lt_of_lt_of_le (Heap.lt_size e) z) (Nat.lt_irrefl _)
  have cellK:∀ x c,X.env.cells.lookup x=some c→∀ v,s.heap.IsCell c v→h'.IsCell c v:=fun x c e v ⟨o,ho,hd⟩=>by
    have nch:c ∉ ch:=fun z=>(hch c z).2.2.1 x c e rfl
    by_cases hc:c ∈ X.fs
    · obtain ⟨sl,q⟩:=slot c o (I.cne x c e) hc nch ho (I.freeC x c e)
      exact ⟨_,q,hd⟩
    · exact ⟨o,keep c o (I.cne x c e) hc nch ho (I.freeC x c e),hd⟩
  refine ⟨I.ok,I.os,hg,⟨fun b o e n hb hx=>?_,fun b o e n hb hx=>?_,fun b o e n hx=>?_,fun b o e hx=>?_,fun b xs e=>tups b xs (I.base.tups b xs e),fun b o xs e=>frzs b o xs (I.base.frzs b o xs e),fun b ps e=>?_⟩,?_,fun x c e=>?_,?_,fun x c e=>?_,fun p hp=>?_,hok,I.len⟩
  · exact keep b o (neL b o e) hb (neC b o e hx) (I.base.keep b o e n hb hx) (I.base.free b o e n hx)
  · obtain ⟨sl,e1⟩:=I.base.slot b o e n hb hx
    obtain ⟨sl',e2⟩:=slot b _ (neL b o e) hb (neC b o e hx) e1 (I.base.free b o e n hx)
    exact ⟨sl',e2⟩
  · obtain ⟨o',e1⟩:=I.base.there b o e hx
    exact free b o' (neC b o e hx) e1 (I.base.free b o e n hx)
  · obtain ⟨o',e1⟩:=I.base.there b o e hx
    exact there b o' (neC b o e hx) e1
  · obtain ⟨m1,e1⟩:=I.base.tbls b ps e
    obtain ⟨m2,e2⟩:=tbls b _ e1
    exact ⟨m1 ++ m2,by rw [e2,Array.append_assoc]⟩
  · obtain ⟨m,hn,hl⟩:=I.loc
    refine ⟨m,ns m hn,fun i x v e1 e2 e3=>?_⟩
    obtain ⟨u,r,l⟩:=hl i x v e1 e2 e3
    refine ⟨u,r,?_⟩
    rcases l with l | ⟨k,c,e,z⟩
    · exact .inl l
    · exact .inr ⟨k,c,e,cellK x c e _ z⟩
  · obtain ⟨v,z⟩:=I.cell x c e
    exact ⟨v,cellK x c e v z⟩
  · obtain ⟨m,⟨o,_,_,ho,_⟩,_⟩:=I.loc
    exact free _ o (fun z=>(hch _ z).2.1 rfl) ho I.free
  · obtain ⟨v,o,ho,hd⟩:=I.cell x c e
    exact free c o (fun z=>(hch c z).2.2.1 x c e rfl) ho (I.freeC x c e)
  · obtain ⟨e,n,ne,nf,d⟩:=I.pin p hp
    have nch:p.1 ∉ ch:=fun z=>(hch p.1 z).2.2.2 p hp rfl
    exact ⟨keep p.1 p.2 ne nf nch e n,free p.1 p.2 nch e n,ne,nf,d⟩
theorem Inv.un {t':Nat} (I:Inv X pins σ H s) (u:Un X.fs [] H H' s.heap h') (hok:HOk X.prog X.w H' h'):Inv X pins σ H' { s with heap:=h',toks:=t' }:=by
  obtain ⟨m,⟨o,es,ep,ho,r⟩,_⟩:=id I.loc
  obtain ⟨sl,hL⟩:=u.any ho I.free (by simp)
  exact I.step (g':=s.gens) (d':=s.drawn) (ch:=[]) (fun _ z=>nomatch z) (fun b o _ hb _ e n=>u.keep b o e n hb (by simp)) (fun b o _ hb _ e n=>u.slot b o e n hb (by simp)) (fun b o _ e n=>u.free b o e n (by simp)) (fun b o _ e=>u.there b o e (by simp)) u.tups u.frzs u.tbls (fun m' hm=>by
    obtain ⟨o',es',ep',ho',r'⟩:=hm
    rw [ho] at ho'; cases ho'
    exact ⟨_,es',ep',hL,r'⟩) hok I.bare
theorem Inv.call {g':Array GenState} {t':Nat} {d':Drawn} {ch:List Addr} (I:Inv X pins σ H s) (u:Un (frs X.stack) ch H H' s.heap h') (hok:HOk X.prog X.w H' h') (hg:AllBare g')
    (hch:∀ b ∈ ch,(b ∈ X.ex∨X.s₀.heap.objs.size ≤ b)∧b ≠ X.env.locals∧(∀ x c,X.env.cells.lookup x=some c→c ≠ b)∧∀ p ∈ X.pn ++ pins,p.1 ≠ b) :
    Inv X pins σ H' { s with heap:=h',gens:=g',drawn:=d',toks:=t' }:=by
  obtain ⟨m,⟨o,es,ep,ho,r⟩,_⟩:=id I.loc
  obtain ⟨sl,hL⟩:=u.any ho I.free fun z=>(hch _ z).2.1 rfl
  exact I.step (ch:=ch) hch (fun b o hL hb hc e n=>u.keep b o e n (fun z=>(List.mem_cons.mp (I.stkSub b z)).elim hL hb) hc) (fun b o _ _ hc e n=>u.any e n hc) (fun b o hc e n=>u.free b o e n hc) (fun b o hc e=>u.there b o e hc) u.tups u.frzs u.tbls (fun m' hm=>by
    obtain ⟨o',es',ep',ho',r'⟩:=hm
    rw [ho] at ho'; cases ho'
    exact ⟨_,es',ep',hL,r'⟩) hok hg
theorem Inv.turned {t':Nat} {it:Addr} (I:Inv X pins σ H s) (k:∀ b o,b ≠ it→s.heap.get? b=some o→h'.get? b=some o) (hn:H it=none) (hL:it ≠ X.env.locals)
    (h1:it ∈ X.ex∨X.s₀.heap.objs.size ≤ it) (h2:∀ x c,X.env.cells.lookup x=some c→c ≠ it) (h3:∀ p ∈ X.pn ++ pins,p.1 ≠ it):Inv X pins σ H { s with heap:=h',toks:=t' }:=by
  have nit:∀ b u,H b=some u→b ≠ it:=fun b u e z=>by rw [z,hn] at e; cases e
  refine I.step (g':=s.gens) (d':=s.drawn) (ch:=[it]) (fun b hb=>?_) (fun b o _ _ hc e _=>k b o (fun z=>hc (by simp [z])) e) (fun b o _ _ hc e _=>⟨o.slots,k b o (fun z=>hc (by simp [z])) e⟩) (fun _ _ _ _ n=>n)
    (fun b o hc e=>⟨o,k b o (fun z=>hc (by simp [z])) e⟩) (fun _ _ e=>e) (fun _ _ _ e=>e) (fun b ps e=>⟨#[],by rw [e]; simp⟩) (fun m hm=>?_) (fun b u e=>?_) I.bare
  · have e:b=it:=by simpa using hb
    subst e
    exact ⟨h1,hL,h2,h3⟩
  · obtain ⟨o,es,ep,ho,r⟩:=hm
    exact ⟨o,es,ep,k _ o (Ne.symm hL) ho,r⟩
  · refine (I.hok b u e).stay (fun c v hc q=>k c v ?_ q) (fun _ q=>q) fun _ _ q=>q
    rcases hc with z | z
    · rw [z]; exact nit b u e
    · exact nit c _ z
theorem Inv.tok (I:Inv X pins σ H s) (t:Nat):Inv X pins σ H { s with toks:=t }:=I.un (h':=s.heap) (t':=t) Un.refl I.hok
theorem Inv.kept {t':Nat} (I:Inv X pins σ H s) (k:∀ b u,s.heap.get? b=some u→h'.get? b=some u):Inv X pins σ H { s with heap:=h',toks:=t' }:=I.un (Un.kept k) (I.hok.kept k)
theorem Inv.laid {a:Addr} {o:HO} {t':Nat} (I:Inv X pins σ H s) (k:∀ b u,s.heap.get? b=some u→h'.get? b=some u) (hp:s.heap.objs.size ≤ a) (new:ObjOk X.prog X.w (upd H a o) h' a o) :
    Inv X pins σ (upd H a o) { s with heap:=h',toks:=t' }:=I.un (Un.laid k hp (I.hok.fresh hp)) (I.hok.laid k hp new)
theorem Inv.write {x e:Addr} {o:HO} {t':Nat} (I:Inv X pins σ H s) (mu:Mut (H x)) (he:e=x∨H e=some (.own x)) (k:∀ b u,b ≠ e→s.heap.get? b=some u→h'.get? b=some u) (heo:∃ u,h'.get? e=some u)
    (new:ObjOk X.prog X.w (upd H x o) h' x o):Inv X pins σ (upd H x o) { s with heap:=h',toks:=t' }:=I.un (Un.write mu he k heo) (I.hok.write mu he k heo new)
theorem Inv.pins_of {pins':List (Addr × Obj)} (I:Inv X pins σ H s) (h:∀ p ∈ pins',s.heap.get? p.1=some p.2∧H p.1=none∧p.1 ≠ X.env.locals∧p.1 ∉ X.fs∧∀ v,p.2.data ≠ .cell v):Inv X pins' σ H s :=
  ⟨I.ok,I.os,I.bare,I.base,I.loc,I.cell,I.free,I.freeC,fun p hp=>(List.mem_append.mp hp).elim (fun z=>I.pin p (List.mem_append_left _ z)) (h p),I.hok,I.len⟩
theorem zf8 {N:List Str} (hN:N.Nodup) {i j:Nat} {x:Str} (a:N[i]?=some x) (b:N[j]?=some x):i=j:=by
  obtain ⟨h1,e1⟩:=List.getElem?_eq_some_iff.mp a
  obtain ⟨h2,e2⟩:=List.getElem?_eq_some_iff.mp b
  exact (List.getElem_inj hN).mp (e1.trans e2.symm)
theorem zha {M:Model} {A:Around} {E:Value→Shared→Prop} {i:Nat} {x:Str} {v:V} {u:Value} {Q:Unit→Shared→Prop} (I:Inv X pins σ H s) (hN:X.N.Nodup) (hi:X.N[i]?=some x) (hx:Loc X.env.scope x) (r:RelV v u)
    (h:∀ s',Inv X pins (σ.set i (some v)) H s'→(∃ a,Heap.SameBut a s.heap s'.heap∧(a=X.env.locals∨X.env.cells.lookup x=some a))→Q () s') (hf:X.fn x=true∨X.env.scope.names.lookup x=some .local:=by first | exact .inl rfl | exact .inr rfl | assumption):wpAny M A (storeName X.env x u) Q E s:=by
  obtain ⟨m,hn,hl⟩:=id I.loc
  have hcls:(X.env.scope.kind == .class || (X.env.scope.kind == .module && X.env.locals != X.env.globals))=false:=by rw [I.ok.kind]; rfl
  have hiσ:i < σ.length:=by rw [I.len]; exact (List.getElem?_eq_some_iff.mp hi).1
  have cne:=I.cne
  have tracked:∀ {a:Addr} {h':Heap},(∃ o,s.heap.get? a=some o∧H a=none)→Heap.SameBut a s.heap h'→HOk X.prog X.w H h':=fun {a h'} ha hs b ob e=>by
    obtain ⟨_,_,hfree⟩:=ha
    refine (I.hok b ob e).stay (fun c w' hc q=>(hs.2 c ?_).trans q) (fun _ q=>q) fun _ _ q=>q
    rintro rfl
    rcases hc with rfl | hc
    · rw [hfree] at e; cases e
    · rw [hfree] at hc; cases hc
  rcases hx with hk | hk
  · refine wpAny_storeName_local hk hn (fun h' hn' hs=>?_) hcls
    obtain ⟨oL,_,_,hoL,_⟩:=id hn
    refine h _ ⟨I.ok,I.os,I.bare,⟨fun b o e n hb hx=>?_,fun b o e n hb hx=>?_,I.base.free,fun b o e hx=>?_,I.base.tups,I.base.frzs,I.base.tbls⟩,⟨_,hn',fun j y v' e1 e2 e3=>?_⟩,fun y c e=>?_,I.free,I.freeC,fun p hp=>?_,tracked ⟨oL,hoL,I.free⟩ hs,by simpa using I.len⟩ ⟨_,hs,.inl rfl⟩
    · exact (hs.2 b (Nat.ne_of_lt (Nat.lt_of_lt_of_le (Heap.lt_size e) I.ok.above))).trans (I.base.keep b o e n hb hx)
    · obtain ⟨sl,e1⟩:=I.base.slot b o e n hb hx
      exact ⟨sl,(hs.2 b (Nat.ne_of_lt (Nat.lt_of_lt_of_le (Heap.lt_size e) I.ok.above))).trans e1⟩
    · obtain ⟨o',e1⟩:=I.base.there b o e hx
      exact ⟨o',(hs.2 b (Nat.ne_of_lt (Nat.lt_of_lt_of_le (Heap.lt_size e) I.ok.above))).trans e1⟩
    · by_cases hj:j=i
      · subst hj
        rw [hi] at e1; cases e1
        rw [List.getElem?_set_self hiσ] at e2
        cases e2
        exact ⟨u,r,.inl ⟨hk,by simp⟩⟩
      · rw [List.getElem?_set_ne (Ne.symm hj)] at e2
        obtain ⟨u',r',q⟩:=hl j y v' e1 e2 e3
        refine ⟨u',r',?_⟩
        rcases q with ⟨k,e⟩ | ⟨k,c,e,z⟩
        · refine .inl ⟨k,?_⟩
          have:y ≠ x:=fun e=>hj (zf8 hN e1 (e ▸ hi))
          simp [this,e]
        · exact .inr ⟨k,c,e,z.sameBut hs (cne y c e)⟩
    · obtain ⟨w',z⟩:=I.cell y c e
      exact ⟨w',z.sameBut hs (cne y c e)⟩
    · obtain ⟨e,n,ne,nf,d⟩:=I.pin p hp
      exact ⟨(hs.2 p.1 ne).trans e,n,ne,nf,d⟩
  · have hfn:X.fn x=true:=by
      rcases hf with z | z
      · exact z
      · rw [z] at hk; cases hk
    obtain ⟨c,hc⟩:=I.ok.has x (.inl hk)
    obtain ⟨w',z⟩:=I.cell x c hc
    refine wpAny_storeName_cell I.ok.kind hk hc z (fun h' hc' hs=>?_)
    obtain ⟨oc,hoc,hocd⟩:=id z
    refine h { s with heap:=h' } ⟨I.ok,I.os,I.bare,⟨fun b o e n hb hx=>?_,fun b o e n hb hx=>?_,I.base.free,fun b o e hx=>?_,I.base.tups,I.base.frzs,I.base.tbls⟩,⟨m,hn.sameBut hs (Ne.symm (cne x c hc)),fun j y v' e1 e2 e3=>?_⟩,fun y c' e=>?_,I.free,I.freeC,fun p hp=>?_,tracked ⟨oc,hoc,I.freeC x c hc⟩ hs,by simpa using I.len⟩ ⟨c,hs,.inr hc⟩
    · exact (hs.2 b (Nat.ne_of_lt (Nat.lt_of_lt_of_le (Heap.lt_size e) (I.ok.cab x c hfn hc)))).trans (I.base.keep b o e n hb hx)
    · obtain ⟨sl,e1⟩:=I.base.slot b o e n hb hx
      exact ⟨sl,(hs.2 b (Nat.ne_of_lt (Nat.lt_of_lt_of_le (Heap.lt_size e) (I.ok.cab x c hfn hc)))).trans e1⟩
    · obtain ⟨o',e1⟩:=I.base.there b o e hx
      exact ⟨o',(hs.2 b (Nat.ne_of_lt (Nat.lt_of_lt_of_le (Heap.lt_size e) (I.ok.cab x c hfn hc)))).trans e1⟩
    · by_cases hj:j=i
      · subst hj
        rw [hi] at e1; cases e1
        rw [List.getElem?_set_self hiσ] at e2
        cases e2
        exact ⟨u,r,.inr ⟨.inl hk,c,hc,hc'⟩⟩
      · rw [List.getElem?_set_ne (Ne.symm hj)] at e2
        obtain ⟨u',r',q⟩:=hl j y v' e1 e2 e3
        refine ⟨u',r',?_⟩
        rcases q with q | ⟨k,c',e,z'⟩
        · exact .inl q
        · refine .inr ⟨k,c',e,z'.sameBut hs ?_⟩
          rintro rfl
          exact hj (zf8 hN e1 (I.ok.inj _ _ _ e hc ▸ hi))
    · by_cases hcc:c'=c
      · subst hcc; exact ⟨_,hc'⟩
      · obtain ⟨w2,z2⟩:=I.cell y c' e
        exact ⟨w2,z2.sameBut hs hcc⟩
    · obtain ⟨e,n,ne,nf,d⟩:=I.pin p hp
      refine ⟨(hs.2 p.1 ?_).trans e,n,ne,nf,d⟩
      intro q
      rw [q,hoc] at e
      have q':oc=p.2:=Option.some.inj e
      exact d w' (by rw [← q']; exact hocd)
theorem zeI {M:Model} {A:Around} {E:Value→Shared→Prop} {i:Nat} {x:Str} {v:V} {u:Value} {Q:Unit→Shared→Prop} (I:Inv X pins σ H s) (hN:X.N.Nodup) (hi:X.N[i]?=some x) (hx:Loc X.env.scope x) (r:RelV v u)
    (h:∀ s',Inv X pins (σ.set i (some v)) H s'→Q () s') (hf:X.fn x=true∨X.env.scope.names.lookup x=some .local:=by first | exact .inl rfl | exact .inr rfl | assumption):wpAny M A (storeName X.env x u) Q E s :=
  zha I hN hi hx r (fun s' I' _=>h s' I') hf
end
abbrev XK:=Value→Option Addr→Hp→Prop
abbrev St:=List (Option V)
abbrev VK:=V→Hp→Prop
abbrev TE:=St→Hp→VK→Prop
abbrev TT:=St→Hp→(Bool→Hp→Prop)→Prop
abbrev TA:=St→Hp→(List V→Hp→Prop)→Prop
structure Ends where
  nx:St→Hp→Prop
  rt:VK
  bk:St→Hp→Prop:=fun _ _=>False
  ct:St→Hp→Prop:=fun _ _=>False
abbrev TS:=Ends→St→Hp→Prop
def EP (X:Cx) (pins:List (Addr × Obj)) (σ:St) (Q:VK) (u:Value) (s':Shared):Prop:=∃ v H',Inv X pins σ H' s'∧RelV v u∧Q v H'
def TP (X:Cx) (pins:List (Addr × Obj)) (σ:St) (Q:Bool→Hp→Prop) (b:Bool) (s':Shared):Prop:=∃ H',Inv X pins σ H' s'∧Q b H'
def AP (X:Cx) (pins:List (Addr × Obj)) (σ:St) (Q:List V→Hp→Prop) (us:List Value) (s':Shared):Prop:=∃ vs H',Inv X pins σ H' s'∧Vals vs us∧Q vs H'
def SP (X:Cx) (pins:List (Addr × Obj)) (D:Ends) (f:Flow) (s':Shared):Prop :=
  match f with
  | .next=>∃ σ' H',Inv X pins σ' H' s'∧D.nx σ' H'
  | .brk=>∃ σ' H',Inv X pins σ' H' s'∧D.bk σ' H'
  | .cont=>∃ σ' H',Inv X pins σ' H' s'∧D.ct σ' H'
  | .ret u=>∃ v σ' H',Inv X pins σ' H' s'∧RelV v u∧D.rt v H'
def PE (X:Cx) (e:Expr) (t:TE):Prop :=
  ∀ (pins:List (Addr × Obj)) (s:Shared) (σ:St) (H:Hp) (Q:VK),Inv X pins σ H s→t σ H Q→wpAny (model X.prog X.w) X.A (eval e X.env) (EP X pins σ Q) X.xe s
def PT (X:Cx) (e:Expr) (t:TT):Prop :=
  ∀ (pins:List (Addr × Obj)) (s:Shared) (σ:St) (H:Hp) (Q:Bool→Hp→Prop),Inv X pins σ H s→t σ H Q→wpAny (model X.prog X.w) X.A (isTrue e X.env (eval e X.env)) (TP X pins σ Q) X.xe s
def PW (X:Cx) (e:Expr) (t:TT):Prop :=
  ∀ (whole:Sem Value) (pins:List (Addr × Obj)) (s:Shared) (σ:St) (H:Hp) (Q:Bool→Hp→Prop),Inv X pins σ H s→t σ H Q→wpAny (model X.prog X.w) X.A (isTrue e X.env whole) (TP X pins σ Q) X.xe s
theorem PW.pt {X:Cx} {e:Expr} {t:TT} (h:PW X e t):PT X e t:=h _
def PA (X:Cx) (es:List Expr) (t:TA):Prop :=
  ∀ (pos:Pos) (pins:List (Addr × Obj)) (s:Shared) (σ:St) (H:Hp) (Q:List V→Hp→Prop),Inv X pins σ H s→t σ H Q→wpAny (model X.prog X.w) X.A (spliced (backTo pos (starEach es X.env))) (AP X pins σ Q) X.xe s
def PS (X:Cx) (st:Stmt) (t:TS):Prop :=
  ∀ (pins:List (Addr × Obj)) (s:Shared) (σ:St) (H:Hp) (D:Ends),Inv X pins σ H s→t D σ H→wpAny (model X.prog X.w) X.A (exec st X.env) (SP X pins D) X.xe s
def PSs (X:Cx) (st:List Stmt) (t:TS):Prop :=
  ∀ (pins:List (Addr × Obj)) (s:Shared) (σ:St) (H:Hp) (D:Ends),Inv X pins σ H s→t D σ H→wpAny (model X.prog X.w) X.A (execs st X.env) (SP X pins D) X.xe s
theorem thn {α:Type} {t:Sem α} {Q Q':α→Shared→Prop} {M:Model} {A:Around} {E:Value→Shared→Prop} {s:Shared} (h:wpAny M A t Q E s) (hQ:∀ a s,Q a s→Q' a s):wpAny M A t Q' E s:=wpAny_mono h hQ fun _ _ x=>x
end L2
namespace L2
open PySem PySem.Spec PyProof.Rows
section
variable {X:Cx}
def tVar (i:Nat):TE:=fun σ H Q=>∃ v,σ[i]?=some (some v)∧Q v H
def tC (v:V):TE:=fun _ H Q=>Q v H
theorem zj9 {i:Nat} {x:Str} {pos:Pos} (hN:X.N[i]?=some x) (hv:Vis X.env.scope x) (hd:(x == ("__debug__" : Str))=false:=by decide) (hcd:(x == ("__classdict__" : Str))=false:=by decide):PE X (.Name x pos) (tVar i):=by
  intro pins s σ H Q I h
  obtain ⟨v,e,h⟩:=h
  obtain ⟨m,hn,hl⟩:=I.loc
  obtain ⟨u,r,l⟩:=hl i x v hN e hv
  have fin:EP X pins σ Q u s:=⟨v,H,I,r,h⟩
  rcases l with ⟨hk,hm⟩ | ⟨hk,c,hc,hcell⟩
  · exact wpAny_Name (wpAny_loadName_local I.ok.kind hk hn hm fin) hd
  · rcases hk with hk | hk
    · exact wpAny_Name (wpAny_loadName_cell I.ok.kind hk hc hcell fin) hd
    · exact wpAny_Name (wpAny_loadName_free I.ok.kind hk hc hcell fin hcd) hd
theorem zak {i j pos}:PE X (.Constant (.int i) j pos) (tC (.int i)):=fun _ _ _ H _ I h=>wpAny_Constant_int ⟨.int i,H,I.tok _,⟨_,rfl⟩,h⟩
theorem zc1 {b j pos}:PE X (.Constant (.bool b) j pos) (tC (.bl b)):=fun _ _ _ H _ I h=>Constant_bool ⟨.bl b,H,I,rfl,h⟩
def Gl (X:Cx) (x:Str):Prop:=X.env.kindOf x=some .globalImplicit
theorem zjA {E:Value→Shared→Prop} {pins:List (Addr × Obj)} {s:Shared} {σ:St} {H:Hp} {x:Str} {u:Value} {pos:Pos} {Q:Value→Shared→Prop} (I:Inv X pins σ H s) (hg:Gl X x) (hm:X.mg x=some u) (h:Q u s)
    (hd:(x == ("__debug__" : Str))=false:=by decide):wpAny (model X.prog X.w) X.A (eval (.Name x pos) X.env) Q E s :=
  Calls.Name_function_global I.ok.kind hg (Calls.loadGlobal_global (by rw [I.ok.glob]; exact I.mod.glob.keeps I.bk) hm h) hd
theorem zd5 {E:Value→Shared→Prop} {pins:List (Addr × Obj)} {s:Shared} {σ:St} {H:Hp} {x:Str} {u:Value} {pos:Pos} {Q:Value→Shared→Prop} (I:Inv X pins σ H s) (hg:Gl X x) (hm:X.mg x=none) (hv:bootBuiltins x=some u) (h:Q u s)
    (hn:x ≠ "__name__":=by decide) (hd:(x == ("__debug__" : Str))=false:=by decide):wpAny (model X.prog X.w) X.A (eval (.Name x pos) X.env) Q E s:=by
  obtain ⟨mb,h1,h2⟩:=I.mod.blt
  exact Calls.Name_function_global I.ok.kind hg (Calls.loadGlobal_builtin (by rw [I.ok.glob]; exact I.mod.glob.keeps I.bk) hm (by rw [I.ok.blt]; exact h1.keeps I.bk) ((h2 x hn).trans hv) h) hd
theorem zdr {x:Str} {v:V} {u:Value} {pos:Pos} (hg:Gl X x) (hm:X.mg x=none) (hv:bootBuiltins x=some u) (r:RelV v u) (hn:x ≠ "__name__":=by decide) (hd:(x == ("__debug__" : Str))=false:=by decide):PE X (.Name x pos) (tC v) :=
  fun _ _ _ H _ I h=>zd5 I hg hm hv ⟨v,H,I,r,h⟩ hn hd
variable {a b:Expr} {ta tb:TE} {pos:Pos}
def PC (X:Cx) (op:CmpOp) (a b:Expr) (t:TE):Prop :=
  ∀ (pins:List (Addr × Obj)) (s:Shared) (σ:St) (H:Hp) (Q:VK),Inv X pins σ H s→t σ H Q →
    wpAny (model X.prog X.w) X.A (eval a X.env) (fun v s₁=>wpAny (model X.prog X.w) X.A (eval b X.env) (fun u s₂=>wpAny (model X.prog X.w) X.A (compareOp op v u) (EP X pins σ Q) X.xe s₂) X.xe s₁) X.xe s
def tB (t:TE):TT:=fun σ H Q=>t σ H fun x H1=>∃ c,x = .bl c∧Q c H1
theorem zj3 {op:CmpOp} {t:TE} (h:PC X op a b t) (h1:behindInMarks op b=false:=by first | exact nobehind _ (by decide) (by decide) | rfl):PT X (.Compare a [op] [b] pos) (tB t):=by
  intro pins s σ H Q I hw
  refine wpAny_isTrue_Compare1 (thn (h pins s σ H _ I hw) fun v s1 h1=>thn h1 fun u s2 h2=>thn h2 fun c s3 ⟨x,H1,I1,r1,q1⟩=>?_) h1
  obtain ⟨d,rfl,q⟩:=q1
  cases r1
  exact wpAny_truthy_bool ⟨H1,I1,q⟩
theorem zb0 {e:Expr} {t:TE} (h:PE X e t) (he:∀ whole,isTrue e X.env whole=(do let v ← whole; standAt e.pos; holding [v] (truthy v)):=by intro _; rfl):PT X e (tB t):=by
  intro pins s σ H Q I hw
  refine isTrue_plain (thn (h pins s σ H _ I hw) fun v s1 ⟨x,H1,I1,r1,q1⟩=>?_) (he _)
  obtain ⟨d,rfl,q⟩:=q1
  cases r1
  exact wpAny_truthy_bool ⟨H1,I1,q⟩
variable {tA tB':TT} {rest:List Expr}
def tAnd (t u:TT):TT:=fun σ H Q=>t σ H fun c H1=>if c=true then u σ H1 Q else Q false H1
def tOr (t u:TT):TT:=fun σ H Q=>t σ H fun c H1=>if c=true then Q true H1 else u σ H1 Q
def tNot (t:TT):TT:=fun σ H Q=>t σ H fun c H1=>Q (!c) H1
theorem zfK (ha:PT X a tA):PW X (.BoolOp .And [a] pos) tA:=by
  intro wh pins s σ H Q I h
  refine isTrue_and (thn (ha pins s σ H Q I h) fun c s1 e=>?_)
  cases c with
  | true=>exact isTrue_and_nil e
  | false=>exact e
theorem zda (ha:PT X a tA):PW X (.BoolOp .Or [a] pos) tA:=by
  intro wh pins s σ H Q I h
  refine isTrue_or (thn (ha pins s σ H Q I h) fun c s1 e=>?_)
  cases c with
  | false=>exact isTrue_or_nil e
  | true=>exact e
theorem zhz (ha:PT X a tA) (hb:PW X (.BoolOp .And (b :: rest) pos) tB'):PW X (.BoolOp .And (a :: b :: rest) pos) (tAnd tA tB'):=by
  intro wh pins s σ H Q I h
  refine isTrue_and (thn (ha pins s σ H _ I h) fun c s1 ⟨H1,I1,q1⟩=>?_)
  cases c with
  | true=>exact hb wh pins s1 σ H1 Q I1 q1
  | false=>exact ⟨H1,I1,q1⟩
theorem zdM (ha:PT X a tA) (hb:PW X (.BoolOp .Or (b :: rest) pos) tB'):PW X (.BoolOp .Or (a :: b :: rest) pos) (tOr tA tB'):=by
  intro wh pins s σ H Q I h
  refine isTrue_or (thn (ha pins s σ H _ I h) fun c s1 ⟨H1,I1,q1⟩=>?_)
  cases c with
  | true=>exact ⟨H1,I1,q1⟩
  | false=>exact hb wh pins s1 σ H1 Q I1 q1
theorem zb6 (ha:PT X a tA):PT X (.UnaryOp .Not a pos) (tNot tA):=by
  intro pins s σ H Q I h
  exact isTrue_not (ha pins s σ H (fun c H1=>Q (!c) H1) I h)
def zjC (ta tb:TE):TE:=fun σ H Q=>ta σ H fun x H1=>∃ c,x = .bl c∧if c=true then tb σ H1 Q else Q (.bl false) H1
theorem zjS {op} {t:TE} (h:PE X a t):PE X (.BoolOp op [a] pos) t:=fun pins s σ H Q I hw=>BoolOp_one (h pins s σ H Q I hw)
theorem zkk (ha:PE X a ta) (hb:PE X (.BoolOp .And (b :: rest) pos) tb):PE X (.BoolOp .And (a :: b :: rest) pos) (zjC ta tb):=by
  intro pins s σ H Q I h
  refine BoolOp_and (thn (ha pins s σ H _ I h) fun v s1 ⟨x,H1,I1,r1,q1⟩=>?_)
  obtain ⟨c,rfl,q1⟩:=q1
  cases r1
  refine wpAny_truthy_bool ?_
  cases c with
  | true=>exact hb pins s1 σ H1 Q I1 q1
  | false=>exact ⟨.bl false,H1,I1,rfl,q1⟩
end
end L2
namespace L2
open PySem PySem.Spec PyProof.Rows
def SqL (K:PySem.W.Frag) (H:Hp) (a:Addr) (xs:List V):Prop :=
  Rd H a (.lst xs) ∨
    ∃ (o:Obj) (its:Array Value) (n:Nat),K.lookup a=some o∧o.cls = .type "list"∧o.dict=none∧o.data = .seq its n∧its.size ≤ sizeLine∧Vals xs its.toList
def SqT (K:PySem.W.Frag) (H:Hp) (a:Addr) (xs:List V):Prop :=
  Rd H a (.tup xs) ∨
    ∃ (o:Obj) (its:Array Value) (n:Nat),K.lookup a=some o∧o.cls = .type "tuple"∧o.data = .seq its n∧its.size ≤ sizeLine∧Vals xs its.toList
def absV:Value→Option V
  | .none=>some .non
  | .bool b=>some (.bl b)
  | .int i _=>some (.int i)
  | .str x _=>some (.str x)
  | .bytes b _=>some (.byt b)
  | .float b _=>some (.flt b)
  | .ref a=>some (.ref a)
  | .type n=>some (.ty n)
  | _=>none
theorem RelV.abs {x:V} {u:Value} (r:RelV x u):absV u=some x:=by
  cases x with
  | non=>cases r; rfl
  | bl _=>cases r; rfl
  | int _=>obtain ⟨t,rfl⟩:=r; rfl
  | str _=>obtain ⟨t,rfl⟩:=r; rfl
  | byt _=>obtain ⟨t,rfl⟩:=r; rfl
  | flt _=>obtain ⟨t,rfl⟩:=r; rfl
  | ref _=>cases r; rfl
  | ty _=>cases r; rfl
theorem RelV.inj {x y:V} {u:Value} (r:RelV x u) (q:RelV y u):x=y:=Option.some.inj (r.abs.symm.trans q.abs)
theorem Vals.inj:∀ {xs ys:List V} {us:List Value},Vals xs us→Vals ys us→xs=ys
  | _,_,_,.nil,.nil=>rfl
  | _,_,_,.cons r t,.cons r' t'=>by rw [r.inj r',Vals.inj t t']
section
variable {X:Cx} {pins:List (Addr × Obj)} {σ:St} {H:Hp} {s:Shared} {a:Addr} {xs ys:List V}
theorem Inv.list (I:Inv X pins σ H s) (h:SqL X.K H a xs):∃ its:List Value,Vals xs its∧PlainL s.heap a its.toArray∧xs.length ≤ sizeLine:=by
  rcases h with h | ⟨o,its,n,hk,hc,hd,hs,hz,r⟩
  · obtain ⟨z,its,n,r,e⟩:=h.ok I.hok
    exact ⟨its,r,⟨_,n,e,rfl,rfl,rfl⟩,z⟩
  · refine ⟨its.toList,r,⟨o,n,I.kIn a o hk,hc,hd,by simpa using hs⟩,?_⟩
    have e:=r.length
    simp only [Array.length_toList] at e
    omega
theorem Inv.tuple (I:Inv X pins σ H s) (h:SqT X.K H a xs):∃ its:List Value,Vals xs its∧IsTup s.heap a its.toArray∧xs.length ≤ sizeLine:=by
  rcases h with h | ⟨o,its,n,hk,hc,hs,hz,r⟩
  · obtain ⟨z,its,r,p⟩:=h.ok I.hok
    exact ⟨its,r,p,z⟩
  · refine ⟨its.toList,r,⟨o,I.kIn a o hk,hc,n,by simpa using hs⟩,?_⟩
    have e:=r.length
    simp only [Array.length_toList] at e
    omega
theorem Inv.list_inj (I:Inv X pins σ H s) (h:SqL X.K H a xs) (h':SqL X.K H a ys):xs=ys:=by
  obtain ⟨its,r,⟨o,n,e,_,_,d⟩,_⟩:=I.list h
  obtain ⟨its',r',⟨o',n',e',_,_,d'⟩,_⟩:=I.list h'
  rw [e] at e'; cases e'
  rw [d] at d'
  injection d' with d1 _
  have:its=its':=by simpa using congrArg Array.toList d1
  subst this
  exact r.inj r'
theorem Inv.tuple_inj (I:Inv X pins σ H s) (h:SqT X.K H a xs) (h':SqT X.K H a ys):xs=ys:=by
  obtain ⟨its,r,⟨o,e,_,n,d⟩,_⟩:=I.tuple h
  obtain ⟨its',r',⟨o',e',_,n',d'⟩,_⟩:=I.tuple h'
  rw [e] at e'; cases e'
  rw [d] at d'
  injection d' with d1 _
  have:its=its':=by simpa using congrArg Array.toList d1
  subst this
  exact r.inj r'
end
abbrev Cx.wish (X:Cx) (E:Value→Shared→Prop):Cx:={ X with xe:=E }
abbrev Cx.nox (X:Cx):Cx:=X.wish fun _ _=>False
theorem Cx.Ok.wish {X:Cx} (ok:X.Ok) (E:Value→Shared→Prop):(X.wish E).Ok :=
  ⟨ok.mod,ok.kind,ok.glob,ok.blt,ok.above,ok.inj,ok.has,ok.cab,ok.hd,ok.frames,ok.stk,ok.exf,ok.bs,ok.bsz,ok.noex,ok.exfs,ok.funs,ok.frf,ok.tb⟩
theorem Cx.Ok.unwish {X:Cx} {E:Value→Shared→Prop} (ok:(X.wish E).Ok):X.Ok :=
  ⟨ok.mod,ok.kind,ok.glob,ok.blt,ok.above,ok.inj,ok.has,ok.cab,ok.hd,ok.frames,ok.stk,ok.exf,ok.bs,ok.bsz,ok.noex,ok.exfs,ok.funs,ok.frf,ok.tb⟩
section
variable {X:Cx} {pins:List (Addr × Obj)} {σ:St} {H:Hp} {s:Shared} {E:Value→Shared→Prop}
theorem Inv.wish (I:Inv X pins σ H s) (E:Value→Shared→Prop):Inv (X.wish E) pins σ H s:=⟨I.ok.wish E,I.os,I.bare,I.base,I.loc,I.cell,I.free,I.freeC,I.pin,I.hok,I.len⟩
theorem Inv.unwish (I:Inv (X.wish E) pins σ H s):Inv X pins σ H s:=⟨I.ok.unwish,I.os,I.bare,I.base,I.loc,I.cell,I.free,I.freeC,I.pin,I.hok,I.len⟩
theorem SP.unwish {D:Ends} {f:Flow} {s':Shared} (h:SP (X.wish E) pins D f s'):SP X pins D f s':=by
  cases f with
  | next=>obtain ⟨σ',H',I,q⟩:=h; exact ⟨σ',H',I.unwish,q⟩
  | brk=>obtain ⟨σ',H',I,q⟩:=h; exact ⟨σ',H',I.unwish,q⟩
  | cont=>obtain ⟨σ',H',I,q⟩:=h; exact ⟨σ',H',I.unwish,q⟩
  | ret u=>obtain ⟨v,σ',H',I,r,q⟩:=h; exact ⟨v,σ',H',I.unwish,r,q⟩
theorem PSs.nox {st:List Stmt} {t:TS} (h:PSs X.nox st t):PSs X st t:=fun pins s σ H D I hw =>
  wpAny_mono (h pins s σ H D (I.wish _) hw) (fun _ _ q=>q.unwish) fun _ _ z=>False.elim z
end
section
variable {X:Cx} {st:Stmt} {rest:List Stmt} {t u:TS} {e:Expr} {te:TE} {pos:Pos}
def zjP:TS:=fun D σ H=>D.nx σ H
def tSeq (t u:TS):TS:=fun D σ H=>t { D with nx:=u D } σ H
theorem za4:PSs X [] zjP:=fun _ _ σ H _ I h=>wpAny_execs_nil ⟨σ,H,I,h⟩
theorem zaf (h1:PS X st t) (h2:PSs X rest u):PSs X (st :: rest) (tSeq t u):=by
  intro pins s σ H D I h
  refine wpAny_execs_cons (thn (h1 pins s σ H { D with nx:=u D } I h) fun f s1 q=>?_)
  cases f with
  | next =>
    obtain ⟨σ',H',I',q⟩:=q
    exact h2 pins s1 σ' H' D I' q
  | ret v=>exact q
  | brk=>exact q
  | cont=>exact q
theorem zat (h1:PS X st t):PSs X [st] t:=by
  intro pins s σ H D I h
  refine wpAny_execs_cons (thn (h1 pins s σ H D I h) fun f s1 q=>?_)
  cases f with
  | next=>exact wpAny_execs_nil q
  | ret v=>exact q
  | brk=>exact q
  | cont=>exact q
theorem Inv.quiet {pins:List (Addr × Obj)} {σ:St} {H:Hp} {s:Shared} (I:Inv X pins σ H s):interactive X.env=false:=by simp [interactive,I.ok.kind]
def zhg (te:TE):TS:=fun D σ H=>te σ H fun _ H1=>D.nx σ H1
theorem zcx (he:PE X e te) (hs:swapsWith e none pos.line X.env=pure false:=by rfl):PS X (.Expr e pos) (zhg te):=by
  intro pins s σ H D I h
  exact wpAny_Expr_any (thn (he pins s σ H _ I h) fun v s1 ⟨x,H1,I1,r1,q1⟩=>⟨σ,H1,I1,q1⟩) I.quiet hs
def tRet (te:TE):TS:=fun D σ H=>te σ H D.rt
theorem zaT (he:PE X e te):PS X (.Return (some e) pos) (tRet te):=by
  intro pins s σ H D I h
  exact wpAny_Return_some (thn (he pins s σ H _ I h) fun v s1 ⟨x,H1,I1,r1,q1⟩=>⟨x,σ,H1,I1,r1,q1⟩)
def tIfS (c:TT) (t u:TS):TS:=fun D σ H=>c σ H fun b H1=>if b=true then t D σ H1 else u D σ H1
theorem zcy {c:Expr} {a b:List Stmt} {tc:TT} (hc:PT X c tc) (ha:PSs X a t) (hb:PSs X b u):PS X (.If c a b pos) (tIfS tc t u):=by
  intro pins s σ H D I h
  refine wpAny_If (thn (hc pins s σ H _ I h) fun d s1 ⟨H1,I1,q1⟩=>?_)
  cases d with
  | true=>exact ha pins s1 σ H1 D I1 q1
  | false=>exact hb pins s1 σ H1 D I1 q1
end
abbrev TG:=V→St→Hp→(St→Hp→Prop)→Prop
abbrev TGs:=List V→St→Hp→(St→Hp→Prop)→Prop
def PG (X:Cx) (target:Expr) (t:TG):Prop :=
  ∀ (pins:List (Addr × Obj)) (s:Shared) (σ:St) (H:Hp) (v:V) (u:Value) (Q:St→Hp→Prop),Inv X pins σ H s→RelV v u→t v σ H Q →
    wpAny (model X.prog X.w) X.A (assign target X.env u) (fun _ s'=>∃ σ' H',Inv X pins σ' H' s'∧Q σ' H') X.xe s
def PGs (X:Cx) (ts:List Expr) (t:TGs):Prop :=
  ∀ (pins:List (Addr × Obj)) (s:Shared) (σ:St) (H:Hp) (vs:List V) (us:List Value) (Q:St→Hp→Prop),Inv X pins σ H s→Vals vs us→t vs σ H Q →
    wpAny (model X.prog X.w) X.A (assignInOrder ((assignEach ts X.env).map (·.2)) us) (fun _ s'=>∃ σ' H',Inv X pins σ' H' s'∧Q σ' H') X.xe s
abbrev TSet:=V→V→V→Hp→(Hp→Prop)→Prop
def PSet (X:Cx) (t:TSet):Prop :=
  ∀ (pins:List (Addr × Obj)) (s:Shared) (σ:St) (H:Hp) (o i v:V) (ov iv u:Value) (Q:Hp→Prop),Inv X pins σ H s→RelV o ov→RelV i iv→RelV v u→t o i v H Q →
    wpAny (model X.prog X.w) X.A (setItem ov iv u) (fun _ s'=>∃ H',Inv X pins σ H' s'∧Q H') X.xe s
abbrev TIp:=V→V→Hp→VK→Prop
def PIp (X:Cx) (op:Operator) (t:TIp):Prop :=
  ∀ (pins:List (Addr × Obj)) (s:Shared) (σ:St) (H:Hp) (x y:V) (v u:Value) (Q:VK),Inv X pins σ H s→RelV x v→RelV y u→t x y H Q →
    wpAny (model X.prog X.w) X.A (inplaceOp op v u) (EP X pins σ Q) X.xe s
section
variable {X:Cx} {pos:Pos}
def zcT (i:Nat):TG:=fun v σ H Q=>Q (σ.set i (some v)) H
theorem zaA {i:Nat} {x:Str} (hN:X.N.Nodup) (hi:X.N[i]?=some x) (hx:Loc X.env.scope x) (hf:X.fn x=true∨X.env.scope.names.lookup x=some .local:=by first | exact .inl rfl | exact .inr rfl | assumption):PG X (.Name x pos) (zcT i):=by
  intro pins s σ H v u Q I r h
  exact wpAny_assign_Name (zeI I hN hi hx r (fun s' I'=>⟨_,H,I',h⟩) hf)
def gNil:TGs:=fun vs σ H Q=>vs = []∧Q σ H
def zgR (t:TG) (u:TGs):TGs:=fun vs σ H Q=>∃ v r,vs=v :: r∧t v σ H fun σ' H'=>u r σ' H' Q
theorem zbl:PGs X [] gNil:=by
  intro pins s σ H vs us Q I r h
  obtain ⟨e,h⟩:=h
  subst e
  cases r
  exact assignInOrder_nil ⟨σ,H,I,h⟩
theorem zaz {e:Expr} {es:List Expr} {t:TG} {u:TGs} (h1:PG X e t) (h2:PGs X es u)
    (hs:(assignEach (e :: es) X.env).map (·.2)=assign e X.env :: (assignEach es X.env).map (·.2):=by rfl):PGs X (e :: es) (zgR t u):=by
  intro pins s σ H vs us Q I r h
  obtain ⟨v,vr,e1,h⟩:=h
  subst e1
  cases r with
  | cons r rr =>
    rw [hs]
    refine assignInOrder_cons (thn (h1 pins s σ H _ _ _ I r h) fun _ s1 ⟨σ1,H1,I1,q1⟩=>?_)
    exact h2 pins s1 σ1 H1 _ _ Q I1 rr q1
def gTup (K:PySem.W.Frag) (n:Nat) (t:TGs):TG:=fun v σ H Q=>∃ a xs,v = .ref a∧SqT K H a xs∧xs.length=n∧t xs σ H Q
theorem zb1 {es:List Expr} {k:Nat} {t:TGs} {n:Nat} (hc:X.calm=true) (h:PGs X es t)
    (hn:(assignEach es X.env).length=n:=by rfl) (hst:(assignEach es X.env).findIdx? (·.1)=none:=by rfl):PG X (.Tuple es k pos) (gTup X.K n t):=by
  intro pins s σ H v u Q I r hw
  obtain ⟨a,xs,e1,hq,hl,hw⟩:=hw
  subst e1
  cases r
  obtain ⟨its,rv,ht,hz⟩:=I.tuple hq
  refine assign_Tuple_tuple (I.ok.hd hc) ht (by simp [hn,← hl,rv.length]) hst fun h' hx=>?_
  have I1:Inv X pins σ H { s with heap:=h' }:=I.kept (t':=s.toks) fun b o e=>hx b o (Nat.ne_of_lt (Heap.lt_size e)) e
  exact h pins _ σ H xs _ Q I1 (by simpa using rv) hw
def gSub (to ti:TE) (t:TSet):TG:=fun v σ H Q=>to σ H fun o H1=>ti σ H1 fun i H2=>t o i v H2 fun H3=>Q σ H3
theorem ziJ {o i:Expr} {to ti:TE} {t:TSet} (ho:PE X o to) (hi:PE X i ti) (hs:PSet X t)
    (ha:∀ v,assign (.Subscript o i pos) X.env v=(do
      let ov ← holding [v] (eval o X.env)
      let iv ← holding [v,ov] (eval i X.env)
      standAt pos
      holding [v,ov,iv] (setItem ov iv v)
      release [v,ov,iv] []):=by intro _; rfl):PG X (.Subscript o i pos) (gSub to ti t):=by
  intro pins s σ H v u Q I r h
  rw [ha]
  refine wpAny_bind (wpAny_holding (thn (ho pins s σ H _ I h) fun ov s1 ⟨x,H1,I1,r1,q1⟩=>?_))
  refine wpAny_bind (wpAny_holding (thn (hi pins s1 σ H1 _ I1 q1) fun iv s2 ⟨y,H2,I2,r2,q2⟩=>?_))
  refine wpAny_bind (wpAny_standAt (wpAny_bind (wpAny_holding (thn (hs pins s2 σ H2 x y v ov iv u _ I2 r1 r2 r q2) fun _ s3 ⟨H3,I3,q3⟩=>?_))))
  exact wpAny_release ⟨σ,H3,I3,q3⟩
def tAsg (te:TE) (g:TG):TS:=fun D σ H=>te σ H fun x H1=>g x σ H1 D.nx
theorem zhB {tg e:Expr} {te:TE} {g:TG} (he:PE X e te) (hg:PG X tg g) (hs:swapsWithSole [tg] e pos.line X.env=pure false:=by rfl) (hw:swappedStores [tg] e X.env=pure none:=by rfl)
    (h1:(assignEach [tg] X.env).map (·.2) = [assign tg X.env]:=by rfl):PS X (.Assign [tg] e pos) (tAsg te g):=by
  intro pins s σ H D I h
  refine wpAny_Assign_stores (thn (he pins s σ H _ I h) fun v s1 ⟨x,H1,I1,r1,q1⟩=>?_) hs hw
  rw [h1]
  exact thn (hg pins s1 σ H1 x v _ I1 r1 q1) fun _ s2 q=>q
theorem zaZ {i:Nat} {x:Str} {e:Expr} {te:TE} {pos':Pos} (hN:X.N.Nodup) (hi:X.N[i]?=some x) (hx:Loc X.env.scope x) (he:PE X e te) (hs:swapsWith e (some (.Name x pos')) pos.line X.env=pure false:=by rfl) (hf:X.fn x=true∨X.env.scope.names.lookup x=some .local:=by first | exact .inl rfl | exact .inr rfl | assumption) :
    PS X (.Assign [.Name x pos'] e pos) (tAsg te (zcT i)):=by
  intro pins s σ H D I h
  refine wpAny_Assign_Name (thn (he pins s σ H _ I h) fun v s1 ⟨y,H1,I1,r1,q1⟩=>?_) hs
  exact zeI I1 hN hi hx r1 (fun s2 I2=>⟨_,H1,I2,q1⟩) hf
def zjX (to ti te:TE) (tget:V→V→Hp→VK→Prop) (tip:TIp) (tset:TSet):TS:=fun D σ H=>to σ H fun o H1=>ti σ H1 fun i H2=>tget o i H2 fun x H3=>te σ H3 fun y H4=>tip x y H4 fun z H5=>tset o i z H5 fun H6=>D.nx σ H6
def PGet (X:Cx) (t:V→V→Hp→VK→Prop):Prop :=
  ∀ (pins:List (Addr × Obj)) (s:Shared) (σ:St) (H:Hp) (o i:V) (ov iv:Value) (Q:VK),Inv X pins σ H s→RelV o ov→RelV i iv→t o i H Q →
    wpAny (model X.prog X.w) X.A (getItem ov iv) (EP X pins σ Q) X.xe s
theorem zhQ {o i e:Expr} {to ti te:TE} {tget:V→V→Hp→VK→Prop} {tip:TIp} {tset:TSet} {op:Operator} {tpos:Pos} (ho:PE X o to) (hi:PE X i ti) (hg:PGet X tget) (he:PE X e te) (hp:PIp X op tip) (hs:PSet X tset)
    (ha:∀ ov iv new,augStore i ov iv new=(do holding [new,ov,iv] (setItem ov iv new); release [new,ov,iv] []; pure .next):=by intros; rfl):PS X (.AugAssign (.Subscript o i tpos) op e pos) (zjX to ti te tget tip tset):=by
  intro pins s σ H D I h
  refine wpAny_AugAssign_SubscriptAny (thn (ho pins s σ H _ I h) fun ov s1 ⟨x1,H1,I1,r1,q1⟩=>?_) ha
  refine thn (hi pins s1 σ H1 _ I1 q1) fun iv s2 ⟨x2,H2,I2,r2,q2⟩=>?_
  refine thn (hg pins s2 σ H2 x1 x2 ov iv _ I2 r1 r2 q2) fun old s3 ⟨x3,H3,I3,r3,q3⟩=>?_
  refine thn (he pins s3 σ H3 _ I3 q3) fun v s4 ⟨x4,H4,I4,r4,q4⟩=>?_
  refine thn (hp pins s4 σ H4 x3 x4 old v _ I4 r3 r4 q4) fun new s5 ⟨x5,H5,I5,r5,q5⟩=>?_
  exact thn (hs pins s5 σ H5 x1 x2 x5 ov iv new _ I5 r1 r2 r5 q5) fun _ s6 ⟨H6,I6,q6⟩=>⟨σ,H6,I6,q6⟩
def ipI (f:Int→Int→Int):TIp:=fun x y H Q=>∃ i j,x = .int i∧y = .int j∧Q (.int (f i j)) H
theorem ziH:PIp X .Sub (ipI fun i j=>i - j):=by
  intro pins s σ H x y v u Q I r1 r2 h
  obtain ⟨i,j,e1,e2,q⟩:=h
  subst e1; subst e2
  obtain ⟨t,rfl⟩:=r1
  obtain ⟨t',rfl⟩:=r2
  exact isub_int ⟨.int _,H,I.tok _,⟨_,rfl⟩,q⟩
end
section
variable {X:Cx} {pos:Pos}
end
structure It where
  go:Nat→Hp→Prop
  yld:Nat→Hp→V→Hp→Prop
  stop:Nat→Hp→Prop
def FpOk (X:Cx) (pins:List (Addr × Obj)) (H:Hp) (b:Addr):Prop :=
  H b=none∧b ≠ X.env.locals∧b ∉ X.fs∧(b ∈ X.ex∨X.s₀.heap.objs.size ≤ b)∧(∀ x c,X.env.cells.lookup x=some c→c ≠ b)∧∀ p ∈ X.pn ++ pins,p.1 ≠ b
theorem Inv.fpOk {X:Cx} {pins:List (Addr × Obj)} {σ:St} {H H':Hp} {s:Shared} {b:Addr} (I:Inv X pins σ H s) (hb:s.heap.objs.size ≤ b) (hn:H' b=none):FpOk X pins H' b:=by
  refine ⟨hn,Nat.ne_of_gt (Nat.lt_of_lt_of_le I.lt hb),I.nofs hb,.inr (Nat.le_trans I.sz hb),fun x c e z=>?_,fun p hp z=>?_⟩
  · obtain ⟨v,q⟩:=I.cell x c e
    exact absurd (Nat.lt_of_lt_of_le q.lt (by rw [z]; exact hb)) (Nat.lt_irrefl _)
  · exact absurd (Nat.lt_of_lt_of_le (Heap.lt_size (I.pin p hp).1) (by rw [z]; exact hb)) (Nat.lt_irrefl _)
structure Turn (P:Program) (w:World) (K:PySem.W.Frag) (tg:Expr) (J:It) (fp:List Addr) (it:Addr) (tn:Nat→Heap→Prop):Prop where
  mem:it ∈ fp
  obj:∀ i h,tn i h→∀ b ∈ fp,∃ o,h.get? b=some o∧∀ v,o.data ≠ .cell v
  keep:∀ i h h',tn i h→(∀ b ∈ fp,∀ o,h.get? b=some o→h'.get? b=some o)→tn i h'
  item:∀ (X:Cx),X.prog=P→X.w=w→X.K=K→X.calm=true→∀ (i:Nat) (pins:List (Addr × Obj)) (s:Shared) (σ:St) (H:Hp) (E:Value→Shared→Prop),Inv X pins σ H s→(∀ b ∈ fp,FpOk X pins H b)→tn i s.heap→J.go i H →
    wpAny (model P w) X.A (pyNext (.ref it)) (fun r s1=>∃ u,r=some u ∧
      wpAny (model P w) X.A (letOwnedTupleGo tg (.ref it) u) (fun _ s2=>∃ x H',Inv X pins σ H' s2∧RelV x u∧J.yld i H x H'∧tn (i + 1) s2.heap∧∀ b ∈ fp,H' b=none) E s1) E s
  done:∀ (X:Cx),X.prog=P→X.w=w→X.K=K→X.calm=true→∀ (i:Nat) (pins:List (Addr × Obj)) (s:Shared) (σ:St) (H:Hp) (E:Value→Shared→Prop),Inv X pins σ H s→(∀ b ∈ fp,FpOk X pins H b)→tn i s.heap→J.stop i H →
    wpAny (model P w) X.A (pyNext (.ref it)) (fun r s1=>r=none∧Inv X pins σ H s1) E s
  self:∀ (A:Around) (i:Nat) (s:Shared) (Q:Value→Shared→Prop) (E:Value→Shared→Prop),tn i s.heap→Q (.ref it) s→wpAny (model P w) A (pyIter (.ref it)) Q E s
abbrev TI:=St→Hp→(It→Hp→Prop)→Prop
def PIE (X:Cx) (pins:List (Addr × Obj)) (σ:St) (tg:Expr) (R:It→Hp→Prop) (itv:Value) (s2:Shared):Prop :=
  ∃ (it:Addr) (fp:List Addr) (tn:Nat→Heap→Prop) (J:It) (H':Hp),itv = .ref it∧Inv X pins σ H' s2∧Turn X.prog X.w X.K tg J fp it tn∧tn 0 s2.heap∧(∀ b ∈ fp,FpOk X pins H' b)∧R J H'
def PI (X:Cx) (tg iter:Expr) (wi:TI):Prop :=
  ∀ (pins:List (Addr × Obj)) (s:Shared) (σ:St) (H:Hp) (R:It→Hp→Prop),Inv X pins σ H s→wi σ H R →
    wpAny (model X.prog X.w) X.A (eval iter X.env) (fun v s1=>wpAny (model X.prog X.w) X.A (pyIter v) (PIE X pins σ tg R) X.xe s1) X.xe s
theorem zi8 {M:Model} {A:Around} {E:Value→Shared→Prop} {s:Shared} {tg:Expr} {it:Addr} {u:Value} {o:Obj} {n:String} {vs:Array Value} {Q:Unit→Shared→Prop} (ho:s.heap.get? it=some o) (hc:o.cls = .type n) (hd:o.data = .fields vs)
    (hn : ["enumerate","zip","dict_itemiterator","dict_reverseitemiterator","odict_iterator","itertools.zip_longest","itertools.pairwise"].contains n=false) (hQ:Q () s):wpAny M A (letOwnedTupleGo tg (.ref it) u) Q E s:=by
  unfold letOwnedTupleGo
  cases tg <;> first
    | exact wpAny_pure hQ
    | (cases u <;> first
        | exact wpAny_pure hQ
        | (refine wpAny_bind (wpAny_load ho ?_)
           rw [hc,hd]
           show wpAny M A (if (["enumerate","zip","dict_itemiterator","dict_reverseitemiterator","odict_iterator","itertools.zip_longest","itertools.pairwise"].contains n && vs[0]? == some (rawInt _))=true then _ else _) Q E s
           rw [if_neg (by intro h; rw [hn,Bool.false_and] at h; cases h)]
           exact wpAny_pure hQ))
def Itl (K:PySem.W.Frag) (a:Addr):It :=
  ⟨fun i H=>∃ xs x,SqL K H a xs∧xs[i]?=some x,fun i H x H'=>H'=H∧∀ xs,SqL K H a xs→xs[i]?=some x,fun i H=>∃ xs,SqL K H a xs∧xs.length ≤ i⟩
def Itt (K:PySem.W.Frag) (a:Addr):It :=
  ⟨fun i H=>∃ xs x,SqT K H a xs∧xs[i]?=some x,fun i H x H'=>H'=H∧∀ xs,SqT K H a xs→xs[i]?=some x,fun i H=>∃ xs,SqT K H a xs∧xs.length ≤ i⟩
def Itr (lo:Int) (n:Nat):It:=⟨fun i _=>i < n,fun i H x H'=>H'=H∧x = .int (lo + i),fun i _=>n ≤ i⟩
theorem zgY {P:Program} {w:World} {K:PySem.W.Frag} {tg:Expr} (a it:Addr):Turn P w K tg (Itl K a) [it] it (fun i h=>h.IsListIter it a i) where
  mem:=by simp
  obj:=fun i h st b hb=>by
    have e:b=it:=by simpa using hb
    subst e
    obtain ⟨o,e,c,d⟩:=st
    exact ⟨o,e,fun v z=>by rw [d] at z; cases z⟩
  keep:=fun i h h' st k=>st.at fun o e=>k it (by simp) o e
  item:=by
    intro X hP hw hK hc i pins s σ H E I hf st hg
    subst hP hw hK
    obtain ⟨xs,x,hq,hx⟩:=hg
    obtain ⟨its,rv,p,hz⟩:=I.list hq
    obtain ⟨u,hu,ru⟩:=rv.get hx
    obtain ⟨f0,f1,f2,f3,f4,f5⟩:=hf it (by simp)
    refine wpAny_pyNext_list_item st p.isList (x:=u) (by simpa using hu) fun h' st' sb=>?_
    have I1:Inv X pins σ H { s with heap:=h' }:=I.turned (t':=s.toks) (fun b o hb e=>(sb.2 b hb).trans e) f0 f1 f3 f4 f5
    obtain ⟨o,e,c,d⟩:=id st'
    exact ⟨u,rfl,zi8 (s:={ s with heap:=h' }) e c d (by decide) ⟨x,H,I1,ru,⟨rfl,fun ys hy=>by rw [I.list_inj hy hq]; exact hx⟩,st',fun b hb=>(hf b hb).1⟩⟩
  done:=by
    intro X hP hw hK hc i pins s σ H E I hf st hg
    subst hP hw hK
    obtain ⟨xs,hq,hx⟩:=hg
    obtain ⟨its,rv,p,hz⟩:=I.list hq
    obtain ⟨f0,f1,f2,f3,f4,f5⟩:=hf it (by simp)
    have hl:=rv.length
    exact wpAny_pyNext_list_end (I.ok.hd hc) st p.isList (by simp; omega) fun h' eb=>⟨rfl,I.turned (t':=s.toks) (fun b o hb e=>eb b o hb e) f0 f1 f3 f4 f5⟩
  self:=fun _ _ _ _ _ st h=>wpAny_pyIter_listiter st h
theorem zgA {P:Program} {w:World} {K:PySem.W.Frag} {tg:Expr} (a it:Addr):Turn P w K tg (Itt K a) [it] it (fun i h=>h.IsTupleIter it a i) where
  mem:=by simp
  obj:=fun i h st b hb=>by
    have e:b=it:=by simpa using hb
    subst e
    obtain ⟨o,e,c,d⟩:=st
    exact ⟨o,e,fun v z=>by rw [d] at z; cases z⟩
  keep:=fun i h h' st k=>st.at fun o e=>k it (by simp) o e
  item:=by
    intro X hP hw hK hc i pins s σ H E I hf st hg
    subst hP hw hK
    obtain ⟨xs,x,hq,hx⟩:=hg
    obtain ⟨its,rv,p,hz⟩:=I.tuple hq
    obtain ⟨u,hu,ru⟩:=rv.get hx
    obtain ⟨f0,f1,f2,f3,f4,f5⟩:=hf it (by simp)
    refine wpAny_pyNext_tuple_item st (show s.heap.IsTuple a its.toArray from p) (x:=u) (by simpa using hu) fun h' st' sb=>?_
    have I1:Inv X pins σ H { s with heap:=h' }:=I.turned (t':=s.toks) (fun b o hb e=>(sb.2 b hb).trans e) f0 f1 f3 f4 f5
    obtain ⟨o,e,c,d⟩:=id st'
    exact ⟨u,rfl,zi8 (s:={ s with heap:=h' }) e c d (by decide) ⟨x,H,I1,ru,⟨rfl,fun ys hy=>by rw [I.tuple_inj hy hq]; exact hx⟩,st',fun b hb=>(hf b hb).1⟩⟩
  done:=by
    intro X hP hw hK hc i pins s σ H E I hf st hg
    subst hP hw hK
    obtain ⟨xs,hq,hx⟩:=hg
    obtain ⟨its,rv,p,hz⟩:=I.tuple hq
    obtain ⟨f0,f1,f2,f3,f4,f5⟩:=hf it (by simp)
    have hl:=rv.length
    exact wpAny_pyNext_tuple_end (I.ok.hd hc) st (show s.heap.IsTuple a its.toArray from p) (by simp; omega) fun h' eb=>⟨rfl,I.turned (t':=s.toks) (fun b o hb e=>eb b o hb e) f0 f1 f3 f4 f5⟩
  self:=fun _ _ _ _ _ st h=>wpAny_pyIter_tupleiter st h
theorem zgz {P:Program} {w:World} {K:PySem.W.Frag} {tg:Expr} (it:Addr) (lo:Int) (n:Nat):Turn P w K tg (Itr lo n) [it] it (fun i h=>IsRangeIter h it (lo + (i:Nat) * 1) ((n:Int) - (i:Nat)) 1) where
  mem:=by simp
  obj:=fun i h st b hb=>by
    have e:b=it:=by simpa using hb
    subst e
    exact ⟨_,st,fun v z=>by
      have z':Data.fields _=Data.cell v:=z
      cases z'⟩
  keep:=fun i h h' st k=>k it (by simp) _ st
  item:=by
    intro X hP hw hK hc i pins s σ H E I hf st hg
    subst hP hw hK
    obtain ⟨f0,f1,f2,f3,f4,f5⟩:=hf it (by simp)
    have W:=Walks.range (prog:=X.prog) (w:=X.w) (I.ok.hd hc) it lo 1 n
    refine W.item i s _ _ hg st fun v h' tk hv st' kk=>?_
    obtain ⟨t,rfl⟩:=hv
    have I1:Inv X pins σ H { s with heap:=h',toks:=tk }:=I.turned (fun b o hb e=>kk b o (by simpa using hb) e) f0 f1 f3 f4 f5
    refine ⟨_,rfl,zi8 (s:={ s with heap:=h',toks:=tk }) (n:="range_iterator") st' rfl rfl (by decide) ⟨.int (lo + i),H,I1,⟨t,?_⟩,⟨rfl,rfl⟩,st',fun b hb=>(hf b hb).1⟩⟩
    rw [Int.mul_one]
  done:=by
    intro X hP hw hK hc i pins s σ H E I hf st hg
    subst hP hw hK
    obtain ⟨f0,f1,f2,f3,f4,f5⟩:=hf it (by simp)
    exact wpAny_pyNext_range_end (I.ok.hd hc) st (by have:n ≤ i:=hg; omega) fun h' eb=>⟨rfl,I.turned (t':=s.toks) (fun b o hb e=>eb b o hb e) f0 f1 f3 f4 f5⟩
  self:=fun _ _ _ _ _ st h=>wpAny_pyIter_rangeiter st h
end L2
namespace L2
open PySem PySem.Spec PyProof.Rows
section
variable {X:Cx} {tg:Expr}
def zig (K:PySem.W.Frag) (tl:TE):TI:=fun σ H R=>tl σ H fun x H1=>∃ a,x = .ref a∧(∃ xs,SqL K H1 a xs)∧R (Itl K a) H1
def iTup (K:PySem.W.Frag) (tl:TE):TI:=fun σ H R=>tl σ H fun x H1=>∃ a,x = .ref a∧(∃ xs,SqT K H1 a xs)∧R (Itt K a) H1
theorem zcu {l:Expr} {tl:TE} (hl:PE X l tl):PI X tg l (zig X.K tl):=by
  intro pins s σ H R I h
  refine thn (hl pins s σ H _ I h) fun v s1 ⟨x,H1,I1,r1,q1⟩=>?_
  obtain ⟨a,e,⟨xs,hq⟩,q⟩:=q1
  subst e
  cases r1
  obtain ⟨its,rv,p,hz⟩:=I1.list hq
  refine wpAny_pyIter_list p.isList ?_
  refine ⟨s1.heap.objs.size,[s1.heap.objs.size],_,_,H1,rfl,I1.kept (t':=s1.toks) fun b o e=>Heap.get?_push_of_some _ e,zgY a _,⟨_,Heap.get?_push_size _ rfl,rfl,rfl⟩,fun b hb=>?_,q⟩
  have e:b=s1.heap.objs.size:=by simpa using hb
  subst e
  exact I1.fpOk (Nat.le_refl _) (I1.hok.fresh (Nat.le_refl _))
theorem zkc {l:Expr} {tl:TE} (hl:PE X l tl):PI X tg l (iTup X.K tl):=by
  intro pins s σ H R I h
  refine thn (hl pins s σ H _ I h) fun v s1 ⟨x,H1,I1,r1,q1⟩=>?_
  obtain ⟨a,e,⟨xs,hq⟩,q⟩:=q1
  subst e
  cases r1
  obtain ⟨its,rv,p,hz⟩:=I1.tuple hq
  refine wpAny_pyIter_tuple (show s1.heap.IsTuple a its.toArray from p) ?_
  refine ⟨s1.heap.objs.size,[s1.heap.objs.size],_,_,H1,rfl,I1.kept (t':=s1.toks) fun b o e=>Heap.get?_push_of_some _ e,zgA a _,⟨_,Heap.get?_push_size _ rfl,rfl,rfl⟩,fun b hb=>?_,q⟩
  have e:b=s1.heap.objs.size:=by simpa using hb
  subst e
  exact I1.fpOk (Nat.le_refl _) (I1.hok.fresh (Nat.le_refl _))
theorem ziu {pins:List (Addr × Obj)} {σ:St} {H:Hp} {s:Shared} {R:It→Hp→Prop} {E:Value→Shared→Prop} {lo hi:Int} {t u v:Tok} {tk:Nat} (I:Inv X pins σ H s) (h1 : -(2 ^ 62) ≤ lo) (h2:lo < 2 ^ 62) (h3 : -(2 ^ 62) ≤ hi) (h4:hi < 2 ^ 62)
    (q:R (Itr lo (hi - lo).toNat) H):wpAny (model X.prog X.w) X.A (pyIter (.ref s.heap.objs.size)) (PIE X pins σ tg R) E { s with heap:=s.heap.push { cls:=.type "range",data:=.fields #[.int lo t,.int hi u,.int 1 v] },toks:=tk }:=by
  refine wpAny_pyIter_range (IsRange.new ..) (small_one h1 h2 h3 h4) ?_
  have I1:Inv X pins σ H { s with heap:=s.heap.push { cls:=.type "range",data:=.fields #[.int lo t,.int hi u,.int 1 v] },toks:=tk }:=I.kept fun b o e=>Heap.get?_push_of_some _ e
  refine ⟨(s.heap.push { cls:=.type "range",data:=.fields #[.int lo t,.int hi u,.int 1 v] }).objs.size,[(s.heap.push { cls:=.type "range",data:=.fields #[.int lo t,.int hi u,.int 1 v] }).objs.size],_,_,H,rfl,
    I1.kept (t':=tk) fun b o e=>Heap.get?_push_of_some _ e,zgz _ lo (hi - lo).toNat,?_,fun b hb=>?_,q⟩
  · have e1:lo + ((0:Nat):Int) * 1=lo:=by simp
    have e2:(((hi - lo).toNat:Nat):Int) - ((0:Nat):Int)=Builtin.Range.rangeSize lo hi 1:=by rw [rangeSize_one]; split <;> omega
    show IsRangeIter _ _ (lo + ((0:Nat):Int) * 1) ((((hi - lo).toNat:Nat):Int) - ((0:Nat):Int)) 1
    rw [e1,e2]
    exact Heap.get?_push_size _ rfl
  · have e:b=(s.heap.push { cls:=.type "range",data:=.fields #[.int lo t,.int hi u,.int 1 v] }).objs.size:=by simpa using hb
    subst e
    exact I1.fpOk (Nat.le_refl _) (I1.hok.fresh (Nat.le_refl _))
def zj0 (ta:TA):TI:=fun σ H R=>ta σ H fun vs H1=>∃ j:Int,vs = [.int j]∧-(2 ^ 62) ≤ j∧j < 2 ^ 62∧R (Itr 0 j.toNat) H1
theorem zdu {a:Expr} {ta:TA} {p pos:Pos} (hg:Gl X "range") (hm:X.mg "range"=none) (ha:PA X [a] ta) (hs:starEach [a] X.env = [(false,eval a X.env)]:=by rfl):PI X tg (.Call (.Name "range" p) [a] [] pos) (zj0 ta):=by
  intro pins s σ H R I h
  refine Call_ (zd5 I hg hm boot_range (PyProof.Rows.callWith_type1 (thn (ha pos pins s σ H _ I h) fun us s1 ⟨vs,H1,I1,r1,q1⟩=>?_) hs rfl))
  obtain ⟨j,e,q1,q2,q⟩:=q1
  subst e
  cases r1 with
  | cons r rr =>
    cases rr
    obtain ⟨t,rfl⟩:=r
    exact call_range_1 (ziu I1 (by omega) (by omega) q1 q2 (by simpa using q))
def tFor (wi:TI) (g:TG) (tb:TS):TS:=fun D σ H=>wi σ H fun J H1=>∃ W:Nat→Nat→St→Hp→Prop,(∃ m,W 0 m σ H1)∧∀ i m σ H,W i m σ H →
  (J.stop i H∧D.nx σ H)∨(J.go i H∧∃ N:St→Hp→Prop,(∀ σ' H',N σ' H'→∃ m',m' < m∧W (i + 1) m' σ' H')∧∀ x H',J.yld i H x H'→g x σ H' fun σ2 H2=>tb { D with nx:=N,ct:=N,bk:=D.nx } σ2 H2)
def zd6 (fp:List Addr) (h:Heap):List (Addr × Obj):=fp.filterMap fun b=>(h.get? b).map fun o=>(b,o)
theorem zbK {fp:List Addr} {h:Heap} {b:Addr} {o:Obj} (hb:b ∈ fp) (e:h.get? b=some o):(b,o) ∈ zd6 fp h:=List.mem_filterMap.mpr ⟨b,hb,by rw [e]; rfl⟩
theorem zg7 {fp:List Addr} {h:Heap} {p:Addr × Obj} (hp:p ∈ zd6 fp h):p.1 ∈ fp∧h.get? p.1=some p.2:=by
  obtain ⟨b,hb,e⟩:=List.mem_filterMap.mp hp
  cases q:h.get? b with
  | none=>rw [q] at e; cases e
  | some o =>
    rw [q] at e
    have e':(b,o)=p:=Option.some.inj e
    subst e'
    exact ⟨hb,q⟩
theorem Inv.pinned {pins:List (Addr × Obj)} {σ:St} {H:Hp} {s:Shared} {fp:List Addr} (I:Inv X pins σ H s) (hf:∀ b ∈ fp,FpOk X pins H b) (ho:∀ b ∈ fp,∃ o,s.heap.get? b=some o∧∀ v,o.data ≠ .cell v):Inv X (pins ++ zd6 fp s.heap) σ H s :=
  I.pins_of fun p hp=>(List.mem_append.mp hp).elim (fun z=>I.pin p (List.mem_append_right _ z)) fun z=>by
    obtain ⟨hb,e⟩:=zg7 z
    obtain ⟨f0,f1,f2,_⟩:=hf p.1 hb
    obtain ⟨o,e',d⟩:=ho p.1 hb
    rw [e] at e'; cases e'
    exact ⟨e,f0,f1,f2,d⟩
theorem Inv.unpinned {pins pl:List (Addr × Obj)} {σ:St} {H:Hp} {s:Shared} (I:Inv X (pins ++ pl) σ H s):Inv X pins σ H s:=I.pins_of fun p hp=>I.pin p (List.mem_append_right _ (List.mem_append_left _ hp))
theorem zcN {iter:Expr} {body:List Stmt} {wi:TI} {g:TG} {tb:TS} {pos:Pos} (hp:PassesOwn (model X.prog X.w) X.A X.env X.xe) (hc:X.calm=true) (hi:PI X tg iter wi) (hg:PG X tg g) (hb:PSs X body tb)
    (hs:∀ x,foldedSetIterable iter X.env x=pure x:=by intro _; rfl):PS X (.For tg iter body [] pos) (tFor wi g tb):=by
  intro pins s σ H D I h
  refine wpAny_For (thn (hi pins s σ H _ I h) fun v s1 h1=>thn h1 fun itv s2 h2=>?_) hs
  obtain ⟨it,fp,tn,J,H2,e,I2,T,st2,f2,W,⟨m0,w0⟩,turn⟩:=h2
  subst e
  -- what stays true of the iterator's objects through the loop
  have stat:∀ {H':Hp},(∀ b ∈ fp,H' b=none)→∀ b ∈ fp,FpOk X pins H' b:=fun hn b hb=>⟨hn b hb,(f2 b hb).2⟩
  refine codeAny_forLoop_any (fun n s'=>∃ i σ' H',Inv X pins σ' H' s'∧tn i s'.heap∧(∀ b ∈ fp,H' b=none)∧W i n σ' H') ?_ m0 ⟨0,σ,H2,I2,st2,fun b hb=>(f2 b hb).1,w0⟩
  rintro n s3 ⟨i,σ3,H3,I3,st3,fr3,w3⟩
  rcases turn i n σ3 H3 w3 with ⟨stop,qn⟩ | ⟨go,N,hN,step⟩
  · refine wpAny_passesOwn hp (thn (T.done X rfl rfl rfl hc i pins s3 σ3 H3 X.xe I3 (stat fr3) st3 stop) fun r s4 ⟨hr,I4⟩=>?_)
    subst hr
    exact wpAny_execs_nil ⟨σ3,H3,I4,qn⟩
  · refine wpAny_passesOwn hp (thn (T.item X rfl rfl rfl hc i pins s3 σ3 H3 X.xe I3 (stat fr3) st3 go) fun r s4 ⟨u,hr,h4⟩=>?_)
    subst hr
    refine wpAny_passesOwn hp (thn h4 fun _ s5 ⟨x,H5,I5,r5,y5,st5,fr5⟩=>?_)
    have I5':=I5.pinned (stat fr5) (T.obj _ _ st5)
    refine wpAny_passesOwn hp (thn (hg _ s5 σ3 H5 x u _ I5' r5 (step x H5 y5)) fun _ s6 ⟨σ6,H6,I6,q6⟩=>?_)
    refine wpAny_passesOwn hp (thn (hb _ s6 σ6 H6 _ I6 q6) fun f s7 q7=>?_)
    have again:∀ {σ7:St} {H7:Hp},Inv X (pins ++ zd6 fp s5.heap) σ7 H7 s7→N σ7 H7→∃ m,m < n∧∃ i σ' H',Inv X pins σ' H' s7∧tn i s7.heap∧(∀ b ∈ fp,H' b=none)∧W i m σ' H':=fun {σ7 H7} I7 n7=>by
      obtain ⟨m',hm,w7⟩:=hN σ7 H7 n7
      refine ⟨m',hm,i + 1,σ7,H7,I7.unpinned,T.keep _ _ _ st5 fun b hb o e=>(I7.pin (b,o) (List.mem_append_right _ (List.mem_append_right _ (zbK hb e)))).1,fun b hb=>?_,w7⟩
      obtain ⟨o,e,d⟩:=T.obj _ _ st5 b hb
      exact (I7.pin (b,o) (List.mem_append_right _ (List.mem_append_right _ (zbK hb e)))).2.1
    cases f with
    | next=>obtain ⟨σ7,H7,I7,n7⟩:=q7; exact again I7 n7
    | cont=>obtain ⟨σ7,H7,I7,n7⟩:=q7; exact again I7 n7
    | brk=>obtain ⟨σ7,H7,I7,q7⟩:=q7; exact ⟨σ7,H7,I7.unpinned,q7⟩
    | ret v=>obtain ⟨x7,σ7,H7,I7,r7,q7⟩:=q7; exact ⟨x7,σ7,H7,I7.unpinned,r7,q7⟩
end
end L2
namespace L2
open PySem PySem.Spec PyProof.Rows
abbrev R2:=V→V→Hp→VK→Prop
def OpR (X:Cx) (f:Value→Value→Sem Value) (r:R2):Prop :=
  ∀ (pins:List (Addr × Obj)) (s:Shared) (σ:St) (H:Hp) (x y:V) (v u:Value) (Q:VK),Inv X pins σ H s→RelV x v→RelV y u→r x y H Q →
    wpAny (model X.prog X.w) X.A (f v u) (EP X pins σ Q) X.xe s
def UnR (X:Cx) (f:Value→Sem Value) (r:V→Hp→VK→Prop):Prop :=
  ∀ (pins:List (Addr × Obj)) (s:Shared) (σ:St) (H:Hp) (x:V) (v:Value) (Q:VK),Inv X pins σ H s→RelV x v→r x H Q →
    wpAny (model X.prog X.w) X.A (f v) (EP X pins σ Q) X.xe s
def zgq (X:Cx) (f:Value) (r:List V→Hp→VK→Prop):Prop :=
  ∀ (pins:List (Addr × Obj)) (s:Shared) (σ:St) (H:Hp) (xs:List V) (us:List Value) (Q:VK),Inv X pins σ H s→Vals xs us→r xs H Q →
    wpAny (model X.prog X.w) X.A (call f us) (EP X pins σ Q) X.xe s
def tOp (r:R2) (ta tb:TE):TE:=fun σ H Q=>ta σ H fun x H1=>tb σ H1 fun y H2=>r x y H2 Q
def tUn (r:V→Hp→VK→Prop) (ta:TE):TE:=fun σ H Q=>ta σ H fun x H1=>r x H1 Q
def rI (C:Int→Int→Prop) (g:Int→Int→V):R2:=fun x y H Q=>∃ i j,x = .int i∧y = .int j∧C i j∧Q (g i j) H
def rI0 (g:Int→Int→V):R2:=fun x y H Q=>∃ i j,x = .int i∧y = .int j∧Q (g i j) H
def rU (g:Int→V):V→Hp→VK→Prop:=fun x H Q=>∃ i,x = .int i∧Q (g i) H
section
variable {X:Cx} {a b c:Expr} {ta tb tc:TE} {pos:Pos}
theorem binT (ha:PE X a ta) (hb:PE X b tb) {pins:List (Addr × Obj)} {s:Shared} {σ:St} {H:Hp} {R:V→V→Hp→Prop} (I:Inv X pins σ H s)
    (h:ta σ H fun x H1=>tb σ H1 fun y H2=>R x y H2) {Q:Value→Shared→Prop} {f:Value→Value→Sem Value}
    (hf:∀ v u s2 x y H2,Inv X pins σ H2 s2→RelV x v→RelV y u→R x y H2→wpAny (model X.prog X.w) X.A (f v u) Q X.xe s2) :
    wpAny (model X.prog X.w) X.A (eval a X.env) (fun v s₁=>wpAny (model X.prog X.w) X.A (eval b X.env) (fun u s₂=>wpAny (model X.prog X.w) X.A (f v u) Q X.xe s₂) X.xe s₁) X.xe s:=by
  refine thn (ha pins s σ H _ I h) fun v s1 ⟨x,H1,I1,r1,q1⟩=>?_
  refine thn (hb pins s1 σ H1 _ I1 q1) fun u s2 ⟨y,H2,I2,r2,q2⟩=>?_
  exact hf v u s2 x y H2 I2 r1 r2 q2
theorem zaL {op:Operator} {r:R2} (ho:OpR X (binaryOp op) r) (ha:PE X a ta) (hb:PE X b tb):PE X (.BinOp a op b pos) (tOp r ta tb):=by
  intro pins s σ H Q I h
  exact wpAny_BinOp (binT ha hb I h fun v u s2 x y H2 I2 rx ry q=>ho pins s2 σ H2 x y v u Q I2 rx ry q)
theorem zjr {op:UnaryOp} {r:V→Hp→VK→Prop} (ho:UnR X (unaryOp op) r) (ha:PE X a ta):PE X (.UnaryOp op a pos) (tUn r ta):=by
  intro pins s σ H Q I h
  exact UnaryOp_ (thn (ha pins s σ H _ I h) fun v s1 ⟨x,H1,I1,r1,q1⟩=>ho pins s1 σ H1 x v Q I1 r1 q1)
theorem opI {f:Value→Value→Sem Value} {C:Int→Int→Prop} {g:Int→Int→Int}
    (rule:∀ (i j:Int) (t u:Tok) (s:Shared) (Q:Value→Shared→Prop) (E:Value→Shared→Prop),C i j→Q (.int (g i j) s.toks) { s with toks:=s.toks + 1 }→wpAny (model X.prog X.w) X.A (f (.int i t) (.int j u)) Q E s) :
    OpR X f (rI C fun i j=>.int (g i j)):=by
  intro pins s σ H x y v u Q I rx ry h
  obtain ⟨i,j,rfl,rfl,hc,q⟩:=h
  obtain ⟨t,rfl⟩:=rx
  obtain ⟨t',rfl⟩:=ry
  exact rule i j t t' s _ _ hc ⟨.int (g i j),H,I.tok _,⟨_,rfl⟩,q⟩
theorem opI0 {f:Value→Value→Sem Value} {g:Int→Int→Int}
    (rule:∀ (i j:Int) (t u:Tok) (s:Shared) (Q:Value→Shared→Prop) (E:Value→Shared→Prop),Q (.int (g i j) s.toks) { s with toks:=s.toks + 1 }→wpAny (model X.prog X.w) X.A (f (.int i t) (.int j u)) Q E s) :
    OpR X f (rI0 fun i j=>.int (g i j)):=by
  intro pins s σ H x y v u Q I rx ry h
  obtain ⟨i,j,rfl,rfl,q⟩:=h
  obtain ⟨t,rfl⟩:=rx
  obtain ⟨t',rfl⟩:=ry
  exact rule i j t t' s _ _ ⟨.int (g i j),H,I.tok _,⟨_,rfl⟩,q⟩
theorem opB0 {f:Value→Value→Sem Value} {g:Int→Int→Bool}
    (rule:∀ (i j:Int) (t u:Tok) (s:Shared) (Q:Value→Shared→Prop) (E:Value→Shared→Prop),Q (.bool (g i j)) s→wpAny (model X.prog X.w) X.A (f (.int i t) (.int j u)) Q E s) :
    OpR X f (rI0 fun i j=>.bl (g i j)):=by
  intro pins s σ H x y v u Q I rx ry h
  obtain ⟨i,j,rfl,rfl,q⟩:=h
  obtain ⟨t,rfl⟩:=rx
  obtain ⟨t',rfl⟩:=ry
  exact rule i j t t' s _ _ ⟨.bl (g i j),H,I,rfl,q⟩
def CPow (i j:Int):Prop:=0 ≤ j∧j ≤ 1000000∧i.natAbs < 2 ^ 64
theorem zcF:OpR X (binaryOp .Add) (rI0 fun i j=>.int (i + j)):=opI0 fun _ _ _ _ _ _ _ q=>add_int q
theorem zgp:OpR X (binaryOp .Sub) (rI0 fun i j=>.int (i - j)):=opI0 fun _ _ _ _ _ _ _ q=>sub_int q
theorem zbo:OpR X (binaryOp .Mod) (rI (fun _ j=>0 < j) fun i j=>.int (i % j)):=opI fun i j _ _ _ _ _ hc q=>by
  have h1:(0:Int) < j:=hc
  exact mod_int' (by omega) (by rw [Int.fmod_eq_emod_of_nonneg i (by omega)]; exact q)
theorem zhA:OpR X (binaryOp .Pow) (rI CPow fun i j=>.int (i ^ j.toNat)):=opI fun _ _ _ _ _ _ _ hc q=>pow_int_small hc.1 hc.2.1 hc.2.2 q
theorem unI {f:Value→Sem Value} {g:Int→Int}
    (rule:∀ (i:Int) (t:Tok) (s:Shared) (Q:Value→Shared→Prop) (E:Value→Shared→Prop),Q (.int (g i) s.toks) { s with toks:=s.toks + 1 }→wpAny (model X.prog X.w) X.A (f (.int i t)) Q E s) :
    UnR X f (rU fun i=>.int (g i)):=by
  intro pins s σ H x v Q I rx h
  obtain ⟨i,rfl,q⟩:=h
  obtain ⟨t,rfl⟩:=rx
  exact rule i t s _ _ ⟨.int (g i),H,I.tok _,⟨_,rfl⟩,q⟩
theorem zhi:UnR X (unaryOp .USub) (rU fun i=>.int (-i)):=unI fun _ _ _ _ _ q=>neg_int q
end
def scal:V→V→Bool
  | .non,.non=>true | .non,.int _=>true | .int _,.non=>true | .non,.bl _=>true | .bl _,.non=>true | .non,.str _=>true | .str _,.non=>true
  | .int _,.int _=>true | .bl _,.bl _=>true | .str _,.str _=>true | .byt _,.byt _=>true
  | .int _,.str _=>true | .str _,.int _=>true | .bl _,.str _=>true | .str _,.bl _=>true
  | _,_=>false
def rEq:R2:=fun x y H Q=>scal x y=true∧Q (.bl (decide (x=y))) H
def rNe:R2:=fun x y H Q=>scal x y=true∧Q (.bl (!decide (x=y))) H
theorem zg1 {i j:Int}:decide (V.int i=V.int j)=(i == j):=by
  rw [Bool.eq_iff_iff]
  simp
theorem ziT {i j:Bool}:decide (V.bl i=V.bl j)=(i == j):=by
  rw [Bool.eq_iff_iff]
  simp
theorem zhG {i j:Str}:decide (V.str i=V.str j)=(i == j):=by
  rw [Bool.eq_iff_iff]
  simp
theorem zhk {i j:Array UInt8}:decide (V.byt i=V.byt j)=(i.toList == j.toList):=by
  rw [Bool.eq_iff_iff]
  cases i
  cases j
  simp
section
variable {X:Cx} {a b c:Expr} {ta tb tc:TE} {pos:Pos}
theorem zaI {pins:List (Addr × Obj)} {σ:St} {H:Hp} {s:Shared} {Q:VK} {k k':Bool} (I:Inv X pins σ H s) (q:Q (.bl k) H) (e:k=k'):EP X pins σ Q (.bool k') s:=by
  subst e
  exact ⟨.bl k,H,I,rfl,q⟩
theorem zee:OpR X (compareOp .Eq) rEq:=by
  intro pins s σ H x y v u Q I rx ry h
  obtain ⟨hs,q⟩:=h
  cases x with
  | non =>
    cases rx
    cases y with
    | non=>cases ry; exact PySem.EqNone.eq_none_none (zaI I q (by simp))
    | bl j=>cases ry; exact PySem.EqNone.eq_none_bool (zaI I q (by simp))
    | int j=>obtain ⟨t',rfl⟩:=ry; exact PySem.EqNone.eq_none_int (zaI I q (by simp))
    | str j=>obtain ⟨t',rfl⟩:=ry; exact PySem.EqNone.eq_none_str (zaI I q (by simp))
    | _=>exact absurd (show false=true from hs) Bool.false_ne_true
  | bl i =>
    cases rx
    cases y with
    | non=>cases ry; exact PySem.EqNone.eq_bool_none (zaI I q (by simp))
    | bl j=>cases ry; exact eq_bool (zaI I q ziT)
    | str j=>obtain ⟨t',rfl⟩:=ry; exact PySem.EqMixed.eq_bool_str (zaI I q (by simp))
    | _=>exact absurd (show false=true from hs) Bool.false_ne_true
  | int i =>
    obtain ⟨t,rfl⟩:=rx
    cases y with
    | non=>cases ry; exact PySem.EqNone.eq_int_none (zaI I q (by simp))
    | int j=>obtain ⟨t',rfl⟩:=ry; exact eq_int (zaI I q zg1)
    | str j=>obtain ⟨t',rfl⟩:=ry; exact PySem.EqMixed.eq_int_str (zaI I q (by simp))
    | _=>exact absurd (show false=true from hs) Bool.false_ne_true
  | str i =>
    obtain ⟨t,rfl⟩:=rx
    cases y with
    | non=>cases ry; exact PySem.EqNone.eq_str_none (zaI I q (by simp))
    | bl j=>cases ry; exact PySem.EqMixed.eq_str_bool (zaI I q (by simp))
    | int j=>obtain ⟨t',rfl⟩:=ry; exact PySem.EqMixed.eq_str_int (zaI I q (by simp))
    | str j=>obtain ⟨t',rfl⟩:=ry; exact eq_str (zaI I q zhG)
    | _=>exact absurd (show false=true from hs) Bool.false_ne_true
  | byt i =>
    obtain ⟨t,rfl⟩:=rx
    cases y with
    | byt j=>obtain ⟨t',rfl⟩:=ry; exact PySem.W.eq_bytes (zaI I q zhk)
    | _=>exact absurd (show false=true from hs) Bool.false_ne_true
  | _=>cases y <;> exact absurd (show false=true from hs) Bool.false_ne_true
theorem zid:OpR X (compareOp .NotEq) rNe:=by
  intro pins s σ H x y v u Q I rx ry h
  obtain ⟨hs,q⟩:=h
  cases x with
  | non =>
    cases rx
    cases y with
    | non=>cases ry; exact PySem.EqNone.ne_none_none (zaI I q (by simp))
    | bl j=>cases ry; exact PySem.EqNone.ne_none_bool (zaI I q (by simp))
    | int j=>obtain ⟨t',rfl⟩:=ry; exact PySem.EqNone.ne_none_int (zaI I q (by simp))
    | str j=>obtain ⟨t',rfl⟩:=ry; exact PySem.EqNone.ne_none_str (zaI I q (by simp))
    | _=>exact absurd (show false=true from hs) Bool.false_ne_true
  | bl i =>
    cases rx
    cases y with
    | non=>cases ry; exact PySem.EqNone.ne_bool_none (zaI I q (by simp))
    | bl j=>cases ry; exact ne_bool (zaI I q (congrArg not ziT))
    | str j=>obtain ⟨t',rfl⟩:=ry; exact PySem.EqMixed.ne_bool_str (zaI I q (by simp))
    | _=>exact absurd (show false=true from hs) Bool.false_ne_true
  | int i =>
    obtain ⟨t,rfl⟩:=rx
    cases y with
    | non=>cases ry; exact PySem.EqNone.ne_int_none (zaI I q (by simp))
    | int j=>obtain ⟨t',rfl⟩:=ry; exact ne_int (zaI I q (congrArg not zg1))
    | str j=>obtain ⟨t',rfl⟩:=ry; exact PySem.EqMixed.ne_int_str (zaI I q (by simp))
    | _=>exact absurd (show false=true from hs) Bool.false_ne_true
  | str i =>
    obtain ⟨t,rfl⟩:=rx
    cases y with
    | non=>cases ry; exact PySem.EqNone.ne_str_none (zaI I q (by simp))
    | bl j=>cases ry; exact PySem.EqMixed.ne_str_bool (zaI I q (by simp))
    | int j=>obtain ⟨t',rfl⟩:=ry; exact PySem.EqMixed.ne_str_int (zaI I q (by simp))
    | str j=>obtain ⟨t',rfl⟩:=ry; exact ne_str (zaI I q (congrArg not zhG))
    | _=>exact absurd (show false=true from hs) Bool.false_ne_true
  | byt i =>
    obtain ⟨t,rfl⟩:=rx
    cases y with
    | byt j=>obtain ⟨t',rfl⟩:=ry; exact PySem.W.ne_bytes (zaI I q (congrArg not zhk))
    | _=>exact absurd (show false=true from hs) Bool.false_ne_true
  | _=>cases y <;> exact absurd (show false=true from hs) Bool.false_ne_true
theorem zkv:OpR X (compareOp .Lt) (rI0 fun i j=>.bl (decide (i < j))):=opB0 fun _ _ _ _ _ _ _ q=>lt_int q
theorem zjY:OpR X (compareOp .Gt) (rI0 fun i j=>.bl (decide (j < i))):=opB0 fun _ _ _ _ _ _ _ q=>gt_int q
theorem zbe (b:Expr) {op:CmpOp} (h:op ≠ .In:=by decide) (h2:op ≠ .NotIn:=by decide):behindInMarks op b=false:=by
  have e1:(op == CmpOp.In)=false:=by cases op <;> first | rfl | exact absurd rfl h
  have e2:(op == CmpOp.NotIn)=false:=by cases op <;> first | rfl | exact absurd rfl h2
  cases b <;> simp [behindInMarks,e1,e2]
def zjW (t:TE):TT:=fun σ H Q=>t σ H fun x H'=>∃ k,x = .bl k∧Q k H'
theorem zaS {op:CmpOp} {r:R2} (ho:OpR X (compareOp op) r) (ha:PE X a ta) (hb:PE X b tb) (hm:behindInMarks op b=false):PT X (.Compare a [op] [b] pos) (zjW (tOp r ta tb)):=by
  intro pins s σ H Q I h
  refine wpAny_isTrue_Compare1 (thn (ha pins s σ H _ I h) fun v s1 ⟨x,H1,I1,r1,q1⟩=>thn (hb pins s1 σ H1 _ I1 q1) fun u s2 ⟨y,H2,I2,r2,q2⟩ =>
    thn (ho pins s2 σ H2 x y v u _ I2 r1 r2 q2) fun c s3 ⟨z,H3,I3,r3,k,e,q3⟩=>?_) hm
  subst e
  cases r3
  exact wpAny_truthy_bool ⟨H3,I3,q3⟩
theorem zeV:(sizeLine:Nat) < 2 ^ 63:=by rw [sizeLine_eq]; decide
theorem zje {x:V} {us:List Value} (r:Vals [x] us):∃ u,us = [u]∧RelV x u:=by
  cases r with
  | cons r1 r2=>cases r2; exact ⟨_,rfl,r1⟩
theorem zjz {x y:V} {us:List Value} (r:Vals [x,y] us):∃ u w',us = [u,w']∧RelV x u∧RelV y w':=by
  cases r with
  | cons r1 r2 =>
    cases r2 with
    | cons r3 r4=>cases r4; exact ⟨_,_,rfl,r1,r3⟩
theorem zfe (hc:X.calm=true):zgq X (.builtin "min") (fun xs H Q=>∃ i j,xs = [.int i,.int j]∧Q (.int (if j < i then j else i)) H):=by
  intro pins s σ H xs us Q I r h
  obtain ⟨i,j,rfl,q⟩:=h
  obtain ⟨u,w',rfl,⟨t,rfl⟩,⟨t',rfl⟩⟩:=zjz r
  refine min_two_ints (I.ok.hd hc) fun h' tk k=>⟨_,H,I.kept k,?_,q⟩
  by_cases hj:j < i
  · rw [if_pos hj,if_pos hj]; exact ⟨_,rfl⟩
  · rw [if_neg hj,if_neg hj]; exact ⟨_,rfl⟩
end
end L2
namespace L2
open PySem PySem.Spec PyProof.Rows
structure ObjM (h:Heap) (x dx C:Addr) (mA:Str→Option Value):Prop where
  obj:h.get? x=some (PySem.W.instObj C dx)
  ns:h.Ns1 dx mA
  ne:dx ≠ x
theorem zg0 {h:Heap} {dx:Addr} {mA:Str→Option Value} (n:h.Ns1 dx mA):∃ od,h.get? dx=some od∧∀ name,PySem.W.lookIn name od=some (mA name):=by
  obtain ⟨o,es,ep,ho,hd,hk,_,hm⟩:=n
  refine ⟨o,ho,fun name=>?_⟩
  have e:=hm name
  unfold nsFind findBy at e
  rw [← Array.find?_toList] at e
  unfold PySem.W.lookIn
  rw [hd]
  dsimp only
  split
  · rename_i y q
    rw [q] at e
    exact congrArg some e
  · rename_i q
    rw [q] at e
    have a:es.toList.any (·.refKey)=false:=by
      rw [List.any_eq_false]
      intro y hy
      obtain ⟨z,t,hkey⟩:=hk y (Array.mem_toList_iff.mp hy)
      simp [DictEntry.refKey,hkey]
    have a':¬ es.toList.any (·.refKey)=true:=by rw [a]; exact Bool.false_ne_true
    rw [if_neg a']
    exact congrArg some e
theorem ObjM.look {h:Heap} {x dx C:Addr} {mA:Str→Option Value} (I:ObjM h x dx C mA):∃ od,PySem.W.InstAt h x (PySem.W.instObj C dx) C (some od)∧∀ name,PySem.W.lookIn name od=some (mA name) :=
  let ⟨od,ho,hl⟩:=zg0 I.ns
  ⟨od,⟨I.obj,rfl,rfl,ho⟩,hl⟩
section
variable {prog:Program} {w:World} {A:Around} {E:Value→Shared→Prop} {s:Shared} {K:PySem.W.Frag} {x dx C f:Addr} {mA:Str→Option Value} {name:Str} {v:Value}
end
section
variable {P:Program} {w:World} {H H':Hp} {h h':Heap} {a C dx:Addr} {fs fs':List (Str × V)}
theorem zjb (hok:HOk P w H h) (e:H a=some (.ins C dx fs)):∃ mA,ObjM h a dx C mA∧(∀ f,RelO (fs.lookup f) (mA f))∧PySem.Within mA (fs.map (·.1))∧fs.length ≤ 1000∧H dx=some (.own a):=by
  obtain ⟨d,z,ne,ob,mA,n,r,q⟩:=(show ObjOk P w H h a (.ins C dx fs) from hok a _ e)
  exact ⟨mA,⟨ob,n,ne⟩,r,q,z,d⟩
end
structure Cls (K:PySem.W.Frag) (C:Addr):Prop where
  pg:PySem.W.plainGet K C Str.empty=true
  hd:PySem.W.hasDictIn K C=true
  po:PySem.W.plainOver K C=true
  sa:PySem.W.findIn K (.ref C) "__setattr__"=some (some (.builtin "object.__setattr__"))
theorem Cls.get {K:PySem.W.Frag} {C:Addr} (c:Cls K C) (f:Str):PySem.W.plainGet K C f=true:=c.pg
section
variable {X:Cx} {pins:List (Addr × Obj)} {σ:St} {H:Hp} {s:Shared} {a C dx:Addr} {fs:List (Str × V)} {f:Str} {v:V} {A:Around} {E:Value→Shared→Prop}
end
section
variable {X:Cx} {o e value:Expr} {f:Str} {pos pos' tpos:Pos} {ta tv:TE}
end
section
variable {X:Cx} {pins:List (Addr × Obj)} {σ:St} {H:Hp} {s:Shared} {A:Around} {E:Value→Shared→Prop} {Q:Value→Shared→Prop} {c:Value} {b:Bool}
inductive TyOf (K:PySem.W.Frag) (H:Hp):V→Value→Prop where
  | non:TyOf K H .non (.type "NoneType")
  | bl (x:Bool):TyOf K H (.bl x) (.type "bool")
  | int (i:Int):TyOf K H (.int i) (.type "int")
  | str (x:Str):TyOf K H (.str x) (.type "str")
  | flt (x:UInt64):TyOf K H (.flt x) (.type "float")
  | lst {a:Addr} {xs:List V} (e:H a=some (.lst xs)):TyOf K H (.ref a) (.type "list")
  | frz {a:Addr} {o:Obj} {xs:List V} (e:H a=some (.frz o (.lst xs))):TyOf K H (.ref a) (.type "list")
  | tup {a:Addr} {xs:List V} (e:H a=some (.tup xs)):TyOf K H (.ref a) (.type "tuple")
  | dK {a:Addr} {kvs:List (Key × V)} (e:H a=some (.dK kvs)):TyOf K H (.ref a) (.type "dict")
  | dT {a:Addr} {kvs:List (List Key × V)} (e:H a=some (.dT kvs)):TyOf K H (.ref a) (.type "dict")
  | ins {a C dx:Addr} {fs:List (Str × V)} (e:H a=some (.ins C dx fs)) (cl:Cls K C) (ha:PySem.W.findIn K (.ref C) "__class__"=some (some (.builtin "object.__class__")))
      (hn:PySem.W.specialIn K (.builtin "object.__class__") "__get__"=some (some (.builtin "getset_descriptor.__get__"))) (htk:PySem.W.takesIn K (.builtin "object.__class__")=some true)
      (hm:PySem.W.mroIn K C (.type "object")=some true):TyOf K H (.ref a) (.ref C)
theorem zho {x:V} {u t:Value} (I:Inv X pins σ H s) (rx:RelV x u) (ty:TyOf X.K H x t) (e:PySem.W.kitOne X.K t c=some b) (h:∀ tk,Q (.bool b) { s with toks:=tk }) :
    wpAny (model X.prog X.w) A (call (.builtin "isinstance") [u,c]) Q E s:=by
  cases ty with
  | non=>cases (show u=Value.none from rx); exact PySem.W.kia_one PySem.W.kitx_none I.kIn True.intro e (fun z=>nomatch z) h
  | bl y=>cases (show u=Value.bool y from rx); exact PySem.W.kia_one PySem.W.kitx_bool I.kIn True.intro e (fun z=>nomatch z) h
  | int i=>obtain ⟨t,q⟩:=(show ∃ t,u=Value.int i t from rx); cases q; exact PySem.W.kia_one PySem.W.kitx_int I.kIn True.intro e (fun z=>nomatch z) h
  | str y=>obtain ⟨t,q⟩:=(show ∃ t,u=Value.str y t from rx); cases q; exact PySem.W.kia_one PySem.W.kitx_str I.kIn True.intro e (fun z=>nomatch z) h
  | flt y=>obtain ⟨t,q⟩:=(show ∃ t,u=Value.float y t from rx); cases q; exact PySem.W.kia_one PySem.W.kitx_float I.kIn True.intro e (fun z=>nomatch z) h
  | @lst a xs ea =>
    cases (show u=Value.ref a from rx)
    obtain ⟨_,_,n,_,h1⟩:=(show ObjOk X.prog X.w H s.heap a (.lst xs) from I.hok a _ ea)
    exact PySem.W.kia_one PySem.W.kitx_list I.kIn ⟨_,h1,rfl⟩ e (fun z=>nomatch z) h
  | @frz a ob xs ea =>
    cases (show u=Value.ref a from rx)
    obtain ⟨_,_,_,n,_,h1⟩:=(show ObjOk X.prog X.w H s.heap a (.frz ob (.lst xs)) from I.hok a _ ea)
    exact PySem.W.kia_one PySem.W.kitx_list I.kIn ⟨_,h1,rfl⟩ e (fun z=>nomatch z) h
  | @tup a xs ea =>
    cases (show u=Value.ref a from rx)
    obtain ⟨_,_,_,p⟩:=(show ObjOk X.prog X.w H s.heap a (.tup xs) from I.hok a _ ea)
    obtain ⟨o,h1,h2,_⟩:=p
    exact PySem.W.kia_one PySem.W.kitx_tuple I.kIn ⟨o,h1,h2⟩ e (fun z=>nomatch z) h
  | @dK a kvs ea =>
    cases (show u=Value.ref a from rx)
    obtain ⟨_,_,vs,_,p⟩:=(show ObjOk X.prog X.w H s.heap a (.dK kvs) from I.hok a _ ea)
    obtain ⟨o,es,ep,h1,h2,_⟩:=p
    exact PySem.W.kia_one PySem.W.kitx_dict I.kIn ⟨o,h1,h2.1⟩ e (fun z=>nomatch z) h
  | @dT a kvs ea =>
    cases (show u=Value.ref a from rx)
    obtain ⟨_,_,xs,_,o,es,ep,h1,h2,_⟩:=(show ObjOk X.prog X.w H s.heap a (.dT kvs) from I.hok a _ ea)
    exact PySem.W.kia_one PySem.W.kitx_dict I.kIn ⟨o,h1,h2.1⟩ e (fun z=>nomatch z) h
  | @ins a C dx fs ea cl ha hn htk hm =>
    cases (show u=Value.ref a from rx)
    obtain ⟨mA,O,_⟩:=zjb I.hok ea
    obtain ⟨od,J,_⟩:=O.look
    exact PySem.W.kia_one (PySem.W.kitx_own (cl.get _) cl.hd ha hn htk hm) I.kIn J e (fun z=>nomatch z) h
end
end L2
namespace L2
open PySem PySem.Spec PyProof.Rows
structure Room (k:Nat) (A:Around):Prop where
  hd:A.handled=none
  dp:A.depth + 3 * k + 5 < recursionLimit
  un:A.units + 16 * k + 200 < cLine
theorem Room.mono {j k:Nat} {A:Around} (r:Room k A) (h:j ≤ k):Room j A:=⟨r.hd,by have:=r.dp; omega,by have:=r.un; omega⟩
theorem Room.deeper {k:Nat} {A:Around} (r:Room (k + 1) A) (env:Env):Room k (A.deeper env) :=
  ⟨r.hd,by have:=r.dp; show A.depth + 1 + 3 * k + 5 < _; omega,by have:=r.un; show A.units + 3 + 16 * k + 200 < _; omega⟩
theorem Room.depth {k:Nat} {A:Around} (r:Room k A):A.depth < recursionLimit:=by have:=r.dp; omega
theorem Room.units {k:Nat} {A:Around} (r:Room k A):A.units + 64 < cLine:=by have:=r.un; omega
def tNil:TA:=fun _ H Q=>Q [] H
def zb7 (ta:TE) (tr:TA):TA:=fun σ H Q=>ta σ H fun x H1=>tr σ H1 fun xs H2=>Q (x :: xs) H2
section
variable {X:Cx} {e:Expr} {es:List Expr} {te:TE} {t:TA} {pos:Pos}
theorem zai:PA X [] tNil:=fun _ _ _ _ H Q I h=>Calls.spliced_nil ⟨[],H,I,.nil,h⟩
theorem zab (ha:PE X e te) (hr:PA X es t) (hs:starEach (e :: es) X.env=(false,eval e X.env) :: starEach es X.env:=by rfl):PA X (e :: es) (zb7 te t):=by
  intro pos pins s σ H Q I h
  rw [hs]
  show wpAny _ _ (spliced ((false,eval e X.env) :: backTo pos (starEach es X.env))) _ _ s
  refine Calls.spliced_cons (thn (ha pins s σ H _ I h) fun u s1 ⟨x,H1,I1,r1,q1⟩=>?_)
  exact thn (hr pos pins s1 σ H1 _ I1 q1) fun us s2 ⟨xs,H2,I2,r2,q2⟩=>⟨x :: xs,H2,I2,.cons r1 r2,q2⟩
def tTup (t:TA):TE:=fun σ H Q=>t σ H fun xs H1=>xs.length ≤ sizeLine∧∀ p,H1 p=none→Q (.ref p) (upd H1 p (.tup xs))
def tLst (t:TA):TE:=fun σ H Q=>t σ H fun xs H1=>xs.length ≤ sizeLine∧∀ p,H1 p=none→Q (.ref p) (upd H1 p (.lst xs))
theorem zd9 {x1} (h:PA X es t):PE X (.Tuple es x1 pos) (tTup t):=by
  intro pins s σ H Q I hq
  refine wpAny_Tuple_spliced (thn (h pos pins s σ H _ I hq) fun us s1 ⟨xs,H1,I1,r,z,q⟩=>⟨by rw [← r.length]; exact z,?_⟩)
  have hf:H1 s1.heap.objs.size=none:=I1.hok.fresh (Nat.le_refl _)
  refine ⟨.ref s1.heap.objs.size,upd H1 s1.heap.objs.size (.tup xs),I1.laid (t':=s1.toks) (fun b u e=>Heap.get?_push_of_some _ e) (Nat.le_refl _) ?_,rfl,q _ hf⟩
  exact ⟨z,us,r,⟨_,Heap.get?_push_size _ rfl,rfl,_,rfl⟩⟩
theorem zbL (h:PA X es t):PE X (.List es pos) (tLst t):=by
  intro pins s σ H Q I hq
  refine wpAny_List_spliced (thn (h pos pins s σ H _ I hq) fun us s1 ⟨xs,H1,I1,r,z,q⟩=>⟨by rw [← r.length]; exact z,?_⟩)
  have hf:H1 s1.heap.objs.size=none:=I1.hok.fresh (Nat.le_refl _)
  refine ⟨.ref s1.heap.objs.size,upd H1 s1.heap.objs.size (.lst xs),I1.laid (t':=s1.toks) (fun b u e=>Heap.get?_push_of_some _ e) (Nat.le_refl _) ?_,rfl,q _ hf⟩
  exact ⟨z,us,0,r,Heap.get?_push_size _ rfl⟩
end
abbrev Sp:=List V→Hp→VK→XK→Prop
abbrev CXT:=List Env→Hp→Shared→XK→Value→Shared→Prop
structure Env0 (P:Program) (w:World) (K:PySem.W.Frag) (mg:Str→Option Value) (base:Heap) (A:Around) (outer:List Env) (s:Shared) (H:Hp):Prop where
  frames:A.frames=some outer
  mod:Mod K mg base
  bs:∀ b o,base.get? b=some o→s.heap.get? b=some o∧H b=none
  bsz:base.objs.size ≤ s.heap.objs.size
  funs:s.heap.FunFrames base outer
  frf:∀ b ∈ frs outer,H b=none
  hok:HOk P w H s.heap
  bare:AllBare s.gens
  tb:TbAt K H
def CE (outer:List Env) (P:Program) (w:World) (H:Hp) (s:Shared) (Q:VK) (u:Value) (s':Shared):Prop :=
  ∃ v H',s'.os=s.os∧AllBare s'.gens∧Un (frs outer) [] H H' s.heap s'.heap∧HOk P w H' s'.heap∧RelV v u∧Q v H'
def CR (CX:CXT) (outer:List Env) (P:Program) (w:World) (H:Hp) (s:Shared) (Q:VK) (E:XK) (r:Result) (s':Shared):Prop :=
  match r with
  | .ok (.ret u)=>CE outer P w H s Q u s'
  | .ok _=>False
  | .error e=>CX outer H s E e s'
structure FnOk (P:Program) (w:World) (K:PySem.W.Frag) (mg:Str→Option Value) (base:Heap) (CX:CXT) (k:Nat) (f:Addr) (fd:FuncData) (ps:List Str) (sp:Sp):Prop where
  len:∀ vs H Q E,sp vs H Q E→vs.length=ps.length
  run:∀ (A:Around) (outer:List Env) (s:Shared) (H:Hp) (args:Args) (us:List Value) (vs:List V) (Q:VK) (E:XK),Room k A→Env0 P w K mg base A outer s H→BindsTo s fd args (ps.zip us)→Vals vs us→sp vs H Q E →
    codeAny (model P w) A (.call (.ref f) args) (CR CX outer P w H s Q E) s
section
variable {X:Cx} {pins:List (Addr × Obj)} {σ:St} {H:Hp} {s s':Shared}
theorem Inv.env0 (I:Inv X pins σ H s):Env0 X.prog X.w X.K X.mg X.base X.A X.stack s H :=
  ⟨I.ok.frames,I.ok.mod,I.bs,Nat.le_trans I.ok.bsz I.sz,I.stack,I.stkFree,I.hok,I.bare,I.ok.tb.grown I.base.tbls⟩
theorem Inv.after {Q:VK} {u:Value} (I:Inv X pins σ H s) (h:CE X.stack X.prog X.w H s Q u s'):EP X pins σ Q u s':=by
  obtain ⟨v,H',os,bare,un,hok,r,q⟩:=h
  obtain ⟨hh,g,d,t,os'⟩:=s'
  obtain rfl:os'=s.os:=os
  exact ⟨v,H',I.call (h':=hh) (g':=g) (d':=d) (t':=t) (ch:=[]) un hok bare (fun b z=>absurd z (by simp)),r,q⟩
end
def ze5 (sp:Sp) (dvs:List V) (E:XK) (t:TA):TE:=fun σ H Q=>t σ H fun vs H1=>sp (vs ++ dvs) H1 Q E
def Binds (K:PySem.W.Frag) (fd:FuncData) (ps:List Str) (ds:List Value):Prop :=
  ∀ (s:Shared) (us:List Value),K.In s.heap→(us ++ ds).length=ps.length→BindsTo s fd ⟨us,[]⟩ (ps.zip (us ++ ds))
theorem Binds.all {K:PySem.W.Frag} {fd:FuncData} {ps:List Str} (h:∀ us:List Value,us.length=ps.length→bindArgs fd ⟨us,[]⟩=pure (ps.zip us)):Binds K fd ps []:=fun s us _ hl=>by
  rw [List.append_nil] at hl ⊢
  exact .of_eq (h us hl)
def zgg (CX:CXT) (X:Cx) (E:XK):Prop:=∀ (pins:List (Addr × Obj)) (σ:St) (H:Hp) (s:Shared) (e:Value) (s':Shared),Inv X pins σ H s→CX X.stack H s E e s'→X.xe e s'
section
variable {X:Cx} {CX:CXT} {k:Nat} {f C:Addr} {fd:FuncData} {ps:List Str} {sp:Sp} {dvs:List V} {ds:List Value} {E:XK} {x m:Str} {p pos apos:Pos} {e o:Expr} {es:List Expr} {ta:TE} {t:TA}
theorem zjF {pins:List (Addr × Obj)} {σ:St} {H:Hp} {s:Shared} {Q:VK} {us:List Value} {vs:List V} (F:FnOk X.prog X.w X.K X.mg X.base CX k f fd ps sp) (hr:Room k X.A) (hb:Binds X.K fd ps ds) (hd:Vals dvs ds) (hx:zgg CX X E)
    (I:Inv X pins σ H s) (r:Vals vs us) (h:sp (vs ++ dvs) H Q E):wpAny (model X.prog X.w) X.A (call (.ref f) us) (EP X pins σ Q) X.xe s:=by
  have r2:Vals (vs ++ dvs) (us ++ ds):=r.append hd
  have hl:(us ++ ds).length=ps.length:=by rw [← r2.length]; exact F.len _ _ _ _ h
  refine wpAny_call (codeAny_mono (F.run X.A X.stack s H ⟨us,[]⟩ (us ++ ds) (vs ++ dvs) Q E hr I.env0 (hb s us I.kIn hl) r2 h) fun r s' hq=>?_)
  cases r with
  | error e=>exact hx pins σ H s e s' I hq
  | ok fl =>
    cases fl with
    | ret u=>exact I.after hq
    | next=>exact False.elim hq
    | brk=>exact False.elim hq
    | cont=>exact False.elim hq
theorem zjm (F:FnOk X.prog X.w X.K X.mg X.base CX k f fd ps sp) (hr:Room k X.A) (hg:Gl X x) (hm:X.mg x=some (.ref f)) (hk:PySem.W.keepIn X.K (.ref f)=true) (hb:Binds X.K fd ps ds) (hd:Vals dvs ds) (hx:zgg CX X E)
    (ha:PA X (e :: es) t) (hdb:(x == ("__debug__" : Str))=false:=by decide) (he:starEach (e :: es) X.env=(false,eval e X.env) :: starEach es X.env:=by rfl) (hpl:(backTo pos (starEach es X.env)).any (·.1)=false:=by rfl) :
    PE X (.Call (.Name x p) (e :: es) [] pos) (ze5 sp dvs E t):=by
  intro pins s σ H Q I h
  refine wpAny_Call_Name_kw (zjA I hg hm ?_ hdb)
  refine PySem.W.callWith_K (h₀:=X.base) I.ok.mod.kin hk (thn (ha pos pins s σ H _ I h) fun us s1 ⟨vs,H1,I1,r,q⟩=>⟨I1.kIn,?_⟩) he hpl
  exact zjF F hr hb hd hx I1 r q
end
section
variable {X:Cx} {CX:CXT} {k:Nat} {f C:Addr} {fd:FuncData} {ps ks:List Str} {sp:Sp} {E:XK} {x m:Str} {p pos apos kpos:Pos} {e o:Expr} {es:List Expr} {kws:List Keyword} {te ta:TE} {t tk:TA} {nm:Option Str}
variable {g:List Value→List Value→List Value} {gV:List V→List V→List V}
end
structure FnScope (N P:List Str) (sc:Scope):Prop where
  kind:sc.kind = .function
  co:sc.isCoroutine=false
  gen:sc.isGenerator=false
  nd:N.Nodup
  pre:N.take P.length=P
  par:∀ x ∈ P,sc.names.lookup x=some .local∨sc.names.lookup x=some .cell
  nofree:∀ y ∈ sc.names,y.2 ≠ .free
theorem ze0 {kindOf:Str→Option NameKind} {x:Str}:∀ {binds:List (Str × Value)} {m:Str→Option Value},(∀ v,(x,v) ∉ binds)→bindL kindOf binds m x=m x
  | [],_,_=>rfl
  | (n,v) :: r,m,h=>by
    unfold bindL
    rw [ze0 fun w hw=>h w (List.mem_cons_of_mem _ hw)]
    split
    · have:x ≠ n:=by rintro rfl; exact h v List.mem_cons_self
      simp [this]
    · rfl
theorem ze1 {kindOf:Str→Option NameKind} {x:Str}:∀ {binds:List (Str × Value)} {m:Str→Option Value},(∀ v,(x,v) ∉ binds)→bindC kindOf binds m x=m x
  | [],_,_=>rfl
  | (n,v) :: r,m,h=>by
    unfold bindC
    rw [ze1 fun w hw=>h w (List.mem_cons_of_mem _ hw)]
    split
    · rfl
    · have:x ≠ n:=by rintro rfl; exact h v List.mem_cons_self
      simp [this]
theorem zeQ {kindOf:Str→Option NameKind} {x:Str} {v:Value}:∀ {P:List Str} {vs:List Value} {i:Nat} {m:Str→Option Value},P.Nodup→P[i]?=some x→vs[i]?=some v→kindOf x=some .local →
    bindL kindOf (P.zip vs) m x=some v
  | [],_,_,_,_,h,_,_=>by simp at h
  | _ :: _,[],_,_,_,_,h,_=>by simp at h
  | p :: P,w :: vs,0,m,nd,h1,h2,hk=>by
    simp at h1 h2; subst h1; subst h2
    show bindL kindOf ((p,w) :: P.zip vs) m p=_
    unfold bindL
    rw [ze0 fun v hv=>(List.nodup_cons.mp nd).1 (List.of_mem_zip hv).1,if_pos hk]
    simp
  | p :: P,w :: vs,i + 1,m,nd,h1,h2,hk=>by
    show bindL kindOf ((p,w) :: P.zip vs) m x=_
    unfold bindL
    exact zeQ (i:=i) (List.nodup_cons.mp nd).2 (by simpa using h1) (by simpa using h2) hk
theorem zfa {kindOf:Str→Option NameKind} {x:Str} {v:Value}:∀ {P:List Str} {vs:List Value} {i:Nat} {m:Str→Option Value},P.Nodup→P[i]?=some x→vs[i]?=some v→kindOf x ≠ some .local →
    bindC kindOf (P.zip vs) m x=some v
  | [],_,_,_,_,h,_,_=>by simp at h
  | _ :: _,[],_,_,_,_,h,_=>by simp at h
  | p :: P,w :: vs,0,m,nd,h1,h2,hk=>by
    simp at h1 h2; subst h1; subst h2
    show bindC kindOf ((p,w) :: P.zip vs) m p=_
    unfold bindC
    rw [ze1 fun v hv=>(List.nodup_cons.mp nd).1 (List.of_mem_zip hv).1,if_neg hk]
    simp
  | p :: P,w :: vs,i + 1,m,nd,h1,h2,hk=>by
    show bindC kindOf ((p,w) :: P.zip vs) m x=_
    unfold bindC
    exact zfa (i:=i) (List.nodup_cons.mp nd).2 (by simpa using h1) (by simpa using h2) hk
def start (N:List Str) (vs:List V):St:=vs.map some ++ List.replicate (N.length - vs.length) none
def cxOf (CX:CXT) (P:Program) (w:World) (K:PySem.W.Frag) (mg:Str→Option Value) (base:Heap) (N:List Str) (qual:Str) (scope:Scope) (f:Addr) (cd:Value) (A:Around) (outer:List Env) (s:Shared) (H:Hp) (E:XK):Cx where
  prog:=P
  w:=w
  K:=K
  mg:=mg
  base:=base
  A:=A.deeper (envOfC qual scope s.heap.objs.size f cd)
  N:=N
  s₀:=s
  H₀:=H
  env:=envOfC qual scope s.heap.objs.size f cd
  outer:=outer
  stack:=envOfC qual scope s.heap.objs.size f cd :: outer
  ex:=[]
  calm:=true
  fn:=fun _=>true
  pn:=[]
  xe:=fun e s'=>wpAny (model P w) (A.deeper (envOfC qual scope s.heap.objs.size f cd)) (leaving (envOfC qual scope s.heap.objs.size f cd) e) (fun _ s''=>CX outer H s E e s'') (fun e' s''=>CX outer H s E e' s'') s'
theorem zga {sc:Scope} {n:Nat} {x:Str} (h:sc.names.lookup x=some .cell):∃ c,(cellsFrom n sc.names []).lookup x=some c:=by
  have q:=PySem.W.cellsFrom_some sc.names n [] (.inl h)
  exact Option.isSome_iff_exists.mp q
theorem zgT {CX:CXT} {P:Program} {w:World} {K:PySem.W.Frag} {mg:Str→Option Value} {base:Heap} {N ps:List Str} {qual:Str} {scope:Scope} {f:Addr} {cd:Value} {A:Around} {outer:List Env} {s s1:Shared} {H:Hp} {E:XK} {us:List Value} {vs:List V}
    (S:FnScope N ps scope) (hd:A.handled=none) (e0:Env0 P w K mg base A outer s H) (hl:vs.length=ps.length) (r:Vals vs us)
    (x:InCallC s s.heap.objs.size (bindL (envOfC qual scope s.heap.objs.size f cd).kindOf (ps.zip us) fun _=>none) (cellsFrom (s.heap.objs.size + 1) scope.names []) (bindC (envOfC qual scope s.heap.objs.size f cd).kindOf (ps.zip us) fun _=>none) s1) :
    Inv (cxOf CX P w K mg base N qual scope f cd A outer s H E) [] (start N vs) H s1:=by
  have hpl:ps.length ≤ N.length:=by have:=congrArg List.length S.pre; rw [List.length_take] at this; omega
  obtain ⟨h1,tk,rfl,hk⟩:=x.done
  have noA:∀ b:Addr,b ∉ (cxOf CX P w K mg base N qual scope f cd A outer s H E).ex:=fun b z=>absurd (show b ∈ ([]:List Addr) from z) (by simp)
  refine ⟨⟨e0.mod,S.kind,rfl,rfl,Nat.le_refl _,fun y z c h1 h2=>?_,fun y hy=>?_,fun y c _ h=>?_,fun _=>hd,Around.frames_deeper e0.frames,.inr ⟨rfl,rfl⟩,fun b z=>absurd z (noA b),e0.bs,e0.bsz,fun b _ _=>noA b,fun b z=>absurd z (noA b),e0.funs,e0.frf,e0.tb⟩,
    rfl,e0.bare,Un.kept hk,⟨_,x.toInCall.ns,fun i y v h1 h2 h3=>?_⟩,fun y c h=>⟨_,x.cell y c h⟩,e0.hok.fresh (Nat.le_refl _),fun y c h=>?_,fun p hp=>absurd (show p ∈ ([]:List (Addr × Obj)) from hp) (by simp),e0.hok.kept hk,?_⟩
  · exact name_of_addr x.apart (PySem.mem_of_lookup h1) (PySem.mem_of_lookup h2)
  · have hy:scope.names.lookup y=some .cell∨scope.names.lookup y=some .free:=hy
    rcases hy with hy | hy
    · exact zga hy
    · exact absurd rfl (S.nofree _ (PySem.mem_of_lookup hy))
  · exact Nat.le_of_lt (x.above y c (PySem.mem_of_lookup h))
  · have hi:i < vs.length:=by
      unfold start at h2
      by_cases hi:i < vs.length
      · exact hi
      · rw [List.getElem?_append_right (by simpa using hi)] at h2
        rw [List.getElem?_replicate] at h2
        split at h2 <;> cases h2
    have ha:vs[i]?=some v:=by
      unfold start at h2
      rw [List.getElem?_append_left (by simpa using hi),List.getElem?_map] at h2
      cases e:vs[i]? with
      | none=>rw [e] at h2; cases h2
      | some a=>rw [e] at h2; cases h2; rfl
    obtain ⟨u,hu,rv⟩:=r.get ha
    have hp:ps[i]?=some y:=by
      rw [← S.pre,List.getElem?_take_of_lt (by omega)]; exact h1
    have ndP:ps.Nodup:=by rw [← S.pre]; exact S.nd.sublist (List.take_sublist _ _)
    refine ⟨u,rv,?_⟩
    rcases S.par y (List.mem_of_getElem? hp) with k | k
    · exact .inl ⟨k,zeQ ndP hp hu k⟩
    · obtain ⟨c,e⟩:=zga (n:=s.heap.objs.size + 1) k
      refine .inr ⟨.inl k,c,e,?_⟩
      have q:=x.cell y c e
      rw [zfa ndP hp hu (by show scope.names.lookup y ≠ _; rw [k]; decide)] at q
      exact q
  · exact e0.hok.fresh (Nat.le_of_lt (x.above y c (PySem.mem_of_lookup h)))
  · unfold start
    show _=N.length
    rw [List.length_append,List.length_map,List.length_replicate]
    omega
theorem zkA {CX:CXT} {P:Program} {w:World} {K:PySem.W.Frag} {mg:Str→Option Value} {base:Heap} {k:Nat} {f:Addr} {name qual:Str} {params:Arguments} {body:List Stmt} {scope:Scope} {dV kV doc pm cdv ct oc:Value} {an od:Option Addr}
    {osl:Array (Option Value)} {N ps:List Str} {sp:Sp} (lk:K.lookup f=some ⟨oc,od,.func (PySem.W.fnOf name qual params body scope dV kV doc pm an cdv ct),osl⟩) (hcd:PySem.W.codeIn K cdv qual=true) (S:FnScope N ps scope)
    (len:∀ vs H Q E,sp vs H Q E→vs.length=ps.length)
    (hbody:∀ (A:Around) (outer:List Env) (s:Shared) (H:Hp) (vs:List V) (Q:VK) (E:XK),Room k (A.deeper (envOfC qual scope s.heap.objs.size f cdv))→sp vs H Q E →
      ∃ t,PSs (cxOf CX P w K mg base N qual scope f cdv A outer s H E) body t∧t { nx:=fun _ H'=>Q .non H',rt:=Q } (start N vs) H) :
    FnOk P w K mg base CX (k + 1) f (PySem.W.fnOf name qual params body scope dV kV doc pm an cdv ct) ps sp:=by
  refine ⟨len,fun A outer s H args us vs Q E hr e0 hb r hsp=>?_⟩
  have hl:=len _ _ _ _ hsp
  have KX:K.In s.heap:=e0.mod.kin.keeps fun b o e=>(e0.bs b o e).1
  have lim:s.heap.NoLimit:=e0.mod.nolimit.keeps fun b o e=>(e0.bs b o e).1
  have hkind:∀ y ∈ ps.zip us,scope.names.lookup y.1=some .local∨(scope.names.lookup y.1=some .cell∧((cellsFrom (s.heap.objs.size + 1) scope.names []).lookup y.1).isSome=true):=fun ⟨n,v⟩ hy=>by
    rcases S.par n (List.of_mem_zip hy).1 with q | q
    · exact .inl q
    · exact .inr ⟨q,PySem.W.cellsFrom_some _ _ _ (.inl q)⟩
  refine codeAny_call_function hr.depth (KX _ _ lk) rfl S.co S.gen rfl (PySem.W.codeRec_of KX hcd) (hb _ _ _ _ ?_)
  refine wpAny_newFunctionEnv_cells S.kind hkind fun env he s1 x=>?_
  subst he
  refine ⟨lim.keeps x.toInCall.keep,codeAny_func ?_⟩
  obtain ⟨t,ht,hq⟩:=hbody A outer s H vs Q E (hr.deeper _) hsp
  have I:Inv (cxOf CX P w K mg base N qual scope f cdv A outer s H E) [] (start N vs) H s1:=zgT S hr.hd e0 hl r x
  refine wpAny_mono (ht [] s1 (start N vs) H _ I hq) (fun fl s' hs=>?_) fun e s' hs=>hs
  have fin:∀ {σ':St} {H':Hp} {v:V} {u:Value},Inv (cxOf CX P w K mg base N qual scope f cdv A outer s H E) [] σ' H' s'→RelV v u→Q v H'→CE outer P w H s Q u s' :=
    fun {σ' H' v u} J rv q=>⟨v,H',J.os,J.bare,J.base,J.hok,rv,q⟩
  cases fl with
  | ret u =>
    obtain ⟨v,σ',H',J,rv,q⟩:=hs
    exact fin J rv q
  | next =>
    obtain ⟨σ',H',J,q⟩:=hs
    exact fin (v:=V.non) (u:=Value.none) J rfl q
  | brk =>
    obtain ⟨_,_,_,q⟩:=hs
    exact False.elim q
  | cont =>
    obtain ⟨_,_,_,q⟩:=hs
    exact False.elim q
end L2
namespace L2
open PySem PySem.Spec PyProof.Rows
section
variable {X:Cx} {x:Str} {p pos:Pos} {e:Expr} {es:List Expr} {t:TA} {id T:String} {r:List V→Hp→VK→Prop}
def tCB (r:List V→Hp→VK→Prop) (t:TA):TE:=fun σ H Q=>t σ H fun vs H1=>r vs H1 Q
theorem zaG (hc:zgq X (.builtin id) r) (hg:Gl X x) (hm:X.mg x=none) (hv:bootBuiltins x=some (.builtin id)) (ha:PA X (e :: es) t) (hn:x ≠ "__name__":=by decide) (hdb:(x == ("__debug__" : Str))=false:=by decide)
    (he:starEach (e :: es) X.env=(false,eval e X.env) :: starEach es X.env:=by rfl) (hpl:(backTo pos (starEach es X.env)).any (·.1)=false:=by rfl):PE X (.Call (.Name x p) (e :: es) [] pos) (tCB r t):=by
  intro pins s σ H Q I h
  refine wpAny_Call_Name_kw (zd5 I hg hm hv ?_ hn hdb)
  exact PyProof.Rows.callWith_builtin1 (thn (ha pos pins s σ H _ I h) fun us s1 ⟨vs,H1,I1,r1,q1⟩=>hc pins s1 σ H1 vs us Q I1 r1 q1) he hpl
theorem zcJ (hc:zgq X (.type T) r) (hg:Gl X x) (hm:X.mg x=none) (hv:bootBuiltins x=some (.type T)) (ha:PA X (e :: es) t) (hn:x ≠ "__name__":=by decide) (hdb:(x == ("__debug__" : Str))=false:=by decide)
    (he:starEach (e :: es) X.env=(false,eval e X.env) :: starEach es X.env:=by rfl) (hpl:(backTo pos (starEach es X.env)).any (·.1)=false:=by rfl):PE X (.Call (.Name x p) (e :: es) [] pos) (tCB r t):=by
  intro pins s σ H Q I h
  refine wpAny_Call_Name_kw (zd5 I hg hm hv ?_ hn hdb)
  exact PyProof.Rows.callWith_type1 (thn (ha pos pins s σ H _ I h) fun us s1 ⟨vs,H1,I1,r1,q1⟩=>hc pins s1 σ H1 vs us Q I1 r1 q1) he hpl
end
end L2
namespace HT
open PySem PyProof.Rows
section
open PySem.SeqAt
open PySem.AutoSeq1 (wpAny_loadPart')
open PySem.MeetsSeq PySem.MeetsSeq2 PySem.MeetsSeq3
end
section
variable {prog:Program} {w:World} {A:Around} {E:Value→Shared→Prop} {s:Shared}
def sIx (n d:Nat):Option Int→Nat
  | none=>d
  | some v=>if v < 0 then (v + (n:Int)).toNat else min v.toNat n
end
end HT
namespace L2
open PySem PySem.Spec PyProof.Rows
abbrev TO:=St→Hp→(Option Int→Hp→Prop)→Prop
def PO (X:Cx) (e:Option Expr) (t:TO):Prop :=
  ∀ (pins:List (Addr × Obj)) (s:Shared) (σ:St) (H:Hp) (Q:Option Int→Hp→Prop),Inv X pins σ H s→t σ H Q →
    wpAny (model X.prog X.w) X.A (evalPart e X.env) (fun u s'=>∃ o H',Inv X pins σ H' s'∧IsPart u o∧Q o H') X.xe s
def zhs:TO:=fun _ H Q=>Q none H
def zjM (t:TE):TO:=fun σ H Q=>t σ H fun x H1=>∃ i,x = .int i∧Q (some i) H1
section
variable {X:Cx} {e:Expr} {te:TE} {lo hi:Option Expr} {tl th:TO} {pos p2:Pos}
theorem zjd:PO X none zhs:=by
  intro pins s σ H Q I h
  rw [evalPart_none]
  exact wpAny_pure ⟨none,H,I,.none,h⟩
theorem zfQ (h:PE X e te):PO X (some e) (zjM te):=by
  intro pins s σ H Q I hw
  rw [evalPart_some]
  refine thn (h pins s σ H _ I hw) fun u s1 ⟨x,H1,I1,r1,q1⟩=>?_
  obtain ⟨i,rfl,q⟩:=q1
  obtain ⟨t,rfl⟩:=r1
  exact ⟨some i,H1,I1,.int i t,q⟩
def SlR (X:Cx) (r:V→Option Int→Option Int→Hp→VK→Prop):Prop :=
  ∀ (pins:List (Addr × Obj)) (s:Shared) (σ:St) (H:Hp) (x:V) (v vl vu:Value) (lo hi:Option Int) (sl:Addr) (Q:VK),Inv X pins σ H s→RelV x v→s.heap.IsSliceOf sl vl vu .none→IsPart vl lo→IsPart vu hi→r x lo hi H Q →
    ∃ T id,typeLookup (.type T) "__getitem__"=pure (some (.builtin id))∧s.TypeIs v T∧wpAny (model X.prog X.w) X.A (getItem v (.ref sl)) (EP X pins σ Q) X.xe s
def tSl (r:V→Option Int→Option Int→Hp→VK→Prop) (te:TE) (tl th:TO):TE:=fun σ H Q=>te σ H fun x H1=>tl σ H1 fun l H2=>th σ H2 fun u H3=>r x l u H3 Q
theorem zgk {r:V→Option Int→Option Int→Hp→VK→Prop} (hr:SlR X r) (he:PE X e te) (hl:PO X lo tl) (hu:PO X hi th):PE X (.Subscript e (.Slice lo hi none p2) pos) (tSl r te tl th):=by
  intro pins s σ H Q I h
  refine Subscript_ (thn (he pins s σ H _ I h) fun v s1 ⟨x,H1,I1,r1,q1⟩=>?_)
  refine wpAny_Slice (thn (hl pins s1 σ H1 _ I1 q1) fun vl s2 ⟨l,H2,I2,pl,q2⟩=>thn (hu pins s2 σ H2 _ I2 q2) fun vu s3 ⟨u,H3,I3,pu,q3⟩=>?_)
  rw [evalPart_none]
  refine wpAny_pure ?_
  have I4:Inv X pins σ H3 { s3 with heap:=s3.heap.push { cls:=.type "slice",data:=.fields #[vl,vu,.none] } }:=I3.kept (t':=s3.toks) fun b ob q=>Heap.get?_push_of_some _ q
  obtain ⟨T,id,hT,ht,hg⟩:=hr pins { s3 with heap:=s3.heap.push { cls:=.type "slice",data:=.fields #[vl,vu,.none] } } σ H3 x v vl vu l u s3.heap.objs.size Q I4 r1 (Heap.IsSliceOf.new ..) pl pu q3
  show wpAny (model X.prog X.w) X.A (subscriptTail e (.Slice lo hi none p2) v (.ref s3.heap.objs.size)) (EP X pins σ Q) X.xe { s3 with heap:=s3.heap.push { cls:=.type "slice",data:=.fields #[vl,vu,.none] } }
  exact tail_any (ops:=[.ref s3.heap.objs.size,v]) ht hT hg (by with_unfolding_all rfl)
def cutV (xs:List V) (lo hi:Option Int):List V:=(xs.drop (HT.sIx xs.length 0 lo)).take (HT.sIx xs.length xs.length hi - HT.sIx xs.length 0 lo)
theorem zfH (xs:List V) (lo hi:Option Int):(cutV xs lo hi).length ≤ xs.length:=by
  unfold cutV
  rw [List.length_take,List.length_drop]
  omega
end
end L2
namespace L2
open PySem PySem.Spec PyProof.Rows
def ixN (n:Nat) (i:Int):Option Nat:=if 0 ≤ i then (if i < n then some i.toNat else none) else if -(n:Int) ≤ i then some (i + n).toNat else none
def atI {α:Type} (xs:List α) (i:Int):Option α:=(ixN xs.length i).bind fun j=>xs[j]?
theorem zg9 {n:Nat} {i:Int} {j:Nat} (h:ixN n i=some j):seqIndex? i n=some j∧j < n∧-(n:Int) ≤ i∧i < n:=by
  unfold ixN at h
  by_cases h0:0 ≤ i
  · rw [if_pos h0] at h
    by_cases h1:i < n
    · rw [if_pos h1] at h
      have e:i.toNat=j:=Option.some.inj h
      exact ⟨by rw [seqIndex_of h0 h1,e],by omega,by omega,h1⟩
    · rw [if_neg h1] at h; cases h
  · rw [if_neg h0] at h
    by_cases h1 : -(n:Int) ≤ i
    · rw [if_pos h1] at h
      have e:(i + n).toNat=j:=Option.some.inj h
      exact ⟨by rw [seqIndex_neg (by omega) h1,e],by omega,h1,by omega⟩
    · rw [if_neg h1] at h; cases h
theorem zfB {α:Type} {xs:List α} {i:Int} {v:α} (h:atI xs i=some v):∃ j,seqIndex? i xs.length=some j∧xs[j]?=some v∧j < xs.length∧-(xs.length:Int) ≤ i∧i < xs.length:=by
  unfold atI at h
  cases e:ixN xs.length i with
  | none=>rw [e] at h; cases h
  | some j =>
    rw [e] at h
    obtain ⟨h1,h2,h3,h4⟩:=zg9 e
    exact ⟨j,h1,h,h2,h3,h4⟩
theorem atI_nat {α:Type} {xs:List α} {j:Nat} {v:α} (h:xs[j]?=some v):atI xs (j:Int)=some v:=by
  have hj:j < xs.length:=(List.getElem?_eq_some_iff.mp h).1
  have e:ixN xs.length (j:Int)=some j:=by
    unfold ixN
    rw [if_pos (by omega),if_pos (by omega)]; simp
  unfold atI; rw [e]; exact h
def zjl (b:Expr):Prop:=∀ o i,subscripted b false o i=operate [o,i] (getItem o i)
def IxR (X:Cx) (r:R2):Prop :=
  ∀ (value slice:Expr) (pins:List (Addr × Obj)) (s:Shared) (σ:St) (H:Hp) (x y:V) (v u:Value) (Q:VK),Inv X pins σ H s→RelV x v→RelV y u→r x y H Q →
    subscripted slice false v u=operate [v,u] (getItem v u)→wpAny (model X.prog X.w) X.A (subscriptTail value slice v u) (EP X pins σ Q) X.xe s
def MtR (X:Cx) (id:String) (r:V→List V→Hp→VK→Prop):Prop :=
  ∀ (pins:List (Addr × Obj)) (s:Shared) (σ:St) (H:Hp) (x:V) (xs:List V) (v:Value) (us:List Value) (Q:VK),Inv X pins σ H s→RelV x v→Vals xs us→r x xs H Q →
    wpAny (model X.prog X.w) X.A (call (.builtin id) (v :: us)) (EP X pins σ Q) X.xe s
section
variable {X:Cx} {a b:Expr} {ta tb:TE} {pos:Pos}
theorem zbd {r:R2} (hr:IxR X r) (ha:PE X a ta) (hb:PE X b tb) (hs:zjl b):PE X (.Subscript a b pos) (tOp r ta tb):=by
  intro pins s σ H Q I h
  exact Subscript_ (binT ha hb I h fun v u s2 x y H2 I2 rx ry q=>hr a b pins s2 σ H2 x y v u Q I2 rx ry q (hs _ _))
def rIxL (K:PySem.W.Frag):R2:=fun x y H Q=>∃ p xs i v,x = .ref p∧y = .int i∧SqL K H p xs∧atI xs i=some v∧Q v H
def rIxT (K:PySem.W.Frag):R2:=fun x y H Q=>∃ p xs i v,x = .ref p∧y = .int i∧SqT K H p xs∧atI xs i=some v∧Q v H
theorem zaJ:IxR X (rIxL X.K):=by
  intro value slice pins s σ H x y v u Q I rx ry h hs
  obtain ⟨p,xs,i,z,rfl,rfl,hq,he,q⟩:=h
  cases rx
  obtain ⟨t,rfl⟩:=ry
  obtain ⟨its,r,pl,hz⟩:=I.list hq
  obtain ⟨j,h1,h2,h3,h4,h5⟩:=zfB he
  obtain ⟨w,ew,rw'⟩:=r.get h2
  have hl:=r.length
  have hn:=zeV
  have fin:EP X pins σ Q w s:=⟨z,H,I,rw',q⟩
  by_cases h0:0 ≤ i
  · have hj:i.toNat=j:=by
      rw [seqIndex_of h0 h5] at h1
      exact Option.some.inj h1
    exact item_listR pl.isList h0 (by omega) (by rw [hj]; simpa using ew) fin hs
  · have hj:(i + (its.toArray.size:Int)).toNat=j:=by
      rw [seqIndex_neg (by omega) h4] at h1
      rw [List.size_toArray,← hl]
      exact Option.some.inj h1
    exact subscriptTail_builtinR (x:=w) pl.isList.typeIs slot_list_getitem.lookup
      (wpAny_getItem_list_neg (Q:=fun r s'=>r=w∧EP X pins σ Q r s') pl.isList (by omega) (by rw [List.size_toArray] <;> omega) (by omega) (by rw [hj]; simpa using ew) ⟨rfl,fin⟩) hs
theorem zeb:IxR X (rIxT X.K):=by
  intro value slice pins s σ H x y v u Q I rx ry h hs
  obtain ⟨p,xs,i,z,rfl,rfl,hq,he,q⟩:=h
  cases rx
  obtain ⟨t,rfl⟩:=ry
  obtain ⟨its,r,pl,hz⟩:=I.tuple hq
  obtain ⟨j,h1,h2,h3,h4,h5⟩:=zfB he
  obtain ⟨w,ew,rw'⟩:=r.get h2
  have hl:=r.length
  have hn:=zeV
  have fin:EP X pins σ Q w s:=⟨z,H,I,rw',q⟩
  exact subscriptTail_builtinR (x:=w) pl.typeIs slot_tuple_getitem.lookup
    (getItem_tuple (j:=j) (Q:=fun r s'=>r=w∧EP X pins σ Q r s') pl (by omega) (by omega) (by rw [List.size_toArray,← hl]; exact h1) (by simpa using ew) ⟨rfl,fin⟩) hs
theorem zgy (its:List Value) (n j:Nat) (u:Value):Obj.mapSeq (·.setIfInBounds j u) { cls:=.type "list",data:=.seq its.toArray n } = { cls:=.type "list",data:=.seq (its.set j u).toArray n }:=by
  simp [Obj.mapSeq]
theorem Inv.lst {pins:List (Addr × Obj)} {σ:St} {H:Hp} {s:Shared} {p:Addr} {xs:List V} (I:Inv X pins σ H s) (h:H p=some (.lst xs)) :
    ∃ (its:List Value) (n:Nat),Vals xs its∧s.heap.get? p=some { cls:=.type "list",data:=.seq its.toArray n }∧xs.length ≤ sizeLine:=by
  obtain ⟨z,its,n,r,e⟩:=I.hok p _ h
  exact ⟨its,n,r,e,z⟩
theorem Inv.lstUpd {pins:List (Addr × Obj)} {σ:St} {H:Hp} {s:Shared} {p:Addr} {xs ys:List V} {its its':List Value} {n n':Nat} {f:Obj→Obj} (I:Inv X pins σ H s) (h:H p=some (.lst xs))
    (ho:s.heap.get? p=some { cls:=.type "list",data:=.seq its.toArray n }) (hf:f { cls:=.type "list",data:=.seq its.toArray n } = { cls:=.type "list",data:=.seq its'.toArray n' }) (r:Vals ys its') (hz:ys.length ≤ sizeLine) (t:Nat) :
    Inv X pins σ (upd H p (.lst ys)) { s with heap:=s.heap.update p f,toks:=t }:=by
  have e:(s.heap.update p f).get? p=some { cls:=.type "list",data:=.seq its'.toArray n' }:=by
    rw [Heap.get?_update_self f ho (by rw [hf] <;> rfl),hf]
  refine I.write (x:=p) (e:=p) (by rw [h]; trivial) (.inl rfl) (fun b u hb q=>(Heap.get?_update_other _ _ (Ne.symm hb)).trans q) ⟨_,e⟩ ?_
  exact ⟨hz,its',n',r,e⟩
def zi7:V→V→V→Hp→(Hp→Prop)→Prop:=fun o i v H Q=>∃ p xs k j,o = .ref p∧i = .int k∧H p=some (.lst xs)∧ixN xs.length k=some j∧Q (upd H p (.lst (xs.set j v)))
theorem zdk:PSet X zi7:=by
  intro pins s σ H o i v ov iv u Q I ro ri rv h
  obtain ⟨p,xs,k,j,rfl,rfl,hp,hj,q⟩:=h
  cases ro
  obtain ⟨t,rfl⟩:=ri
  obtain ⟨its,n,r,ho,hz⟩:=I.lst hp
  obtain ⟨h1,h2,h3,h4⟩:=zg9 hj
  have hl:=r.length
  have hn:=zeV
  have I':Inv X pins σ (upd H p (.lst (xs.set j v))) { s with heap:=s.heap.update p (Obj.mapSeq (·.setIfInBounds j u)) } :=
    I.lstUpd hp ho (zgy its n j u) (r.set rv j) (by rw [List.length_set]; exact hz) s.toks
  by_cases h0:0 ≤ k
  · have hk:k.toNat=j:=by
      rw [seqIndex_of h0 h4] at h1
      exact Option.some.inj h1
    exact PySem.W.ki_setAt ho h0 (by omega) (by rw [List.size_toArray,← hl]; exact h4) (by rw [hk]; exact ⟨_,I',q⟩)
  · have hk:(k + (its.toArray.size:Int)).toNat=j:=by
      rw [seqIndex_neg (by omega) h3] at h1
      rw [List.size_toArray,← hl]
      exact Option.some.inj h1
    exact PySem.W.ki_setBack ho (by omega) (by rw [List.size_toArray,← hl]; exact h3) (by omega) (by rw [hk]; exact ⟨_,I',q⟩)
theorem zeP (lo hi:Option Int) (n:Nat):(sliceBounds lo hi none n).1=((HT.sIx n 0 lo:Nat):Int)∧(sliceBounds lo hi none n).2.1=((HT.sIx n n hi:Nat):Int)∧(sliceBounds lo hi none n).2.2=1:=by
  refine ⟨?_,?_,rfl⟩
  · cases lo with
    | none=>simp [sliceBounds,HT.sIx]
    | some i =>
      simp only [sliceBounds,HT.sIx,Option.getD_none,show (1:Int) > 0 by decide,if_true]
      by_cases h:i < 0
      · simp only [h,if_true] <;> omega
      · simp only [h,if_false] <;> omega
  · cases hi with
    | none=>simp [sliceBounds,HT.sIx]
    | some i =>
      simp only [sliceBounds,HT.sIx,Option.getD_none,show (1:Int) > 0 by decide,if_true]
      by_cases h:i < 0
      · simp only [h,if_true] <;> omega
      · simp only [h,if_false] <;> omega
theorem zej (its:List Value) (lo hi:Option Int):slicePick its.toArray lo hi none=((its.drop (HT.sIx its.length 0 lo)).take (HT.sIx its.length its.length hi - HT.sIx its.length 0 lo)).toArray:=by
  obtain ⟨h1,h2,h3⟩:=zeP lo hi its.toArray.size
  unfold slicePick
  rw [h1,h2,h3]
  simp only [sliceRange_one,pick_run,List.size_toArray] <;> rfl
def rSlL (K:PySem.W.Frag):V→Option Int→Option Int→Hp→VK→Prop:=fun x lo hi H Q=>∃ a xs,x = .ref a∧SqL K H a xs∧∀ p,H p=none→Q (.ref p) (upd H p (.lst (cutV xs lo hi)))
theorem zhY:SlR X (rSlL X.K):=by
  intro pins s σ H x v vl vu lo hi sl Q I rx hs pl pu h
  obtain ⟨a,xs,rfl,hx,q⟩:=h
  cases rx
  obtain ⟨its,r,ht,hz⟩:=I.list hx
  have hlen:=r.length
  refine ⟨"list",_,slot_list_getitem.lookup,ht.isList.typeIs,?_⟩
  refine wpAny_getItem_list_slice ht.isList hs pl pu .none (by simp) ?_ (by rw [List.size_toArray] <;> omega)
  rw [zej,← hlen]
  refine ⟨.ref s.heap.objs.size,_,I.laid (t':=s.toks) (o:=.lst (cutV xs lo hi)) (fun b ob q=>Heap.get?_push_of_some _ q) (Nat.le_refl _) ?_,rfl,q _ (I.hok.fresh (Nat.le_refl _))⟩
  exact ⟨Nat.le_trans (zfH xs lo hi) hz,_,0,(r.drop (HT.sIx xs.length 0 lo)).take (HT.sIx xs.length xs.length hi - HT.sIx xs.length 0 lo),Heap.get?_push_size _ rfl⟩
def zem:V→Bool
  | .non=>true
  | .bl _=>true
  | .int _=>true
  | .str _=>true
  | _=>false
def eqV:V→V→Bool
  | .non,.non=>true
  | .bl a,.bl b=>a == b
  | .bl a,.int b=>(if a then 1 else 0) == b
  | .int a,.bl b=>a == (if b then 1 else 0)
  | .int a,.int b=>a == b
  | .str a,.str b=>a == b
  | _,_=>false
theorem zke {A:Around} {s:Shared} {y x:V} {u v:Value} (ry:RelV y u) (rx:RelV x v) (fy:zem y=true) (fx:zem x=true):SeqAt.EqAt A s u v (eqV y x):=by
  cases y with
  | non =>
    cases ry
    cases x with
    | non=>cases rx; exact SeqAt.EqAt.same _
    | bl b=>cases rx; exact SeqAt.EqAt.none_bool b
    | int b=>obtain ⟨t,rfl⟩:=rx; exact SeqAt.EqAt.none_int b t
    | str b=>obtain ⟨t,rfl⟩:=rx; exact SeqAt.EqAt.none_str b t
    | _=>exact absurd (show false=true from fx) Bool.false_ne_true
  | bl a =>
    cases ry
    cases x with
    | non=>cases rx; exact SeqAt.EqAt.bool_none a
    | bl b=>cases rx; exact SeqAt.EqAt.bool_bool a b
    | int b=>obtain ⟨t,rfl⟩:=rx; exact SeqAt.EqAt.bool_int a b t
    | str b=>obtain ⟨t,rfl⟩:=rx; exact SeqAt.EqAt.bool_str a b t
    | _=>exact absurd (show false=true from fx) Bool.false_ne_true
  | int a =>
    obtain ⟨t',rfl⟩:=ry
    cases x with
    | non=>cases rx; exact SeqAt.EqAt.int_none a t'
    | bl b=>cases rx; exact SeqAt.EqAt.int_bool a t' b
    | int b=>obtain ⟨t,rfl⟩:=rx; exact SeqAt.EqAt.int_int a t' b t
    | str b=>obtain ⟨t,rfl⟩:=rx; exact SeqAt.EqAt.int_str a t' b t
    | _=>exact absurd (show false=true from fx) Bool.false_ne_true
  | str a =>
    obtain ⟨t',rfl⟩:=ry
    cases x with
    | non=>cases rx; exact SeqAt.EqAt.str_none a t'
    | bl b=>cases rx; exact SeqAt.EqAt.str_bool a t' b
    | int b=>obtain ⟨t,rfl⟩:=rx; exact SeqAt.EqAt.str_int a t' b t
    | str b=>obtain ⟨t,rfl⟩:=rx; exact SeqAt.EqAt.str_str a t' b t
    | _=>exact absurd (show false=true from fx) Bool.false_ne_true
  | _=>exact absurd (show false=true from fy) Bool.false_ne_true
def eqU (x:V) (u:Value):Bool:=match u with
  | .none=>eqV .non x
  | .bool b=>eqV (.bl b) x
  | .int i _=>eqV (.int i) x
  | .str z _=>eqV (.str z) x
  | _=>false
theorem ziG {x y:V} {u:Value} (r:RelV y u) (f:zem y=true):eqU x u=eqV y x:=by
  cases y with
  | non=>cases r; rfl
  | bl b=>cases r; rfl
  | int i=>obtain ⟨t,rfl⟩:=r; rfl
  | str z=>obtain ⟨t,rfl⟩:=r; rfl
  | _=>exact absurd (show false=true from f) Bool.false_ne_true
theorem zfs {x:V}:∀ {xs:List V} {us:List Value},Vals xs us→xs.all zem=true→us.any (eqU x)=xs.any fun y=>eqV y x
  | _,_,.nil,_=>rfl
  | y :: xs,u :: us,.cons r t,f=>by
    rw [List.all_cons,Bool.and_eq_true] at f
    rw [List.any_cons,List.any_cons,ziG r f.1,zfs t f.2]
theorem zeL {A:Around} {s:Shared} {x:V} {v:Value} (rx:RelV x v) (fx:zem x=true):∀ {xs:List V} {us:List Value},Vals xs us→xs.all zem=true→∀ u ∈ us,SeqAt.EqAt A s u v (eqU x u)
  | _,_,.nil,_=>fun u hu=>by cases hu
  | y :: xs,u :: us,.cons r t,f=>fun u' hu=>by
    rw [List.all_cons,Bool.and_eq_true] at f
    rcases List.mem_cons.mp hu with rfl | hu
    · rw [ziG r f.1]; exact zke r rx f.1 fx
    · exact zeL rx fx t f.2 u' hu
def inV (x:V) (xs:List V):Bool:=xs.any fun y=>eqV y x
def rIn (K:PySem.W.Frag) (neg:Bool):R2:=fun x y H Q=>∃ p xs,y = .ref p∧(SqL K H p xs∨SqT K H p xs)∧zem x=true∧xs.all zem=true∧Q (.bl (if neg then !inV x xs else inV x xs)) H
theorem zg8:OpR X (compareOp .In) (rIn X.K false):=by
  intro pins s σ H x y v u Q I rx ry h
  obtain ⟨p,xs,rfl,hq,fx,fs,q⟩:=h
  cases ry
  rcases hq with hq | hq
  · obtain ⟨its,r,pl,hz⟩:=I.list hq
    refine SeqAt.in_listAt (eqU x) pl.isList (fun w hw=>zeL rx fx r fs w (by simpa using hw)) ⟨.bl _,H,I,rfl,?_⟩
    rw [show its.toArray.any (eqU x)=its.any (eqU x) by simp,zfs r fs]
    exact q
  · obtain ⟨its,r,pl,hz⟩:=I.tuple hq
    refine SeqAt.in_tupleAt (eqU x) pl (fun w hw=>zeL rx fx r fs w (by simpa using hw)) ⟨.bl _,H,I,rfl,?_⟩
    rw [show its.toArray.any (eqU x)=its.any (eqU x) by simp,zfs r fs]
    exact q
theorem zaC:zgq X (.builtin "len") (fun xs H Q=>∃ p ys,xs = [.ref p]∧(SqL X.K H p ys∨SqT X.K H p ys)∧Q (.int ys.length) H):=by
  intro pins s σ H xs us Q I r h
  obtain ⟨p,ys,rfl,hq,q⟩:=h
  obtain ⟨u,rfl,rx⟩:=zje r
  cases rx
  have hn:=zeV
  rcases hq with hq | hq
  · obtain ⟨its,r',pl,hz⟩:=I.list hq
    have hlen:=r'.length
    exact Calls.call_len_list pl.isList (by simp only [List.size_toArray] <;> omega) ⟨.int ys.length,H,I.tok _,⟨s.toks + 1,by rw [List.size_toArray,hlen]⟩,q⟩
  · obtain ⟨its,r',pl,hz⟩:=I.tuple hq
    have hlen:=r'.length
    exact len_tuple pl (by simp only [List.size_toArray] <;> omega) ⟨.int ys.length,H,I.tok _,⟨s.toks + 1,by rw [List.size_toArray,hlen]⟩,q⟩
theorem zbE:zgq X (.type "list") (fun xs H Q=>∃ p ys,xs = [.ref p]∧(SqL X.K H p ys∨SqT X.K H p ys)∧∀ l,H l=none→Q (.ref l) (upd H l (.lst ys))):=by
  intro pins s σ H xs us Q I r h
  obtain ⟨p,ys,rfl,hq,q⟩:=h
  obtain ⟨u,rfl,rx⟩:=zje r
  cases rx
  have fin:∀ (its:List Value),Vals ys its→ys.length ≤ sizeLine→∀ (h':Heap) (c':Nat),(∀ b o',s.heap.get? b=some o'→h'.get? b=some o') →
      h'.get? s.heap.objs.size=some { cls:=.type "list",dict:=none,data:=.seq its.toArray c',slots:=#[] }→EP X pins σ Q (.ref s.heap.objs.size) { s with heap:=h' }:=fun its r' hz h' c' kp e =>
    ⟨.ref s.heap.objs.size,_,I.laid (t':=s.toks) kp (Nat.le_refl _) (show ObjOk X.prog X.w _ h' _ (.lst ys) from ⟨hz,its,c',r',e⟩),rfl,q _ (I.hok.fresh (Nat.le_refl _))⟩
  rcases hq with hq | hq
  · obtain ⟨its,r',pl,hz⟩:=I.list hq
    have hlen:=r'.length
    obtain ⟨o,ho,hc,n,hd⟩:=pl.isList
    exact call_list_seq p (.inl rfl) ho hc hd (fun h' c' kp e=>fin its r' hz h' c' kp e) (by simp only [List.size_toArray] <;> omega)
  · obtain ⟨its,r',pl,hz⟩:=I.tuple hq
    have hlen:=r'.length
    obtain ⟨o,ho,hc,n,hd⟩:=pl
    exact call_list_seq p (.inr rfl) ho hc hd (fun h' c' kp e=>fin its r' hz h' c' kp e) (by simp only [List.size_toArray] <;> omega)
def tyV (K:PySem.W.Frag) (T:String) (x:V) (H:Hp):Prop:=match x with
  | .str _=>T = "str"
  | .int _=>T = "int"
  | .ref p=>(T = "list"∧∃ xs,SqL K H p xs)∨(T = "tuple"∧∃ o,K.lookup p=some o∧o.cls = .type "tuple"∧o.dict=none) ∨
      (T = "dict"∧((∃ kvs,H p=some (.dK kvs))∨∃ kvs,H p=some (.dT kvs)))∨(T = "set"∧∃ S n,H p=some (.set S n))
  | _=>False
theorem ziP {pins:List (Addr × Obj)} {σ:St} {H:Hp} {s:Shared} {T:String} {x:V} {v:Value} (I:Inv X pins σ H s) (r:RelV x v) (ty:tyV X.K T x H) :
    s.TypeIs v T∧∀ a,v = .ref a→∃ ob,s.heap.get? a=some ob∧ob.dict=none:=by
  cases x with
  | str z =>
    obtain ⟨t,rfl⟩:=r
    cases (show T = "str" from ty)
    exact ⟨typeIs_str s z t,fun _ e=>nomatch e⟩
  | int i =>
    obtain ⟨t,rfl⟩:=r
    cases (show T = "int" from ty)
    exact ⟨typeIs_int s i t,fun _ e=>nomatch e⟩
  | ref p =>
    cases r
    rcases ty with ⟨rfl,xs,hq⟩ | ⟨rfl,o,hk,hc,hd⟩ | ⟨rfl,hk⟩ | ⟨rfl,S,n,hk⟩
    · obtain ⟨its,_,pl,_⟩:=I.list hq
      refine ⟨pl.isList.typeIs,fun a e=>?_⟩
      cases e
      obtain ⟨o,n,e,c,hd,_⟩:=pl
      exact ⟨o,e,hd⟩
    · refine ⟨⟨o,I.kIn p o hk,hc⟩,fun a e=>?_⟩
      cases e
      exact ⟨o,I.kIn _ o hk,hd⟩
    · have z:∃ o,s.heap.get? p=some o∧o.ExactDict:=by
        rcases hk with ⟨kvs,hk⟩ | ⟨kvs,hk⟩
        · obtain ⟨_,_,_,_,o,_,_,e,ex,_⟩:=I.hok p _ hk
          exact ⟨o,e,ex⟩
        · obtain ⟨_,_,_,_,o,_,_,e,ex,_⟩:=I.hok p _ hk
          exact ⟨o,e,ex⟩
      obtain ⟨o,e,ex⟩:=z
      refine ⟨⟨o,e,ex.1⟩,fun a e2=>?_⟩
      cases e2
      exact ⟨o,e,ex.2.1⟩
    · obtain ⟨o,_,_,_,e,ex,_⟩:=I.hok p _ hk
      refine ⟨⟨o,e,ex.1⟩,fun a e2=>?_⟩
      cases e2
      exact ⟨o,e,ex.2.1⟩
  | _=>exact False.elim ty
def tBM0 (K:PySem.W.Frag) (T:String) (r:V→List V→Hp→VK→Prop) (to:TE):TE:=fun σ H Q=>to σ H fun x H1=>tyV K T x H1∧r x [] H1 Q
def tBM (K:PySem.W.Frag) (T:String) (r:V→List V→Hp→VK→Prop) (to:TE) (t:TA):TE:=fun σ H Q=>to σ H fun x H1=>tyV K T x H1∧t σ H1 fun xs H2=>r x xs H2 Q
variable {o e:Expr} {es:List Expr} {to:TE} {t:TA} {name:Str} {apos cpos:Pos} {T id:String} {r:V→List V→Hp→VK→Prop}
theorem zkn (pa:PlainAttrs T) (slot:Slot T name id) (hty:typeOf (.builtin id)=pure (.type "method_descriptor")) (hm:MtR X id r) (ho:PE X o to)
    (hbase:attributeBase o name X.env (eval o X.env)=eval o X.env:=by rfl) (hline:(apos.endLine == cpos.line)=true:=by rfl):PE X (.Call (.Attribute o name apos) [] [] cpos) (tBM0 X.K T r to):=by
  intro pins s σ H Q I h
  refine wpAny_Call_method0_late hbase hline (thn (ho pins s σ H _ I h) fun v s1 ⟨x,H1,I1,r1,ty,q1⟩=>?_)
  obtain ⟨h1,h2⟩:=ziP I1 r1 ty
  exact ⟨T,id,pa,slot,hty,h1,h2,Calls.callWith_builtin rfl (PySem.evalArgs_none (hm pins s1 σ H1 x [] v [] Q I1 r1 .nil q1))⟩
theorem zgC (pa:PlainAttrs T) (slot:Slot T name id) (hty:typeOf (.builtin id)=pure (.type "method_descriptor")) (hm:MtR X id r) (ho:PE X o to) (ha:PA X (e :: es) t)
    (hbase:attributeBase o name X.env (eval o X.env)=eval o X.env:=by rfl)
    (hfew:((backTo cpos (starEach (e :: es) X.env)).all (fun x=>!x.1) && (backToKw cpos (keywordEach [] X.env)).all (fun x=>x.1.isSome)
      && decide ((e :: es).length + ([]:List Keyword).length + (if ([]:List Keyword).isEmpty then 0 else 1) < 30))=true:=by rfl)
    (hline:(apos.endLine == cpos.line)=true:=by rfl) (hs:starEach (e :: es) X.env=(false,eval e X.env) :: starEach es X.env:=by rfl) (hplain:(backTo cpos (starEach es X.env)).any (·.1)=false:=by rfl) :
    PE X (.Call (.Attribute o name apos) (e :: es) [] cpos) (tBM X.K T r to t):=by
  intro pins s σ H Q I h
  refine wpAny_Call_method_late hbase hfew hline rfl (thn (ho pins s σ H _ I h) fun v s1 ⟨x,H1,I1,r1,ty,q1⟩=>?_)
  obtain ⟨h1,h2⟩:=ziP I1 r1 ty
  refine ⟨T,id,pa,slot,hty,h1,h2,?_⟩
  have hA:=ha cpos pins s1 σ H1 _ I1 q1
  rw [hs] at hA ⊢
  refine Calls.callWith_builtin (by show (false || (backTo cpos (starEach es X.env)).any (·.1))=false; rw [hplain] <;> rfl) (Calls.evalArgs_plain ?_)
  exact thn hA fun us s2 ⟨vs,H2,I2,r2,q2⟩=>hm pins s2 σ H2 x vs v us Q I2 r1 r2 q2
end
end L2
namespace L2
open PySem PySem.Spec PyProof.Rows
def MtM (X:Cx) (id:String) (r:V→List V→Hp→VK→Prop):Prop :=
  ∀ (pins:List (Addr × Obj)) (s:Shared) (σ:St) (H:Hp) (x:V) (xs:List V) (v:Value) (us:List Value) (Q:VK),Inv X pins σ H s→RelV x v→Vals xs us→r x xs H Q →
    wpAny (model X.prog X.w) X.A (call (.builtin id) (v :: us)) (EP X pins σ Q) X.xe s
theorem Vals.one:∀ {x:V} {us:List Value},Vals [x] us→∃ u,us = [u]∧RelV x u
  | _,_,.cons r .nil=>⟨_,rfl,r⟩
theorem Vals.zero:∀ {us:List Value},Vals [] us→us = []
  | _,.nil=>rfl
section
variable {X:Cx} {pins:List (Addr × Obj)} {σ:St} {H:Hp} {s:Shared} {l b:Addr} {xs ys zs:List V}
theorem Inv.lset {its its':List Value} {n:Nat} {f:Array Value→Array Value} {t':Nat} (I:Inv X pins σ H s) (hH:H l=some (.lst xs))
    (e:s.heap.get? l=some { cls:=.type "list",data:=.seq its.toArray n }) (hf:f its.toArray=its'.toArray) (hv:Vals ys its') (hz:ys.length ≤ sizeLine) :
    Inv X pins σ (upd H l (.lst ys)) { s with heap:=s.heap.update l (Obj.mapSeq f),toks:=t' }:=by
  have q:=PySem.IsL.update e f
  rw [hf] at q
  refine I.write (x:=l) (e:=l) (by rw [hH]; exact trivial) (.inl rfl) (fun b' u hb hu=>(Heap.get?_update_other s.heap (Obj.mapSeq f) (Ne.symm hb)).trans hu) ⟨_,q⟩ ?_
  exact ⟨hz,its',_,hv,q⟩
theorem Inv.lstM (I:Inv X pins σ H s) (hH:H l=some (.lst xs)):xs.length ≤ sizeLine∧∃ (its:List Value) (n:Nat),Vals xs its∧xs.length=its.length∧s.heap.get? l=some { cls:=.type "list",data:=.seq its.toArray n }:=by
  obtain ⟨z,its,n,r,e⟩:=I.hok l _ hH
  exact ⟨z,its,n,r,r.length,e⟩
end
section
variable {X:Cx}
def zep:V→List V→Hp→VK→Prop:=fun x vs H Q=>∃ l xs y,x = .ref l∧vs = [y]∧H l=some (.lst xs)∧xs.length < sizeLine∧Q .non (upd H l (.lst (xs ++ [y])))
theorem zbv:MtM X "list.append" zep:=by
  intro pins s σ H x vs v us Q I rx rv h
  obtain ⟨l,xs,y,rfl,rfl,hH,hz,q⟩:=h
  cases rx
  obtain ⟨u,rfl,ru⟩:=rv.one
  obtain ⟨z,its,n,r,hl,e⟩:=I.lstM hH
  refine call_meets F.slot_list_append ⟨_,e,rfl⟩ F.entry_list_append (F.args_list_append_2 _ _) (PySem.list_append l its.toArray n u (by rw [List.size_toArray]; omega)) ⟨e,?_⟩
  refine ⟨.non,_,I.lset (its':=its ++ [u]) hH e (by simp) (r.append (.cons ru .nil)) ?_,rfl,q⟩
  rw [List.length_append,List.length_singleton]
  omega
def ziU:V→List V→Hp→VK→Prop:=fun x vs H Q=>∃ l xs,x = .ref l∧vs = []∧H l=some (.lst xs)∧Q .non (upd H l (.lst []))
theorem ziF:MtM X "list.clear" ziU:=by
  intro pins s σ H x vs v us Q I rx rv h
  obtain ⟨l,xs,rfl,rfl,hH,q⟩:=h
  cases rx
  have hus:=rv.zero
  subst hus
  obtain ⟨z,its,n,r,hl,e⟩:=I.lstM hH
  refine call_meets F.slot_list_clear ⟨_,e,rfl⟩ F.entry_list_clear (F.args_list_clear_1 _) (AutoSeq1.list_clear_list_0 l its.toArray n (by rw [List.size_toArray]; omega)) ⟨e,?_⟩
  exact ⟨.non,_,I.lset (its':=[]) (ys:=[]) hH e rfl .nil (Nat.zero_le _),rfl,q⟩
end
section
variable {prog:Program} {w:World} {A:Around} {E:Value→Shared→Prop} {s:Shared}
end
section
variable {X:Cx}
end
end L2
namespace L2
open PySem PySem.Spec PyProof.Rows
section
variable {κ:Type} [DecidableEq κ]
def valV (kvs:List (κ × V)) (k:κ):Option V:=(kvs.find? fun kv=>decide (kv.1=k)).map (·.2)
def putK (kvs:List (κ × V)) (k:κ) (v:V):List (κ × V) :=
  if (kvs.any fun kv=>decide (kv.1=k))=true then kvs.map (fun kv=>if kv.1=k then (kv.1,v) else kv) else kvs ++ [(k,v)]
theorem zel {p:κ × V} {r:List (κ × V)} {k:κ} (e:p.1=k):valV (p :: r) k=some p.2:=by simp [valV,List.find?_cons,e]
theorem zed {p:κ × V} {r:List (κ × V)} {k:κ} (e:¬ p.1=k):valV (p :: r) k=valV r k:=by simp [valV,List.find?_cons,e]
theorem zf7 (k:κ):∀ kvs:List (κ × V),(kvs.any fun kv=>decide (kv.1=k))=(valV kvs k).isSome
  | []=>rfl
  | p :: r=>by
    rw [List.any_cons]
    by_cases e:p.1=k
    · simp only [zel e,decide_eq_true e,Bool.true_or,Option.isSome_some]
    · rw [zed e,decide_eq_false e,Bool.false_or]; exact zf7 k r
theorem zdw (kvs:List (κ × V)) (k:κ) (v:V):(putK kvs k v).length ≤ kvs.length + 1:=by
  unfold putK
  split
  · rw [List.length_map]; omega
  · rw [List.length_append,List.length_cons,List.length_nil]; omega
theorem RelO.isSome_eq {o:Option V} {u:Option Value} (r:RelO o u):o.isSome=u.isSome:=by
  cases o with
  | none=>cases u with
    | none=>rfl
    | some _=>exact (show False from r).elim
  | some _=>cases u with
    | none=>exact (show False from r).elim
    | some _=>rfl
theorem KV.val {kvs:List (κ × V)} {vs:List (κ × Value)} (r:KV kvs vs) (k:κ):RelO (valV kvs k) (valueAt vs k):=by
  unfold KV at r
  induction r with
  | nil=>exact True.intro
  | @cons p q ps qs h t ih =>
    obtain ⟨h1,h2⟩:=h
    by_cases e:p.1=k
    · have e':q.1=k:=h1.symm.trans e
      have b:valueAt (q :: qs) k=some q.2:=by simp [valueAt,List.find?_cons,e']
      rw [zel e,b]; exact h2
    · have e':¬ q.1=k:=fun z=>e (h1.trans z)
      have b:valueAt (q :: qs) k=valueAt qs k:=by simp [valueAt,List.find?_cons,e']
      rw [zed e,b]; exact ih
theorem KV.any {kvs:List (κ × V)} {vs:List (κ × Value)} (r:KV kvs vs) (k:κ):(kvs.any fun kv=>decide (kv.1=k))=vs.any fun kv=>decide (kv.1=k):=by
  unfold KV at r
  induction r with
  | nil=>rfl
  | cons h t ih=>rw [List.any_cons,List.any_cons,ih,h.1]
theorem KV.repl {kvs:List (κ × V)} {vs:List (κ × Value)} (r:KV kvs vs) (k:κ) {y:V} {u:Value} (ry:RelV y u) :
    KV (kvs.map fun kv=>if kv.1=k then (kv.1,y) else kv) (vs.map fun kv=>if kv.1=k then (kv.1,u) else kv):=by
  unfold KV at r ⊢
  induction r with
  | nil=>exact .nil
  | @cons p q ps qs h t ih =>
    rw [List.map_cons,List.map_cons]
    refine .cons ?_ ih
    obtain ⟨h1,h2⟩:=h
    by_cases e:p.1=k
    · rw [if_pos e,if_pos (h1.symm.trans e)]; exact ⟨h1,ry⟩
    · rw [if_neg e,if_neg (fun z=>e (h1.trans z))]; exact ⟨h1,h2⟩
theorem KV.put {kvs:List (κ × V)} {vs:List (κ × Value)} (r:KV kvs vs) (k:κ) {y:V} {u:Value} (ry:RelV y u):KV (putK kvs k y) (stored vs k u):=by
  unfold putK stored
  rw [r.any k]
  by_cases e:(vs.any fun kv=>decide (kv.1=k))=true
  · rw [if_pos e,if_pos e]; exact r.repl k ry
  · rw [if_neg e,if_neg e]; exact Paired.snoc r ⟨rfl,ry⟩
theorem KV.length {kvs:List (κ × V)} {vs:List (κ × Value)} (r:KV kvs vs):kvs.length=vs.length:=Paired.length r
end
theorem zi3 {P:Program} {w:World} {k:Key} {u:Value} (r:RelV (kV k) u):(zbh P w).is k u=true:=by
  cases k with
  | inl i=>obtain ⟨t,e⟩:=(show ∃ t,u=Value.int i t from r); subst e; exact zfP P w i t
  | inr x=>obtain ⟨t,e⟩:=(show ∃ t,u=Value.str x t from r); subst e; exact zfx P w x t
theorem zeX {P:Program} {w:World}:∀ {ks:List Key} {us:List Value},Vals (ks.map kV) us→ItemsAre (zbh P w) ks us
  | [],_,r=>by rw [List.map_nil] at r; cases r; exact .nil
  | k :: ks,_,r=>by
    rw [List.map_cons] at r
    cases r with
    | cons h t=>exact .cons (zi3 h) (zeX t)
abbrev KT (H:Hp):List (List Key × V)→List (List Key × Addr × Value)→Prop:=Paired fun p q=>p.1=q.1∧H q.2.1=some (.tup (p.1.map kV))∧RelV p.2 q.2.2
theorem KT.val {H:Hp} {kvs:List (List Key × V)} {xs:List (List Key × Addr × Value)} (r:KT H kvs xs) (k:List Key):RelO (valV kvs k) ((atKey xs k).map (·.2)):=by
  induction r with
  | nil=>exact True.intro
  | @cons p q ps qs h t ih =>
    obtain ⟨h1,_,h2⟩:=h
    by_cases e:p.1=k
    · have e':q.1=k:=h1.symm.trans e
      have b:atKey (q :: qs) k=some q.2:=by simp [atKey,List.find?_cons,e']
      rw [zel e,b]; exact h2
    · have e':¬ q.1=k:=fun z=>e (h1.trans z)
      have b:atKey (q :: qs) k=atKey qs k:=by simp [atKey,List.find?_cons,e']
      rw [zed e,b]; exact ih
theorem KT.repl {H:Hp} {kvs:List (List Key × V)} {xs:List (List Key × Addr × Value)} (r:KT H kvs xs) (k:List Key) {y:V} {u:Value} (ry:RelV y u) :
    KT H (kvs.map fun kv=>if kv.1=k then (kv.1,y) else kv) (xs.map (putAt k u)):=by
  induction r with
  | nil=>exact .nil
  | @cons p q ps qs h t ih =>
    rw [List.map_cons,List.map_cons]
    refine .cons ?_ ih
    obtain ⟨h1,h2,h3⟩:=h
    unfold putAt
    by_cases e:p.1=k
    · rw [if_pos e,if_pos (h1.symm.trans e)]; exact ⟨h1,h2,ry⟩
    · rw [if_neg e,if_neg (fun z=>e (h1.trans z))]; exact ⟨h1,h2,h3⟩
theorem KT.put {H:Hp} {kvs:List (List Key × V)} {xs:List (List Key × Addr × Value)} (r:KT H kvs xs) (k:List Key) {b:Addr} {y:V} {u:Value} (hb:H b=some (.tup (k.map kV))) (ry:RelV y u) :
    KT H (putK kvs k y) (storedH xs k b u):=by
  have e:(kvs.any fun kv=>decide (kv.1=k))=(atKey xs k).isSome:=by
    rw [zf7,(r.val k).isSome_eq,Option.isSome_map]
  unfold putK storedH
  rw [e]
  by_cases q:(atKey xs k).isSome=true
  · rw [if_pos q,if_pos q]; exact r.repl k ry
  · rw [if_neg q,if_neg q]; exact Paired.snoc r ⟨rfl,hb,ry⟩
theorem KT.keeps {H H':Hp} {kvs:List (List Key × V)} {xs:List (List Key × Addr × Value)} (r:KT H kvs xs) (ht:∀ b ys,H b=some (.tup ys)→H' b=some (.tup ys)):KT H' kvs xs :=
  Paired.mapP r fun _ _ z=>⟨z.1,ht _ _ z.2.1,z.2.2⟩
section
variable {P:Program} {w:World} {H:Hp} {h:Heap} {a:Addr}
theorem zka {u:HO} (ok:HOk P w H h) (e:Rd H a u):ObjOk P w H h a u:=e.ok ok
theorem zjL {kvs:List (Key × V)} (ok:HOk P w H h) (e:Rd H a (.dK kvs)):kvs.length ≤ sizeLine∧(a == sysModules)=false∧∃ vs,KV kvs vs∧h.DictOf (zbh P w) a vs :=
  show ObjOk P w H h a (.dK kvs) from zka ok e
theorem zkB {kvs:List (Key × V)} (ok:HOk P w H h) (e:H a=some (.dK kvs)):kvs.length ≤ sizeLine∧(a == sysModules)=false∧∃ vs,KV kvs vs∧h.DictOf (zbh P w) a vs:=zjL ok (.inl e)
theorem zht {ks:List Key} (ok:HOk P w H h) (e:H a=some (.tup (ks.map kV))):(tupleKind (zbh P w)).is h ks a:=by
  obtain ⟨_,its,r,o,h1,h2,n,h3⟩:=(show ObjOk P w H h a (.tup (ks.map kV)) from ok a _ e)
  exact ⟨o,its.toArray,n,h1,h2,h3,by simpa using zeX r⟩
theorem zj7 {kvs:List (List Key × V)} (ok:HOk P w H h) (e:Rd H a (.dT kvs)):kvs.length ≤ sizeLine∧(a == sysModules)=false ∧
    ∃ xs,KT H kvs xs∧h.DictOfH (tupleKind (zbh P w)) a xs:=by
  obtain ⟨z,y,xs,r,o,es,ep,h1,h2,h3,h4,h5⟩:=(show ObjOk P w H h a (.dT kvs) from zka ok e)
  refine ⟨z,y,xs,r,o,es,ep,h1,h2,h3,h4,fun x hx=>?_,h5⟩
  have all:∀ {l:List (List Key × V)} {m:List (List Key × Addr × Value)},KT H l m→∀ x ∈ m,(tupleKind (zbh P w)).is h x.1 x.2.1:=by
    intro l m q
    induction q with
    | nil=>intro x hx; exact nomatch hx
    | @cons p q ps qs hq t ih =>
      intro x hx
      rcases List.mem_cons.mp hx with e | hx
      · subst e
        exact zht ok (by rw [← hq.1]; exact hq.2.1)
      · exact ih x hx
  exact all r x hx
theorem zkr {kvs:List (List Key × V)} (ok:HOk P w H h) (e:H a=some (.dT kvs)):kvs.length ≤ sizeLine∧(a == sysModules)=false ∧
    ∃ xs,KT H kvs xs∧h.DictOfH (tupleKind (zbh P w)) a xs:=zj7 ok (.inl e)
end
def DGet (H:Hp) (a:Addr) (y:V) (r:Option V):Prop :=
  (∃ kvs k,Rd H a (.dK kvs)∧y=kV k∧r=valV kvs k)∨∃ kvs k b,Rd H a (.dT kvs)∧y = .ref b∧H b=some (.tup (k.map kV))∧r=valV kvs k
def DPut (H:Hp) (a:Addr) (y v:V) (H':Hp):Prop :=
  (∃ kvs k,H a=some (.dK kvs)∧y=kV k∧kvs.length < sizeLine∧H'=upd H a (.dK (putK kvs k v))) ∨
  ∃ kvs k b,H a=some (.dT kvs)∧y = .ref b∧H b=some (.tup (k.map kV))∧kvs.length < sizeLine∧H'=upd H a (.dT (putK kvs k v))
theorem DGet.k {H:Hp} {a:Addr} {kvs:List (Key × V)} {k:Key} (e:H a=some (.dK kvs)):DGet H a (kV k) (valV kvs k):=.inl ⟨kvs,k,.inl e,rfl,rfl⟩
theorem DPut.k {H:Hp} {a:Addr} {kvs:List (Key × V)} {k:Key} {v:V} (e:H a=some (.dK kvs)) (hl:kvs.length < sizeLine):DPut H a (kV k) v (upd H a (.dK (putK kvs k v))):=.inl ⟨kvs,k,e,rfl,hl,rfl⟩
section
variable {X:Cx} {pins:List (Addr × Obj)} {σ:St} {H:Hp} {s:Shared} {a:Addr} {y v:V} {u r:Value} {o:Option V} {A:Around} {E:Value→Shared→Prop}
theorem Inv.big (I:Inv X pins σ H s):sysModules < s.heap.objs.size:=by
  have h:mainGlobals < s.heap.objs.size:=(I.mod.glob.keeps I.bk).lt
  exact Nat.lt_trans (by decide) h
theorem d_in {Q:Value→Shared→Prop} (hu:A.units + 1 < cLine) (I:Inv X pins σ H s) (g:DGet H a y o) (ry:RelV y u) (h:∀ s',Inv X pins σ H s'→Q (.bool o.isSome) s') :
    wpAny (model X.prog X.w) A (compareOp .In u (.ref a)) Q E s:=by
  rcases g with ⟨kvs,k,e,ey,l⟩ | ⟨kvs,k,b,e,ey,eb,l⟩
  · subst ey
    obtain ⟨z,hd,vs,rel,dd⟩:=zjL I.hok e
    refine wpAny_in_of (zi3 ry) hd dd.mapOf ?_
    rw [← (rel.val k).isSome_eq,← l]
    exact h _ (I.tok _)
  · subst ey
    cases (show u=Value.ref b from ry)
    obtain ⟨z,hd,xs,rel,dd⟩:=zj7 I.hok e
    refine wpAny_in_heap (tupleKind_room_in1 hu) (zht I.hok eb) hd dd ?_
    have q:=(rel.val k).isSome_eq
    rw [Option.isSome_map] at q
    rw [← q,← l]
    exact h _ (I.tok _)
theorem zgU {h':Heap} {t':Nat} {ob:HO} (I:Inv X pins σ H s) (mu:Mut (H a)) (hs:Heap.SameBut a s.heap h') (he:∃ q,h'.get? a=some q) (new:ObjOk X.prog X.w (upd H a ob) h' a ob) :
    Inv X pins σ (upd H a ob) { s with heap:=h',toks:=t' } :=
  I.write (x:=a) (e:=a) mu (.inl rfl) (fun b q hb z=>(hs.2 b hb).trans z) he new
theorem zkh {P:Program} {w:World} {H':Hp} {h':Heap} {kvs:List (Key × V)} {vs:List (Key × Value)} (z:kvs.length ≤ sizeLine) (hd:(a == sysModules)=false) (rel:KV kvs vs) (dd:h'.DictOf (zbh P w) a vs) :
    ObjOk P w H' h' a (.dK kvs):=⟨z,hd,vs,rel,dd⟩
theorem zhV {H':Hp} {Q:Unit→Shared→Prop} (hu:A.units + 1 < cLine) (I:Inv X pins σ H s) (g:DPut H a y v H') (ry:RelV y u) (rv:RelV v r) (h:∀ s',Inv X pins σ H' s'→Q () s') :
    wpAny (model X.prog X.w) A (setItem (.ref a) u r) Q E s:=by
  rcases g with ⟨kvs,k,e,ey,l,eH⟩ | ⟨kvs,k,b,e,ey,eb,l,eH⟩
  · subst ey eH
    obtain ⟨z,hd,vs,rel,dd⟩:=zkB I.hok e
    have hz:vs.length ≤ sizeLine:=by rw [← rel.length]; exact z
    have hl:(putK kvs k v).length ≤ sizeLine:=by have:=zdw kvs k v; omega
    refine wpAny_setItem_pairs (hsz:=hz) (zi3 ry) dd fun h' dd' hs=>h _ ?_
    have he:∃ q,h'.get? a=some q:=let ⟨q,_,_,hq,_⟩:=dd'; ⟨q,hq⟩
    exact zgU I (by rw [e]; exact True.intro) hs he (zkh hl hd (rel.put k rv) dd')
  · subst ey eH
    cases (show u=Value.ref b from ry)
    obtain ⟨z,hd,xs,rel,dd⟩:=zkr I.hok e
    have hz:xs.length ≤ sizeLine:=by rw [← Paired.length rel]; exact z
    have hl:(putK kvs k v).length ≤ sizeLine:=by have:=zdw kvs k v; omega
    refine wpAny_setItem_heap (hsz:=hz) (tupleKind_room_in1 hu) (zht I.hok eb) dd fun h' dd' hs=>h _ ?_
    obtain ⟨q,es,ep,hq,h2,h3,h4,_,h5⟩:=dd'
    refine zgU I (by rw [e]; exact True.intro) hs ⟨q,hq⟩ ⟨hl,hd,_,(rel.put k eb rv).keeps fun c ys ec=>?_,q,es,ep,hq,h2,h3,h4,h5⟩
    rw [zag (zkL ec e (fun z=>nomatch z))]
    exact ec
end
section
variable {X:Cx} {pins:List (Addr × Obj)} {σ:St} {H:Hp} {s:Shared} {a:Addr} {kvs:List (Key × V)} {k:Key} {u:Value} {A:Around} {E:Value→Shared→Prop}
end
def tDIn (ty td:TE):TE:=fun σ H Q=>ty σ H fun y H1=>td σ H1 fun x H2=>∃ a o,x = .ref a∧DGet H2 a y o∧Q (.bl o.isSome) H2
def zj6 (td ty tv:TE):TS:=fun D σ H=>tv σ H fun v H1=>td σ H1 fun x H2=>ty σ H2 fun y H3=>∃ a H4,x = .ref a∧DPut H3 a y v H4∧D.nx σ H4
section
variable {X:Cx} {o i e value:Expr} {pos pos' tpos:Pos} {td ty tv:TE}
theorem zjO (hu:X.A.units + 1 < cLine) (hi:PE X i ty) (ho:PE X o td):PC X .In i o (tDIn ty td):=by
  intro pins s σ H Q I h
  refine thn (hi pins s σ H _ I h) fun iv s1 ⟨y,H1,I1,ry,q1⟩=>thn (ho pins s1 σ H1 _ I1 q1) fun u s2 ⟨x,H2,I2,rx,a,ov,ex,g,q2⟩=>?_
  subst ex
  obtain rfl:u=Value.ref a:=rx
  exact d_in hu I2 g ry fun s3 I3=>⟨.bl ov.isSome,H2,I3,rfl,q2⟩
theorem zhE (hu:X.A.units + 1 < cLine) (ho:PE X o td) (hi:PE X i ty) (hv:PE X value tv) (hs:swapsWith value (some (.Subscript o i pos')) pos.line X.env=pure false) :
    PS X (.Assign [.Subscript o i pos'] value pos) (zj6 td ty tv):=by
  intro pins s σ H D I h
  refine wpAny_Assign_Subscript (thn (hv pins s σ H _ I h) fun r s1 ⟨v,H1,I1,rv,q1⟩=>thn (ho pins s1 σ H1 _ I1 q1) fun u s2 ⟨x,H2,I2,rx,q2⟩=>thn (hi pins s2 σ H2 _ I2 q2) fun iv s3 ⟨y,H3,I3,ry,a,H4,ex,g,q3⟩=>?_) hs
  subst ex
  obtain rfl:u=Value.ref a:=rx
  exact zhV hu I3 g ry rv fun s4 I4=>⟨σ,H4,I4,q3⟩
end
theorem zh8 {P:Program} {w:World} {H:Hp} (h:Heap) (hb:sysModules < h.objs.size):ObjOk P w H (h.push { cls:=.type "dict",data:=.dict #[] }) h.objs.size (.dK []) :=
  ⟨Nat.zero_le _,beq_eq_false_iff_ne.mpr (Ne.symm (Nat.ne_of_lt hb)),[],.nil,Heap.DictOf.new h⟩
def ziY:TE:=fun _ H Q=>∀ p,H p=none→Q (.ref p) (upd H p (.dK []))
section
variable {X:Cx} {pos:Pos}
theorem ziq:PE X (.Dict [] [] pos) ziY:=fun pins s σ H Q I h =>
  wpAny_Dict_empty ⟨.ref s.heap.objs.size,_,I.laid (a:=s.heap.objs.size) (o:=.dK []) (t':=s.toks) (fun _ _ q=>Heap.get?_push_of_some _ q) (Nat.le_refl _) (zh8 s.heap I.big),rfl,h _ (I.hok.fresh (Nat.le_refl _))⟩
end
section
variable {X:Cx} {pins:List (Addr × Obj)} {σ:St} {H:Hp} {s:Shared} {a:Addr} {y d:V} {u r:Value} {o:Option V} {A:Around} {E:Value→Shared→Prop}
end
section
variable {X:Cx} {o e f:Expr} {apos cpos:Pos} {td ty tx:TE}
end
section
variable {X:Cx} {pins:List (Addr × Obj)} {σ:St} {H:Hp} {s:Shared} {a:Addr} {kvs:List (Key × V)} {A:Around} {E:Value→Shared→Prop}
end
section
variable {X:Cx} {pins:List (Addr × Obj)} {σ:St} {H:Hp} {s:Shared} {a:Addr} {y:V} {u:Value} {A:Around} {E:Value→Shared→Prop}
end
end L2
namespace Att
open PySem PySem.W PySem.Calls PyProof.Rows
theorem zdp {P:Params} {h:Heap}:∀ (ns:List Int) (vs:List Value),WellAll P h vs (ns.map WData.int)→IntsAre vs ns:=by
  intro ns
  induction ns with
  | nil =>
    intro vs w
    rw [List.map_nil] at w
    cases w
    exact .nil
  | cons n ns ih =>
    intro vs w
    rw [List.map_cons] at w
    cases w with
    | cons a b =>
      cases a
      exact .cons _ _ (ih _ b)
theorem zhq {l:OpenLaw} {n:Nat} (hn:l.most=some n) {P:Params} {h:Heap} {args:List WData} {vals:List Value}
    (hpre:l.row.toRowW.claim.pre args=true) (hwl:WellAll P h vals args) :
    ∃ a vs ns,vals = [Value.ref a]∧args = [WData.list (ns.map WData.int)]∧h.get? a=some { cls:=.type "list",data:=.seq vs.toArray }∧IntsAre vs ns∧ns.length ≤ n:=by
  have hsh:WShape.hasAll [] args [.list .int]=true:=(pre_splitW hpre).1
  have hc:l.pre.holds [] { args:=args }=true:=(pre_splitW hpre).2
  obtain ⟨d,r,rfl,h1,h2⟩:=hasAllW_cons hsh
  obtain rfl:=hasAllW_nil h2
  obtain ⟨xs,rfl,h3⟩:=hasW_list h1
  obtain ⟨ns,rfl⟩:=items_int h3
  have hlen:ns.length ≤ n:=by
    unfold OpenLaw.pre at hc
    have h4:(WTm.not (.lt (.lit (.int (n:Int))) (.len (.arg 0)))).holds [] { args:=[.list (ns.map .int)] }=true:=by
      have h4:=(holds_andW hc).1
      rw [hn] at h4
      exact h4
    have h5:=condW_of h4 (w_not (w_lt w_lit (w_len_list (w_arg rfl))))
    rw [List.length_map] at h5
    refine Nat.le_of_not_lt fun q=>?_
    have q':(n:Int) < ((ns.length:Nat):Int):=by omega
    first
      | (rw [decide_eq_true q'] at h5; exact absurd h5 (by decide))
      | (simp at h5; omega)
  cases hwl with
  | cons w1 w2 =>
    cases w2
    cases w1 with
    | list ho hall=>exact ⟨_,_,ns,rfl,rfl,ho,zdp ns _ hall,hlen⟩
theorem zhF (l:OpenLaw) (args:List WData):l.row.toRowW.claim.post args (.bool true) args=true :=
  postW_of (r:=l.row.toRowW) (X:=(true == true))
    (show WShape.has [] (.bool true) .bool=true by first | rfl | decide | simp [WShape.has,WShape.arms,WShape.armsAll])
    (show (WTm.eq .res (.lit (.bool true))).value [] { args:=args,res:=some (.bool true),after:=args }=some (.bool (true == true)) from w_eq_bool (w_res rfl) w_lit) rfl
theorem attach_call {l:OpenLaw} {n:Nat} {q:Program} {loose:List Str} {XP:(Str→Option Value)→Heap→Prop} {YP:World→Heap→Prop} {d:DefRec}
    (hn:l.most=some n) (hdf:d.params.defaults = [])
    (call:∀ (w:World) (s₀ s₁:Shared) (mg mb:Str→Option Value) (fa:Addr) (o:Obj) (pm cd doc:Value) (a:Addr) (vs:List Value) (ns:List Int),
      Ground q loose [] XP w s₀ mg mb s₁.heap→YP w s₁.heap →
      s₁.heap.get? fa=some o→o.data = .func (docDef d.name d.params d.body d.scope pm cd doc)→s₁.heap.CodeRec cd d.name→mg d.name=some (.ref fa) →
      s₁.heap.get? a=some { cls:=.type "list",data:=.seq vs.toArray }→IntsAre vs ns→ns.length ≤ n→s₁.gens = #[] →
      codeAny (model l.prog w) callerA (.call (.ref fa) ⟨[.ref a],[]⟩) (fun r s'=>r = .ok (.ret (.bool true))∧OldK s₁.heap s'.heap∧s'.os=s₁.os∧AllBare s'.gens) s₁) :
    WalkO q loose XP YP l.row.toRowW d [] (fun f vs=>PySem.call f vs):=by
  intro w s₀ s₁ mg mb G Y fa o pm cd doc dV kV ho hd hcd hD hmg hg args vals as hpre hlay hrd hwl hlo
  obtain rfl:dV = .none:=Dflts.none hD hdf
  obtain rfl:kV = .none:=Dflts.noKw hD
  obtain ⟨a,vs,ns,rfl,rfl,hobj,hints,hlen⟩:=zhq hn hpre hwl
  refine enter_call (codeAny_mono (call w s₀ s₁ mg mb fa o pm cd doc a vs ns G Y ho (fd_plain hd) hcd hmg hobj hints hlen hg) fun r s' hq=>?_)
  obtain ⟨rfl,h2,h3,h4⟩:=hq
  exact ⟨.inl ⟨.bool true,.bool true,[],rfl,fun _=>rfl,.bool true,zhF l _,fun _=>⟨List.Pairwise.nil,fun _ hm=>(nomatch hm)⟩⟩,h2,h3,h4⟩
section
variable {prog:Program} {w:World} {A:Around} {E:Value→Shared→Prop} {s:Shared} {K:Frag}
end
end Att
namespace L2
open PySem PySem.Spec PyProof.Rows
theorem ze7:∀ {vs:List Value} {ns:List Int},IntsAre vs ns→Vals (ns.map V.int) vs
  | _,_,.nil=>.nil
  | _,_,.cons n t h=>.cons ⟨t,rfl⟩ (ze7 h)
def Only (H:Hp):Prop:=∀ b,H b=none∨∃ o xs,H b=some (.frz o (.lst xs))
theorem zh7 {P:Program} {w:World} {K:PySem.W.Frag} {mg mb:Str→Option Value} {CX:CXT} {k:Nat} {fa a:Addr} {fd:FuncData} {x:Str} {sp:Sp} {s₁:Shared} {vs:List Value} {ns:List Int}
    (KX:K.In s₁.heap) (hT0:tabOf K=none) (hns:s₁.heap.Ns mainGlobals mg) (hb:s₁.heap.Ns builtinsNs mb) (hbb:∀ x:Str,x ≠ "__name__"→mb x=bootBuiltins x) (hlim:s₁.heap.NoLimit) (hg:s₁.gens = #[])
    (ha:s₁.heap.get? a=some { cls:=.type "list",data:=.seq vs.toArray }) (hi:IntsAre vs ns) (hl:ns.length ≤ sizeLine) (hr:Room k callerA)
    (F:∀ base:Heap,K.In base→base.Ns mainGlobals mg→FnOk P w K mg base CX k fa fd [x] sp) (hbind:∀ (s:Shared) (u:Value),BindsTo s fd ⟨[u],[]⟩ [(x,u)])
    (hsp:∀ H:Hp,Only H→SqL K H a (ns.map V.int)→sp [.ref a] H (fun v _=>v = .bl true) fun _ _ _=>False)
    (hCX:∀ H e s',CX [] H s₁ (fun _ _ _=>False) e s'→False) :
    codeAny (model P w) callerA (.call (.ref fa) ⟨[.ref a],[]⟩) (fun r s'=>r = .ok (.ret (.bool true))∧OldK s₁.heap s'.heap∧s'.os=s₁.os∧AllBare s'.gens) s₁:=by
  have rv:=ze7 hi
  have lenV:=hi.length
  -- from an abstract heap in which nothing but the script may be tracked
  have core:∀ H:Hp,Only H→SqL K H a (ns.map V.int)→HOk P w H s₁.heap→(∀ b,H b ≠ none→b=a)→(H a ≠ none→K.lookup a=none) →
      codeAny (model P w) callerA (.call (.ref fa) ⟨[.ref a],[]⟩) (fun r s'=>r = .ok (.ret (.bool true))∧OldK s₁.heap s'.heap∧s'.os=s₁.os∧AllBare s'.gens) s₁:=by
    intro H hO hS hok hA hK
    have base_of:∀ {b:Addr} {o:Obj},s₁.heap.get? b=some o→H b=none→(hidT s₁.heap H).get? b=some o:=fun e n=>zin e n
    have noA:∀ {b:Addr} {o:Obj} {es:Array DictEntry} {ep:Nat},s₁.heap.get? b=some o→o.data = .dict es ep→H b=none:=fun {b o es ep} e d=>by
      cases q:H b with
      | none=>rfl
      | some u =>
        have e':b=a:=hA b (by rw [q]; simp)
        subst e'
        rw [ha] at e; cases e
        have d':Data.seq vs.toArray _=Data.dict es ep:=d
        cases d'
    have nsK:∀ {b:Addr} {m:Str→Option Value},s₁.heap.Ns b m→(hidT s₁.heap H).Ns b m:=fun {b m} ⟨o,es,ep,e,d,r⟩=>⟨o,es,ep,base_of e (noA e d),d,r⟩
    have hKb:K.In (hidT s₁.heap H):=fun b o e=>base_of (KX b o e) (by
      cases q:H b with
      | none=>rfl
      | some u =>
        have e':b=a:=hA b (by rw [q]; simp)
        subst e'
        rw [hK (by rw [q]; simp)] at e; cases e)
    have hM:Mod K mg (hidT s₁.heap H):=⟨hKb,nsK hns,⟨mb,nsK hb,hbb⟩,let ⟨mc,h1,h2⟩:=hlim; ⟨mc,nsK h1,h2⟩⟩
    have e0:Env0 P w K mg (hidT s₁.heap H) callerA [] s₁ H:=⟨rfl,hM,fun b o e=>zjj e,Nat.le_of_eq (zh3 _ _),trivial,fun b hb=>absurd (show b ∈ ([]:List Addr) from hb) (by simp),hok,.of_eq hg,.none hT0⟩
    refine codeAny_mono ((F _ hKb (nsK hns)).run callerA [] s₁ H ⟨[.ref a],[]⟩ [.ref a] [.ref a] _ _ hr e0 (hbind s₁ (.ref a)) (.cons rfl .nil) (hsp H hO hS)) fun r s' h=>?_
    cases r with
    | error e=>exact (hCX H e s' h).elim
    | ok fl =>
      cases fl with
      | next=>exact False.elim h
      | brk=>exact False.elim h
      | cont=>exact False.elim h
      | ret u =>
        obtain ⟨v,H',os,bare,un,hok',r',q⟩:=h
        have q':v = .bl true:=q
        subst q'
        obtain rfl:u=Value.bool true:=r'
        refine ⟨rfl,OldK.of_keep fun b o e=>?_,os,bare⟩
        cases q:H b with
        | none=>exact un.keep b o e q (by intro z; exact absurd (show b ∈ ([]:List Addr) from z) (by simp)) (by simp)
        | some u =>
          rcases hO b with z | ⟨ob,xs,z⟩
          · rw [q] at z; cases z
          · have z2:=un.frzs b ob _ z
            obtain ⟨e1,_⟩:=hok b _ z
            obtain ⟨e2,_⟩:=hok' b _ z2
            rw [e] at e1; cases e1
            exact e2
  cases hk:K.lookup a with
  | some o =>
    -- the script is one of the module's own objects
    have e:=KX a o hk
    rw [ha] at e
    cases e
    refine core (fun _=>none) (fun _=>.inl rfl) (.inr ⟨_,vs.toArray,_,hk,rfl,rfl,rfl,by rw [List.size_toArray,lenV]; exact hl,by simpa using rv⟩) (fun b u z=>by have z':(none:Option HO)=some u:=z; cases z') (fun b z=>absurd rfl z) fun z=>absurd rfl z
  | none =>
    refine core (fun b=>if b=a then some (.frz { cls:=.type "list",data:=.seq vs.toArray } (.lst (ns.map V.int))) else none) (fun b=>?_) (.inl (.inr ⟨{ cls:=.type "list",data:=.seq vs.toArray },if_pos rfl⟩)) (fun b u z=>?_) (fun b z=>?_) fun _=>hk
    · by_cases hb:b=a
      · exact .inr ⟨_,_,if_pos hb⟩
      · exact .inl (if_neg hb)
    · by_cases hb:b=a
      · have z':=(if_pos hb).symm.trans z
        cases z'
        subst hb
        exact ⟨ha,by rw [List.length_map]; exact hl,vs,_,rv,ha⟩
      · have z':=(if_neg hb).symm.trans z
        cases z'
    · by_cases hb:b=a
      · exact hb
      · exact absurd (if_neg hb) z
end L2
namespace L2
open PySem PySem.Spec PyProof.Rows
theorem walk_of {l:PySem.W.OpenLaw} {n k:Nat} {q:Program} {loose:List Str} {XP:(Str→Option Value)→Heap→Prop} {YP:World→Heap→Prop} {d:DefRec} {K:Params→PySem.W.Frag} {CX:World→CXT} {sp:World→Sp} {x:Str}
    (hn:l.most=some n) (hn2:n ≤ sizeLine) (hdf:d.params.defaults = []) (hr:Room k callerA)
    (hY:∀ (w:World) (h:Heap),YP w h→(K w.params).In h) (hT0:∀ w:World,tabOf (K w.params)=none)
    (F:∀ (w:World) (mg:Str→Option Value) (fa:Addr) (h:Heap),(K w.params).In h→h.Ns mainGlobals mg→mg d.name=some (.ref fa) →
      ∃ fd:FuncData,(∀ (s:Shared) (u:Value),BindsTo s fd ⟨[u],[]⟩ [(x,u)]) ∧
        ∀ base:Heap,(K w.params).In base→base.Ns mainGlobals mg→FnOk l.prog w (K w.params) mg base (CX w) k fa fd [x] (sp w))
    (hsp:∀ (w:World) (H:Hp) (a:Addr) (ns:List Int),ns.length ≤ n→Only H→SqL (K w.params) H a (ns.map V.int)→sp w [.ref a] H (fun v _=>v = .bl true) fun _ _ _=>False)
    (hCX:∀ (w:World) (H:Hp) (s:Shared) (e:Value) (s':Shared),CX w [] H s (fun _ _ _=>False) e s'→False) :
    PySem.W.WalkO q loose XP YP l.row.toRowW d [] (fun f vs=>PySem.call f vs):=by
  refine Att.attach_call hn hdf fun w s₀ s₁ mg mb fa o pm cd doc a vs ns G Y ho hd hcd hmg hobj hints hlen hg=>?_
  have KX:=hY w _ Y
  obtain ⟨fd,hb,hF⟩:=F w mg fa _ KX G.T.g hmg
  exact zh7 KX (hT0 w) G.T.g G.T.b G.T.builtins G.T.nolimit hg hobj hints (Nat.le_trans hlen hn2) hr hF hb (fun H hO hS=>hsp w H a ns hlen hO hS) fun H e s'=>hCX w H s₁ e s'
end L2
namespace L2
open PySem PySem.Spec PyProof.Rows
def zcz (s:Stmt):Arguments:=match s with
  | .FunctionDef _ a _ _ _ _ _ _ _ _=>a
  | _=>{ posonlyargs:=[],args:=[],vararg:=none,kwonlyargs:=[],kw_defaults:=[],kwarg:=none,defaults:=[] }
def zci (s:Stmt):List Stmt:=match s with
  | .FunctionDef _ _ b _ _ _ _ _ _ _=>b
  | _=>[]
def zar (s:Stmt):Scope:=match s with
  | .FunctionDef _ _ _ _ _ _ sc _ _ _=>sc
  | _=>{ kind:=.function,names:=[],isGenerator:=false,isCoroutine:=false }
abbrev CX0:CXT:=fun _ _ _ _ _ _=>False
abbrev E0:XK:=fun _ _ _=>False
theorem zbt {X:Cx}:zgg CX0 X E0:=fun _ _ _ _ _ _ _ h=>h.elim
structure Fun (K:PySem.W.Frag) (x qual:Str) (st:Stmt) (f:Addr) (fd:FuncData):Prop where
  ex:∃ (oc:Value) (od:Option Addr) (kV doc pm:Value) (an:Option Addr) (cdv ct:Value) (osl:Array (Option Value)),
    fd=PySem.W.fnOf x qual (zcz st) (zci st) (zar st) .none kV doc pm an cdv ct∧K.lookup f=some ⟨oc,od,.func fd,osl⟩∧PySem.W.codeIn K cdv qual=true
  kp:PySem.W.keepIn K (.ref f)=true
section
variable {P:Program} {w:World} {K:PySem.W.Frag} {mg:Str→Option Value} {base:Heap}
theorem Fun.ok {x qual:Str} {st:Stmt} {f:Addr} {fd:FuncData} {N ps:List Str} {k:Nat} {sp:Sp} (F:Fun K x qual st f fd) (S:FnScope N ps (zar st)) (len:∀ vs H Q E,sp vs H Q E→vs.length=ps.length)
    (hbody:∀ (cdv:Value) (A:Around) (outer:List Env) (s:Shared) (H:Hp) (vs:List V) (Q:VK) (E:XK),Room k (A.deeper (envOfC qual (zar st) s.heap.objs.size f cdv))→sp vs H Q E →
      ∃ t,PSs (cxOf CX0 P w K mg base N qual (zar st) f cdv A outer s H E).nox (zci st) t∧t { nx:=fun _ H'=>Q .non H',rt:=Q } (start N vs) H):FnOk P w K mg base CX0 (k + 1) f fd ps sp:=by
  obtain ⟨oc,od,kV,doc,pm,an,cdv,ct,osl,rfl,lk,hcd⟩:=F.ex
  refine zkA lk hcd S len fun A outer s H vs Q E hr hsp=>?_
  obtain ⟨t,h,q⟩:=hbody cdv A outer s H vs Q E hr hsp
  exact ⟨t,h.nox,q⟩
theorem Fun.binds {x qual:Str} {st:Stmt} {f:Addr} {fd:FuncData} {ps:List Str} (F:Fun K x qual st f fd)
    (h:∀ (kV doc pm:Value) (an:Option Addr) (cdv ct:Value) (us:List Value),us.length=ps.length→bindArgs (PySem.W.fnOf x qual (zcz st) (zci st) (zar st) .none kV doc pm an cdv ct) ⟨us,[]⟩=pure (ps.zip us)):Binds K fd ps []:=by
  obtain ⟨oc,od,kV,doc,pm,an,cdv,ct,osl,rfl,lk,hcd⟩:=F.ex
  exact .all (h kV doc pm an cdv ct)
theorem ziW {x qual:Str} {st:Stmt} {f:Addr} {oc:Value} {od an:Option Addr} {osl:Array (Option Value)} {kV doc pm cdv ct:Value} (l:K.lookup f=some ⟨oc,od,.func (PySem.W.fnOf x qual (zcz st) (zci st) (zar st) .none kV doc pm an cdv ct),osl⟩)
    (c:PySem.W.codeIn K cdv qual=true) (k:PySem.W.keepIn K (.ref f)=true):Fun K x qual st f (PySem.W.fnOf x qual (zcz st) (zci st) (zar st) .none kV doc pm an cdv ct):=⟨⟨oc,od,kV,doc,pm,an,cdv,ct,osl,rfl,l,c⟩,k⟩
end
theorem zde {A:Around} {k:Nat} (hr:Room k A):A.units + 1 < cLine:=Nat.lt_of_le_of_lt (Nat.add_le_add_left (by decide:1 ≤ 64) _) hr.units
section
variable {X:Cx}
theorem pv (i:Nat) {x:Str} {pos:Pos} (hN:X.N[i]?=some x:=by rfl) (hv:Vis X.env.scope x:=by first | exact Or.inl rfl | exact Or.inr (Or.inl rfl) | exact Or.inr (Or.inr rfl)) (hd:(x == ("__debug__" : Str))=false:=by decide)
    (hcd:(x == ("__classdict__" : Str))=false:=by decide):PE X (.Name x pos) (tVar i):=zj9 hN hv hd hcd
end
def Same (H H':Hp):Prop:=∀ b o,H b=some o→H' b=some o
theorem Same.refl (H:Hp):Same H H:=fun _ _ h=>h
theorem Same.trans {H H1 H2:Hp} (a:Same H H1) (b:Same H1 H2):Same H H2:=fun c o h=>b c o (a c o h)
theorem Same.free {H H':Hp} (e:Same H H') {l:Addr} (h:H' l=Option.none):H l=Option.none:=by
  cases q:H l with
  | none=>rfl
  | some o =>
    rw [e l o q] at h
    cases h
theorem Same.seq {K:PySem.W.Frag} {H H':Hp} {a:Addr} {xs:List V} (e:Same H H') (h:SqL K H a xs):SqL K H' a xs:=by
  rcases h with (h | ⟨o,h⟩) | h
  · exact .inl (.inl (e _ _ h))
  · exact .inl (.inr ⟨o,e _ _ h⟩)
  · exact .inr h
section
variable {κ:Type} [DecidableEq κ]
end
end L2
namespace L2
open PySem PySem.Spec PyProof.Rows
def Fit (i:Int):Prop:=i.natAbs < 2 ^ 8000
theorem log2_lt {n k:Nat} (hk:0 < k) (h:n < 2 ^ k):n.log2 < k:=by
  by_cases h0:n=0
  · subst h0; simpa using hk
  · exact (Nat.log2_lt h0).mpr h
theorem Fit.log {i:Int} (h:Fit i):i.natAbs.log2 < 8000:=log2_lt (by decide) h
theorem Fit.bits {i:Int} (h:Fit i):Builtin.Int.intBits i ≤ 2 ^ 20:=by
  have h1:=h.log
  have h2:(8000:Nat) ≤ 2 ^ 20:=by decide
  unfold Builtin.Int.intBits
  split <;> omega
section
variable {X:Cx}
theorem zfv:OpR X (binaryOp .Mult) (rI (fun i j=>Fit i∧Fit j) fun i j=>.int (i * j)):=opI fun _ _ _ _ _ _ _ hc q=>mul_int q (.of_bits hc.1.bits hc.2.bits)
theorem zbG:OpR X (binaryOp .FloorDiv) (rI (fun _ j=>j ≠ 0∧Fit j) fun i j=>.int (i.fdiv j)):=opI fun _ _ _ _ _ _ _ hc q =>
  floordiv_int hc.1 q (.inl (PyProof.noPylong_of_log2 (Nat.lt_trans hc.2.log (by decide))))
end
def clsV:V→Option Value
  | .ty n=>some (.type n)
  | .ref a=>some (.ref a)
  | _=>none
section
variable {X:Cx}
theorem zij {c:V} {cv u:Value} (h:clsV c=some cv) (r:RelV c u):u=cv:=by
  cases c with
  | ty n=>cases h; exact r
  | ref a=>cases h; exact r
  | _=>cases h
def rIs (K:PySem.W.Frag):List V→Hp→VK→Prop:=fun xs H Q=>∃ x c cv t b,xs = [x,c]∧clsV c=some cv∧TyOf K H x t∧PySem.W.kitOne K t cv=some b∧Q (.bl b) H
theorem zaY:zgq X (.builtin "isinstance") (rIs X.K):=by
  intro pins s σ H xs us Q I r h
  obtain ⟨x,c,cv,t,b,rfl,hc,ty,hk,q⟩:=h
  obtain ⟨u,v,rfl,rx,ry⟩:=zjz r
  cases zij hc ry
  exact zho I rx ty hk fun tk=>⟨.bl b,H,I.tok _,rfl,q⟩
end
def Ite (K:PySem.W.Frag) (a:Addr):It :=
  ⟨fun i H=>∃ xs x,SqL K H a xs∧xs[i]?=some x,fun i H x H'=>∃ p y,x = .ref p∧H p=none∧H'=upd H p (.tup [.int i,y])∧∀ xs,SqL K H a xs→xs[i]?=some y,fun i H=>∃ xs,SqL K H a xs∧xs.length ≤ i⟩
theorem zhn {P:Program} {w:World} {K:PySem.W.Frag} {es:List Expr} {k} {pos:Pos} (a e it:Addr) (hne:e ≠ it) :
    Turn P w K (.Tuple es k pos) (Ite K a) [e,it] e (fun i h=>(∃ old,IsEnum h e it i old)∧h.IsListIter it a i) where
  mem:=by simp
  obj:=fun i h st b hb=>by
    obtain ⟨⟨old,h1⟩,o,h2,c,d⟩:=st
    rcases List.mem_cons.mp hb with rfl | hb
    · exact ⟨_,h1,fun v z=>by cases (show Data.fields _=Data.cell v from z)⟩
    · have e':b=it:=by simpa using hb
      subst e'
      exact ⟨o,h2,fun v z=>by rw [d] at z; cases z⟩
  keep:=fun i h h' st k=>by
    obtain ⟨⟨old,h1⟩,h2⟩:=st
    exact ⟨⟨old,k e (by simp) _ h1⟩,h2.at fun o q=>k it (by simp) o q⟩
  item:=by
    intro X hP hw hK hc i pins s σ H E I hf st hg
    subst hP hw hK
    obtain ⟨xs,x,hq,hx⟩:=hg
    obtain ⟨its,rv,p,hz⟩:=I.list hq
    obtain ⟨u,hu,ru⟩:=rv.get hx
    obtain ⟨⟨old,he⟩,hit⟩:=st
    obtain ⟨f0,f1,f2,f3,f4,f5⟩:=hf e (by simp)
    obtain ⟨g0,g1,g2,g3,g4,g5⟩:=hf it (by simp)
    have hT:H s.heap.objs.size=none:=I.hok.fresh (Nat.le_refl _)
    have eT:e ≠ s.heap.objs.size:=Nat.ne_of_lt (Heap.lt_size he)
    have iT:it ≠ s.heap.objs.size:=by obtain ⟨_,z,_⟩:=hit; exact Nat.ne_of_lt (Heap.lt_size z)
    refine wpAny_pyNext_enum_item he hit p.isList (x:=u) (by simpa using hu) hne fun h' ho hit' ht hsz hk=>⟨_,rfl,?_⟩
    refine wpAny_letOwnedTupleGo_enum ho fun h'' he'' hs''=>?_
    have hs2:Heap.SameBut e h' h'':=hs''
    have ht2:h''.get? s.heap.objs.size=some { cls:=.type "tuple",data:=.seq #[.int i s.toks,u] }:=(hs2.2 _ eT.symm).trans ht
    have hk2:∀ b o,b ≠ e→b ≠ it→s.heap.get? b=some o→h''.get? b=some o:=fun b o z1 z2 q=>(hs2.2 b z1).trans (hk b o z1 z2 q)
    have nH:∀ b o,H b=some o→b ≠ e∧b ≠ it:=fun b o q=>⟨(fun z=>by rw [z,f0] at q; cases q),(fun z=>by rw [z,g0] at q; cases q)⟩
    refine ⟨.ref s.heap.objs.size,upd H s.heap.objs.size (.tup [.int i,x]),?_,rfl,⟨_,x,rfl,hT,rfl,fun ys hy=>by rw [I.list_inj hy hq]; exact hx⟩,⟨⟨_,by simpa using he''⟩,hit'.at fun o q=>(hs2.2 it hne.symm).trans q⟩,fun b hb=>?_⟩
    · show Inv X pins σ (upd H s.heap.objs.size (.tup [.int i,x])) { s with heap:=h'',toks:=s.toks + 1 }
      refine I.step (h':=h'') (g':=s.gens) (d':=s.drawn) (t':=s.toks + 1) (ch:=[e,it]) (fun b hb=>?_) (fun b o _ _ hb q _=>?_) (fun b o _ _ hb q _=>⟨o.slots,?_⟩) (fun b o hb q n=>?_) (fun b o hb q=>⟨o,?_⟩) (fun b ys q=>?_) (fun b o ys q=>?_) (fun b ps q=>⟨#[],?_⟩) (fun m hm=>?_) ?_ I.bare
      · rcases List.mem_cons.mp hb with rfl | hb
        · exact ⟨f3,f1,f4,f5⟩
        · have z:b=it:=by simpa using hb
          subst z
          exact ⟨g3,g1,g4,g5⟩
      · exact hk2 b o (fun z=>hb (by simp [z])) (fun z=>hb (by simp [z])) q
      · exact hk2 b o (fun z=>hb (by simp [z])) (fun z=>hb (by simp [z])) q
      · rw [zag (Nat.ne_of_lt (Heap.lt_size q))]; exact n
      · exact hk2 b o (fun z=>hb (by simp [z])) (fun z=>hb (by simp [z])) q
      · rw [zag (zaj q hT)]; exact q
      · rw [zag (zaj q hT)]; exact q
      · rw [zag (zaj q hT),q]; simp
      · obtain ⟨o,es',ep,ho',r⟩:=hm
        exact ⟨o,es',ep,hk2 _ o (Ne.symm f1) (Ne.symm g1) ho',r⟩
      · intro b o q
        by_cases hb:b=s.heap.objs.size
        · subst hb
          rw [zam] at q; cases q
          exact ⟨by show 2 ≤ sizeLine; decide,[.int i s.toks,u],.cons ⟨_,rfl⟩ (.cons ru .nil),⟨_,ht2,rfl,_,rfl⟩⟩
        · rw [zag hb] at q
          refine (I.hok b o q).stay (fun c v hc' q'=>?_) (fun c q'=>by rw [zag (zaj q' hT)]; exact q') fun c ys q'=>by rw [zag (zaj q' hT)]; exact q'
          rcases hc' with rfl | hc'
          · exact hk2 _ v (nH _ _ q).1 (nH _ _ q).2 q'
          · exact hk2 _ v (nH _ _ hc').1 (nH _ _ hc').2 q'
    · rcases List.mem_cons.mp hb with rfl | hb
      · rw [zag eT]; exact f0
      · have z:b=it:=by simpa using hb
        subst z
        rw [zag iT]; exact g0
  done:=by
    intro X hP hw hK hc i pins s σ H E I hf st hg
    subst hP hw hK
    obtain ⟨xs,hq,hx⟩:=hg
    obtain ⟨its,rv,p,hz⟩:=I.list hq
    obtain ⟨⟨old,he⟩,hit⟩:=st
    obtain ⟨g0,g1,g2,g3,g4,g5⟩:=hf it (by simp)
    have hl:=rv.length
    exact wpAny_pyNext_enum_end (I.ok.hd hc) he hit p.isList (by simp; omega) fun h' eb=>⟨rfl,I.turned (t':=s.toks) (fun b o hb q=>eb b o hb q) g0 g1 g3 g4 g5⟩
  self:=fun _ _ _ _ _ st h=>by
    obtain ⟨⟨old,he⟩,_⟩:=st
    exact wpAny_pyIter_enum he h
section
variable {X:Cx}
def zi6 (K:PySem.W.Frag) (ta:TA):TI:=fun σ H R=>ta σ H fun vs H1=>∃ a,vs = [.ref a]∧(∃ xs,SqL K H1 a xs)∧R (Ite K a) H1
theorem zdq {es:List Expr} {k} {tp:Pos} {l:Expr} {ta:TA} {p pos:Pos} (hg:Gl X "enumerate") (hm:X.mg "enumerate"=none) (ha:PA X [l] ta) (hs:starEach [l] X.env = [(false,eval l X.env)]:=by rfl) :
    PI X (.Tuple es k tp) (.Call (.Name "enumerate" p) [l] [] pos) (zi6 X.K ta):=by
  intro pins s σ H R I h
  refine Call_ (zd5 I hg hm boot_enumerate (PyProof.Rows.callWith_type1 (thn (ha pos pins s σ H _ I h) fun us s1 ⟨vs,H1,I1,r1,q1⟩=>?_) hs rfl))
  obtain ⟨a,e,⟨xs,hq⟩,q⟩:=q1
  subst e
  obtain ⟨u,rfl,rx⟩:=zje r1
  cases rx
  obtain ⟨its,rv,pl,hz⟩:=I1.list hq
  refine call_enumerate_list pl.isList fun h' he hit hsz hk=>?_
  have I2:Inv X pins σ H1 { s1 with heap:=h' }:=I1.kept (t':=s1.toks) hk
  have hne:s1.heap.objs.size + 1 ≠ s1.heap.objs.size:=by omega
  refine wpAny_pyIter_enum he ⟨s1.heap.objs.size + 1,[s1.heap.objs.size + 1,s1.heap.objs.size],_,_,H1,rfl,I2,zhn a _ _ hne,⟨⟨_,he⟩,hit⟩,fun b hb=>?_,q⟩
  have hb':s1.heap.objs.size ≤ b:=by
    rcases List.mem_cons.mp hb with rfl | hb
    · omega
    · have z:b=s1.heap.objs.size:=by simpa using hb
      exact Nat.le_of_eq z.symm
  exact I1.fpOk hb' (I1.hok.fresh hb')
end
end L2
namespace L2
open PySem PySem.Spec PyProof.Rows
theorem zcV {env:Env}:∀ (names:List (Str × NameKind)) (acc:List (Str × Addr)),(∀ y ∈ names,y.2 = .free→∃ c,env.cells.lookup y.1=some c) →
    ∃ cl,(forIn (m:=Sem) names acc fun (x:Str × NameKind) (cs:List (Str × Addr))=>if (x.2 == NameKind.free)=true then do let c ← cellOf env x.1; pure (ForInStep.yield ((x.1,c) :: cs)) else pure (ForInStep.yield cs))=pure cl ∧
      (∀ p ∈ cl,p ∈ acc∨env.cells.lookup p.1=some p.2)∧(∀ p ∈ acc,p ∈ cl)∧∀ y ∈ names,y.2 = .free→∃ c,(y.1,c) ∈ cl
  | [],acc,_=>⟨acc,by simp,fun p hp=>.inl hp,fun p hp=>hp,fun y hy=>by cases hy⟩
  | (n,k) :: r,acc,h=>by
    by_cases hk:k = .free
    · subst hk
      obtain ⟨c,hc⟩:=h (n,.free) List.mem_cons_self rfl
      obtain ⟨cl,e,h1,h2,h3⟩:=zcV r ((n,c) :: acc) fun y hy=>h y (List.mem_cons_of_mem _ hy)
      refine ⟨cl,?_,fun p hp=>?_,fun p hp=>h2 p (List.mem_cons_of_mem _ hp),fun y hy hf=>?_⟩
      · have hco:cellOf env n=pure c:=by unfold cellOf; rw [hc]
        rw [List.forIn_cons]
        simp only [beq_self_eq_true,if_true,hco,pure_bind]
        exact e
      · rcases h1 p hp with z | z
        · rcases List.mem_cons.mp z with rfl | z
          · exact .inr hc
          · exact .inl z
        · exact .inr z
      · rcases List.mem_cons.mp hy with rfl | hy
        · exact ⟨c,h2 _ List.mem_cons_self⟩
        · exact h3 y hy hf
    · obtain ⟨cl,e,h1,h2,h3⟩:=zcV r acc fun y hy=>h y (List.mem_cons_of_mem _ hy)
      refine ⟨cl,?_,h1,h2,fun y hy hf=>?_⟩
      · have hb:(k == NameKind.free)=false:=by simpa using hk
        rw [List.forIn_cons]
        simp only [hb,Bool.false_eq_true,if_false,pure_bind]
        exact e
      · rcases List.mem_cons.mp hy with rfl | hy
        · exact absurd hf hk
        · exact h3 y hy hf
theorem zcQ {f:Str→Option Addr}:∀ {cl:List (Str × Addr)} {x:Str} {c:Addr},(∀ p ∈ cl,f p.1=some p.2)→(x,c) ∈ cl→cl.lookup x=some c
  | [],_,_,_,h=>by cases h
  | (n,d) :: r,x,c,h,hm=>by
    rw [List.lookup_cons]
    cases e:x == n with
    | true =>
      have e':x=n:=by simpa using e
      subst e'
      have z1:=h (x,d) List.mem_cons_self
      have z2:=h (x,c) hm
      rw [z1] at z2
      simpa using z2
    | false =>
      rcases List.mem_cons.mp hm with z | z
      · cases z; simp at e
      · exact zcQ (fun p hp=>h p (List.mem_cons_of_mem _ hp)) z
theorem zcG {scope:Scope} {env:Env} (h:∀ y ∈ scope.names,y.2 = .free→∃ c,env.cells.lookup y.1=some c) :
    ∃ cl,closureFor scope env=pure cl∧(∀ x c,cl.lookup x=some c→env.cells.lookup x=some c)∧∀ y ∈ scope.names,y.2 = .free→cl.lookup y.1=env.cells.lookup y.1:=by
  obtain ⟨cl,e,h1,_,h3⟩:=zcV scope.names [] h
  have all:∀ p ∈ cl,env.cells.lookup p.1=some p.2:=fun p hp=>(h1 p hp).elim (fun z=>by cases z) id
  refine ⟨cl,?_,fun x c z=>all (x,c) (PySem.mem_of_lookup z),fun y hy hf=>?_⟩
  · simp only [closureFor]
    rw [e]
    rfl
  · obtain ⟨c,hc⟩:=h3 y hy hf
    rw [all _ hc]
    exact zcQ (f:=fun x=>env.cells.lookup x) all hc
end L2
namespace L2
open PySem PySem.Spec PyProof.Rows
section
variable {prog:Program} {w:World} {A:Around} {R:Result→Shared→Prop} {s:Shared}
theorem zfi {elt target iter:Expr} {ifs:List Expr} {scope:Scope} {pos:Pos} {it acc:Value} {env:Env} (I:Nat→Shared→Prop)
    (turn:∀ n s,I n s→wpAny (model prog w) A (pyNext it) (fun r s₁=>match r with
      | none=>R (.ok .next) s₁
      | some v=>wpAny (model prog w) A (letOwnedTupleGo target it v) (fun _ s₁'=>wpAny (model prog w) A (assign target env v) (fun _ s₂ =>
          wpAny (model prog w) A (forIn ifs true fun c r=>if r=true then do let ok ← isTrue c env (eval c env); pure (ForInStep.yield ok) else pure (ForInStep.yield r)) (fun ok s₃ =>
            if ok=true then wpAny (model prog w) A (eval elt env) (fun x s₄ =>
              wpAny (model prog w) A (call (.builtin "list.append") [acc,x]) (fun _ s₅=>∃ m,m < n∧I m s₅) (fun _ _=>False) s₄) (fun _ _=>False) s₃
            else ∃ m,m < n∧I m s₃) (fun _ _=>False) s₂) (fun _ _=>False) s₁') (fun _ _=>False) s₁) (fun _ _=>False) s)
    (n:Nat) (h:I n s) :
    codeAny (model prog w) A (.compLoop (.ListComp elt [⟨target,iter,ifs,0⟩] scope pos) 0 it acc env) R s:=by
  refine codeAny_loop rfl I (fun n s hI=>?_) n h
  show wpAny _ A ((compTurn (.ListComp elt [⟨target,iter,ifs,0⟩] scope pos) 0 it acc env).onRaise (fun x=>do noteFrame x env; theTreesLotGoes x)) _ _ s
  refine wpAny_noted ?_
  rw [compTurn_list]
  refine wpAny_bind (wpAny_standAt (wpAny_bind (wpAny_mono (turn n s hI) (fun r s₁ h₁=>?_) fun _ _ h'=>h'.elim)))
  cases r with
  | none=>exact wpAny_pure h₁
  | some v =>
    refine wpAny_bind (wpAny_mono h₁ (fun _ s₁' h₁'=>?_) fun _ _ h'=>h'.elim)
    refine wpAny_bind (wpAny_mono h₁' (fun _ s₂ h₂=>wpAny_bind (wpAny_mono h₂ (fun ok s₃ h₃=>?_) fun _ _ h'=>h'.elim)) fun _ _ h'=>h'.elim)
    cases ok with
    | false=>exact wpAny_pure ⟨rfl,h₃⟩
    | true =>
      exact wpAny_bind (wpAny_bind (wpAny_mono h₃ (fun x s₄ h₄=>wpAny_bind (wpAny_mono h₄ (fun _ s₅ h₅=>wpAny_pure (wpAny_pure ⟨rfl,h₅⟩)) fun _ _ h'=>h'.elim)) fun _ _ h'=>h'.elim))
end
def Cx.comp (X:Cx) (scope:Scope) (cl:List (Str × Addr)) (C:Addr) (N':List Str) (s:Shared) (H:Hp) (fp:List Addr) (pins:List (Addr × Obj)):Cx :=
  { X with N:=N',s₀:=s,H₀:=H,env:=compEnvC scope cl C X.env,outer:=X.stack,stack:=X.stack,ex:=fp,fn:=fun x=>scope.names.lookup x == some .cell,pn:=X.pn ++ pins,xe:=fun _ _=>False }
def zbw (σ:St) (ix:List Nat) (n:Nat):St:=ix.map (fun i=>(σ[i]?).getD none) ++ List.replicate n none
def zf4:Option TT→TT
  | none=>fun _ H Q=>Q true H
  | some t=>t
def zkl (D:Addr) (J:It) (g:TG) (tc:Option TT) (te:TE) (Q:VK) (σ0:St) (H0:Hp):Prop :=
  ∃ W:Nat→Nat→List V→St→Hp→Prop,(∃ m,W 0 m [] σ0 H0)∧∀ i m ys σ2 H2,W i m ys σ2 H2→H2 D=some (.lst ys) ∧
    ((J.stop i H2∧Q (.ref D) H2)∨(J.go i H2∧∃ N:List V→St→Hp→Prop,(∀ ys' σ' H',N ys' σ' H'→∃ m',m' < m∧W (i + 1) m' ys' σ' H') ∧
      ∀ x H',J.yld i H2 x H'→g x σ2 H' fun σ3 H3=>zf4 tc σ3 H3 fun b H4=>if b=true then te σ3 H4 fun y H5=>H5 D=some (.lst ys)∧ys.length < sizeLine∧N (ys ++ [y]) σ3 (upd H5 D (.lst (ys ++ [y]))) else N ys σ3 H4))
def zh1 (wi:TI) (ix:List Nat) (n:Nat) (g:TG) (tc:Option TT) (te:TE):TE:=fun σ H Q=>wi σ H fun J H1=>∀ D,H1 D=none→zkl D J g tc te Q (zbw σ ix n) (upd H1 D (.lst []))
structure CompOk (X:Cx) (scope:Scope) (N':List Str) (ix:List Nat) (n:Nat) (tg elt:Expr) (ifs:List Expr) (g:TG) (tc:Option TT) (te:TE):Prop where
  kind:scope.kind = .function
  nocell:∀ y ∈ scope.names,y.2 = .free→(y.1,NameKind.cell) ∉ scope.names
  names:∀ y ∈ scope.names,y.2 = .local→scope.names.lookup y.1=some .local
  free:∀ y ∈ scope.names,y.2 = .free→X.env.kindOf y.1=some .cell∨X.env.kindOf y.1=some .free
  len:ix.length + n=N'.length
  take:∀ (j i:Nat),ix[j]?=some i→∃ x,N'[j]?=some x∧X.N[i]?=some x∧scope.names.lookup x=some .free
  tgt:∀ (cl:List (Str × Addr)) (C:Addr) (s:Shared) (H:Hp) (fp:List Addr) (pins:List (Addr × Obj)),PG (X.comp scope cl C N' s H fp pins) tg g
  elt:∀ (cl:List (Str × Addr)) (C:Addr) (s:Shared) (H:Hp) (fp:List Addr) (pins:List (Addr × Obj)),PE (X.comp scope cl C N' s H fp pins) elt te
  test:(ifs = []∧tc=none)∨∃ c t,ifs = [c]∧tc=some t∧∀ (cl:List (Str × Addr)) (C:Addr) (s:Shared) (H:Hp) (fp:List Addr) (pins:List (Addr × Obj)),PT (X.comp scope cl C N' s H fp pins) c t
theorem zbz {env:Env}:∀ {names:List (Str × NameKind)} {x:Str},names.lookup x=some .free →
    (names.map fun (n,k)=>if (k == NameKind.free && env.scope.kind == .function && env.kindOf n == some .cell) then (n,NameKind.cell) else (n,k)).lookup x=some .cell ∨
    (names.map fun (n,k)=>if (k == NameKind.free && env.scope.kind == .function && env.kindOf n == some .cell) then (n,NameKind.cell) else (n,k)).lookup x=some .free
  | [],_,h=>by simp at h
  | (n,k) :: r,x,h=>by
    have ih:=@zbz env r x
    show List.lookup x ((if (k == NameKind.free && env.scope.kind == .function && env.kindOf n == some .cell)=true then (n,NameKind.cell) else (n,k)) :: _)=_∨List.lookup x ((if (k == NameKind.free && env.scope.kind == .function && env.kindOf n == some .cell)=true then (n,NameKind.cell) else (n,k)) :: _)=_
    cases hx:x == n with
    | true =>
      simp only [List.lookup_cons,hx] at h
      cases h
      by_cases hc:(NameKind.free == NameKind.free && env.scope.kind == .function && env.kindOf n == some .cell)=true
      · rw [if_pos hc]; left; simp only [List.lookup_cons,hx]
      · rw [if_neg hc]; right; simp only [List.lookup_cons,hx]
    | false =>
      simp only [List.lookup_cons,hx] at h
      by_cases hc:(k == NameKind.free && env.scope.kind == .function && env.kindOf n == some .cell)=true
      · rw [if_pos hc]; simp only [List.lookup_cons,hx]; exact ih h
      · rw [if_neg hc]; simp only [List.lookup_cons,hx]; exact ih h
theorem zc6 {env:Env}:∀ {names:List (Str × NameKind)} {x:Str},
    ((names.map fun (n,k)=>if (k == NameKind.free && env.scope.kind == .function && env.kindOf n == some .cell) then (n,NameKind.cell) else (n,k)).lookup x=some .cell ∨
    (names.map fun (n,k)=>if (k == NameKind.free && env.scope.kind == .function && env.kindOf n == some .cell) then (n,NameKind.cell) else (n,k)).lookup x=some .free)→(x,NameKind.free) ∈ names∨(names.lookup x=some .cell∧(x,NameKind.cell) ∈ names)
  | [],_,h=>by simp at h
  | (n,k) :: r,x,h=>by
    have ih:=@zc6 env r x
    cases hx:x == n with
    | true =>
      have e:x=n:=by simpa using hx
      subst e
      by_cases hc:(k == NameKind.free && env.scope.kind == .function && env.kindOf x == some .cell)=true
      · have hk:k = .free:=by
          have:(k == NameKind.free)=true:=by
            simp only [Bool.and_eq_true] at hc
            exact hc.1.1
          simpa using this
        subst hk
        exact .inl List.mem_cons_self
      · rw [List.map_cons] at h
        have e2:(match (x,k) with | (n,k)=>if (k == NameKind.free && env.scope.kind == .function && env.kindOf n == some .cell)=true then (n,NameKind.cell) else (n,k))=(x,k):=if_neg hc
        rw [e2] at h
        simp only [List.lookup_cons,beq_self_eq_true] at h
        rcases h with h | h
        · cases h; exact .inr ⟨by simp only [List.lookup_cons,beq_self_eq_true],List.mem_cons_self⟩
        · cases h; exact .inl List.mem_cons_self
    | false =>
      refine (ih ?_).imp (List.mem_cons_of_mem _) fun z=>⟨by simp only [List.lookup_cons,hx]; exact z.1,List.mem_cons_of_mem _ z.2⟩
      rw [List.map_cons] at h
      by_cases hc:(k == NameKind.free && env.scope.kind == .function && env.kindOf n == some .cell)=true
      · have e2:(match (n,k) with | (n,k)=>if (k == NameKind.free && env.scope.kind == .function && env.kindOf n == some .cell)=true then (n,NameKind.cell) else (n,k))=(n,NameKind.cell):=if_pos hc
        rw [e2] at h
        simpa only [List.lookup_cons,hx] using h
      · have e2:(match (n,k) with | (n,k)=>if (k == NameKind.free && env.scope.kind == .function && env.kindOf n == some .cell)=true then (n,NameKind.cell) else (n,k))=(n,k):=if_neg hc
        rw [e2] at h
        simpa only [List.lookup_cons,hx] using h
theorem zbU {x:Str} {c:Addr}:∀ (names:List (Str × NameKind)) (n:Nat) (acc:List (Str × Addr)),(x,NameKind.cell) ∈ names→(cellsFrom n names acc).lookup x=some c→(∀ y,acc.lookup x=some y→n ≤ y∨True)→n ≤ c
  | [],_,_,h,_,_=>by cases h
  | (y,k) :: r,n,acc,h,e,_=>by
    unfold cellsFrom at e
    by_cases hr:(x,NameKind.cell) ∈ r
    · split at e
      · exact Nat.le_of_succ_le (zbU r (n + 1) _ hr e fun _ _=>.inr trivial)
      · exact zbU r n _ hr e fun _ _=>.inr trivial
    · rcases List.mem_cons.mp h with z | z
      · cases z
        rw [if_pos (by rfl)] at e
        have key:∀ (r:List (Str × NameKind)) (n':Nat) (acc:List (Str × Addr)),(x,NameKind.cell) ∉ r→(cellsFrom n' r acc).lookup x=acc.lookup x:=by
          intro r
          induction r with
          | nil=>intro _ _ _; rfl
          | cons p r ih =>
            intro n' acc hp
            obtain ⟨y',k'⟩:=p
            unfold cellsFrom
            split
            · rename_i hk
              have hk':k' = .cell:=by simpa using hk
              subst hk'
              have ne:¬ x=y':=fun z=>hp (by rw [z]; exact List.mem_cons_self)
              rw [ih _ _ fun z=>hp (List.mem_cons_of_mem _ z),List.lookup_cons,show (x == y')=false by simpa using ne]
            · exact ih _ _ fun z=>hp (List.mem_cons_of_mem _ z)
        rw [key r _ _ hr] at e
        simp only [List.lookup_cons,beq_self_eq_true] at e
        cases e; exact Nat.le_refl _
      · exact absurd z hr
theorem zbr {x:Str}:∀ (names:List (Str × NameKind)) (n:Nat) (acc:List (Str × Addr)),(x,NameKind.cell) ∉ names→(cellsFrom n names acc).lookup x=acc.lookup x
  | [],_,_,_=>rfl
  | (y,k) :: r,n,acc,h=>by
    unfold cellsFrom
    split
    · rename_i hk
      have hk':k = .cell:=by simpa using hk
      subst hk'
      have ne:¬ x=y:=fun z=>h (by rw [z]; exact List.mem_cons_self)
      rw [zbr r _ _ fun z=>h (List.mem_cons_of_mem _ z),List.lookup_cons,show (x == y)=false by simpa using ne]
    · exact zbr r _ _ fun z=>h (List.mem_cons_of_mem _ z)
theorem zbV:∀ (names:List (Str × NameKind)) (n:Nat) (acc:List (Str × Addr)),(∀ x c,acc.lookup x=some c→c < n)→(∀ x y c,acc.lookup x=some c→acc.lookup y=some c→x=y) →
    ∀ x y c,(cellsFrom n names acc).lookup x=some c→(cellsFrom n names acc).lookup y=some c→x=y
  | [],_,_,_,h=>h
  | (z,k) :: r,n,acc,h1,h2=>by
    unfold cellsFrom
    split
    · have lk:∀ x c,((z,n) :: acc).lookup x=some c→(x=z∧c=n)∨acc.lookup x=some c:=fun x c h=>by
        rw [List.lookup_cons] at h
        cases hb:x == z with
        | true=>rw [hb] at h; cases h; exact .inl ⟨by simpa using hb,rfl⟩
        | false=>rw [hb] at h; exact .inr h
      refine zbV r (n + 1) _ (fun x c h=>?_) fun x y c e1 e2=>?_
      · rcases lk x c h with ⟨_,z⟩ | z
        · rw [z]; exact Nat.lt_succ_self _
        · exact Nat.lt_succ_of_lt (h1 x c z)
      · rcases lk x c e1 with ⟨a1,a2⟩ | a <;> rcases lk y c e2 with ⟨b1,b2⟩ | b
        · rw [a1,b1]
        · have:=h1 y c b; rw [a2] at this; exact absurd this (Nat.lt_irrefl _)
        · have:=h1 x c a; rw [b2] at this; exact absurd this (Nat.lt_irrefl _)
        · exact h2 x y c a b
    · exact zbV r n acc h1 h2
theorem zfN {M:Model} {A:Around} {E:Value→Shared→Prop} {s:Shared} {scope:Scope} {globals:Addr} {cl:List (Str × Addr)} {qual:Str} {env:Env} {Q:Env→Shared→Prop}
    (hQ:Q (newEnv scope s.heap.objs.size globals (cellsFrom (s.heap.objs.size + 1) scope.names cl) qual none .none (some env) builtinsNs) { s with heap:=pushCells (s.heap.push { cls:=.type "dict",data:=.dict #[] }) scope.names }) :
    wpAny M A (newFunctionEnv scope globals cl [] qual none .none (some env)) Q E s:=by
  simp only [newFunctionEnv,Option.isSome_some,if_true]
  refine wpAny_bind (wpAny_alloc ?_)
  refine wpAny_bind (wpAny_layCells _ (fun name kind cells=>by cases hkc:kind == NameKind.cell <;> simp [hkc]) _ _ _ _ ?_)
  rw [show ({ s with heap:=s.heap.push { cls:=.type "dict",data:=.dict #[] } }:Shared).heap.objs.size=s.heap.objs.size + 1 from Heap.size_push ..]
  refine wpAny_bind ?_
  rw [List.forIn_nil]
  exact wpAny_pure (wpAny_pure hQ)
section
variable {X:Cx} {scope:Scope} {N':List Str} {ix:List Nat} {n:Nat} {tg elt iter:Expr} {ifs:List Expr} {g:TG} {tc:Option TT} {te:TE} {pos:Pos}
theorem zgF {pins:List (Addr × Obj)} {σ:St} {H:Hp} {s:Shared} {fp:List Addr} {cl:List (Str × Addr)} {h1:Heap} {tk:Nat} {m:Str→Option Value} (B:CompOk X scope N' ix n tg elt ifs g tc te) (I:Inv X pins σ H s)
    (hf:∀ b ∈ fp,FpOk X pins H b) (hfo:∀ b ∈ fp,∃ o,s.heap.get? b=some o) (hcl:∀ x c,cl.lookup x=some c→X.env.cells.lookup x=some c∨(s.heap.objs.size + 1 < c∧∃ v,h1.IsCell c v)) (hcf:∀ y ∈ scope.names,y.2 = .free→cl.lookup y.1=X.env.cells.lookup y.1)
    (hinj:∀ x y c,cl.lookup x=some c→cl.lookup y=some c→x=y) (hown:∀ x,scope.names.lookup x=some .cell→∃ c,cl.lookup x=some c) (hnew:∀ x c,scope.names.lookup x=some .cell→cl.lookup x=some c→s.heap.objs.size + 1 < c)
    (hk:∀ b o,s.heap.get? b=some o→h1.get? b=some o) (hD:h1.get? s.heap.objs.size=some { cls:=.type "list",data:=.seq #[] 0 }) (hC:h1.Ns (s.heap.objs.size + 1) m) :
    Inv (X.comp scope cl (s.heap.objs.size + 1) N' s H fp pins) [] (zbw σ ix n) (upd H s.heap.objs.size (.lst [])) { s with heap:=h1,toks:=tk }:=by
  have hn:H s.heap.objs.size=none:=I.hok.fresh (Nat.le_refl _)
  have lt:∀ {b:Addr} {o:Obj},s.heap.get? b=some o→b ≠ s.heap.objs.size∧b ≠ s.heap.objs.size + 1:=fun e=>⟨Nat.ne_of_lt (Heap.lt_size e),Nat.ne_of_lt (Nat.lt_succ_of_lt (Heap.lt_size e))⟩
  have cellLt:∀ x c,X.env.cells.lookup x=some c→c < s.heap.objs.size:=fun x c e=>by
    obtain ⟨v,o,ho,_⟩:=I.cell x c e
    exact Heap.lt_size ho
  have fpLt:∀ b ∈ fp,b ≠ s.heap.objs.size + 1:=fun b hb=>by
    obtain ⟨o,e⟩:=hfo b hb
    exact (lt e).2
  · have keep:Un (frs X.stack) fp H (upd H s.heap.objs.size (.lst [])) s.heap h1:=Un.laid hk (Nat.le_refl _) hn
    refine ⟨⟨I.ok.mod, ?_, I.ok.glob, I.ok.blt, Nat.le_succ _, hinj, fun x hx => ?_, fun x c z e => Nat.le_of_lt (Nat.lt_trans (Nat.lt_succ_self _) (hnew x c (by simpa using (show (scope.names.lookup x == some NameKind.cell) = true from z)) e)), I.ok.hd, I.ok.frames, .inl rfl, fun b hb => ⟨fpLt b hb, fun x c e => (hcl x c e).elim (fun z => (hf b hb).2.2.2.2.1 x c z) fun z w => by
          obtain ⟨o,ho⟩:=hfo b hb
          have:=Heap.lt_size ho
          rw [← w] at this; exact Nat.lt_irrefl _ (Nat.lt_trans (Nat.lt_trans (Nat.lt_succ_self _) z.1) this)⟩,
        I.bs,Nat.le_trans I.ok.bsz I.sz,fun b o e hb=>?_,fun b hb z=>?_,I.stack,I.stkFree,I.ok.tb.grown I.base.tbls⟩,
      rfl,I.bare,keep,⟨m,hC,fun i x v e1 e2 e3=>?_⟩,fun x c e=>?_,?_,fun x c e=>?_,fun p hp=>?_,?_,?_⟩
    · show (relabel scope X.env).kind = .function
      exact B.kind
    · show ∃ c,cl.lookup x=some c
      rcases zc6 hx with hx' | hx'
      case inr=>exact hown x hx'.1
      have z:=hcf _ hx' rfl
      dsimp only at z
      rw [z]
      exact I.ok.has x (B.free _ hx' rfl)
    · obtain ⟨_,_,_,f3,_⟩:=hf b hb
      rcases f3 with z | z
      · exact I.ok.noex b o e z
      · exact absurd (Nat.lt_of_lt_of_le (Heap.lt_size e) (Nat.le_trans I.ok.bsz z)) (Nat.lt_irrefl _)
    · rcases List.mem_cons.mp (I.stkSub b z) with e | e
      · exact (hf b hb).2.1 e
      · exact (hf b hb).2.2.1 e
    · have hj:i < ix.length:=by
        unfold zbw at e2
        by_cases hj:i < ix.length
        · exact hj
        · rw [List.getElem?_append_right (by simpa using hj),List.getElem?_replicate] at e2
          split at e2 <;> cases e2
      obtain ⟨j,hj2⟩:∃ j,ix[i]?=some j:=⟨ix[i],by simp [hj]⟩
      obtain ⟨y,y1,y2,y3⟩:=B.take i j hj2
      have exy:x=y:=by
        have z:N'[i]?=some x:=e1
        rw [y1] at z
        exact (Option.some.inj z).symm
      subst exy
      have ev:σ[j]?=some (some v):=by
        unfold zbw at e2
        rw [List.getElem?_append_left (by simpa using hj),List.getElem?_map,hj2] at e2
        have z:(σ[j]?).getD none=some v:=Option.some.inj e2
        cases q:σ[j]? with
        | none=>rw [q] at z; cases z
        | some w=>rw [q] at z; exact congrArg some z
      obtain ⟨m0,hn0,hl⟩:=I.loc
      have hm:(x,NameKind.free) ∈ scope.names:=PySem.mem_of_lookup y3
      have kx:=B.free _ hm rfl
      have vis:Vis X.env.scope x:=kx.elim (fun z=>.inr (.inl z)) fun z=>.inr (.inr z)
      obtain ⟨u,ru,lu⟩:=hl j x v y2 ev vis
      refine ⟨u,ru,.inr ⟨?_,?_⟩⟩
      · exact zbz y3
      · rcases lu with ⟨z,_⟩ | ⟨_,c,hc,hcell⟩
        · rcases kx with w | w <;> (rw [w] at z; cases z)
        · refine ⟨c,?_,?_⟩
          · show cl.lookup x=some c
            rw [hcf _ hm rfl]
            exact hc
          · obtain ⟨o,ho,hd⟩:=hcell
            exact ⟨o,hk c o ho,hd⟩
    · rcases hcl x c e with z | ⟨_,z⟩
      · obtain ⟨v,o,ho,hd⟩:=I.cell x c z
        exact ⟨v,o,hk c o ho,hd⟩
      · exact z
    · show upd H s.heap.objs.size (.lst []) (s.heap.objs.size + 1)=none
      rw [zag (Nat.succ_ne_self _)]
      exact I.hok.fresh (Nat.le_succ _)
    · rcases hcl x c e with z | ⟨z,_⟩
      · have:=cellLt x c z
        rw [zag (Nat.ne_of_lt this)]
        exact I.freeC x c z
      · rw [zag (Nat.ne_of_gt (Nat.lt_trans (Nat.lt_succ_self _) z))]
        exact I.hok.fresh (Nat.le_of_lt (Nat.lt_trans (Nat.lt_succ_self _) z))
    · rw [List.append_nil] at hp
      obtain ⟨q1,q2,q3,q4,q5⟩:=I.pin p hp
      refine ⟨hk _ _ q1,by rw [zag (lt q1).1]; exact q2,(lt q1).2,fun z=>?_,q5⟩
      rcases List.mem_cons.mp (I.stkSub _ z) with e | e
      · exact q3 e
      · exact q4 e
    · exact I.hok.laid hk (Nat.le_refl _) ⟨Nat.zero_le _,[],0,.nil,hD⟩
    · show (zbw σ ix n).length=N'.length
      unfold zbw
      rw [List.length_append,List.length_map,List.length_replicate]
      exact B.len
theorem zhv {pins:List (Addr × Obj)} {σ σ':St} {H H':Hp} {s s':Shared} {fp:List Addr} {cl:List (Str × Addr)} {C:Addr} (I:Inv X pins σ H s) (hf:∀ b ∈ fp,FpOk X pins H b)
    (J:Inv (X.comp scope cl C N' s H fp pins) [] σ' H' s'):Inv X pins σ H' s':=by
  obtain ⟨hh,g,d,t,os'⟩:=s'
  obtain rfl:os'=s.os:=J.os
  exact I.call (h':=hh) (g':=g) (d':=d) (t':=t) (ch:=fp) J.base J.hok J.bare fun b hb=>⟨(hf b hb).2.2.2.1,(hf b hb).2.1,(hf b hb).2.2.2.2.1,(hf b hb).2.2.2.2.2⟩
theorem zgl {pins:List (Addr × Obj)} {σ:St} {H:Hp} {s:Shared} {Q:VK} {it:Addr} {fp:List Addr} {tn:Nat→Heap→Prop} {J:It} {cl:List (Str × Addr)} {RR:Value→Addr→Result→Shared→Prop} {E:Value→Shared→Prop}
    (B:CompOk X scope N' ix n tg elt ifs g tc te) (hc:X.calm=true) (I:Inv X pins σ H s) (T:Turn X.prog X.w X.K tg J fp it tn) (st:tn 0 s.heap) (hf:∀ b ∈ fp,FpOk X pins H b)
    (hcl:∀ x c,cl.lookup x=some c→X.env.cells.lookup x=some c) (hcf:∀ y ∈ scope.names,y.2 = .free→cl.lookup y.1=X.env.cells.lookup y.1)
    (body:∀ D,H D=none→zkl D J g tc te Q (zbw σ ix n) (upd H D (.lst [])))
    (hRR:∀ D C H' s' m,Inv X pins σ H' s'→s'.heap.Ns C m→FpOk X pins H' C→Q (.ref D) H'→RR (.ref D) C (.ok .next) s') :
    wpAny (model X.prog X.w) X.A (newList []) (fun acc s₃=>wpAny (model X.prog X.w) X.A (newFunctionEnv scope X.env.globals cl [] X.env.qual none .none (some X.env)) (fun cenv s₄ =>
      codeAny (model X.prog X.w) X.A (.compStart (.ListComp elt [⟨tg,iter,ifs,0⟩] scope pos) 0 (.ref it) acc { cenv with scope:=relabel scope X.env }) (RR acc cenv.locals) s₄) E s₃) E s:=by
  refine wpAny_newObj_type (zfN ?_)
  dsimp only
  generalize hH2:s.heap.push { cls:=.type "list",dict:=none,data:=.seq ([]:List Value).toArray }=H2
  have hC:H2.objs.size=s.heap.objs.size + 1:=by rw [← hH2,Heap.size_push]
  obtain ⟨cs,ecs⟩:∃ cs,cs=cellsFrom (H2.objs.size + 1) scope.names cl:=⟨_,rfl⟩
  rw [← ecs]
  obtain ⟨h₁,eh⟩:∃ h₁,h₁=pushCells (H2.push { cls:=.type "dict",data:=.dict #[] }) scope.names:=⟨_,rfl⟩
  rw [← eh]
  have kp:∀ b o,H2.get? b=some o→h₁.get? b=some o:=fun b o e=>by rw [eh]; exact pushCells_keeps _ _ b o (Heap.get?_push_of_some _ e)
  have hns₁:h₁.Ns H2.objs.size fun _=>none:=by rw [eh]; exact (Heap.Ns.new H2 (.type "dict")).keeps (pushCells_keeps _ _)
  have below:∀ b,b < s.heap.objs.size→b ≠ H2.objs.size:=fun b hb=>by rw [hC]; exact Nat.ne_of_lt (Nat.lt_succ_of_lt hb)
  have old:∀ b o,s.heap.get? b=some o→h₁.get? b=some o:=fun b o e=>kp b o (hH2 ▸ Heap.get?_push_of_some _ e)
  have hacc:h₁.get? s.heap.objs.size=some { cls:=.type "list",data:=.seq #[] 0 }:=kp _ _ (hH2 ▸ Heap.get?_push_size _ rfl)
  have clt:∀ x c,cl.lookup x=some c→c < s.heap.objs.size:=fun x c e=>by
    obtain ⟨v,o,ho,_⟩:=I.cell x c (hcl x c e)
    exact Heap.lt_size ho
  have own:∀ x c,(x,NameKind.cell) ∈ scope.names→cs.lookup x=some c→s.heap.objs.size + 1 < c:=fun x c h e=>by
    rw [ecs] at e
    have:=zbU scope.names _ cl h e fun _ _=>.inr trivial
    omega
  have hcl2:∀ x c,cs.lookup x=some c→X.env.cells.lookup x=some c∨(s.heap.objs.size + 1 < c∧∃ v,h₁.IsCell c v):=fun x c e=>by
    by_cases hx:(x,NameKind.cell) ∈ scope.names
    · refine .inr ⟨own x c hx e,none,?_⟩
      have okc:=cellsFrom_ok scope.names (H2.push { cls:=.type "dict",data:=.dict #[] }) 0 [] ⟨fun _ _ hm=>(nomatch hm),List.Pairwise.nil⟩ (Nat.zero_le _)
      have e2:(cellsFrom (H2.objs.size + 1) scope.names []).lookup x=some c:=by
        have gen:∀ (names:List (Str × NameKind)) (n:Nat) (acc:List (Str × Addr)),(x,NameKind.cell) ∈ names→(cellsFrom n names acc).lookup x=(cellsFrom n names []).lookup x:=by
          have gen2:∀ (names:List (Str × NameKind)) (n:Nat) (acc acc':List (Str × Addr)),(x,NameKind.cell) ∈ names∨acc.lookup x=acc'.lookup x→(cellsFrom n names acc).lookup x=(cellsFrom n names acc').lookup x:=by
            intro names
            induction names with
            | nil=>intro n acc acc' h; exact h.elim (fun z=>by cases z) id
            | cons p r ih =>
              intro n acc acc' h
              obtain ⟨y,k⟩:=p
              unfold cellsFrom
              split
              · rename_i hk
                have hk':k = .cell:=by simpa using hk
                subst hk'
                refine ih _ _ _ ?_
                by_cases exy:x=y
                · subst exy; exact .inr (by simp only [List.lookup_cons,beq_self_eq_true])
                · rcases h with z | z
                  · rcases List.mem_cons.mp z with w | w
                    · cases w; exact absurd rfl exy
                    · exact .inl w
                  · exact .inr (by simp only [List.lookup_cons,show (x == y)=false by simpa using exy]; exact z)
              · rename_i hk
                refine ih _ _ _ ?_
                rcases h with z | z
                · rcases List.mem_cons.mp z with w | w
                  · cases w; exact absurd rfl hk
                  · exact .inl w
                · exact .inr z
          exact fun names n acc h=>gen2 names n acc [] (.inl h)
        rw [← gen scope.names _ cl hx,← ecs]; exact e
      rw [Heap.size_push] at okc
      rw [eh]
      exact (okc.empty x c (PySem.mem_of_lookup e2)).1
    · rw [ecs,zbr _ _ _ hx] at e
      exact .inl (hcl x c e)
  have hcf2:∀ y ∈ scope.names,y.2 = .free→cs.lookup y.1=X.env.cells.lookup y.1:=fun y hy hf=>by
    rw [ecs,zbr _ _ _ (B.nocell y hy hf)]
    exact hcf y hy hf
  have hinj:∀ x y c,cs.lookup x=some c→cs.lookup y=some c→x=y:=by
    rw [ecs]
    exact zbV scope.names _ cl (fun x c e=>Nat.lt_of_lt_of_le (clt x c e) (by rw [hC]; omega)) fun x y c e1 e2=>I.ok.inj x y c (hcl x c e1) (hcl y c e2)
  have hown:∀ x,scope.names.lookup x=some .cell→∃ c,cs.lookup x=some c:=fun x h=>by
    rw [ecs]
    exact Option.isSome_iff_exists.mp (PySem.W.cellsFrom_some scope.names _ cl (.inl h))
  have hnew:∀ x c,scope.names.lookup x=some .cell→cs.lookup x=some c→s.heap.objs.size + 1 < c:=fun x c h e=>own x c (PySem.mem_of_lookup h) e
  have cne:∀ b,b < s.heap.objs.size→(∀ x c,X.env.cells.lookup x=some c→c ≠ b)→∀ x c,cs.lookup x=some c→c ≠ b:=fun b hb hold x c e z=>by
    rcases hcl2 x c e with w | ⟨w,_⟩
    · exact hold x c w z
    · rw [z] at w; exact Nat.lt_irrefl _ (Nat.lt_trans (Nat.lt_trans (Nat.lt_succ_self _) w) hb)
  have hfo:∀ b ∈ fp,∃ o,s.heap.get? b=some o:=fun b hb=>let ⟨o,e,_⟩:=T.obj 0 _ st b hb; ⟨o,e⟩
  have st1:tn 0 h₁:=T.keep 0 _ _ st fun b _ o e=>old b o e
  have hD0:H s.heap.objs.size=none:=I.hok.fresh (Nat.le_refl _)
  obtain ⟨W,⟨m0,w0⟩,turn⟩:=body _ hD0
  have J0:Inv (X.comp scope cs H2.objs.size N' s H fp pins) [] (zbw σ ix n) (upd H s.heap.objs.size (.lst [])) { s with heap:=h₁ }:=by
    rw [hC] at hns₁ ⊢
    exact zgF (tk:=s.toks) B I hf hfo hcl2 hcf2 hinj hown hnew old hacc hns₁
  have fpOk:∀ {H':Hp},(∀ b ∈ fp,H' b=none)→∀ b ∈ fp,FpOk (X.comp scope cs H2.objs.size N' s H fp pins) [] H' b:=fun hn b hb=>by
    obtain ⟨f0,f1,f2,f3,f4,f5⟩:=hf b hb
    obtain ⟨o,e⟩:=hfo b hb
    refine ⟨hn b hb,below b (Heap.lt_size e),fun z=>?_,.inl hb,cne b (Heap.lt_size e) f4,fun p hp=>f5 p ?_⟩
    · rcases List.mem_cons.mp (I.stkSub b z) with q | q
      · exact f1 q
      · exact f2 q
    · rw [List.append_nil] at hp
      exact hp
  have fp0:∀ b ∈ fp,upd H s.heap.objs.size (.lst []) b=none:=fun b hb=>by
    obtain ⟨o,e⟩:=hfo b hb
    rw [zag (Nat.ne_of_lt (Heap.lt_size e))]
    exact (hf b hb).1
  have loop:∀ s₃:Shared,s₃ = { s with heap:=h₁ } →
      codeAny (model X.prog X.w) X.A (.compLoop (.ListComp elt [⟨tg,iter,ifs,0⟩] scope pos) 0 (.ref it) (.ref s.heap.objs.size) (compEnvC scope cs H2.objs.size X.env)) (RR (.ref s.heap.objs.size) H2.objs.size) s₃:=by
    rintro s₃ rfl
    refine zfi (fun k s'=>∃ i ys σ2 H3,Inv (X.comp scope cs H2.objs.size N' s H fp pins) [] σ2 H3 s'∧tn i s'.heap∧(∀ b ∈ fp,H3 b=none)∧W i k ys σ2 H3) ?_ m0 ⟨0,[],_,_,J0,st1,fp0,w0⟩
    rintro k s3 ⟨i,ys,σ3,H3,I3,st3,fr3,w3⟩
    obtain ⟨hD3,alt⟩:=turn i k ys σ3 H3 w3
    rcases alt with ⟨stop,q⟩ | ⟨go,N,hN,step⟩
    · refine thn (T.done (X.comp scope cs H2.objs.size N' s H fp pins) rfl rfl rfl hc i [] s3 σ3 H3 _ I3 (fpOk fr3) st3 stop) fun r s4 ⟨hr,I4⟩=>?_
      subst hr
      obtain ⟨m4,hn4,_⟩:=I4.loc
      refine hRR _ _ H3 s4 m4 (zhv I hf I4) hn4 ⟨I4.free,fun z=>?_,fun z=>?_,.inr (Nat.le_trans I.sz (by omega)),fun x c e z=>?_,fun p hp z=>?_⟩ q
      · have lt:=I.lt
        rw [← z,hC] at lt
        exact absurd lt (Nat.not_lt.mpr (Nat.le_succ _))
      · exact I.nofs (show s.heap.objs.size ≤ H2.objs.size by omega) z
      · obtain ⟨v,o,ho,_⟩:=I.cell x c e
        have lt:=Heap.lt_size ho
        rw [z,hC] at lt
        exact absurd lt (Nat.not_lt.mpr (Nat.le_succ _))
      · have lt:=Heap.lt_size (I.pin p hp).1
        rw [z,hC] at lt
        exact absurd lt (Nat.not_lt.mpr (Nat.le_succ _))
    · refine thn (T.item (X.comp scope cs H2.objs.size N' s H fp pins) rfl rfl rfl hc i [] s3 σ3 H3 _ I3 (fpOk fr3) st3 go) fun r s4 ⟨u,hr,h4⟩=>?_
      subst hr
      refine thn h4 fun _ s5 ⟨x,H5,I5,r5,y5,st5,fr5⟩=>?_
      have I5':=I5.pinned (fpOk fr5) (T.obj _ _ st5)
      have back:∀ {σ7:St} {H7:Hp} {s7:Shared} {ys':List V},Inv (X.comp scope cs H2.objs.size N' s H fp pins) ([] ++ zd6 fp s5.heap) σ7 H7 s7→N ys' σ7 H7 →
          ∃ m,m < k∧∃ i ys σ2 H3,Inv (X.comp scope cs H2.objs.size N' s H fp pins) [] σ2 H3 s7∧tn i s7.heap∧(∀ b ∈ fp,H3 b=none)∧W i m ys σ2 H3:=fun {σ7 H7 s7 ys'} I7 n7=>by
        obtain ⟨m',hm,w7⟩:=hN ys' σ7 H7 n7
        refine ⟨m',hm,i + 1,ys',σ7,H7,I7.unpinned,T.keep _ _ _ st5 fun b hb o e=>(I7.pin (b,o) (List.mem_append_right _ (List.mem_append_right _ (zbK hb e)))).1,fun b hb=>?_,w7⟩
        obtain ⟨o,e,d⟩:=T.obj _ _ st5 b hb
        exact (I7.pin (b,o) (List.mem_append_right _ (List.mem_append_right _ (zbK hb e)))).2.1
      refine thn (B.tgt cs H2.objs.size s H fp pins _ s5 σ3 H5 x u _ I5' r5 (step x H5 y5)) fun _ s6 ⟨σ6,H6,I6,q6⟩=>?_
      have fin:∀ (b:Bool) (s7:Shared),TP (X.comp scope cs H2.objs.size N' s H fp pins) ([] ++ zd6 fp s5.heap) σ6
          (fun b H4=>if b=true then te σ6 H4 fun y H5=>H5 s.heap.objs.size=some (.lst ys)∧ys.length < sizeLine∧N (ys ++ [y]) σ6 (upd H5 s.heap.objs.size (.lst (ys ++ [y]))) else N ys σ6 H4) b s7 →
          if b=true then wpAny (model X.prog X.w) X.A (eval elt (compEnvC scope cs H2.objs.size X.env)) (fun x s₄ =>
              wpAny (model X.prog X.w) X.A (call (.builtin "list.append") [.ref s.heap.objs.size,x]) (fun _ s₅=>∃ m,m < k∧∃ i ys σ2 H3,Inv (X.comp scope cs H2.objs.size N' s H fp pins) [] σ2 H3 s₅∧tn i s₅.heap∧(∀ b ∈ fp,H3 b=none)∧W i m ys σ2 H3) (fun _ _=>False) s₄) (fun _ _=>False) s7
            else ∃ m,m < k∧∃ i ys σ2 H3,Inv (X.comp scope cs H2.objs.size N' s H fp pins) [] σ2 H3 s7∧tn i s7.heap∧(∀ b ∈ fp,H3 b=none)∧W i m ys σ2 H3:=by
        rintro b s7 ⟨H7,I7,q7⟩
        cases b with
        | false =>
          rw [if_neg Bool.false_ne_true] at q7 ⊢
          exact back I7 q7
        | true =>
          rw [if_pos rfl] at q7 ⊢
          refine thn (B.elt cs H2.objs.size s H fp pins _ s7 σ6 H7 _ I7 q7) fun y s8 ⟨yv,H8,I8,r8,hD8,hz,n8⟩=>?_
          refine thn (zbv _ s8 σ6 H8 (.ref s.heap.objs.size) [yv] (.ref s.heap.objs.size) [y] (fun _ H9=>N (ys ++ [yv]) σ6 H9) I8 rfl (.cons r8 .nil) ⟨_,ys,yv,rfl,rfl,hD8,hz,n8⟩) fun _ s9 ⟨_,H9,I9,_,n9⟩=>?_
          exact back I9 n9
      rcases B.test with ⟨e1,e2⟩ | ⟨c,t,e1,e2,ht⟩
      · subst e1; subst e2
        exact wpAny_tests_nil (fin true s6 ⟨H6,I6,q6⟩)
      · subst e1; subst e2
        exact wpAny_tests_one (thn (ht cs H2.objs.size s H fp pins _ s6 σ6 H6 _ I6 q6) fun b s7 z=>fin b s7 z)
  exact codeAny_compStart_list (loop _ rfl) (T.self X.A 0 _ _ _ st1 (loop _ rfl))
theorem zcY {wi:TI} (hc:X.calm=true) (hi:PI X tg iter wi) (B:CompOk X scope N' ix n tg elt ifs g tc te) (hs:∀ x,foldedSetIterable iter X.env x=pure x:=by intro _; rfl) :
    PE X (.ListComp elt [⟨tg,iter,ifs,0⟩] scope pos) (zh1 wi ix n g tc te):=by
  intro pins s σ H Q I h
  rw [eval_ListComp]
  obtain ⟨cl,hclos,hcl,hcf⟩:=zcG (scope:=scope) (env:=X.env) fun y hy hf=>I.ok.has _ (B.free y hy hf)
  refine wpAny_comprehension_free (use:=none) rfl hs hclos B.kind B.names (thn (hi pins s σ H _ I h) fun v s1 h1=>thn h1 fun itv s2 h2=>?_)
  obtain ⟨it,fp,tn,J,H2,rfl,I2,T,st2,f2,body⟩:=h2
  refine zgl (RR:=fun acc C=>compPost (model X.prog X.w) X.A X.xe none (EP X pins σ Q) acc C) B hc I2 T st2 f2 hcl hcf body fun D C H' s' m I' hn hC q=>⟨m,hn,fun h' hs'=>?_⟩
  obtain ⟨f0,f1,f2',f3,f4,f5⟩:=hC
  exact ⟨.ref D,H',I'.turned (t':=s'.toks) (fun b o hb e=>(hs'.2 b hb).trans e) f0 f1 f3 f4 f5,rfl,q⟩
theorem zhW {wi:TI} {i:Nat} {y:Str} {py spos:Pos} (hN:X.N.Nodup) (hiN:X.N[i]?=some y) (hy:Loc X.env.scope y) (hc:X.calm=true) (hi:PI X tg iter wi) (B:CompOk X scope N' ix n tg elt ifs g tc te)
    (hsw:swapsWith (.ListComp elt [⟨tg,iter,ifs,0⟩] scope pos) (some (.Name y py)) spos.line X.env=pure true) (hf:X.fn y=true∨X.env.scope.names.lookup y=some .local:=by first | exact .inl rfl | exact .inr rfl | assumption)
    (hs:∀ x,foldedSetIterable iter X.env x=pure x:=by intro _; rfl) :
    PS X (.Assign [.Name y py] (.ListComp elt [⟨tg,iter,ifs,0⟩] scope pos) spos) (tAsg (zh1 wi ix n g tc te) (zcT i)):=by
  intro pins s σ H D I h
  rw [exec_Assign_Name_used _ _ _ _ hsw]
  refine wpAny_bind (wpAny_standAt (wpAny_bind ?_))
  show wpAny _ X.A (do let _ ← comprehension (.ListComp elt [⟨tg,iter,ifs,0⟩] scope pos) scope X.env _ (newList []) false (eval iter X.env) (some (assign (.Name y py) X.env))) _ _ s
  obtain ⟨cl,hclos,hcl,hcf⟩:=zcG (scope:=scope) (env:=X.env) fun y hy hf=>I.ok.has _ (B.free y hy hf)
  refine wpAny_bind (wpAny_mono (wpAny_comprehension_free (use:=some (assign (.Name y py) X.env)) (Q:=fun _ s'=>SP X pins D .next s') rfl hs hclos B.kind B.names
    (thn (hi pins s σ H _ I h) fun v s1 h1=>thn h1 fun itv s2 h2=>?_)) (fun _ s' hq=>wpAny_pure (wpAny_pure hq)) fun _ _ e=>e)
  obtain ⟨it,fp,tn,J,H2,rfl,I2,T,st2,f2,body⟩:=h2
  refine zgl (Q:=fun x H1=>zcT i x σ H1 D.nx) (RR:=fun acc C=>compPost (model X.prog X.w) X.A X.xe (some (assign (.Name y py) X.env)) (fun _ s'=>SP X pins D .next s') acc C) B hc I2 T st2 f2 hcl hcf body fun D' C H' s' m I' hn hC q=>?_
  obtain ⟨f0,f1,f2',f3,f4,f5⟩:=hC
  have Ip := I'.pinned (fp := [C]) (fun b hb => by have e : b = C := by simpa using hb
                                                   subst e; exact ⟨f0,f1,f2',f3,f4,f5⟩) (fun b hb=>by
    have e:b=C:=by simpa using hb
    subst e
    obtain ⟨o,es,ep,ho,hd,_⟩:=hn
    exact ⟨o,ho,fun v z=>by rw [hd] at z; cases z⟩)
  refine wpAny_assign_Name (zeI Ip hN hiN hy (v:=.ref D') rfl (fun s'' I''=>?_) hf)
  obtain ⟨o,es,ep,ho,hd,hr⟩:=hn
  have pinC:=I''.pin (C,o) (List.mem_append_right _ (List.mem_append_right _ (zbK (by simp) ho)))
  refine ⟨m,⟨o,es,ep,pinC.1,hd,hr⟩,fun h' hs'=>?_⟩
  exact ⟨_,H',(I''.unpinned).turned (t':=s''.toks) (fun b o hb e=>(hs'.2 b hb).trans e) pinC.2.1 f1 f3 f4 f5,q⟩
end
end L2
namespace L2
open PySem PySem.Spec PyProof.Rows
section
variable {X:Cx} {scope:Scope} {tg elt:Expr} {ifs:List Expr} {g:TG} {tc:Option TT} {te:TE}
theorem zc9 (osc:Scope) (oN N':List Str) (ix:List Nat) (n:Nat) (hosc:X.env.scope=osc) (hoN:X.N=oN) (kind:scope.kind = .function) (nocell:(scope.names.all fun y=>y.2 != .free || scope.names.all fun z=>!(z.1 == y.1) || z.2 != .cell)=true) (names:∀ y ∈ scope.names,y.2 = .local→scope.names.lookup y.1=some .local)
    (free:(scope.names.all fun y=>y.2 != .free || (osc.names.lookup y.1 == some .cell || osc.names.lookup y.1 == some .free))=true) (len:ix.length + n=N'.length)
    (take:((List.range ix.length).all fun j=>match N'[j]?,oN[ix.getD j 0]? with | some x,some y=>x == y && scope.names.lookup x == some .free | _,_=>false)=true)
    (tgt:∀ (cl:List (Str × Addr)) (C:Addr) (s:Shared) (H:Hp) (fp:List Addr) (pins:List (Addr × Obj)),PG (X.comp scope cl C N' s H fp pins) tg g)
    (elt':∀ (cl:List (Str × Addr)) (C:Addr) (s:Shared) (H:Hp) (fp:List Addr) (pins:List (Addr × Obj)),PE (X.comp scope cl C N' s H fp pins) elt te)
    (test:(ifs = []∧tc=none)∨∃ c t,ifs = [c]∧tc=some t∧∀ (cl:List (Str × Addr)) (C:Addr) (s:Shared) (H:Hp) (fp:List Addr) (pins:List (Addr × Obj)),PT (X.comp scope cl C N' s H fp pins) c t) :
    CompOk X scope N' ix n tg elt ifs g tc te :=
  ⟨kind,fun y hy e hc=>by
    have z:=List.all_eq_true.mp nocell y hy
    rw [e] at z
    have z2:(scope.names.all fun w=>!(w.1 == y.1) || w.2 != .cell)=true:=by simpa using z
    have z3:=List.all_eq_true.mp z2 _ hc
    simp at z3,names,fun y hy e=>by
    have z:=List.all_eq_true.mp free y hy
    rw [e] at z
    have z':(osc.names.lookup y.1 == some .cell || osc.names.lookup y.1 == some .free)=true:=by simpa using z
    show X.env.scope.names.lookup y.1=_∨X.env.scope.names.lookup y.1=_
    rw [hosc]
    simpa using z',len,fun j i e=>by
    obtain ⟨hj,_⟩:=List.getElem?_eq_some_iff.mp e
    have e2:ix.getD j 0=i:=by
      rw [List.getD_eq_getElem?_getD,e]
      rfl
    have z:=List.all_eq_true.mp take j (List.mem_range.mpr hj)
    rw [e2] at z
    cases h1:N'[j]? with
    | none=>rw [h1] at z; cases z
    | some x =>
      cases h2:oN[i]? with
      | none=>rw [h1,h2] at z; cases z
      | some y =>
        rw [h1,h2] at z
        have z':x=y∧scope.names.lookup x=some .free:=by simpa using z
        obtain ⟨rfl,z2⟩:=z'
        exact ⟨x,rfl,by rw [hoN]; exact h2,z2⟩,tgt,elt',test⟩
end
structure Has (P:Program) (w:World) (K:PySem.W.Frag) (mg:Str→Option Value) (base:Heap) (CX:CXT) (k:Nat) (x:Str) (ps:List Str) (sp:Sp):Prop where
  ex:∃ (f:Addr) (fd:FuncData),FnOk P w K mg base CX k f fd ps sp∧mg x=some (.ref f)∧PySem.W.keepIn K (.ref f)=true∧Binds K fd ps []
section
variable {X:Cx} {CX:CXT} {k:Nat} {x:Str} {ps:List Str} {sp:Sp} {E:XK} {p pos:Pos} {e:Expr} {es:List Expr} {t:TA}
theorem zaX (G:Has X.prog X.w X.K X.mg X.base CX k x ps sp) (hr:Room k X.A) (hg:Gl X x) (hx:zgg CX X E)
    (ha:PA X (e :: es) t) (hdb:(x == ("__debug__" : Str))=false:=by decide) (he:starEach (e :: es) X.env=(false,eval e X.env) :: starEach es X.env:=by rfl) (hpl:(backTo pos (starEach es X.env)).any (·.1)=false:=by rfl) :
    PE X (.Call (.Name x p) (e :: es) [] pos) (ze5 sp [] E t):=by
  obtain ⟨f,fd,F,hm,hk,hb⟩:=G.ex
  exact zjm F hr hg hm hk hb .nil hx ha hdb he hpl
end
structure DefAt (K:PySem.W.Frag) (x:Str) (st:Stmt) (f:Addr) (fd:FuncData):Prop where
  ns:PySem.W.nsIn K mainGlobals x=some (some (.ref f))
  fn:Fun K x x st f fd
theorem defAt_mk {K:PySem.W.Frag} {x:Str} {st:Stmt} {f:Addr} {oc:Value} {od an:Option Addr} {osl:Array (Option Value)} {kV doc pm cdv ct:Value} (a:PySem.W.nsIn K mainGlobals x=some (some (.ref f)))
    (l:K.lookup f=some ⟨oc,od,.func (PySem.W.fnOf x x (zcz st) (zci st) (zar st) .none kV doc pm an cdv ct),osl⟩) (c:PySem.W.codeIn K cdv x=true) (k:PySem.W.keepIn K (.ref f)=true):∃ f fd,DefAt K x st f fd :=
  ⟨f,_,a,ziW l c k⟩
theorem DefAt.has {P:Program} {w:World} {K:PySem.W.Frag} {mg:Str→Option Value} {base h:Heap} {CX:CXT} {k:Nat} {x:Str} {st:Stmt} {f:Addr} {fd:FuncData} {ps:List Str} {sp:Sp} (D:DefAt K x st f fd) (X:K.In h) (G:h.Ns mainGlobals mg)
    (ok:FnOk P w K mg base CX k f fd ps sp) (b:Binds K fd ps []):Has P w K mg base CX k x ps sp:=⟨f,fd,ok,PySem.W.mg_of X G D.ns,D.fn.kp,b⟩
theorem zkg {H:Hp} {a b:Addr} {o u:HO} (hn:H b=none) (h:H a=some o):upd H b u a=some o:=(zag (zaj h hn)).trans h
theorem Same.upd {H:Hp} {b:Addr} {u:HO} (hn:H b=none):Same H (upd H b u):=fun _ _ h=>zkg hn h
end L2
namespace L2
open PySem PySem.Spec PyProof.Rows
section
variable {X:Cx} {pos:Pos}
end
end L2
namespace L2
open PySem PySem.Spec PyProof.Rows
theorem kit_self {K:PySem.W.Frag} {T:String}:PySem.W.kitOne K (.type T) (.type T)=some true:=by
  unfold PySem.W.kitOne
  rw [if_pos (by simp)]
theorem kit_no {K:PySem.W.Frag} {S T:String} (h1:((Value.type S) == (Value.type T))=false) (h2:PySem.W.kitMeta T=true) (h3:(PySem.fastBuiltinMro S).map (·.contains (.type T))=some false):PySem.W.kitOne K (.type S) (.type T)=some false:=by
  unfold PySem.W.kitOne
  rw [h1,if_neg Bool.false_ne_true]
  show (if PySem.W.kitMeta T=true then PySem.W.subIn K (.type S) (.type T) else none)=some false
  rw [if_pos h2]
  exact h3
theorem kit_int_bool {K:PySem.W.Frag}:PySem.W.kitOne K (.type "int") (.type "bool")=some false:=kit_no (by decide +kernel) (by decide +kernel) (by decide +kernel)
end L2
namespace L2
open PySem PySem.Spec PyProof.Rows
structure Tr (h:Heap) (e T:Addr) (cls:Value) (dct:Option Addr) (fl:Value):Prop where
  ex:∃ (oe:Obj) (vs:Array Value) (oT:Obj) (ts:Array Value),h.get? e=some oe∧oe.cls=cls∧oe.dict=dct∧oe.data = .fields vs∧vs[1]?=some (.ref T)∧h.get? T=some oT∧oT.data = .fields ts∧ts[3]?=some fl
  ne:T ≠ e
section
variable {M:Model} {A:Around} {E:Value→Shared→Prop} {s:Shared} {B:Heap} {env:Env} {outer l:List Env} {L e:Addr} {cls:Value} {dct:Option Addr} {Q:Unit→Shared→Prop}
end
end L2
namespace L2
open PySem PySem.Spec PyProof.Rows
section
variable {P:Program} {w:World} {K:PySem.W.Frag} {mg:Str→Option Value} {base:Heap} {N:List Str} {qual:Str} {scope:Scope} {f:Addr} {cd:Value} {A:Around} {outer:List Env} {s0:Shared} {H0:Hp} {E:XK}
end
section
variable {X:Cx} {x:Str} {np cpos pos:Pos} {e₀:Expr} {rest:List Expr} {C:Addr} {bmB bmN:List Value} {newId Bn B nid inN initId:String} {E:St→XK} {t:TA}
end
section
variable {X:Cx} {CX:CXT} {k:Nat} {x:Str} {ps:List Str} {sp:Sp} {E:St→XK} {p pos:Pos} {e:Expr} {es:List Expr} {t:TA}
end
def excO (C:Addr) (dct:Option Addr) (ea:Addr):HO:=.ext fun h=>∃ ob,h.get? ea=some ob∧ob.cls = .ref C∧ob.dict=dct∧∃ vs,ob.data = .fields vs
section
variable {P:Program} {w:World} {X:Cx} {x n:Str} {np hpos pos:Pos} {body:List Stmt} {b₀:Stmt} {suite:List Stmt} {D':Addr} {tb:(St→XK)→TS} {th:TS} {i:Nat}
end
end L2
namespace L2
open PySem PySem.Spec PyProof.Rows
section
variable {X:Cx}
end
section
variable {P:Program} {w:World} {K:PySem.W.Frag} {mg:Str→Option Value} {base:Heap} {N:List Str} {qual:Str} {scope:Scope} {f:Addr} {cd:Value} {A:Around} {outer:List Env} {s0:Shared} {H0:Hp} {E:XK}
end
end L2
namespace PM
open PySem L2
inductive D where
  | non | bl (b:Bool) | int (i:Int) | str (x:Str) | tup (l:List D) | lst (l:List D) | dct (ks:List Key) (l:List D) | scr (l:List Int) | exc (c:Nat) | fd (ks:List Key) (l:List D) | obj (c:Nat) (ks:List Str) (l:List D)
structure Kx where
  f:W.Frag
  ca:Nat→Addr
  an:Nat→Str
def XA (K:Kx) (F:Hp) (c:Nat) (dct:Option Addr):Prop:=if c < 16 then dct=none else ∃ dx,dct=some dx∧F dx=some (.xd [(K.an c,.int (((c / 16:Nat):Int) - 1))])
section
variable (K:Kx)
mutual
def Rep (F:Hp):D→V→Prop
  | .non,v=>v = .non
  | .bl b,v=>v = .bl b
  | .int i,v=>v = .int i
  | .str x,v=>v = .str x
  | .scr l,v=>∃ a,v = .ref a∧SqL K.f F a (l.map V.int)
  | .exc c,v=>∃ a dct,v = .ref a∧F a=some (excO (K.ca c) dct a)∧XA K F c dct
  | .tup l,v=>∃ a vs,v = .ref a∧F a=some (.tup vs)∧RepL F l vs
  | .fd ks l,v=>∃ a o kvs,v = .ref a∧F a=some (.frz o (.dK kvs))∧kvs.map (·.1)=ks∧RepL F l (kvs.map (·.2))
  | .obj c ks l,v=>∃ a dx fs,v = .ref a∧F a=some (.ins (K.ca c) dx fs)∧fs.map (·.1)=ks∧RepL F l (fs.map (·.2))
  | .lst l,v=>∃ a vs,v = .ref a∧Rd F a (.lst vs)∧RepL F l vs
  | .dct ks l,v=>∃ a kvs,v = .ref a∧F a=some (.dK kvs)∧kvs.map (·.1)=ks∧RepL F l (kvs.map (·.2))
def RepL (F:Hp):List D→List V→Prop
  | [],vs=>vs = []
  | d :: l,vs=>∃ v r,vs=v :: r∧Rep F d v∧RepL F l r
end
end
def ifC {α:Type} (p:Prop) (a b:α):α:=@ite α p (Classical.propDecidable p) a b
@[simp] theorem za0 {α:Type} {p:Prop} {a b:α} (h:p):ifC p a b=a:=if_pos h
theorem zhy {α:Type} {p:Prop} {a b:α} (h:¬ p):ifC p a b=b:=if_neg h
structure Xc where
  c:Nat
inductive R (α:Type) where
  | no | ok (a:α) | ex (x:Xc)
namespace R
def bind {α β:Type}:R α→(α→R β)→R β
  | .no,_=>.no
  | .ok a,f=>f a
  | .ex x,_=>.ex x
@[simp] theorem bind_ok {α β:Type} (a:α) (f:α→R β):(R.ok a).bind f=f a:=rfl
@[simp] theorem zkq {α β:Type} (f:α→R β):(R.no:R α).bind f = .no:=rfl
@[simp] theorem zkG {α β:Type} (x:Xc) (f:α→R β):(R.ex x:R α).bind f = .ex x:=rfl
end R
inductive Tr where
  | d (x:D) | l (ts:List Tr) | t (ts:List Tr)
mutual
def trD:Tr→D
  | .d x=>x
  | .l ts=>.lst (trDL ts)
  | .t ts=>.tup (trDL ts)
def trDL:List Tr→List D
  | []=>[]
  | t :: ts=>trD t :: trDL ts
end
inductive Sl where
  | no | v (d:D) | o (d:D) | l (d:D) | p (T:Tr)
abbrev En:=List Sl
inductive O where
  | no | nx (δ:En) | rt (d:D) | ro (d:D) | bk (δ:En) | ct (δ:En) | ex (δ:En) (x:Xc)
structure Ext (F H F' H':Hp):Prop where
  ff:Same F F'
  hh:Same H H'
  fh:Same F' H'
  nw:∀ p o,F p=none→H p=some o→F' p=none
theorem Ext.refl {F H:Hp} (s:Same F H):Ext F H F H:=⟨.refl _,.refl _,s,fun _ _ h _=>h⟩
theorem Ext.trans {F H F1 H1 F2 H2:Hp} (a:Ext F H F1 H1) (b:Ext F1 H1 F2 H2):Ext F H F2 H2 :=
  ⟨a.ff.trans b.ff,a.hh.trans b.hh,b.fh,fun p o h1 h2=>b.nw p o (a.nw p o h1 h2) (a.hh p o h2)⟩
theorem Ext.new {F H:Hp} {p:Addr} {o:HO} (s:Same F H) (h:H p=none):Ext F H (upd F p o) (upd H p o):=by
  have hf:=s.free h
  refine ⟨Same.upd hf,Same.upd h,fun b u q=>?_,fun q u h1 h2=>?_⟩
  · by_cases e:b=p
    · subst e; rw [zam] at q ⊢; exact q
    · rw [zag e] at q ⊢; exact s _ _ q
  · rw [zag (zaj h2 h)]; exact h1
theorem Ext.newO {F H:Hp} {p:Addr} {o:HO} (s:Same F H) (h:H p=none):Ext F H F (upd H p o):=by
  refine ⟨.refl _,Same.upd h,s.trans (Same.upd h),fun q u h1 h2=>h1⟩
theorem Same.rd {H H':Hp} {a:Addr} {u:HO} (e:Same H H') (h:Rd H a u):Rd H' a u:=h.elim (fun h=>.inl (e _ _ h)) fun ⟨o,h⟩=>.inr ⟨o,e _ _ h⟩
section
variable {K:Kx} {F F' H H':Hp}
theorem XA.mono {c:Nat} {dct:Option Addr} (h:XA K F c dct) (e:Same F F'):XA K F' c dct:=by
  unfold XA at h ⊢
  split
  · rename_i hc; rw [if_pos hc] at h; exact h
  · rename_i hc
    rw [if_neg hc] at h
    obtain ⟨dx,h1,h2⟩:=h
    exact ⟨dx,h1,e _ _ h2⟩
mutual
theorem Rep.mono (e:Same F F'):∀ (d:D) {v:V},Rep K F d v→Rep K F' d v
  | .non,v,h=>by simpa only [Rep] using h
  | .bl b,v,h=>by simpa only [Rep] using h
  | .int b,v,h=>by simpa only [Rep] using h
  | .str b,v,h=>by simpa only [Rep] using h
  | .exc c,v,h=>by
    simp only [Rep] at h ⊢
    obtain ⟨a,dct,h1,h2,h3⟩:=h
    exact ⟨a,dct,h1,e _ _ h2,h3.mono e⟩
  | .fd ks l,v,h=>by
    simp only [Rep] at h ⊢
    obtain ⟨a,o,vs,h1,h2,h0,h3⟩:=h
    exact ⟨a,o,vs,h1,e _ _ h2,h0,RepL.mono e l h3⟩
  | .obj c ks l,v,h=>by
    simp only [Rep] at h ⊢
    obtain ⟨a,o,vs,h1,h2,h0,h3⟩:=h
    exact ⟨a,o,vs,h1,e _ _ h2,h0,RepL.mono e l h3⟩
  | .scr l,v,h=>by
    simp only [Rep] at h ⊢
    obtain ⟨a,h1,h2⟩:=h
    exact ⟨a,h1,e.seq h2⟩
  | .tup l,v,h=>by
    simp only [Rep] at h ⊢
    obtain ⟨a,vs,h1,h2,h3⟩:=h
    exact ⟨a,vs,h1,e _ _ h2,RepL.mono e l h3⟩
  | .lst l,v,h=>by
    simp only [Rep] at h ⊢
    obtain ⟨a,vs,h1,h2,h3⟩:=h
    exact ⟨a,vs,h1,PM.Same.rd e h2,RepL.mono e l h3⟩
  | .dct ks l,v,h=>by
    simp only [Rep] at h ⊢
    obtain ⟨a,vs,h1,h2,h0,h3⟩:=h
    exact ⟨a,vs,h1,e _ _ h2,h0,RepL.mono e l h3⟩
theorem RepL.mono (e:Same F F'):∀ (l:List D) {vs:List V},RepL K F l vs→RepL K F' l vs
  | [],vs,h=>by simpa only [RepL] using h
  | d :: l,vs,h=>by
    simp only [RepL] at h ⊢
    obtain ⟨v,r,h1,h2,h3⟩:=h
    exact ⟨v,r,h1,Rep.mono e d h2,RepL.mono e l h3⟩
end
theorem RepL.length:∀ {l:List D} {vs:List V},RepL K F l vs→vs.length=l.length
  | [],vs,h=>by simp only [RepL] at h; subst h; rfl
  | d :: l,vs,h=>by
    simp only [RepL] at h
    obtain ⟨v,r,rfl,_,h3⟩:=h
    simp [RepL.length h3]
theorem RepL.get:∀ {l:List D} {vs:List V} {i:Nat} {d:D},RepL K F l vs→l[i]?=some d→∃ v,vs[i]?=some v∧Rep K F d v
  | [],vs,i,d,h,e=>by simp at e
  | x :: l,vs,0,d,h,e=>by
    simp only [RepL] at h
    obtain ⟨v,r,rfl,h2,h3⟩:=h
    simp at e; subst e
    exact ⟨v,rfl,h2⟩
  | x :: l,vs,i + 1,d,h,e=>by
    simp only [RepL] at h
    obtain ⟨v,r,rfl,h2,h3⟩:=h
    obtain ⟨u,h4,h5⟩:=RepL.get h3 (i:=i) (d:=d) (by simpa using e)
    exact ⟨u,by simpa using h4,h5⟩
theorem RepL.nil:RepL K F [] []:=by simp only [RepL]
theorem RepL.cons {d:D} {l:List D} {v:V} {vs:List V} (h1:Rep K F d v) (h2:RepL K F l vs):RepL K F (d :: l) (v :: vs):=by
  simp only [RepL]; exact ⟨v,vs,rfl,h1,h2⟩
theorem RepL.append:∀ {l:List D} {vs:List V} {l':List D} {vs':List V},RepL K F l vs→RepL K F l' vs'→RepL K F (l ++ l') (vs ++ vs')
  | [],vs,l',vs',h,h'=>by simp only [RepL] at h; subst h; exact h'
  | d :: l,vs,l',vs',h,h'=>by
    simp only [RepL] at h
    obtain ⟨v,r,rfl,h2,h3⟩:=h
    exact .cons h2 (RepL.append h3 h')
theorem RepL.drop:∀ {l:List D} {vs:List V} (n:Nat),RepL K F l vs→RepL K F (l.drop n) (vs.drop n)
  | l,vs,0,h=>h
  | [],vs,n + 1,h=>by simp only [RepL] at h; subst h; exact .nil
  | d :: l,vs,n + 1,h=>by
    simp only [RepL] at h
    obtain ⟨v,r,rfl,h2,h3⟩:=h
    exact RepL.drop n h3
theorem RepL.take:∀ {l:List D} {vs:List V} (n:Nat),RepL K F l vs→RepL K F (l.take n) (vs.take n)
  | l,vs,0,h=>by simpa using RepL.nil
  | [],vs,n + 1,h=>by simp only [RepL] at h; subst h; exact .nil
  | d :: l,vs,n + 1,h=>by
    simp only [RepL] at h
    obtain ⟨v,r,rfl,h2,h3⟩:=h
    exact .cons h2 (RepL.take n h3)
theorem RepL.set:∀ {l:List D} {vs:List V} {d:D} {v:V} (i:Nat),RepL K F l vs→Rep K F d v→RepL K F (l.set i d) (vs.set i v)
  | [],vs,d,v,i,h,_=>by simp only [RepL] at h; subst h; exact .nil
  | x :: l,vs,d,v,0,h,h'=>by
    simp only [RepL] at h
    obtain ⟨u,r,rfl,h2,h3⟩:=h
    exact .cons h' h3
  | x :: l,vs,d,v,i + 1,h,h'=>by
    simp only [RepL] at h
    obtain ⟨u,r,rfl,h2,h3⟩:=h
    exact .cons h2 (RepL.set i h3 h')
theorem RepL.ints {ns:List Int}:RepL K F (ns.map .int) (ns.map .int):=by
  induction ns with
  | nil=>exact .nil
  | cons a l ih=>exact .cons rfl ih
end
section
variable (K:Kx)
def Top (F H:Hp):D→V→Prop
  | .lst l,v=>∃ a vs,v = .ref a∧Rd H a (.lst vs)∧RepL K F l vs
  | .dct ks l,v=>∃ a kvs,v = .ref a∧H a=some (.dK kvs)∧kvs.map (·.1)=ks∧RepL K F l (kvs.map (·.2))
  | .obj c ks l,v=>∃ a dx fs,v = .ref a∧H a=some (.ins (K.ca c) dx fs)∧fs.map (·.1)=ks∧RepL K F l (fs.map (·.2))
  | d,v=>Rep K F d v
def Own (F H:Hp):D→Addr→Prop
  | .lst l,a=>∃ vs,H a=some (.lst vs)∧RepL K F l vs
  | .dct ks l,a=>∃ kvs,H a=some (.dK kvs)∧kvs.map (·.1)=ks∧RepL K F l (kvs.map (·.2))
  | .obj c ks l,a=>∃ dx fs,H a=some (.ins (K.ca c) dx fs)∧fs.map (·.1)=ks∧RepL K F l (fs.map (·.2))
  | _,_=>False
mutual
def TrOk (F H:Hp):Tr→V→List Addr→Prop
  | .d x,v,fp=>fp = []∧Rep K F x v
  | .l ts,v,fp=>∃ a vs fs,v = .ref a∧fp=a :: fs∧H a=some (.lst vs)∧TrOkL F H ts vs fs
  | .t ts,v,fp=>∃ a vs,v = .ref a∧F a=some (.tup vs)∧TrOkL F H ts vs fp
def TrOkL (F H:Hp):List Tr→List V→List Addr→Prop
  | [],vs,fp=>vs = []∧fp = []
  | t :: ts,vs,fp=>∃ v r f1 f2,vs=v :: r∧fp=f1 ++ f2∧TrOk F H t v f1∧TrOkL F H ts r f2
end
structure Tab (F H:Hp) (a:Addr) (bs:List Addr) (T:Tr):Prop where
  ok:TrOk K F H T (.ref a) (a :: bs)
  nd:(a :: bs).Nodup
def SlOk (H0 F H:Hp):Option Sl→Option (Option V)→Prop
  | some (.v d),s=>∃ u,s=some (some u)∧Rep K F d u
  | some (.o d),s=>∃ a,s=some (some (.ref a))∧H0 a=none∧F a=none∧Own K F H d a
  | some (.l d),s=>∃ a,s=some (some (.ref a))∧H0 a=none∧F a=none∧Own K F H d a
  | some (.p T),s=>∃ a bs,s=some (some (.ref a))∧Tab K F H a bs T∧∀ b ∈ a :: bs,H0 b=none∧F b=none
  | _,_=>True
end
def Sl.own:Option Sl→Bool
  | some (.o _)=>true
  | some (.l _)=>true
  | some (.p _)=>true
  | _=>false
structure EnvOk (K:Kx) (Λ:List (Nat × Addr × HO)) (F0 H0 F H:Hp) (σ:St) (δ:En):Prop where
  ext:Ext F0 H0 F H
  len:σ.length=δ.length
  slot:∀ i:Nat,SlOk K H0 F H δ[i]? σ[i]?
  dist:∀ (i j:Nat) (a:Addr),i ≠ j→Sl.own δ[i]?=true→Sl.own δ[j]?=true→σ[i]?=some (some (.ref a))→σ[j]?=some (some (.ref a))→False
  lent:∀ x ∈ Λ,(∃ d,δ[x.1]?=some (.l d))∧σ[x.1]?=some (some (.ref x.2.1))∧H x.2.1=some x.2.2
  tabs:∀ (i:Nat) (T:Tr),δ[i]?=some (.p T)→∃ a bs,σ[i]?=some (some (.ref a))∧Tab K F H a bs T∧(∀ b ∈ a :: bs,H0 b=none∧F b=none)∧(∀ (j:Nat) (b:Addr),j ≠ i→Sl.own δ[j]?=true→σ[j]?=some (some (.ref b))→b ∉ a :: bs)∧∀ (j:Nat) (T':Tr),j ≠ i→δ[j]?=some (.p T')→∃ a' bs',σ[j]?=some (some (.ref a'))∧Tab K F H a' bs' T'∧∀ b ∈ a' :: bs',b ∉ a :: bs
section
variable {K:Kx} {Λ:List (Nat × Addr × HO)} {F0 H0 F H F' H' F1 H1:Hp} {σ:St} {δ:En}
theorem Own.mono (e1:Same F F') (e2:Same H H'):∀ {d:D} {a:Addr},Own K F H d a→Own K F' H' d a
  | .lst l,a,h=>let ⟨vs,h1,h2⟩:=h; ⟨vs,e2 _ _ h1,h2.mono e1⟩
  | .dct ks l,a,h=>let ⟨vs,h1,h0,h2⟩:=h; ⟨vs,e2 _ _ h1,h0,h2.mono e1⟩
  | .non,_,h=>h.elim
  | .bl _,_,h=>h.elim
  | .int _,_,h=>h.elim
  | .str _,_,h=>h.elim
  | .tup _,_,h=>h.elim
  | .scr _,_,h=>h.elim
  | .exc _,_,h=>h.elim
  | .fd _ _,_,h=>h.elim
  | .obj c ks l,a,h=>let ⟨dx,vs,h1,h0,h2⟩:=h; ⟨dx,vs,e2 _ _ h1,h0,h2.mono e1⟩
theorem Own.obj:∀ {d:D} {a:Addr},Own K F H d a→∃ o,H a=some o
  | .lst l,a,h=>let ⟨vs,h1,h2⟩:=h; ⟨_,h1⟩
  | .dct ks l,a,h=>let ⟨vs,h1,h2⟩:=h; ⟨_,h1⟩
  | .non,_,h=>h.elim
  | .bl _,_,h=>h.elim
  | .int _,_,h=>h.elim
  | .str _,_,h=>h.elim
  | .tup _,_,h=>h.elim
  | .scr _,_,h=>h.elim
  | .exc _,_,h=>h.elim
  | .fd _ _,_,h=>h.elim
  | .obj c ks l,a,h=>let ⟨dx,vs,h1,h2⟩:=h; ⟨_,h1⟩
theorem Own.at (e:H' a=H a):∀ {d:D},Own K F H d a→Own K F H' d a
  | .lst l,h=>let ⟨vs,h1,h2⟩:=h; ⟨vs,e.trans h1,h2⟩
  | .dct ks l,h=>let ⟨vs,h1,h0,h2⟩:=h; ⟨vs,e.trans h1,h0,h2⟩
  | .non,h=>h.elim
  | .bl _,h=>h.elim
  | .int _,h=>h.elim
  | .str _,h=>h.elim
  | .tup _,h=>h.elim
  | .scr _,h=>h.elim
  | .exc _,h=>h.elim
  | .fd _ _,h=>h.elim
  | .obj c ks l,h=>let ⟨dx,vs,h1,h0,h2⟩:=h; ⟨dx,vs,e.trans h1,h0,h2⟩
theorem Rep.top (s:Same F H):∀ {d:D} {v:V},Rep K F d v→Top K F H d v
  | .lst l,v,h=>by
    simp only [Rep] at h
    obtain ⟨a,vs,h1,h2,h3⟩:=h
    exact ⟨a,vs,h1,PM.Same.rd s h2,h3⟩
  | .dct ks l,v,h=>by
    simp only [Rep] at h
    obtain ⟨a,vs,h1,h2,h3⟩:=h
    exact ⟨a,vs,h1,s _ _ h2,h3⟩
  | .non,_,h=>h
  | .bl _,_,h=>h
  | .int _,_,h=>h
  | .str _,_,h=>h
  | .tup _,_,h=>h
  | .scr _,_,h=>h
  | .exc _,_,h=>h
  | .fd _ _,_,h=>h
  | .obj c ks l,v,h=>by
    simp only [Rep] at h
    obtain ⟨a,dx,vs,h1,h2,h3⟩:=h
    exact ⟨a,dx,vs,h1,s _ _ h2,h3⟩
theorem Own.top:∀ {d:D} {a:Addr},Own K F H d a→Top K F H d (.ref a)
  | .lst l,a,h=>let ⟨vs,h1,h2⟩:=h; ⟨a,vs,rfl,.inl h1,h2⟩
  | .dct ks l,a,h=>let ⟨vs,h1,h2⟩:=h; ⟨a,vs,rfl,h1,h2⟩
  | .non,_,h=>h.elim
  | .bl _,_,h=>h.elim
  | .int _,_,h=>h.elim
  | .str _,_,h=>h.elim
  | .tup _,_,h=>h.elim
  | .scr _,_,h=>h.elim
  | .exc _,_,h=>h.elim
  | .fd _ _,_,h=>h.elim
  | .obj c ks l,a,h=>let ⟨dx,vs,h1,h2⟩:=h; ⟨a,dx,vs,rfl,h1,h2⟩
theorem Top.mono (e1:Same F F') (e2:Same H H'):∀ {d:D} {v:V},Top K F H d v→Top K F' H' d v
  | .lst l,v,h=>let ⟨a,vs,h1,h2,h3⟩:=h; ⟨a,vs,h1,PM.Same.rd e2 h2,h3.mono e1⟩
  | .dct ks l,v,h=>let ⟨a,vs,h1,h2,h0,h3⟩:=h; ⟨a,vs,h1,e2 _ _ h2,h0,h3.mono e1⟩
  | .non,_,h=>h
  | .bl _,_,h=>h
  | .int _,_,h=>h
  | .str _,_,h=>h
  | .tup l,v,h=>Rep.mono e1 (.tup l) h
  | .scr l,v,h=>Rep.mono e1 (.scr l) h
  | .exc l,v,h=>Rep.mono e1 (.exc l) h
  | .fd ks l,v,h=>Rep.mono e1 (.fd ks l) h
  | .obj c ks l,v,h=>let ⟨a,dx,vs,h1,h2,h0,h3⟩:=h; ⟨a,dx,vs,h1,e2 _ _ h2,h0,h3.mono e1⟩
theorem Own.freeze {p:Addr} {d:D} (x:Ext F H F' H') (h0:F' p=none) (h1:H p=none) (o:Own K F' H' d p):∃ F'',Ext F H F'' H'∧Same F' F''∧Rep K F'' d (.ref p):=by
  obtain ⟨u,hu⟩:=o.obj
  have hs:Same F' (upd F' p u):=Same.upd h0
  refine ⟨upd F' p u,⟨x.ff.trans hs,x.hh,fun b w q=>?_,fun q w h2 h3=>?_⟩,hs,?_⟩
  · by_cases e:b=p
    · subst e; rw [zam] at q; cases q; exact hu
    · rw [zag e] at q; exact x.fh _ _ q
  · rw [zag (zaj h3 h1)]; exact x.nw q w h2 h3
  · cases d with
    | lst l =>
      obtain ⟨vs,h2,h3⟩:=o
      rw [hu] at h2; cases h2
      simp only [Rep]
      exact ⟨p,vs,rfl,.inl zam,h3.mono hs⟩
    | dct ks l =>
      obtain ⟨vs,h2,h3,h4⟩:=o
      rw [hu] at h2; cases h2
      simp only [Rep]
      exact ⟨p,vs,rfl,zam,h3,h4.mono hs⟩
    | obj c ks l =>
      obtain ⟨dx,vs,h2,h3,h4⟩:=o
      rw [hu] at h2; cases h2
      simp only [Rep]
      exact ⟨p,dx,vs,rfl,zam,h3,h4.mono hs⟩
    | _=>exact o.elim
mutual
theorem TrOk.mono (e:Same F F') (e2:Same H H'):∀ (T:Tr) {v:V} {fp:List Addr},TrOk K F H T v fp→TrOk K F' H' T v fp
  | .d x,v,fp,h=>by
    simp only [TrOk] at h ⊢
    exact ⟨h.1,Rep.mono e x h.2⟩
  | .l ts,v,fp,h=>by
    simp only [TrOk] at h ⊢
    obtain ⟨a,vs,fs,h1,h2,h3,h4⟩:=h
    exact ⟨a,vs,fs,h1,h2,e2 _ _ h3,TrOkL.mono e e2 ts h4⟩
  | .t ts,v,fp,h=>by
    simp only [TrOk] at h ⊢
    obtain ⟨a,vs,h1,h3,h4⟩:=h
    exact ⟨a,vs,h1,e _ _ h3,TrOkL.mono e e2 ts h4⟩
theorem TrOkL.mono (e:Same F F') (e2:Same H H'):∀ (ts:List Tr) {vs:List V} {fp:List Addr},TrOkL K F H ts vs fp→TrOkL K F' H' ts vs fp
  | [],vs,fp,h=>by simpa only [TrOkL] using h
  | t :: ts,vs,fp,h=>by
    simp only [TrOkL] at h ⊢
    obtain ⟨v,r,f1,f2,h1,h2,h3,h4⟩:=h
    exact ⟨v,r,f1,f2,h1,h2,TrOk.mono e e2 t h3,TrOkL.mono e e2 ts h4⟩
end
mutual
theorem TrOk.obj:∀ (T:Tr) {v:V} {fp:List Addr},TrOk K F H T v fp→∀ b ∈ fp,∃ o,H b=some o
  | .d x,v,fp,h,b,hb=>by
    simp only [TrOk] at h
    rw [h.1] at hb; cases hb
  | .l ts,v,fp,h,b,hb=>by
    simp only [TrOk] at h
    obtain ⟨a,vs,fs,h1,h2,h3,h4⟩:=h
    rw [h2] at hb
    rcases List.mem_cons.mp hb with e | hb
    · subst e; exact ⟨_,h3⟩
    · exact TrOkL.obj ts h4 b hb
  | .t ts,v,fp,h,b,hb=>by
    simp only [TrOk] at h
    obtain ⟨a,vs,h1,h3,h4⟩:=h
    exact TrOkL.obj ts h4 b hb
theorem TrOkL.obj:∀ (ts:List Tr) {vs:List V} {fp:List Addr},TrOkL K F H ts vs fp→∀ b ∈ fp,∃ o,H b=some o
  | [],vs,fp,h,b,hb=>by
    simp only [TrOkL] at h
    rw [h.2] at hb; cases hb
  | t :: ts,vs,fp,h,b,hb=>by
    simp only [TrOkL] at h
    obtain ⟨v,r,f1,f2,h1,h2,h3,h4⟩:=h
    rw [h2] at hb
    rcases List.mem_append.mp hb with hb | hb
    · exact TrOk.obj t h3 b hb
    · exact TrOkL.obj ts h4 b hb
end
mutual
theorem TrOk.at':∀ (T:Tr) {v:V} {fp:List Addr},TrOk K F H T v fp→(∀ b ∈ fp,H' b=H b)→TrOk K F H' T v fp
  | .d x,v,fp,h,_=>by simpa only [TrOk] using h
  | .l ts,v,fp,h,e=>by
    simp only [TrOk] at h ⊢
    obtain ⟨a,vs,fs,h1,h2,h3,h4⟩:=h
    subst h2
    exact ⟨a,vs,fs,h1,rfl,(e a (by simp)).trans h3,TrOkL.at' ts h4 fun b hb=>e b (List.mem_cons_of_mem _ hb)⟩
  | .t ts,v,fp,h,e=>by
    simp only [TrOk] at h ⊢
    obtain ⟨a,vs,h1,h3,h4⟩:=h
    exact ⟨a,vs,h1,h3,TrOkL.at' ts h4 e⟩
theorem TrOkL.at':∀ (ts:List Tr) {vs:List V} {fp:List Addr},TrOkL K F H ts vs fp→(∀ b ∈ fp,H' b=H b)→TrOkL K F H' ts vs fp
  | [],vs,fp,h,_=>by simpa only [TrOkL] using h
  | t :: ts,vs,fp,h,e=>by
    simp only [TrOkL] at h ⊢
    obtain ⟨v,r,f1,f2,h1,h2,h3,h4⟩:=h
    subst h2
    exact ⟨v,r,f1,f2,h1,rfl,TrOk.at' t h3 fun b hb=>e b (List.mem_append_left _ hb),TrOkL.at' ts h4 fun b hb=>e b (List.mem_append_right _ hb)⟩
end
theorem Tab.mono {a:Addr} {bs:List Addr} {T:Tr} (e1:Same F F') (e:Same H H') (t:Tab K F H a bs T):Tab K F' H' a bs T:=⟨TrOk.mono e1 e T t.ok,t.nd⟩
theorem Tab.obj {a:Addr} {bs:List Addr} {T:Tr} (t:Tab K F H a bs T):∀ b ∈ a :: bs,∃ o,H b=some o:=TrOk.obj T t.ok
theorem Tab.at' {a:Addr} {bs:List Addr} {T:Tr} (t:Tab K F H a bs T) (e:∀ b ∈ a :: bs,H' b=H b):Tab K F H' a bs T:=⟨TrOk.at' T t.ok e,t.nd⟩
theorem SlOk.mono (e:Ext F H F' H'):∀ {x:Option Sl} {s:Option (Option V)},SlOk K H0 F H x s→SlOk K H0 F' H' x s
  | some (.v d),s,h=>let ⟨u,h1,h2⟩:=h; ⟨u,h1,Rep.mono e.ff d h2⟩
  | some (.o d),s,h=>let ⟨a,h1,h2,h3,h4⟩:=h; let ⟨o,ho⟩:=h4.obj; ⟨a,h1,h2,e.nw a o h3 ho,h4.mono e.ff e.hh⟩
  | some (.l d),s,h=>let ⟨a,h1,h2,h3,h4⟩:=h; let ⟨o,ho⟩:=h4.obj; ⟨a,h1,h2,e.nw a o h3 ho,h4.mono e.ff e.hh⟩
  | some (.p T),s,h=>let ⟨a,bs,h1,h2,h3⟩:=h; ⟨a,bs,h1,h2.mono e.ff e.hh,fun b hb=>let ⟨o,ho⟩:=h2.obj b hb; ⟨(h3 b hb).1,e.nw b o (h3 b hb).2 ho⟩⟩
  | some .no,_,_=>trivial
  | none,_,_=>trivial
mutual
theorem zj2:∀ (T:Tr) {v:V} {f f':List Addr},TrOk K F H T v f→TrOk K F H T v f'→f=f'
  | .d x,v,f,f',h1,h2=>by
    simp only [TrOk] at h1 h2
    rw [h1.1,h2.1]
  | .l ts,v,f,f',h1,h2=>by
    simp only [TrOk] at h1 h2
    obtain ⟨a,vs,fs,rfl,rfl,e1,o1⟩:=h1
    obtain ⟨a',vs',fs',e,rfl,e2,o2⟩:=h2
    cases e
    rw [e1] at e2
    cases e2
    rw [zhH ts o1 o2]
  | .t ts,v,f,f',h1,h2=>by
    simp only [TrOk] at h1 h2
    obtain ⟨a,vs,rfl,e1,o1⟩:=h1
    obtain ⟨a',vs',e,e2,o2⟩:=h2
    cases e
    rw [e1] at e2
    cases e2
    exact zhH ts o1 o2
theorem zhH:∀ (ts:List Tr) {vs:List V} {f f':List Addr},TrOkL K F H ts vs f→TrOkL K F H ts vs f'→f=f'
  | [],vs,f,f',h1,h2=>by
    simp only [TrOkL] at h1 h2
    rw [h1.2,h2.2]
  | t :: ts,vs,f,f',h1,h2=>by
    simp only [TrOkL] at h1 h2
    obtain ⟨v,r,f1,f2,rfl,rfl,o1,o2⟩:=h1
    obtain ⟨v',r',g1,g2,e,rfl,p1,p2⟩:=h2
    cases e
    rw [zj2 t o1 p1,zhH ts o2 p2]
end
theorem zfl {a:Addr} {bs bs':List Addr} {T:Tr} (t:Tab K F H a bs T) (t':Tab K F H a bs' T):bs=bs':=(List.cons.inj (zj2 T t.ok t'.ok)).2
theorem EnvOk.tab (I:EnvOk K Λ F0 H0 F H σ δ) {i:Nat} {T:Tr} (hx:δ[i]?=some (.p T)):∃ a bs,σ[i]?=some (some (.ref a))∧Tab K F H a bs T∧(∀ b ∈ a :: bs,H0 b=none∧F b=none)∧(∀ (j:Nat) (b:Addr),j ≠ i→Sl.own δ[j]?=true→σ[j]?=some (some (.ref b))→b ∉ a :: bs)∧∀ (j:Nat) (T':Tr),j ≠ i→δ[j]?=some (.p T')→∃ a' bs',σ[j]?=some (some (.ref a'))∧Tab K F H a' bs' T'∧∀ b ∈ a' :: bs',b ∉ a :: bs:=I.tabs i T hx
theorem EnvOk.tabsOf {δ':En} {σ':St} (I:EnvOk K Λ F0 H0 F H σ δ) (h1:∀ (i:Nat) (T:Tr),δ'[i]?=some (.p T)→δ[i]?=some (.p T)∧σ'[i]?=σ[i]?)
    (h2:∀ (i:Nat) (a:Addr) (bs:List Addr) (T:Tr),δ[i]?=some (.p T)→σ[i]?=some (some (.ref a))→Tab K F H a bs T→(∀ b ∈ a :: bs,H0 b=none∧F b=none)→(∀ (j:Nat) (b:Addr),j ≠ i→Sl.own δ[j]?=true→σ[j]?=some (some (.ref b))→b ∉ a :: bs)→Tab K F' H' a bs T∧∀ b ∈ a :: bs,F' b=none)
    (h3:∀ (i j:Nat) (T:Tr) (a b:Addr) (bs:List Addr),δ[i]?=some (.p T)→σ[i]?=some (some (.ref a))→Tab K F H a bs T→j ≠ i→Sl.own δ'[j]?=true→σ'[j]?=some (some (.ref b))→(Sl.own δ[j]?=true∧σ[j]?=some (some (.ref b)))∨b ∉ a :: bs) :
    ∀ (i:Nat) (T:Tr),δ'[i]?=some (.p T)→∃ a bs,σ'[i]?=some (some (.ref a))∧Tab K F' H' a bs T∧(∀ b ∈ a :: bs,H0 b=none∧F' b=none)∧(∀ (j:Nat) (b:Addr),j ≠ i→Sl.own δ'[j]?=true→σ'[j]?=some (some (.ref b))→b ∉ a :: bs)∧∀ (j:Nat) (T':Tr),j ≠ i→δ'[j]?=some (.p T')→∃ a' bs',σ'[j]?=some (some (.ref a'))∧Tab K F' H' a' bs' T'∧∀ b ∈ a' :: bs',b ∉ a :: bs:=by
  intro i T g1
  obtain ⟨d1,d2⟩:=h1 i T g1
  obtain ⟨a,bs,t1,t2,t3,t4,t5⟩:=I.tab d1
  obtain ⟨u1,u2⟩:=h2 i a bs T d1 t1 t2 t3 t4
  refine ⟨a,bs,d2.trans t1,u1,fun b hb=>⟨(t3 b hb).1,u2 b hb⟩,fun j b hj ho hs hb=>?_,fun j T' hj hT=>?_⟩
  · rcases h3 i j T a b bs d1 t1 t2 hj ho hs with ⟨o1,o2⟩ | o
    · exact t4 j b hj o1 o2 hb
    · exact o hb
  · obtain ⟨e1,e2⟩:=h1 j T' hT
    obtain ⟨a',bs',s1,s2,s3⟩:=t5 j T' hj e1
    obtain ⟨a2,bs2,u1,u2,u3,u4,_⟩:=I.tab e1
    rw [s1] at u1
    cases u1
    have eb:=zfl u2 s2
    subst eb
    exact ⟨a',bs2,e2.trans s1,(h2 j a' bs2 T' e1 s1 s2 u3 u4).1,s3⟩
theorem zfX (e:Ext F H F' H') {a:Addr} {bs:List Addr} {T:Tr} (t:Tab K F H a bs T) (f:∀ b ∈ a :: bs,H0 b=none∧F b=none):Tab K F' H' a bs T∧∀ b ∈ a :: bs,F' b=none :=
  ⟨t.mono e.ff e.hh,fun b hb=>let ⟨o,ho⟩:=t.obj b hb; e.nw b o (f b hb).2 ho⟩
theorem EnvOk.grow (I:EnvOk K Λ F0 H0 F H σ δ) (e:Ext F H F' H'):EnvOk K Λ F0 H0 F' H' σ δ :=
  ⟨I.ext.trans e,I.len,fun i=>(I.slot i).mono e,I.dist,fun x hx=>let ⟨h1,h2,h3⟩:=I.lent x hx; ⟨h1,h2,e.hh _ _ h3⟩,I.tabsOf (fun i T h=>⟨h,rfl⟩) (fun i a bs T _ _ t f _=>zfX e t f) fun i j T a b bs _ _ _ _ ho hs=>.inl ⟨ho,hs⟩⟩
theorem EnvOk.same (I:EnvOk K Λ F0 H0 F H σ δ):Same F H:=I.ext.fh
theorem Ext.base (a:Ext F0 H0 F1 H1) (b:Ext F1 H0 F' H'):Ext F0 H0 F' H' :=
  ⟨a.ff.trans b.ff,b.hh,b.fh,fun p o h1 h2=>b.nw p o (a.nw p o h1 h2) h2⟩
theorem EnvOk.up (I:EnvOk K Λ F0 H0 F H σ δ):EnvOk K Λ F H0 F H σ δ :=
  ⟨⟨.refl _,I.ext.hh,I.ext.fh,fun p o h1 h2=>h1⟩,I.len,I.slot,I.dist,I.lent,I.tabs⟩
theorem EnvOk.down (a:Ext F0 H0 F1 H1) (I:EnvOk K Λ F1 H0 F H σ δ):EnvOk K Λ F0 H0 F H σ δ :=
  ⟨a.base I.ext,I.len,I.slot,I.dist,I.lent,I.tabs⟩
theorem EnvOk.put {i:Nat} {d:D} {v:V} (I:EnvOk K Λ F0 H0 F H σ δ) (hl:∃ x,δ[i]?=some x∧∀ d,x ≠ .l d) (r:Rep K F d v):EnvOk K Λ F0 H0 F H (σ.set i (some v)) (δ.set i (.v d)):=by
  obtain ⟨x,hx,hn⟩:=hl
  have hi:i < δ.length:=(List.getElem?_eq_some_iff.mp hx).1
  have hi':i < σ.length:=by rw [I.len]; exact hi
  refine ⟨I.ext,by simp [I.len],fun j=>?_,fun j k a hjk h1 h2 h3 h4=>?_,fun y hy=>?_,I.tabsOf (fun k ll h=>by
      by_cases e:i=k
      · subst e; rw [List.getElem?_set_self hi] at h; cases h
      · rw [List.getElem?_set_ne e] at h; exact ⟨h,List.getElem?_set_ne e⟩) (fun _ _ _ _ _ _ t f _=>⟨t,fun b hb=>(f b hb).2⟩) fun k j ll a b bs _ _ _ _ ho hs=>.inl (by
      by_cases e:i=j
      · subst e; rw [List.getElem?_set_self hi] at ho; cases ho
      · rw [List.getElem?_set_ne e] at ho hs; exact ⟨ho,hs⟩)⟩
  · by_cases e:i=j
    · subst e
      rw [List.getElem?_set_self hi,List.getElem?_set_self hi']
      exact ⟨v,rfl,r⟩
    · rw [List.getElem?_set_ne e,List.getElem?_set_ne e]
      exact I.slot j
  · have ne:∀ k:Nat,Sl.own (δ.set i (.v d))[k]?=true→i ≠ k:=by
      rintro k h rfl
      rw [List.getElem?_set_self hi] at h
      cases h
    have n1:=ne j h1
    have n2:=ne k h2
    rw [List.getElem?_set_ne n1] at h1 h3
    rw [List.getElem?_set_ne n2] at h2 h4
    exact I.dist j k a hjk h1 h2 h3 h4
  · obtain ⟨⟨d',h1⟩,h2,h3⟩:=I.lent y hy
    have n:i ≠ y.1:=by
      intro e
      rw [← e,hx] at h1
      exact hn d' (Option.some.inj h1)
    exact ⟨⟨d',by rw [List.getElem?_set_ne n]; exact h1⟩,by rw [List.getElem?_set_ne n]; exact h2,h3⟩
theorem EnvOk.putO {i:Nat} {d:D} {p:Addr} (I:EnvOk K Λ F0 H0 F H σ δ) (hl:∃ x,δ[i]?=some x∧∀ d,x ≠ .l d) (e:Ext F H F' H') (h0:F' p=none) (h1:H p=none) (o:Own K F' H' d p) :
    EnvOk K Λ F0 H0 F' H' (σ.set i (some (.ref p))) (δ.set i (.o d)):=by
  obtain ⟨x,hx,hn⟩:=hl
  have hi:i < δ.length:=(List.getElem?_eq_some_iff.mp hx).1
  have hi':i < σ.length:=by rw [I.len]; exact hi
  have fresh:∀ k:Nat,Sl.own δ[k]?=true→σ[k]? ≠ some (some (V.ref p)):=fun k hk e=>by
    have z:=I.slot k
    cases q:δ[k]? with
    | none=>rw [q] at hk; cases hk
    | some y =>
      rw [q] at hk z
      cases y with
      | no=>cases hk
      | v d=>cases hk
      | o d =>
        obtain ⟨a,z1,_,_,z4⟩:=z
        rw [e] at z1; cases z1
        obtain ⟨u,hu⟩:=z4.obj
        rw [h1] at hu; cases hu
      | l d =>
        obtain ⟨a,z1,_,_,z4⟩:=z
        rw [e] at z1; cases z1
        obtain ⟨u,hu⟩:=z4.obj
        rw [h1] at hu; cases hu
      | p ll =>
        obtain ⟨a,bs,z1,z2,_⟩:=z
        rw [e] at z1; cases z1
        obtain ⟨u,hu⟩:=z2.obj p (by simp)
        rw [h1] at hu; cases hu
  have J:=I.grow e
  refine ⟨J.ext,by simp [I.len],fun j=>?_,fun j k a hjk g1 g2 g3 g4=>?_,fun y hy=>?_,I.tabsOf (fun k ll h=>by
      by_cases e:i=k
      · subst e; rw [List.getElem?_set_self hi] at h; cases h
      · rw [List.getElem?_set_ne e] at h; exact ⟨h,List.getElem?_set_ne e⟩) (fun k a bs T _ _ t f _=>zfX e t f) fun k j ll a b bs _ _ t _ ho hs=>by
      by_cases e:i=j
      · subst e
        rw [List.getElem?_set_self hi'] at hs
        cases hs
        refine .inr fun hb=>?_
        obtain ⟨u,hu⟩:=t.obj p hb
        rw [h1] at hu; cases hu
      · rw [List.getElem?_set_ne e] at ho hs; exact .inl ⟨ho,hs⟩⟩
  · by_cases e:i=j
    · subst e
      rw [List.getElem?_set_self hi,List.getElem?_set_self hi']
      exact ⟨p,rfl,I.ext.hh.free h1,h0,o⟩
    · rw [List.getElem?_set_ne e,List.getElem?_set_ne e]
      exact J.slot j
  · by_cases e1:i=j
    · subst e1
      rw [List.getElem?_set_self hi'] at g3
      cases g3
      rw [List.getElem?_set_ne hjk] at g2 g4
      exact fresh k g2 g4
    · by_cases e2:i=k
      · subst e2
        rw [List.getElem?_set_self hi'] at g4
        cases g4
        rw [List.getElem?_set_ne e1] at g1 g3
        exact fresh j g1 g3
      · rw [List.getElem?_set_ne e1] at g1 g3
        rw [List.getElem?_set_ne e2] at g2 g4
        exact I.dist j k a hjk g1 g2 g3 g4
  · obtain ⟨⟨d',g1⟩,g2,g3⟩:=J.lent y hy
    have n:i ≠ y.1:=by
      intro e
      rw [← e,hx] at g1
      exact hn d' (Option.some.inj g1)
    exact ⟨⟨d',by rw [List.getElem?_set_ne n]; exact g1⟩,by rw [List.getElem?_set_ne n]; exact g2,g3⟩
theorem EnvOk.chg {i:Nat} {d d':D} {a:Addr} {u:HO} (I:EnvOk K Λ F0 H0 F H σ δ) (hx:δ[i]?=some (.o d)) (ha:σ[i]?=some (some (.ref a))) (o:Own K F (upd H a u) d' a) :
    EnvOk K Λ F0 H0 F (upd H a u) σ (δ.set i (.o d')):=by
  have hi:i < δ.length:=(List.getElem?_eq_some_iff.mp hx).1
  have z:=I.slot i
  rw [hx] at z
  obtain ⟨a',z1,z2,z3,z4⟩:=z
  rw [ha] at z1; cases z1
  have oth:∀ (k:Nat) (b:Addr),i ≠ k→Sl.own δ[k]?=true→σ[k]?=some (some (.ref b))→b ≠ a:=fun k b hk h1 h2 e=>by
    subst e
    exact I.dist i k b hk (by rw [hx]; rfl) h1 ha h2
  refine ⟨⟨I.ext.ff,fun b w q=>?_,fun b w q=>?_,I.ext.nw⟩,by simp [I.len],fun j=>?_,fun j k b hjk g1 g2 g3 g4=>?_,fun y hy=>?_,I.tabsOf (fun k ll h=>by
      by_cases e:i=k
      · subst e; rw [List.getElem?_set_self hi] at h; cases h
      · rw [List.getElem?_set_ne e] at h; exact ⟨h,rfl⟩) (fun k r bs T g1 g2 t f dj=>by
      have e:i ≠ k:=fun e=>by subst e; rw [hx] at g1; cases g1
      exact ⟨t.at' fun b hb=>zag fun e'=>dj i a e (by rw [hx]; rfl) ha (e' ▸ hb),fun b hb=>(f b hb).2⟩) fun k j ll r b bs _ _ _ _ ho hs=>.inl (by
      by_cases e:i=j
      · subst e; exact ⟨by rw [hx]; rfl,hs⟩
      · rw [List.getElem?_set_ne e] at ho; exact ⟨ho,hs⟩)⟩
  · rw [zag (zaj q z2)]; exact I.ext.hh b w q
  · rw [zag (zaj q z3)]; exact I.ext.fh b w q
  · by_cases e:i=j
    · subst e
      rw [List.getElem?_set_self hi]
      exact ⟨a,ha,z2,z3,o⟩
    · rw [List.getElem?_set_ne e]
      have w:=I.slot j
      cases q:δ[j]? with
      | none=>trivial
      | some y =>
        rw [q] at w
        cases y with
        | no=>trivial
        | v d=>exact w
        | o d =>
          obtain ⟨b,w1,w2,w3,w4⟩:=w
          exact ⟨b,w1,w2,w3,w4.at (zag (oth j b e (by rw [q]; rfl) w1))⟩
        | l d =>
          obtain ⟨b,w1,w2,w3,w4⟩:=w
          exact ⟨b,w1,w2,w3,w4.at (zag (oth j b e (by rw [q]; rfl) w1))⟩
        | p ll =>
          obtain ⟨r,bs,t1,t2,t3,t4,t5⟩:=I.tab q
          exact ⟨r,bs,t1,t2.at' fun b hb=>zag fun e'=>t4 i a e (by rw [hx]; rfl) ha (e' ▸ hb),t3⟩
  · have ow:∀ k:Nat,Sl.own (δ.set i (.o d'))[k]?=true→Sl.own δ[k]?=true:=by
      intro k h
      by_cases e:i=k
      · subst e; rw [hx]; rfl
      · rw [List.getElem?_set_ne e] at h; exact h
    exact I.dist j k b hjk (ow j g1) (ow k g2) g3 g4
  · obtain ⟨⟨d2,g1⟩,g2,g3⟩:=I.lent y hy
    have n:i ≠ y.1:=by
      intro e
      rw [← e,hx] at g1
      cases g1
    exact ⟨⟨d2,by rw [List.getElem?_set_ne n]; exact g1⟩,g2,by rw [zag (oth y.1 y.2.1 n (by rw [g1]; rfl) g2)]; exact g3⟩
end
end PM
namespace PM
open PySem L2
abbrev XOT:=Xc→Hp→Hp→Value→Option Addr→Prop
def Aft {α:Type} (E:St→XK) (XO:XOT) (σ:St) (F H:Hp) (P:α→Hp→Hp→Prop):R α→Prop
  | .no=>False
  | .ok a=>∀ F' H',Ext F H F' H'→P a F' H'
  | .ex x=>∀ C dct F' H',Ext F H F' H'→XO x F' H' C dct→E σ C dct H'
section
variable {E:St→XK} {XO:XOT} {σ:St} {F H F1 H1:Hp} {α β:Type} {P P':α→Hp→Hp→Prop}
theorem Aft.mono (e:Ext F H F1 H1):∀ {r:R α},Aft E XO σ F H P r→Aft E XO σ F1 H1 P r
  | .no,h=>h
  | .ok _,h=>fun F' H' e'=>h F' H' (e.trans e')
  | .ex _,h=>fun C dct F' H' e' x=>h C dct F' H' (e.trans e') x
theorem Aft.imp (i:∀ a F1 H1,Ext F H F1 H1→P a F1 H1→P' a F1 H1):∀ {r:R α},Aft E XO σ F H P r→Aft E XO σ F H P' r
  | .no,h=>h
  | .ok _,h=>fun F' H' e'=>i _ F' H' e' (h F' H' e')
  | .ex _,h=>h
theorem Aft.bind {P:β→Hp→Hp→Prop} {f:α→R β}:∀ {r:R α},Aft E XO σ F H P (r.bind f)→Aft E XO σ F H (fun a F1 H1=>Aft E XO σ F1 H1 P (f a)) r
  | .no,h=>h
  | .ok _,h=>fun F' H' e'=>Aft.mono e' h
  | .ex _,h=>h
end
inductive Prd (T:D→V→Prop):List D→List V→Prop where
  | nil:Prd T [] []
  | cons {d:D} {v:V} {ds:List D} {vs:List V}:T d v→Prd T ds vs→Prd T (d :: ds) (v :: vs)
section
variable (K:Kx) (XO:XOT) (E:St→XK)
def SE (t:TE) (m:En→R D):Prop:=∀ Λ F0 H0 F H σ δ Q,EnvOk K Λ F0 H0 F H σ δ→Aft E XO σ F H (fun d F' H'=>∀ v,Rep K F' d v→Q v H') (m δ)→t σ H Q
def SEr (t:TE) (m:En→R D):Prop:=∀ Λ F0 H0 F H σ δ Q,EnvOk K Λ F0 H0 F H σ δ→Aft E XO σ F H (fun d F' H'=>∀ v,Top K F' H' d v→Q v H') (m δ)→t σ H Q
def SEo (t:TE) (m:En→R D):Prop:=∀ Λ F0 H0 F H σ δ Q,EnvOk K Λ F0 H0 F H σ δ→Aft E XO σ F H (fun d F' H'=>∀ p,F' p=none→H p=none→Own K F' H' d p→Q (.ref p) H') (m δ)→t σ H Q
def ST (t:TT) (m:En→R Bool):Prop:=∀ Λ F0 H0 F H σ δ Q,EnvOk K Λ F0 H0 F H σ δ→Aft E XO σ F H (fun b _ H'=>Q b H') (m δ)→t σ H Q
def SA (t:TA) (m:En→R (List D)):Prop:=∀ Λ F0 H0 F H σ δ Q,EnvOk K Λ F0 H0 F H σ δ→Aft E XO σ F H (fun ds F' H'=>∀ vs,RepL K F' ds vs→Q vs H') (m δ)→t σ H Q
def SAr (t:TA) (m:En→R (List D)):Prop:=∀ Λ F0 H0 F H σ δ Q,EnvOk K Λ F0 H0 F H σ δ→Aft E XO σ F H (fun ds F' H'=>∀ vs,Prd (Top K F' H') ds vs→Q vs H') (m δ)→t σ H Q
end
section
variable {K:Kx} {XO:XOT} {E:St→XK} {t ta tb te:TE} {m ma mb me:En→R D}
theorem SE.r (h:SE K XO E t m):SEr K XO E t m:=fun Λ F0 H0 F H σ δ Q I a=>h Λ F0 H0 F H σ δ Q I (a.imp fun d F1 H1 e p v r=>p v (r.top e.fh))
theorem SEo.e (h:SEo K XO E t m):SE K XO E t m:=fun Λ F0 H0 F H σ δ Q I a=>h Λ F0 H0 F H σ δ Q I (by
  cases q:m δ with
  | no=>rw [q] at a; exact a
  | ex x=>rw [q] at a; exact a
  | ok d =>
    rw [q] at a
    intro F1 H1 e p h0 h1 o
    obtain ⟨F2,e2,s2,r⟩:=o.freeze e h0 h1
    exact a F2 H1 e2 _ r)
def mVar (i:Nat) (δ:En):R D:=match δ[i]? with | some (.v d)=>.ok d | _=>.no
def mRd (i:Nat) (δ:En):R D:=match δ[i]? with | some (.v d)=>.ok d | some (.o d)=>.ok d | some (.l d)=>.ok d | _=>.no
theorem zaq {i:Nat}:SE K XO E (tVar i) (mVar i):=by
  intro Λ F0 H0 F H σ δ Q I a
  unfold mVar at a
  have z:=I.slot i
  split at a
  · rename_i d q
    rw [q] at z
    obtain ⟨u,h1,h2⟩:=z
    exact ⟨u,h1,a F H (.refl I.same) u h2⟩
  · exact a.elim
theorem zac {i:Nat}:SEr K XO E (tVar i) (mRd i):=by
  intro Λ F0 H0 F H σ δ Q I a
  unfold mRd at a
  have z:=I.slot i
  split at a
  · rename_i d q
    rw [q] at z
    obtain ⟨u,h1,h2⟩:=z
    exact ⟨u,h1,a F H (.refl I.same) u (h2.top I.same)⟩
  · rename_i d q
    rw [q] at z
    obtain ⟨u,h1,_,_,h2⟩:=z
    exact ⟨_,h1,a F H (.refl I.same) _ h2.top⟩
  · rename_i d q
    rw [q] at z
    obtain ⟨u,h1,_,_,h2⟩:=z
    exact ⟨_,h1,a F H (.refl I.same) _ h2.top⟩
  · exact a.elim
def mC (d:D) (_:En):R D:=.ok d
theorem zal {i:Int}:SE K XO E (tC (.int i)) (mC (.int i)):=fun Λ F0 H0 F H σ δ Q I a=>a F H (.refl I.same) _ (by simp only [Rep])
theorem zc2 {i:Bool}:SE K XO E (tC (.bl i)) (mC (.bl i)):=fun Λ F0 H0 F H σ δ Q I a=>a F H (.refl I.same) _ (by simp only [Rep])
def R.of {α:Type}:Option α→R α
  | some a=>.ok a
  | none=>.no
@[simp] theorem R.of_some {α:Type} (a:α):R.of (some a) = .ok a:=rfl
@[simp] theorem R.of_none {α:Type}:R.of (none:Option α) = .no:=rfl
def m2 (f:D→D→Option D) (ma mb:En→R D) (δ:En):R D:=(ma δ).bind fun x=>(mb δ).bind fun y=>R.of (f x y)
def m1 (f:D→Option D) (ma:En→R D) (δ:En):R D:=(ma δ).bind fun x=>R.of (f x)
@[simp] theorem zjv {f:D→D→Option D} {ma mb:En→R D} {δ:En}:m2 f ma mb δ=(ma δ).bind fun x=>(mb δ).bind fun y=>R.of (f x y):=rfl
@[simp] theorem zkK {f:D→Option D} {ma:En→R D} {δ:En}:m1 f ma δ=(ma δ).bind fun x=>R.of (f x):=rfl
variable (K) in
def SR (r:R2) (f:D→D→Option D):Prop:=∀ F H x y dx dy d Q,Same F H→Top K F H dx x→Top K F H dy y→f dx dy=some d→(∀ v F' H',Ext F H F' H'→Rep K F' d v→Q v H')→r x y H Q
theorem zan {r:R2} {f:D→D→Option D} (hr:SR K r f) (ha:SEr K XO E ta ma) (hb:SEr K XO E tb mb):SE K XO E (tOp r ta tb) (m2 f ma mb):=by
  intro Λ F0 H0 F H σ δ Q I a
  refine ha Λ F0 H0 F H σ δ _ I (a.bind.imp fun dx F1 H1 e1 a1 x rx=>?_)
  refine hb Λ F0 H0 F1 H1 σ δ _ (I.grow e1) (a1.bind.imp fun dy F2 H2 e2 a2 y ry=>?_)
  cases q:f dx dy with
  | none=>rw [q] at a2; exact a2.elim
  | some d =>
    rw [q] at a2
    exact hr F2 H2 x y dx dy d Q e2.fh (rx.mono e2.ff e2.hh) ry q fun v F' H' e r=>a2 F' H' e v r
variable (K) in
def SU (r:V→Hp→VK→Prop) (f:D→Option D):Prop:=∀ F H x dx d Q,Same F H→Top K F H dx x→f dx=some d→(∀ v F' H',Ext F H F' H'→Rep K F' d v→Q v H')→r x H Q
theorem zi1 {r:V→Hp→VK→Prop} {f:D→Option D} (hr:SU K r f) (ha:SEr K XO E ta ma):SE K XO E (tUn r ta) (m1 f ma):=by
  intro Λ F0 H0 F H σ δ Q I a
  refine ha Λ F0 H0 F H σ δ _ I (a.bind.imp fun dx F1 H1 e1 a1 x rx=>?_)
  cases q:f dx with
  | none=>rw [q] at a1; exact a1.elim
  | some d =>
    rw [q] at a1
    exact hr F1 H1 x dx d Q e1.fh rx q fun v F' H' e r=>a1 F' H' e v r
def mNil (_:En):R (List D):=.ok []
def zaa (ma:En→R D) (mr:En→R (List D)) (δ:En):R (List D):=(ma δ).bind fun x=>(mr δ).bind fun l=>.ok (x :: l)
theorem zaw:SA K XO E tNil mNil:=fun Λ F0 H0 F H σ δ Q I a=>a F H (.refl I.same) _ .nil
theorem zae {tr:TA} {mr:En→R (List D)} (ha:SE K XO E ta ma) (hr:SA K XO E tr mr):SA K XO E (zb7 ta tr) (zaa ma mr):=by
  intro Λ F0 H0 F H σ δ Q I a
  refine ha Λ F0 H0 F H σ δ _ I (a.bind.imp fun dx F1 H1 e1 a1 x rx=>?_)
  refine hr Λ F0 H0 F1 H1 σ δ _ (I.grow e1) (a1.bind.imp fun dy F2 H2 e2 a2 y ry=>?_)
  exact a2 F2 H2 (.refl e2.fh) _ (.cons (Rep.mono e2.ff _ rx) ry)
theorem zaM:SAr K XO E tNil mNil:=fun Λ F0 H0 F H σ δ Q I a=>a F H (.refl I.same) _ .nil
theorem zaD {tr:TA} {mr:En→R (List D)} (ha:SEr K XO E ta ma) (hr:SAr K XO E tr mr):SAr K XO E (zb7 ta tr) (zaa ma mr):=by
  intro Λ F0 H0 F H σ δ Q I a
  refine ha Λ F0 H0 F H σ δ _ I (a.bind.imp fun dx F1 H1 e1 a1 x rx=>?_)
  refine hr Λ F0 H0 F1 H1 σ δ _ (I.grow e1) (a1.bind.imp fun dy F2 H2 e2 a2 y ry=>?_)
  exact a2 F2 H2 (.refl e2.fh) _ (.cons (rx.mono e2.ff e2.hh) ry)
def mTup (ml:En→R (List D)) (δ:En):R D:=(ml δ).bind fun l=>ifC (l.length ≤ sizeLine) (.ok (.tup l)) .no
def mLst (ml:En→R (List D)) (δ:En):R D:=(ml δ).bind fun l=>ifC (l.length ≤ sizeLine) (.ok (.lst l)) .no
theorem zf0 {tl:TA} {ml:En→R (List D)} (h:SA K XO E tl ml):SE K XO E (tTup tl) (mTup ml):=by
  intro Λ F0 H0 F H σ δ Q I a
  refine h Λ F0 H0 F H σ δ _ I (a.bind.imp fun ds F1 H1 e1 a1 vs r=>?_)
  unfold ifC at a1
  split at a1
  · rename_i hl
    refine ⟨by rw [r.length]; exact hl,fun p hp=>a1 _ _ (.new e1.fh hp) _ ?_⟩
    simp only [Rep]
    exact ⟨p,vs,rfl,zam,r.mono (Same.upd (e1.fh.free hp))⟩
  · exact a1.elim
theorem zbj {tl:TA} {ml:En→R (List D)} (h:SA K XO E tl ml):SEo K XO E (tLst tl) (mLst ml):=by
  intro Λ F0 H0 F H σ δ Q I a
  refine h Λ F0 H0 F H σ δ _ I (a.bind.imp fun ds F1 H1 e1 a1 vs r=>?_)
  unfold ifC at a1
  split at a1
  · rename_i hl
    refine ⟨by rw [r.length]; exact hl,fun p hp=>a1 _ _ (.newO e1.fh hp) _ (e1.fh.free hp) (e1.hh.free hp) ⟨vs,zam,r⟩⟩
  · exact a1.elim
theorem ziD:SEo K XO E ziY (mC (.dct [] [])):=fun Λ F0 H0 F H σ δ Q I a p hp=>a F _ (.newO I.same hp) p (I.same.free hp) hp ⟨[],zam,rfl,.nil⟩
def asB:D→Option Bool
  | .bl b=>some b
  | _=>none
def zas (me:En→R D) (δ:En):R Bool:=(me δ).bind fun d=>R.of (asB d)
theorem zaN (h:SE K XO E te me):ST K XO E (zjW te) (zas me):=by
  intro Λ F0 H0 F H σ δ Q I a
  refine h Λ F0 H0 F H σ δ _ I (a.bind.imp fun d F1 H1 e1 a1 v r=>?_)
  cases d with
  | bl b=>simp only [Rep] at r; exact ⟨b,r,a1 F1 H1 (.refl e1.fh)⟩
  | _=>exact a1.elim
theorem st_b (h:SE K XO E te me):ST K XO E (tB te) (zas me):=zaN h
variable {tA tB':TT} {nA nB:En→R Bool}
def mAnd (nA nB:En→R Bool) (δ:En):R Bool:=(nA δ).bind fun b=>if b=true then nB δ else .ok false
def mOr (nA nB:En→R Bool) (δ:En):R Bool:=(nA δ).bind fun b=>if b=true then .ok true else nB δ
def mNot (nA:En→R Bool) (δ:En):R Bool:=(nA δ).bind fun b=>.ok (!b)
theorem zhI (h:ST K XO E tA nA) (h':ST K XO E tB' nB):ST K XO E (tAnd tA tB') (mAnd nA nB):=by
  intro Λ F0 H0 F H σ δ Q I a
  refine h Λ F0 H0 F H σ δ _ I (a.bind.imp fun b F1 H1 e1 a1=>?_)
  cases b with
  | true=>exact h' Λ F0 H0 F1 H1 σ δ _ (I.grow e1) a1
  | false=>exact a1 F1 H1 (.refl e1.fh)
theorem zdQ (h:ST K XO E tA nA) (h':ST K XO E tB' nB):ST K XO E (tOr tA tB') (mOr nA nB):=by
  intro Λ F0 H0 F H σ δ Q I a
  refine h Λ F0 H0 F H σ δ _ I (a.bind.imp fun b F1 H1 e1 a1=>?_)
  cases b with
  | false=>exact h' Λ F0 H0 F1 H1 σ δ _ (I.grow e1) a1
  | true=>exact a1 F1 H1 (.refl e1.fh)
theorem zb5 (h:ST K XO E tA nA):ST K XO E (tNot tA) (mNot nA):=by
  intro Λ F0 H0 F H σ δ Q I a
  exact h Λ F0 H0 F H σ δ _ I (a.bind.imp fun b F1 H1 e1 a1=>a1 F1 H1 (.refl e1.fh))
def zh9 (ma mb:En→R D) (δ:En):R D:=(ma δ).bind fun d=>(R.of (asB d)).bind fun b=>if b=true then mb δ else .ok (.bl false)
theorem zko (h:SE K XO E ta ma) (h':SE K XO E tb mb):SE K XO E (zjC ta tb) (zh9 ma mb):=by
  intro Λ F0 H0 F H σ δ Q I a
  refine h Λ F0 H0 F H σ δ _ I (a.bind.imp fun d F1 H1 e1 a1 v r=>?_)
  cases d with
  | bl b =>
    simp only [Rep] at r
    refine ⟨b,r,?_⟩
    cases b with
    | true=>exact h' Λ F0 H0 F1 H1 σ δ _ (I.grow e1) a1
    | false=>exact a1 F1 H1 (.refl e1.fh) _ (by simp only [Rep])
  | _=>exact a1.elim
def spM (K:Kx) (XO:XOT) (f:List D→R D):Sp:=fun vs H Q E=>∃ F ds,Same F H∧RepL K F ds vs∧Aft (fun _=>E) XO [] F H (fun d F' H'=>∀ v,Rep K F' d v→Q v H') (f ds)
def R.nev {α:Type}:R α→R α
  | .ex _=>.no
  | r=>r
@[simp] theorem R.nev_ok {α:Type} (a:α):(R.ok a).nev = .ok a:=rfl
def zao (f:List D→R D) (ml:En→R (List D)) (δ:En):R D:=(ml δ).bind fun l=>(f l).nev
theorem Aft.any {α:Type} {E E':St→XK} {σ σ':St} {F H:Hp} {P:α→Hp→Hp→Prop} {r:R α} (h:Aft E XO σ F H P r.nev):Aft E' XO σ' F H P r:=by
  cases r with
  | no=>exact h
  | ok a=>exact h
  | ex x=>exact h.elim
theorem za1 {f:List D→R D} {tl:TA} {ml:En→R (List D)} {E':XK} (h:SA K XO E tl ml):SE K XO E (ze5 (spM K XO f) [] E' tl) (zao f ml):=by
  intro Λ F0 H0 F H σ δ Q I a
  refine h Λ F0 H0 F H σ δ _ I (a.bind.imp fun ds F1 H1 e1 a1 vs r=>⟨F1,ds,e1.fh,by rw [List.append_nil]; exact r,a1.any⟩)
variable (K) in
def SG (g:TG) (b:D→En→Option En):Prop:=∀ Λ F0 H0 F H σ δ d v δ' Q,EnvOk K Λ F0 H0 F H σ δ→Rep K F d v→b d δ=some δ'→(∀ σ',EnvOk K Λ F0 H0 F H σ' δ'→Q σ' H)→g v σ H Q
variable (K) in
def SGs (g:TGs) (b:List D→En→Option En):Prop:=∀ Λ F0 H0 F H σ δ d v δ' Q,EnvOk K Λ F0 H0 F H σ δ→RepL K F d v→b d δ=some δ'→(∀ σ',EnvOk K Λ F0 H0 F H σ' δ'→Q σ' H)→g v σ H Q
def zav (i:Nat) (d:D) (δ:En):Option En:=match δ[i]? with | none=>none | some (.l _)=>none | some _=>some (δ.set i (.v d))
def za5 (i:Nat) (d:D) (δ:En):Option En:=match δ[i]? with | some .no=>some (δ.set i (.v d)) | _=>none
def bNil (l:List D) (δ:En):Option En:=match l with | []=>some δ | _=>none
def zaR (b:D→En→Option En) (c:List D→En→Option En) (l:List D) (δ:En):Option En:=match l with | d :: r=>(b d δ).bind (c r) | []=>none
def bTup (n:Nat) (c:List D→En→Option En) (d:D) (δ:En):Option En:=match d with | .tup l=>if l.length=n then c l δ else none | _=>none
theorem zay {i:Nat}:SG K (zcT i) (zav i):=by
  intro Λ F0 H0 F H σ δ d v δ' Q I r e q
  unfold zav at e
  split at e
  · cases e
  · cases e
  · rename_i x h2 h1
    cases e
    exact q _ (I.put ⟨x,h1,fun d' z=>h2 d' (by rw [z])⟩ r)
theorem zbq {i:Nat}:SG K (zcT i) (za5 i):=by
  intro Λ F0 H0 F H σ δ d v δ' Q I r e q
  unfold za5 at e
  split at e
  · rename_i h1
    cases e
    exact q _ (I.put ⟨_,h1,fun d' z=>by cases z⟩ r)
  · cases e
theorem zbI:SGs K gNil bNil:=by
  intro Λ F0 H0 F H σ δ d v δ' Q I r e q
  cases d with
  | nil=>simp only [RepL] at r; cases e; exact ⟨r,q _ I⟩
  | cons x l=>cases e
theorem zaF {g:TG} {h:TGs} {b:D→En→Option En} {c:List D→En→Option En} (hg:SG K g b) (hh:SGs K h c):SGs K (zgR g h) (zaR b c):=by
  intro Λ F0 H0 F H σ δ d v δ' Q I r e q
  cases d with
  | nil=>cases e
  | cons x l =>
    simp only [RepL] at r
    obtain ⟨u,w,rfl,r1,r2⟩:=r
    change (b x δ).bind (c l)=some δ' at e
    cases z:b x δ with
    | none=>rw [z] at e; cases e
    | some δ1 =>
      rw [z] at e
      exact ⟨u,w,rfl,hg Λ F0 H0 F H σ δ x u δ1 _ I r1 z fun σ1 I1=>hh Λ F0 H0 F H σ1 δ1 l w δ' Q I1 r2 e q⟩
theorem zcr {n:Nat} {h:TGs} {c:List D→En→Option En} (hh:SGs K h c):SG K (gTup K.f n h) (bTup n c):=by
  intro Λ F0 H0 F H σ δ d v δ' Q I r e q
  cases d with
  | tup l =>
    simp only [Rep] at r
    obtain ⟨a,vs,rfl,h1,h2⟩:=r
    simp only [bTup] at e
    split at e
    · rename_i hn
      exact ⟨a,vs,rfl,.inl (.inl (I.same _ _ h1)),by rw [h2.length]; exact hn,hh Λ F0 H0 F H σ δ l vs δ' Q I h2 e q⟩
    · cases e
  | _=>cases e
def Weak (δ δ':En):Prop:=δ.length=δ'.length∧∀ i:Nat,δ[i]?=some .no∨δ[i]?=δ'[i]?
theorem Weak.refl (δ:En):Weak δ δ:=⟨rfl,fun _=>.inr rfl⟩
theorem Weak.trans {a b c:En} (h:Weak a b) (h':Weak b c):Weak a c:=⟨h.1.trans h'.1,fun i=>by
  rcases h.2 i with z | z
  · exact .inl z
  · rcases h'.2 i with y | y
    · exact .inl (z.trans y)
    · exact .inr (z.trans y)⟩
def BW (b:D→En→Option En):Prop:=∀ d δ δ',b d δ=some δ'→Weak δ δ'
def BWs (b:List D→En→Option En):Prop:=∀ d δ δ',b d δ=some δ'→Weak δ δ'
theorem zbP {i:Nat}:BW (za5 i):=by
  intro d δ δ' e
  unfold za5 at e
  split at e
  · rename_i h1
    cases e
    refine ⟨by simp,fun j=>?_⟩
    by_cases h:i=j
    · subst h; exact .inl h1
    · exact .inr (by rw [List.getElem?_set_ne h])
  · cases e
theorem zhT:BWs bNil:=by
  intro d δ δ' e
  cases d with
  | nil=>cases e; exact .refl _
  | cons x l=>cases e
theorem zdl {b:D→En→Option En} {c:List D→En→Option En} (h:BW b) (h':BWs c):BWs (zaR b c):=by
  intro d δ δ' e
  cases d with
  | nil=>cases e
  | cons x l =>
    change (b x δ).bind (c l)=some δ' at e
    cases z:b x δ with
    | none=>rw [z] at e; cases e
    | some δ1=>rw [z] at e; exact (h _ _ _ z).trans (h' _ _ _ e)
theorem ziK {n:Nat} {c:List D→En→Option En} (h:BWs c):BW (bTup n c):=by
  intro d δ δ' e
  cases d with
  | tup l =>
    simp only [bTup] at e
    split at e
    · exact h _ _ _ e
    · cases e
  | _=>cases e
variable (K) in
def IsIt (J:It) (P:Hp→Hp→Prop) (ds:List D):Prop:=∀ F2 H2,P F2 H2→∀ i:Nat,(∀ d,ds[i]?=some d→J.go i H2∧∀ x H',J.yld i H2 x H'→∃ F3,Ext F2 H2 F3 H'∧Rep K F3 d x)∧(ds[i]?=none→J.stop i H2)
variable (K XO E) in
def SI (wi:TI) (m:En→R (List D)):Prop:=∀ Λ F0 H0 F H σ δ R,EnvOk K Λ F0 H0 F H σ δ→Aft E XO σ F H (fun ds F1 H1=>∀ J,IsIt K J (fun F2 H2=>Same F1 F2∧Same F2 H2) ds→R J H1) (m δ)→wi σ H R
variable (K XO E) in
def SIc (wi:TI) (m:En→R (List D)):Prop:=∀ Λ F0 H0 F H σ δ R,EnvOk K Λ F0 H0 F H σ δ→Aft E XO σ F H (fun ds F1 H1=>∀ J,IsIt K J (fun F2 H2=>Ext F1 H1 F2 H2) ds→R J H1) (m δ)→wi σ H R
theorem SI.c {wi:TI} {m:En→R (List D)} (h:SI K XO E wi m):SIc K XO E wi m:=fun Λ F0 H0 F H σ δ R I a=>h Λ F0 H0 F H σ δ R I (a.imp fun ds F1 H1 e p J hJ=>p J fun F2 H2 x=>hJ F2 H2 ⟨x.ff,x.fh⟩)
def asL:D→Option (List D)
  | .lst l=>some l
  | .scr l=>some (l.map .int)
  | _=>none
def asT:D→Option (List D)
  | .tup l=>some l
  | _=>none
def mItL (ml:En→R D) (δ:En):R (List D):=(ml δ).bind fun d=>R.of (asL d)
def mItT (ml:En→R D) (δ:En):R (List D):=(ml δ).bind fun d=>R.of (asT d)
theorem zcH {a:Addr} {ds:List D} {vs:List V} {F1:Hp} {P:Hp→Hp→Prop} (r:RepL K F1 ds vs) (h:∀ F2 H2,P F2 H2→Same F1 F2∧Same F2 H2∧SqL K.f H2 a vs):IsIt K (Itl K.f a) P ds:=by
  intro F2 H2 p i
  obtain ⟨s1,s2,q⟩:=h F2 H2 p
  refine ⟨fun d hd=>?_,fun hn=>?_⟩
  · obtain ⟨v,hv,rv⟩:=r.get hd
    refine ⟨⟨vs,v,q,hv⟩,fun x H' y=>?_⟩
    obtain ⟨rfl,y⟩:=y
    have z:=y vs q
    rw [hv] at z; cases z
    exact ⟨F2,.refl s2,Rep.mono s1 _ rv⟩
  · exact ⟨vs,q,by rw [r.length]; exact List.getElem?_eq_none_iff.mp hn⟩
theorem zfu (h:SE K XO E te me):SI K XO E (zig K.f te) (mItL me):=by
  intro Λ F0 H0 F H σ δ R I a
  refine h Λ F0 H0 F H σ δ _ I (a.bind.imp fun d F1 H1 e1 a1 v r=>?_)
  cases d with
  | lst l =>
    simp only [Rep] at r
    obtain ⟨a,vs,rfl,h1,h2⟩:=r
    exact ⟨a,rfl,⟨vs,.inl (PM.Same.rd e1.fh h1)⟩,a1 F1 H1 (.refl e1.fh) _ (zcH h2 fun F2 H2 x=>⟨x.1,x.2,.inl (PM.Same.rd x.2 (PM.Same.rd x.1 h1))⟩)⟩
  | scr l =>
    simp only [Rep] at r
    obtain ⟨a,rfl,h1⟩:=r
    exact ⟨a,rfl,⟨_,e1.fh.seq h1⟩,a1 F1 H1 (.refl e1.fh) _ (zcH .ints fun F2 H2 x=>⟨x.1,x.2,x.2.seq (x.1.seq h1)⟩)⟩
  | _=>exact a1.elim
theorem zeK (h:SEr K XO E te me):SIc K XO E (zig K.f te) (mItL me):=by
  intro Λ F0 H0 F H σ δ R I a
  refine h Λ F0 H0 F H σ δ _ I (a.bind.imp fun d F1 H1 e1 a1 v r=>?_)
  cases d with
  | lst l =>
    obtain ⟨a,vs,rfl,h1,h2⟩:=r
    exact ⟨a,rfl,⟨vs,.inl h1⟩,a1 F1 H1 (.refl e1.fh) _ (zcH h2 fun F2 H2 x=>⟨x.ff,x.fh,.inl (PM.Same.rd x.hh h1)⟩)⟩
  | scr l =>
    simp only [Top,Rep] at r
    obtain ⟨a,rfl,h1⟩:=r
    exact ⟨a,rfl,⟨_,e1.fh.seq h1⟩,a1 F1 H1 (.refl e1.fh) _ (zcH .ints fun F2 H2 x=>⟨x.ff,x.fh,x.fh.seq (x.ff.seq h1)⟩)⟩
  | _=>exact a1.elim
theorem zki (h:SE K XO E te me):SI K XO E (iTup K.f te) (mItT me):=by
  intro Λ F0 H0 F H σ δ R I a
  refine h Λ F0 H0 F H σ δ _ I (a.bind.imp fun d F1 H1 e1 a1 v r=>?_)
  cases d with
  | tup l =>
    simp only [Rep] at r
    obtain ⟨a,vs,rfl,h1,h2⟩:=r
    refine ⟨a,rfl,⟨vs,.inl (.inl (e1.fh _ _ h1))⟩,a1 F1 H1 (.refl e1.fh) _ fun F2 H2 x i=>?_⟩
    have q:SqT K.f H2 a vs:=.inl (.inl (x.2 _ _ (x.1 _ _ h1)))
    refine ⟨fun d hd=>?_,fun hn=>?_⟩
    · obtain ⟨v,hv,rv⟩:=h2.get hd
      refine ⟨⟨vs,v,q,hv⟩,fun x' H' y=>?_⟩
      obtain ⟨rfl,y⟩:=y
      have z:=y vs q
      rw [hv] at z; cases z
      exact ⟨F2,.refl x.2,Rep.mono x.1 _ rv⟩
    · exact ⟨vs,q,by rw [h2.length]; exact List.getElem?_eq_none_iff.mp hn⟩
  | _=>exact a1.elim
def zdo (lo:Int) (n:Nat):List D:=(List.range n).map fun (k:Nat)=>D.int (lo + (k:Int))
theorem zgN {lo:Int} {n:Nat} {P:Hp→Hp→Prop} (h:∀ F2 H2,P F2 H2→Same F2 H2):IsIt K (Itr lo n) P (zdo lo n):=by
  intro F2 H2 p i
  unfold zdo
  rw [List.getElem?_map]
  have er:(List.range n)[i]?=if i < n then some i else none:=by
    by_cases hi:i < n
    · rw [if_pos hi,List.getElem?_range hi]
    · rw [if_neg hi,List.getElem?_eq_none_iff]; simpa using hi
  rw [er]
  refine ⟨fun d hd=>?_,fun hn=>?_⟩
  · by_cases hi:i < n
    · rw [if_pos hi] at hd
      cases hd
      refine ⟨hi,fun x H' y=>?_⟩
      obtain ⟨rfl,rfl⟩:=y
      exact ⟨F2,.refl (h F2 _ p),by simp only [Rep]⟩
    · rw [if_neg hi] at hd; cases hd
  · by_cases hi:i < n
    · rw [if_pos hi] at hn; cases hn
    · exact Nat.le_of_not_lt hi
def rng (l:List D):Option (List D):=match l with
  | [.int j]=>ifC (-(2 ^ 62) ≤ j∧j < 2 ^ 62) (some (zdo 0 j.toNat)) none
  | [.int i,.int j]=>ifC (-(2 ^ 62) ≤ i∧i < 2 ^ 62∧-(2 ^ 62) ≤ j∧j < 2 ^ 62) (some (zdo i (j - i).toNat)) none
  | _=>none
def mRng (ml:En→R (List D)) (δ:En):R (List D):=(ml δ).bind fun l=>R.of (rng l)
theorem RepL.one {F:Hp} {d:D} {vs:List V} (r:RepL K F [d] vs):∃ v,vs = [v]∧Rep K F d v:=by
  simp only [RepL] at r
  obtain ⟨v,r',rfl,h,rfl⟩:=r
  exact ⟨v,rfl,h⟩
theorem RepL.two {F:Hp} {d e:D} {vs:List V} (r:RepL K F [d,e] vs):∃ v u,vs = [v,u]∧Rep K F d v∧Rep K F e u:=by
  simp only [RepL] at r
  obtain ⟨v,r',rfl,h,v2,r2,rfl,h2,rfl⟩:=r
  exact ⟨v,v2,rfl,h,h2⟩
theorem zdA {tl:TA} {ml:En→R (List D)} (hn:∀ δ l,ml δ = .ok l→l.length=1) (h:SA K XO E tl ml):SI K XO E (zj0 tl) (mRng ml):=by
  intro Λ F0 H0 F H σ δ R I a
  unfold mRng at a
  cases hm:ml δ with
  | no=>rw [hm] at a; exact a.elim
  | ex x=>refine h Λ F0 H0 F H σ δ _ I ?_; rw [hm] at a ⊢; exact a
  | ok l =>
    refine h Λ F0 H0 F H σ δ _ I ?_
    rw [hm] at a ⊢
    intro F1 H1 e1 vs r
    have h1:=hn δ l hm
    match l,h1 with
    | [d],_ =>
      obtain ⟨v,rfl,rv⟩:=r.one
      have a1:=Aft.mono e1 a
      cases d with
      | int j =>
        simp only [Rep] at rv
        subst rv
        change Aft E XO σ F1 H1 _ (PM.R.of (ifC (-(2 ^ 62) ≤ j∧j < 2 ^ 62) _ _)) at a1
        by_cases hj : -(2 ^ 62) ≤ j∧j < 2 ^ 62
        · rw [za0 hj] at a1
          exact ⟨j,rfl,hj.1,hj.2,a1 F1 H1 (.refl e1.fh) _ (zgN fun F2 H2 x=>x.2)⟩
        · rw [zhy hj] at a1; exact a1.elim
      | _=>exact a1.elim
theorem len1 {ma:En→R D}:∀ δ l,zaa ma mNil δ = .ok l→l.length=1:=by
  intro δ l h
  unfold zaa mNil at h
  cases e:ma δ with
  | ok d=>rw [e] at h; cases h; rfl
  | no=>rw [e] at h; cases h
  | ex x=>rw [e] at h; cases h
def zgS (l:List D):List D:=l.mapIdx fun i d=>.tup [.int i,d]
theorem ze2 {a:Addr} {ds:List D} {vs:List V} {F1:Hp} {P:Hp→Hp→Prop} (r:RepL K F1 ds vs) (h:∀ F2 H2,P F2 H2→Same F1 F2∧Same F2 H2∧SqL K.f H2 a vs):IsIt K (Ite K.f a) P (zgS ds):=by
  intro F2 H2 p i
  obtain ⟨s1,s2,q⟩:=h F2 H2 p
  unfold zgS
  rw [List.getElem?_mapIdx]
  refine ⟨fun d hd=>?_,fun hn=>?_⟩
  · cases e:ds[i]? with
    | none=>rw [e] at hd; cases hd
    | some x =>
      rw [e] at hd
      cases hd
      obtain ⟨v,hv,rv⟩:=r.get e
      refine ⟨⟨vs,v,q,hv⟩,fun x' H' y=>?_⟩
      obtain ⟨p',y',rfl,hp,rfl,y⟩:=y
      have z:=y vs q
      rw [hv] at z; cases z
      refine ⟨_,.new s2 hp,?_⟩
      simp only [Rep]
      exact ⟨p',_,rfl,zam,.cons (by simp only [Rep]) (.cons (Rep.mono (s1.trans (Same.upd (s2.free hp))) _ rv) .nil)⟩
  · cases e:ds[i]? with
    | none=>exact ⟨vs,q,by rw [r.length]; exact List.getElem?_eq_none_iff.mp e⟩
    | some x=>rw [e] at hn; cases hn
def asL':D→Option (List D)
  | .lst l=>some l
  | _=>none
def zeE:List D→Option (List D)
  | [d]=>(asL' d).map zgS
  | _=>none
def zcS (ml:En→R (List D)) (δ:En):R (List D):=(ml δ).bind fun l=>R.of (zeE l)
theorem zd8 {l r:List D} (h:zeE l=some r):∃ x,l = [.lst x]∧r=zgS x:=by
  cases l with
  | nil=>cases h
  | cons d t =>
    cases t with
    | cons _ _=>cases h
    | nil =>
      cases d with
      | lst x=>cases h; exact ⟨x,rfl,rfl⟩
      | _=>cases h
theorem zfE {tl:TA} {ml:En→R (List D)} (h:SA K XO E tl ml):SI K XO E (zi6 K.f tl) (zcS ml):=by
  intro Λ F0 H0 F H σ δ R I a
  refine h Λ F0 H0 F H σ δ _ I (a.bind.imp fun ds F1 H1 e1 a1 vs r=>?_)
  cases q:zeE ds with
  | none=>rw [q] at a1; exact a1.elim
  | some z =>
    rw [q] at a1
    obtain ⟨l,rfl,rfl⟩:=zd8 q
    obtain ⟨v,rfl,r'⟩:=RepL.one r
    simp only [Rep] at r'
    obtain ⟨a,vs,rfl,h1,h2⟩:=r'
    exact ⟨a,rfl,⟨vs,.inl (PM.Same.rd e1.fh h1)⟩,a1 F1 H1 (.refl e1.fh) _ (ze2 h2 fun F2 H2 x=>⟨x.1,x.2,.inl (PM.Same.rd x.2 (PM.Same.rd x.1 h1))⟩)⟩
theorem zfW {tl:TA} {ml:En→R (List D)} (h:SAr K XO E tl ml):SIc K XO E (zi6 K.f tl) (zcS ml):=by
  intro Λ F0 H0 F H σ δ R I a
  refine h Λ F0 H0 F H σ δ _ I (a.bind.imp fun ds F1 H1 e1 a1 vs r=>?_)
  cases q:zeE ds with
  | none=>rw [q] at a1; exact a1.elim
  | some z =>
    rw [q] at a1
    obtain ⟨l,rfl,rfl⟩:=zd8 q
    cases r with
    | cons r r' =>
      cases r'
      obtain ⟨a,vs,rfl,h1,h2⟩:=r
      exact ⟨a,rfl,⟨vs,.inl h1⟩,a1 F1 H1 (.refl e1.fh) _ (ze2 h2 fun F2 H2 x=>⟨x.ff,x.fh,.inl (PM.Same.rd x.hh h1)⟩)⟩
end
end PM
namespace PM
open PySem L2
section
variable (K:Kx) (XO:XOT) (E:St→XK)
def AftS (Λ:List (Nat × Addr × HO)) (F0 H0:Hp) (Dn:Ends):O→Prop
  | .no=>False
  | .nx δ=>∀ σ F H,EnvOk K Λ F0 H0 F H σ δ→Dn.nx σ H
  | .bk δ=>∀ σ F H,EnvOk K Λ F0 H0 F H σ δ→Dn.bk σ H
  | .ct δ=>∀ σ F H,EnvOk K Λ F0 H0 F H σ δ→Dn.ct σ H
  | .rt d=>∀ v F H,Ext F0 H0 F H→Rep K F d v→Dn.rt v H
  | .ro d=>∀ p F H,Ext F0 H0 F H→F p=none→H0 p=none→Own K F H d p→Dn.rt (.ref p) H
  | .ex δ x=>∀ σ F H C dct,EnvOk K Λ F0 H0 F H σ δ→XO x F H C dct→E σ C dct H
def SS (t:TS) (m:En→O):Prop:=∀ Λ F0 H0 F H σ δ Dn,EnvOk K Λ F0 H0 F H σ δ→AftS K XO E Λ F0 H0 Dn (m δ)→t Dn σ H
end
def R.toO {α:Type} (r:R α) (δ:En) (f:α→O):O:=match r with | .no=>.no | .ok a=>f a | .ex x=>.ex δ x
@[simp] theorem R.toO_ok {α:Type} (a:α) (δ:En) (f:α→O):(R.ok a).toO δ f=f a:=rfl
@[simp] theorem R.toO_no {α:Type} (δ:En) (f:α→O):(R.no:R α).toO δ f = .no:=rfl
@[simp] theorem R.toO_ex {α:Type} (x:Xc) (δ:En) (f:α→O):(R.ex x:R α).toO δ f = .ex δ x:=rfl
section
variable {K:Kx} {XO:XOT} {E:St→XK} {ta tb te:TE} {ma mb me:En→R D} {t u:TS} {m n:En→O} {Λ:List (Nat × Addr × HO)} {F0 H0 F H F1 H1:Hp} {σ:St} {δ:En} {Dn:Ends}
theorem AftS.of {α:Type} {r:R α} {f:α→O} (I:EnvOk K Λ F0 H0 F H σ δ) (a:AftS K XO E Λ F0 H0 Dn (r.toO δ f)):Aft E XO σ F H (fun a _ _=>AftS K XO E Λ F0 H0 Dn (f a)) r:=by
  cases r with
  | no=>exact a
  | ok b=>exact fun _ _ _=>a
  | ex x=>exact fun C dct F' H' e h=>a σ F' H' C dct (I.grow e) h
theorem AftS.up (e:Ext F0 H0 F1 H1):∀ {o:O},AftS K XO E Λ F0 H0 Dn o→AftS K XO E Λ F1 H0 Dn o
  | .no,h=>h
  | .nx _,h=>fun σ F H I=>h σ F H (I.down e)
  | .bk _,h=>fun σ F H I=>h σ F H (I.down e)
  | .ct _,h=>fun σ F H I=>h σ F H (I.down e)
  | .rt _,h=>fun v F H x=>h v F H (e.base x)
  | .ro _,h=>fun p F H x=>h p F H (e.base x)
  | .ex _ _,h=>fun σ F H C d I=>h σ F H C d (I.down e)
def zaO (δ:En):O:=.nx δ
def mSeq (m n:En→O) (δ:En):O:=match m δ with | .nx δ'=>n δ' | r=>r
theorem za3:SS K XO E zjP zaO:=fun Λ F0 H0 F H σ δ Dn I a=>a σ F H I
theorem zau (h:SS K XO E t m) (h':SS K XO E u n):SS K XO E (tSeq t u) (mSeq m n):=by
  intro Λ F0 H0 F H σ δ Dn I a
  refine h Λ F0 H0 F H σ δ _ I ?_
  unfold mSeq at a
  cases q:m δ with
  | no=>rw [q] at a; exact a
  | nx δ'=>rw [q] at a; exact fun σ' F' H' I'=>h' Λ F0 H0 F' H' σ' δ' Dn I' a
  | rt d=>rw [q] at a; exact a
  | ro d=>rw [q] at a; exact a
  | bk δ'=>rw [q] at a; exact a
  | ct δ'=>rw [q] at a; exact a
  | ex δ' x=>rw [q] at a; exact a
def mRet (me:En→R D) (δ:En):O:=(me δ).toO δ .rt
theorem zbc (h:SE K XO E te me):SS K XO E (tRet te) (mRet me):=by
  intro Λ F0 H0 F H σ δ Dn I a
  exact h Λ F0 H0 F H σ δ _ I ((AftS.of I a).imp fun d F1 H1 e p v r=>p v F1 H1 (I.ext.trans e) r)
def zeA (me:En→R D) (δ:En):O:=(me δ).toO δ .ro
theorem zfq (h:SEo K XO E te me):SS K XO E (tRet te) (zeA me):=by
  intro Λ F0 H0 F H σ δ Dn I a
  exact h Λ F0 H0 F H σ δ _ I ((AftS.of I a).imp fun d F1 H1 e p v h0 h1 o=>p v F1 H1 (I.ext.trans e) h0 (I.ext.hh.free h1) o)
def zjo (i:Nat) (δ:En):O:=match δ[i]? with | some (.o d)=>.ro d | _=>.no
theorem zjc {i:Nat}:SS K XO E (tRet (tVar i)) (zjo i):=by
  intro Λ F0 H0 F H σ δ Dn I a
  unfold zjo at a
  split at a
  · rename_i d q
    have z:=I.slot i
    rw [q] at z
    obtain ⟨p,z1,z2,z3,z4⟩:=z
    exact ⟨_,z1,a p F H I.ext z3 z2 z4⟩
  · exact a.elim
def mIfS (n:En→R Bool) (m m':En→O) (δ:En):O:=(n δ).toO δ fun b=>if b=true then m δ else m' δ
theorem zcs {tc:TT} {nc:En→R Bool} (h:ST K XO E tc nc) (ha:SS K XO E t m) (hb:SS K XO E u n):SS K XO E (tIfS tc t u) (mIfS nc m n):=by
  intro Λ F0 H0 F H σ δ Dn I a
  refine h Λ F0 H0 F H σ δ _ I ((AftS.of I a).imp fun b F1 H1 e p=>?_)
  cases b with
  | true=>exact ha Λ F0 H0 F1 H1 σ δ Dn (I.grow e) p
  | false=>exact hb Λ F0 H0 F1 H1 σ δ Dn (I.grow e) p
def O.of:Option En→O
  | some δ=>.nx δ
  | none=>.no
@[simp] theorem O.of_some (δ:En):O.of (some δ) = .nx δ:=rfl
@[simp] theorem O.of_none:O.of none = .no:=rfl
def mAsg (me:En→R D) (b:D→En→Option En) (δ:En):O:=(me δ).toO δ fun d=>O.of (b d δ)
theorem zbu {g:TG} {b:D→En→Option En} (h:SE K XO E te me) (hg:SG K g b):SS K XO E (tAsg te g) (mAsg me b):=by
  intro Λ F0 H0 F H σ δ Dn I a
  refine h Λ F0 H0 F H σ δ _ I ((AftS.of I a).imp fun d F1 H1 e p v r=>?_)
  cases q:b d δ with
  | none=>rw [q] at p; exact p.elim
  | some δ'=>rw [q] at p; exact hg Λ F0 H0 F1 H1 σ δ d v δ' _ (I.grow e) r q fun σ' I'=>p σ' F1 H1 I'
def bNew (i:Nat) (d:D) (δ:En):Option En:=match δ[i]? with | none=>none | some (.l _)=>none | some _=>some (δ.set i (.o d))
theorem zdB {i:Nat} (h:SEo K XO E te me):SS K XO E (tAsg te (zcT i)) (mAsg me (bNew i)):=by
  intro Λ F0 H0 F H σ δ Dn I a
  refine h Λ F0 H0 F H σ δ _ I ((AftS.of I a).imp fun d F1 H1 e p v h0 h1 o=>?_)
  unfold bNew at p
  split at p
  · exact p.elim
  · exact p.elim
  · rename_i x h3 h2
    exact p _ F1 H1 (I.putO ⟨x,h2,fun d' z=>h3 d' (by rw [z])⟩ e h0 h1 o)
def zdf (b:D→En→Option En) (m:En→O):List D→En→O
  | [],δ=>.nx δ
  | d :: l,δ=>match b d δ with
    | none=>.no
    | some δ1=>match m δ1 with
      | .nx δ2=>zdf b m l δ2
      | .ct δ2=>zdf b m l δ2
      | .bk δ2=>.nx δ2
      | r=>r
def mFor (mi:En→R (List D)) (b:D→En→Option En) (m:En→O) (δ:En):O:=(mi δ).toO δ fun l=>zdf b m l δ
theorem zjx {J:It} {P:Hp→Hp→Prop} {g:TG} {b:D→En→Option En} {ds:List D} (hJ:IsIt K J P ds) (hP:∀ σ δ F H,EnvOk K Λ F0 H0 F H σ δ→P F H) (hg:SG K g b) (hb:SS K XO E t m) (I:EnvOk K Λ F0 H0 F H σ δ)
    (a:AftS K XO E Λ F0 H0 Dn (zdf b m ds δ)):∃ W:Nat→Nat→St→Hp→Prop,(∃ k,W 0 k σ H)∧∀ i k σ H,W i k σ H →
      (J.stop i H∧Dn.nx σ H)∨(J.go i H∧∃ N:St→Hp→Prop,(∀ σ' H',N σ' H'→∃ k',k' < k∧W (i + 1) k' σ' H')∧∀ x H',J.yld i H x H'→g x σ H' fun σ2 H2=>t { Dn with nx:=N,ct:=N,bk:=Dn.nx } σ2 H2):=by
  let W:Nat→Nat→St→Hp→Prop:=fun i k σ H=>∃ F δ,EnvOk K Λ F0 H0 F H σ δ∧k=ds.length - i∧i ≤ ds.length∧AftS K XO E Λ F0 H0 Dn (zdf b m (ds.drop i) δ)
  refine ⟨W,⟨ds.length,F,δ,I,rfl,Nat.zero_le _,a⟩,?_⟩
  rintro i k σ H ⟨F,δ,I,rfl,hi,a⟩
  have hP':=hP σ δ F H I
  by_cases hlt:i < ds.length
  · have e:ds.drop i=ds[i] :: ds.drop (i + 1):=List.drop_eq_getElem_cons hlt
    obtain ⟨h1,h2⟩:=(hJ F H hP' i).1 ds[i] (by simp [hlt])
    refine .inr ⟨h1,W (i + 1) (ds.length - (i + 1)),fun σ' H' w=>⟨_,by omega,w⟩,fun x H' y=>?_⟩
    obtain ⟨F3,e3,r⟩:=h2 x H' y
    rw [e] at a
    unfold zdf at a
    cases q:b ds[i] δ with
    | none=>rw [q] at a; exact a.elim
    | some δ1 =>
      rw [q] at a
      refine hg Λ F0 H0 F3 H' σ δ _ x δ1 _ (I.grow e3) r q fun σ1 I1=>hb Λ F0 H0 F3 H' σ1 δ1 _ I1 ?_
      cases q2:m δ1 with
      | no=>simp only [q2] at a; exact a
      | nx δ2=>simp only [q2] at a; exact fun σ' F' H' I'=>⟨F',δ2,I',rfl,hlt,a⟩
      | ct δ2=>simp only [q2] at a; exact fun σ' F' H' I'=>⟨F',δ2,I',rfl,hlt,a⟩
      | bk δ2=>simp only [q2] at a; exact a
      | rt d=>simp only [q2] at a; exact a
      | ro d=>simp only [q2] at a; exact a
      | ex δ' x=>simp only [q2] at a; exact a
  · have e:i=ds.length:=by omega
    subst e
    rw [List.drop_length] at a
    exact .inl ⟨(hJ F H hP' _).2 (by simp),a σ F H I⟩
theorem zc4 {wi:TI} {mi:En→R (List D)} {g:TG} {b:D→En→Option En} (hi:SI K XO E wi mi) (hg:SG K g b) (hb:SS K XO E t m):SS K XO E (tFor wi g t) (mFor mi b m):=by
  intro Λ F0 H0 F H σ δ Dn I a
  refine hi Λ F0 H0 F H σ δ _ I ((AftS.of I a).imp fun ds F1 H1 e p J hJ=>?_)
  have I1:=I.grow e
  exact zjx (F0:=F1) hJ (fun σ δ F H I=>⟨I.ext.ff,I.ext.fh⟩) hg hb I1.up (p.up I1.ext)
end
end PM
namespace PM
open PySem L2
def asK:D→Option Key
  | .int i=>some (.inl i)
  | .str x=>some (.inr x)
  | _=>none
def getK (ks:List Key) (l:List D) (k:Key):Option D:=match ks,l with
  | a :: r,d :: t=>if a=k then some d else getK r t k
  | _,_=>none
def putL (ks:List Key) (l:List D) (k:Key) (x:D):List D:=match ks,l with
  | a :: r,d :: t=>(if a=k then x else d) :: putL r t k x
  | _,t=>t
def putD (ks:List Key) (l:List D) (k:Key) (x:D):D:=if ks.any (fun a=>decide (a=k))=true then .dct ks (putL ks l k x) else .dct (ks ++ [k]) (l ++ [x])
section
variable {K:Kx} {F H:Hp}
theorem zhM {d:D} {v:V} {k:Key} (h:asK d=some k) (r:Rep K F d v):v=kV k:=by
  cases d with
  | int i=>cases h; simp only [Rep] at r; exact r
  | str i=>cases h; simp only [Rep] at r; exact r
  | _=>cases h
theorem ziR {k:Key}:∀ {kvs:List (Key × V)} {ks:List Key} {l:List D},kvs.map (·.1)=ks→RepL K F l (kvs.map (·.2)) →
    (∀ d,getK ks l k=some d→∃ v,valV kvs k=some v∧Rep K F d v)∧(getK ks l k=none→valV kvs k=none)
  | [],ks,l,h1,h2=>by
    subst h1
    refine ⟨fun d h=>?_,fun _=>rfl⟩
    simp [getK] at h
  | (a,v) :: kvs,ks,l,h1,h2=>by
    subst h1
    cases l with
    | nil=>simp [RepL] at h2
    | cons d t =>
      simp only [List.map_cons,RepL] at h2
      obtain ⟨v',r,e,h3,h4⟩:=h2
      cases e
      have ih:=ziR (k:=k) (kvs:=kvs) rfl h4
      simp only [List.map_cons,getK]
      by_cases hk:a=k
      · rw [if_pos hk]
        refine ⟨fun d' e=>?_,fun e=>by cases e⟩
        cases e
        exact ⟨v,by simp [valV,hk],h3⟩
      · rw [if_neg hk]
        have e:valV ((a,v) :: kvs) k=valV kvs k:=by simp [valV,hk]
        rw [e]
        exact ih
theorem zkI {kvs:List (Key × V)} {ks:List Key} (h:kvs.map (·.1)=ks):kvs.length=ks.length:=by rw [← h,List.length_map]
theorem zhr {k:Key} {x:D} {u:V} (hu:Rep K F x u):∀ {kvs:List (Key × V)} {ks:List Key} {l:List D},kvs.map (·.1)=ks→RepL K F l (kvs.map (·.2)) →
    RepL K F (putL ks l k x) ((kvs.map (fun kv=>if kv.1=k then (kv.1,u) else kv)).map (·.2))
  | [],ks,l,h1,h2=>by
    subst h1
    cases l with
    | nil=>exact .nil
    | cons d t=>simp [RepL] at h2
  | (a,v) :: kvs,ks,l,h1,h2=>by
    subst h1
    cases l with
    | nil=>simp [RepL] at h2
    | cons d t =>
      simp only [List.map_cons,RepL] at h2
      obtain ⟨v',r,e,h3,h4⟩:=h2
      cases e
      have ih:=zhr (k:=k) hu (kvs:=kvs) rfl h4
      simp only [List.map_cons,putL]
      refine .cons ?_ ih
      by_cases hk:a=k
      · rw [if_pos hk,if_pos hk]; exact hu
      · rw [if_neg hk,if_neg hk]; exact h3
theorem zjH {k:Key} {x:D} {u:V} {a:Addr} (hu:Rep K F x u) {kvs:List (Key × V)} {ks:List Key} {l:List D} (h1:kvs.map (·.1)=ks) (h2:RepL K F l (kvs.map (·.2))):Own K F (upd H a (.dK (putK kvs k u))) (putD ks l k x) a:=by
  have e:ks.any (fun a=>decide (a=k))=kvs.any (fun kv=>decide (kv.1=k)):=by rw [← h1,List.any_map]; rfl
  unfold putD putK
  rw [e]
  split
  · refine ⟨_,zam,?_,zhr hu h1 h2⟩
    rw [← h1,List.map_map]
    refine List.map_congr_left fun kv _=>?_
    simp only [Function.comp]
    split <;> rfl
  · exact ⟨_,zam,by rw [List.map_append,h1]; rfl,by rw [List.map_append]; exact h2.append (.cons hu .nil)⟩
end
section
variable {K:Kx} {XO:XOT} {E:St→XK} {ta tb te ty td:TE} {ma mb me my md:En→R D} {t u:TS} {m n:En→O} {Λ:List (Nat × Addr × HO)} {F0 H0 F H F1 H1:Hp} {σ:St} {δ:En} {Dn:Ends}
theorem EnvOk.own {i:Nat} {d:D} (I:EnvOk K Λ F0 H0 F H σ δ) (hx:δ[i]?=some (.o d)):∃ a,σ[i]?=some (some (.ref a))∧Own K F H d a:=by
  have z:=I.slot i
  rw [hx] at z
  obtain ⟨a,z1,z2,z3,z4⟩:=z
  exact ⟨a,z1,z4⟩
def zbk (i:Nat) (me:En→R D) (δ:En):O:=match δ[i]? with
  | some (.o (.lst l))=>(me δ).toO δ fun d=>ifC (l.length < sizeLine) (.nx (δ.set i (.o (.lst (l ++ [d]))))) .no
  | _=>.no
theorem zcL {i:Nat} (h:SE K XO E te me):SS K XO E (zhg (tBM K.f "list" zep (tVar i) (zb7 te tNil))) (zbk i me):=by
  intro Λ F0 H0 F H σ δ Dn I a
  unfold zbk at a
  split at a
  · rename_i l q
    obtain ⟨p,s1,vs,s2,s3⟩:=I.own q
    refine ⟨_,s1,.inl ⟨rfl,vs,.inl (.inl s2)⟩,?_⟩
    refine h Λ F0 H0 F H σ δ _ I ((AftS.of I a).imp fun d F1 H1 e c v r=>?_)
    unfold ifC at c
    split at c
    · rename_i hl
      refine ⟨p,vs,v,rfl,rfl,e.hh _ _ s2,by rw [s3.length]; exact hl,?_⟩
      exact c σ F1 _ ((I.grow e).chg q s1 ⟨_,zam,(s3.mono e.ff).append (.cons r .nil)⟩)
    · exact c.elim
  · exact a.elim
def zgE (i:Nat) (mi me:En→R D) (δ:En):O:=match δ[i]? with
  | some (.o (.lst l))=>(me δ).toO δ fun d=>(mi δ).toO δ fun k=>match k with
    | .int k=>(match ixN l.length k with | some j=>.nx (δ.set i (.o (.lst (l.set j d)))) | none=>.no)
    | _=>.no
  | _=>.no
theorem zg5 {i:Nat} {ti:TE} {mi:En→R D} (hi:SE K XO E ti mi) (h:SE K XO E te me):SS K XO E (tAsg te (gSub (tVar i) ti zi7)) (zgE i mi me):=by
  intro Λ F0 H0 F H σ δ Dn I a
  unfold zgE at a
  split at a
  · rename_i l q
    obtain ⟨p,s1,vs,s2,s3⟩:=I.own q
    refine h Λ F0 H0 F H σ δ _ I ((AftS.of I a).imp fun d F1 H1 e c v r=>⟨_,s1,?_⟩)
    refine hi Λ F0 H0 F1 H1 σ δ _ (I.grow e) ((AftS.of (I.grow e) c).imp fun k F2 H2 e2 c2 v2 r2=>?_)
    cases k with
    | int k =>
      simp only [Rep] at r2
      subst r2
      dsimp only at c2
      cases z:ixN l.length k with
      | none=>rw [z] at c2; exact c2.elim
      | some j =>
        rw [z] at c2
        refine ⟨p,vs,k,j,rfl,rfl,e2.hh _ _ (e.hh _ _ s2),by rw [s3.length]; exact z,?_⟩
        exact c2 σ F2 _ (((I.grow e).grow e2).chg q s1 ⟨_,zam,((s3.mono e.ff).mono e2.ff).set j (Rep.mono e2.ff _ r)⟩)
    | _=>exact c2.elim
  · exact a.elim
def zgr (f:Int→Int→Int) (i:Nat) (mi me:En→R D) (δ:En):O:=match δ[i]? with
  | some (.o (.lst l))=>(mi δ).toO δ fun k=>(match k with
    | .int k=>(match ixN l.length k with
      | some j=>(match l[j]? with
        | some (.int x)=>(me δ).toO δ fun y=>(match y with | .int y=>.nx (δ.set i (.o (.lst (l.set j (.int (f x y)))))) | _=>.no)
        | _=>.no)
      | none=>.no)
    | _=>.no)
  | _=>.no
theorem zhu {f:Int→Int→Int} {i:Nat} {ti:TE} {mi:En→R D} (hi:SE K XO E ti mi) (h:SE K XO E te me):SS K XO E (zjX (tVar i) ti te (rIxL K.f) (ipI f) zi7) (zgr f i mi me):=by
  intro Λ F0 H0 F H σ δ Dn I a
  unfold zgr at a
  split at a
  · rename_i l q
    obtain ⟨p,s1,vs,s2,s3⟩:=I.own q
    refine ⟨_,s1,?_⟩
    refine hi Λ F0 H0 F H σ δ _ I ((AftS.of I a).imp fun k F1 H1 e c v r=>?_)
    cases k with
    | int k =>
      simp only [Rep] at r
      subst r
      dsimp only at c
      cases z:ixN l.length k with
      | none=>rw [z] at c; exact c.elim
      | some j =>
        rw [z] at c
        dsimp only at c
        cases z2:l[j]? with
        | none=>rw [z2] at c; exact c.elim
        | some d =>
          rw [z2] at c
          cases d with
          | int x =>
            obtain ⟨w,w1,w2⟩:=s3.get z2
            simp only [Rep] at w2
            subst w2
            have h1:=e.hh _ _ s2
            refine ⟨p,vs,k,_,rfl,rfl,.inl (.inl h1),by unfold atI; rw [s3.length,z]; exact w1,?_⟩
            refine h Λ F0 H0 F1 H1 σ δ _ (I.grow e) ((AftS.of (I.grow e) c).imp fun y F2 H2 e2 c2 v2 r2=>?_)
            cases y with
            | int y =>
              simp only [Rep] at r2
              subst r2
              refine ⟨x,y,rfl,rfl,p,vs,k,j,rfl,rfl,e2.hh _ _ h1,by rw [s3.length]; exact z,?_⟩
              exact c2 σ F2 _ (((I.grow e).grow e2).chg q s1 ⟨_,zam,((s3.mono e.ff).mono e2.ff).set j (by simp only [Rep])⟩)
            | _=>exact c2.elim
          | _=>exact c.elim
    | _=>exact c.elim
  · exact a.elim
def zgP (i:Nat) (mk me:En→R D) (δ:En):O:=match δ[i]? with
  | some (.o (.dct ks l))=>(me δ).toO δ fun d=>(mk δ).toO δ fun k=>match asK k with
    | some k=>ifC (ks.length < sizeLine) (.nx (δ.set i (.o (putD ks l k d)))) .no
    | none=>.no
  | _=>.no
theorem zgV {i:Nat} {tk:TE} {mk:En→R D} (hk:SE K XO E tk mk) (h:SE K XO E te me):SS K XO E (zj6 (tVar i) tk te) (zgP i mk me):=by
  intro Λ F0 H0 F H σ δ Dn I a
  unfold zgP at a
  split at a
  · rename_i ks l q
    obtain ⟨p,s1,vs,s2,s0,s3⟩:=I.own q
    refine h Λ F0 H0 F H σ δ _ I ((AftS.of I a).imp fun d F1 H1 e c v r=>⟨_,s1,?_⟩)
    refine hk Λ F0 H0 F1 H1 σ δ _ (I.grow e) ((AftS.of (I.grow e) c).imp fun k F2 H2 e2 c2 v2 r2=>?_)
    cases z:asK k with
    | none=>rw [z] at c2; exact c2.elim
    | some k =>
      rw [z] at c2
      dsimp only at c2
      unfold ifC at c2
      split at c2
      · rename_i hl
        cases zhM z r2
        refine ⟨p,_,rfl,DPut.k (e2.hh _ _ (e.hh _ _ s2)) (by rw [zkI s0]; exact hl),?_⟩
        exact c2 σ F2 _ (((I.grow e).grow e2).chg q s1 (zjH (Rep.mono e2.ff _ r) s0 ((s3.mono e.ff).mono e2.ff)))
      · exact c2.elim
  · exact a.elim
def dIn (k d:D):Option D:=match asK k,d with | some k,.dct ks l=>some (.bl (getK ks l k).isSome) | _,_=>none
theorem zh6 {ks:List Key} {l:List D} {x:V} {k:Key} (h:Top K F H (.dct ks l) x):∃ p o,x = .ref p∧DGet H p (kV k) o∧(∀ d,getK ks l k=some d→∃ v,o=some v∧Rep K F d v)∧(getK ks l k=none→o=none):=by
  obtain ⟨a,kvs,rfl,h1,h2,h3⟩:=h
  exact ⟨a,_,rfl,.k h1,ziR h2 h3⟩
theorem zj4 (hy:SE K XO E ty my) (hd:SEr K XO E td md):SE K XO E (tDIn ty td) (m2 dIn my md):=by
  intro Λ F0 H0 F H σ δ Q I a
  refine hy Λ F0 H0 F H σ δ _ I (a.bind.imp fun dk F1 H1 e1 a1 y ry=>?_)
  refine hd Λ F0 H0 F1 H1 σ δ _ (I.grow e1) (a1.bind.imp fun dd F2 H2 e2 a2 x rx=>?_)
  unfold dIn at a2
  cases z:asK dk with
  | none=>rw [z] at a2; exact a2.elim
  | some k =>
    rw [z] at a2
    cases dd with
    | dct ks l =>
      obtain ⟨p,o,rfl,g,g1,g2⟩:=zh6 (k:=k) rx
      cases zhM z ry
      refine ⟨p,o,rfl,g,a2 F2 H2 (.refl e2.fh) _ ?_⟩
      cases q:getK ks l k with
      | none=>rw [g2 q]; simp only [Rep]; rfl
      | some d=>obtain ⟨v,rfl,_⟩:=g1 d q; simp only [Rep]; rfl
    | _=>exact a2.elim
def i2 (f:Int→Int→D) (x y:D):Option D:=match x,y with | .int i,.int j=>some (f i j) | _,_=>none
def i2c (C:Int→Int→Prop) (f:Int→Int→D) (x y:D):Option D:=match x,y with | .int i,.int j=>ifC (C i j) (some (f i j)) none | _,_=>none
theorem ziv {g:Int→Int→V} {f:Int→Int→D} (h:∀ i j F,Rep K F (f i j) (g i j)):SR K (rI0 g) (i2 f):=by
  intro F H x y dx dy d Q s hx hy e q
  cases dx with
  | int i =>
    cases dy with
    | int j =>
      cases e
      simp only [Top,Rep] at hx hy
      exact ⟨i,j,hx,hy,q _ F H (.refl s) (h i j F)⟩
    | _=>cases e
  | _=>cases e
theorem zf6 {C:Int→Int→Prop} {g:Int→Int→V} {f:Int→Int→D} (h:∀ i j F,Rep K F (f i j) (g i j)):SR K (rI C g) (i2c C f):=by
  intro F H x y dx dy d Q s hx hy e q
  cases dx with
  | int i =>
    cases dy with
    | int j =>
      simp only [Top,Rep] at hx hy
      simp only [i2c] at e
      unfold ifC at e
      split at e
      · rename_i hc
        cases e
        exact ⟨i,j,hx,hy,hc,q _ F H (.refl s) (h i j F)⟩
      · cases e
    | _=>cases e
  | _=>cases e
def oAdd:D→D→Option D:=i2 fun i j=>.int (i + j)
def oSub:D→D→Option D:=i2 fun i j=>.int (i - j)
def oMul:D→D→Option D:=i2c (fun i j=>Fit i∧Fit j) fun i j=>.int (i * j)
def oDiv:D→D→Option D:=i2c (fun _ j=>j ≠ 0∧Fit j) fun i j=>.int (i.fdiv j)
def oMod:D→D→Option D:=i2c (fun _ j=>0 < j) fun i j=>.int (i % j)
def oPow:D→D→Option D:=i2c CPow fun i j=>.int (i ^ j.toNat)
def oLt:D→D→Option D:=i2 fun i j=>.bl (decide (i < j))
def oGt:D→D→Option D:=i2 fun i j=>.bl (decide (j < i))
theorem zcK:SR K (rI0 fun i j=>.int (i + j)) oAdd:=ziv fun _ _ _=>by simp only [Rep]
theorem zf1:SR K (rI0 fun i j=>.int (i - j)) oSub:=ziv fun _ _ _=>by simp only [Rep]
theorem zh0:SR K (rI (fun i j=>Fit i∧Fit j) fun i j=>.int (i * j)) oMul:=zf6 fun _ _ _=>by simp only [Rep]
theorem zc5:SR K (rI (fun _ j=>j ≠ 0∧Fit j) fun i j=>.int (i.fdiv j)) oDiv:=zf6 fun _ _ _=>by simp only [Rep]
theorem zbm:SR K (rI (fun _ j=>0 < j) fun i j=>.int (i % j)) oMod:=zf6 fun _ _ _=>by simp only [Rep]
theorem zgZ:SR K (rI CPow fun i j=>.int (i ^ j.toNat)) oPow:=zf6 fun _ _ _=>by simp only [Rep]
theorem zkE:SR K (rI0 fun i j=>.bl (decide (i < j))) oLt:=ziv fun _ _ _=>by simp only [Rep]
theorem zj1:SR K (rI0 fun i j=>.bl (decide (j < i))) oGt:=ziv fun _ _ _=>by simp only [Rep]
def oNeg:D→Option D
  | .int i=>some (.int (-i))
  | _=>none
theorem zhh:SU K (rU fun i=>.int (-i)) oNeg:=by
  intro F H x dx d Q s hx e q
  cases dx with
  | int i=>cases e; simp only [Top,Rep] at hx; exact ⟨i,hx,q _ F H (.refl s) (by simp only [Rep])⟩
  | _=>cases e
def fl:D→Option V
  | .non=>some .non
  | .bl b=>some (.bl b)
  | .int i=>some (.int i)
  | .str x=>some (.str x)
  | _=>none
theorem zgc {d:D} {v x:V} (h:fl d=some v) (r:Top K F H d x):x=v:=by
  cases d with
  | non=>cases h; simpa only [Top,Rep] using r
  | bl _=>cases h; simpa only [Top,Rep] using r
  | int _=>cases h; simpa only [Top,Rep] using r
  | str _=>cases h; simpa only [Top,Rep] using r
  | _=>cases h
def oEq (x y:D):Option D:=match fl x,fl y with | some a,some b=>if scal a b=true then some (.bl (decide (a=b))) else none | _,_=>none
def oNe (x y:D):Option D:=match fl x,fl y with | some a,some b=>if scal a b=true then some (.bl (!decide (a=b))) else none | _,_=>none
theorem zeJ:SR K rEq oEq:=by
  intro F H x y dx dy d Q s hx hy e q
  unfold oEq at e
  split at e
  · rename_i a b h1 h2
    split at e
    · rename_i hs
      cases e
      cases zgc h1 hx; cases zgc h2 hy
      exact ⟨hs,q _ F H (.refl s) (by simp only [Rep])⟩
    · cases e
  · cases e
theorem zif:SR K rNe oNe:=by
  intro F H x y dx dy d Q s hx hy e q
  unfold oNe at e
  split at e
  · rename_i a b h1 h2
    split at e
    · rename_i hs
      cases e
      cases zgc h1 hx; cases zgc h2 hy
      exact ⟨hs,q _ F H (.refl s) (by simp only [Rep])⟩
    · cases e
  · cases e
def oIxL (x y:D):Option D:=match x,y with | .lst l,.int i=>atI l i | .scr l,.int i=>(atI l i).map .int | _,_=>none
def oIxT (x y:D):Option D:=match x,y with | .tup l,.int i=>atI l i | _,_=>none
theorem zfn {l:List D} {vs:List V} {i:Int} {d:D} (r:RepL K F l vs) (h:atI l i=some d):∃ v,atI vs i=some v∧Rep K F d v:=by
  unfold atI at h ⊢
  rw [r.length]
  cases q:ixN l.length i with
  | none=>rw [q] at h; cases h
  | some j=>rw [q] at h; exact r.get h
theorem zba:SR K (rIxL K.f) oIxL:=by
  intro F H x y dx dy d Q s hx hy e q
  cases dx with
  | lst l =>
    cases dy with
    | int i =>
      obtain ⟨a,vs,rfl,h1,h2⟩:=hx
      simp only [Top,Rep] at hy
      obtain ⟨v,g1,g2⟩:=zfn h2 e
      exact ⟨a,vs,i,v,rfl,hy,.inl h1,g1,q _ F H (.refl s) g2⟩
    | _=>cases e
  | scr l =>
    cases dy with
    | int i =>
      simp only [Top,Rep] at hx hy
      obtain ⟨a,rfl,h1⟩:=hx
      simp only [oIxL] at e
      cases z:atI l i with
      | none=>rw [z] at e; cases e
      | some n =>
        rw [z] at e; cases e
        obtain ⟨v,g1,g2⟩:=zfn (F:=F) (K:=K) (l:=l.map .int) (vs:=l.map V.int) (i:=i) (d:=.int n) .ints (by
          unfold atI at z ⊢
          rw [List.length_map]
          cases q:ixN l.length i with
          | none=>rw [q] at z; cases z
          | some j =>
            rw [q] at z
            change l[j]?=some n at z
            show (l.map D.int)[j]?=_
            rw [List.getElem?_map,z]; rfl)
        exact ⟨a,_,i,v,rfl,hy,s.seq h1,g1,q _ F H (.refl s) g2⟩
    | _=>cases e
  | _=>cases e
theorem zgf:SR K (rIxT K.f) oIxT:=by
  intro F H x y dx dy d Q s hx hy e q
  cases dx with
  | tup l =>
    cases dy with
    | int i =>
      simp only [Top,Rep] at hx hy
      obtain ⟨a,vs,rfl,h1,h2⟩:=hx
      obtain ⟨v,g1,g2⟩:=zfn h2 e
      exact ⟨a,vs,i,v,rfl,hy,.inl (.inl (s _ _ h1)),g1,q _ F H (.refl s) g2⟩
    | _=>cases e
  | _=>cases e
end
end PM
namespace PM
open PySem L2
section
variable {K:Kx} {XO:XOT} {E:St→XK} {ta tb te ty td:TE} {ma mb me my md:En→R D} {t u:TS} {m n:En→O} {Λ:List (Nat × Addr × HO)} {F0 H0 F H F1 H1:Hp} {σ:St} {δ:En} {Dn:Ends}
abbrev EN:St→XK:=fun _ _ _ _=>False
def ze9:Sl→Sl
  | .o d=>.l d
  | .p _=>.no
  | s=>s
def zaB (δ:En) (ix:List Nat) (n:Nat):En:=ix.map (fun i=>ze9 (δ[i]?.getD .no)) ++ List.replicate n .no
def zbn (f:D→R (Option D)):List D→R (List D)
  | []=>.ok []
  | d :: l=>(f d).bind fun o=>(zbn f l).bind fun r=>.ok (o.toList ++ r)
def zdg (b:D→En→Option En) (nc:Option (En→R Bool)) (me:En→R D) (δ:En) (d:D):R (Option D):=match b d δ with
  | none=>.no
  | some δ1=>(match nc with
    | none=>(me δ1).nev.bind fun x=>.ok (some x)
    | some c=>(c δ1).nev.bind fun k=>if k=true then (me δ1).nev.bind fun x=>.ok (some x) else .ok none)
def zex (mi:En→R (List D)) (ix:List Nat) (n:Nat) (b:D→En→Option En) (nc:Option (En→R Bool)) (me:En→R D) (δ:En):R D :=
  (mi δ).bind fun ds=>ifC (ds.length ≤ sizeLine) ((zbn (zdg b nc me (zaB δ ix n)) ds).nev.bind fun l=>.ok (.lst l)) .no
theorem zfg {ix:List Nat} {n:Nat} (I:EnvOk K Λ F0 H0 F H σ δ) (hix:ix.Nodup) :
    ∃ Λc,EnvOk K Λc F0 H0 F H (zbw σ ix n) (zaB δ ix n)∧(∀ i:Nat,Sl.own (zaB δ ix n)[i]?=true→∃ x ∈ Λc,x.1=i)∧∀ x ∈ Λc,∃ o,H x.2.1=some o:=by
  have gd:∀ j:Nat,j < ix.length→(zaB δ ix n)[j]?=some (ze9 (δ[ix.getD j 0]?.getD .no)):=fun j hj=>by
    unfold zaB
    rw [List.getElem?_append_left (by simpa using hj),List.getElem?_map,List.getElem?_eq_getElem hj]
    simp [List.getD_eq_getElem?_getD,List.getElem?_eq_getElem hj]
  have gs:∀ j:Nat,j < ix.length→(zbw σ ix n)[j]?=some ((σ[ix.getD j 0]?).getD none):=fun j hj=>by
    unfold zbw
    rw [List.getElem?_append_left (by simpa using hj),List.getElem?_map,List.getElem?_eq_getElem hj]
    simp [List.getD_eq_getElem?_getD,List.getElem?_eq_getElem hj]
  have gn:∀ j:Nat,¬ j < ix.length→(zaB δ ix n)[j]?=some .no∨(zaB δ ix n)[j]?=none:=fun j hj=>by
    unfold zaB
    rw [List.getElem?_append_right (by simpa using hj),List.getElem?_replicate]
    split
    · exact .inl rfl
    · exact .inr rfl
  have own:∀ j:Nat,Sl.own (zaB δ ix n)[j]?=true→j < ix.length∧∃ d a o,δ[ix.getD j 0]?=some d∧Sl.own (some d)=true∧(zaB δ ix n)[j]?=some (ze9 d)∧(∃ e,ze9 d = .l e)∧σ[ix.getD j 0]?=some (some (.ref a))∧(zbw σ ix n)[j]?=some (some (.ref a))∧H a=some o∧H0 a=none∧F a=none:=fun j h=>by
    by_cases hj:j < ix.length
    · refine ⟨hj,?_⟩
      rw [gd j hj] at h
      have z:=I.slot (ix.getD j 0)
      cases q:δ[ix.getD j 0]? with
      | none=>rw [q] at h; cases h
      | some s =>
        rw [q] at h z
        cases s with
        | no=>cases h
        | v d=>cases h
        | o d =>
          obtain ⟨a,z1,z2,z3,z4⟩:=z
          obtain ⟨o,ho⟩:=z4.obj
          exact ⟨_,a,o,rfl,rfl,by rw [gd j hj,q]; rfl,⟨d,rfl⟩,z1,by rw [gs j hj,z1]; rfl,ho,z2,z3⟩
        | l d =>
          obtain ⟨a,z1,z2,z3,z4⟩:=z
          obtain ⟨o,ho⟩:=z4.obj
          exact ⟨_,a,o,rfl,rfl,by rw [gd j hj,q]; rfl,⟨d,rfl⟩,z1,by rw [gs j hj,z1]; rfl,ho,z2,z3⟩
        | p ll=>cases h
    · rcases gn j hj with z | z <;> (rw [z] at h; cases h)
  let Λc:List (Nat × Addr × HO):=(List.range ix.length).filterMap fun (j:Nat)=>match (zbw σ ix n)[j]? with
    | some (some (V.ref a))=>if Sl.own (zaB δ ix n)[j]?=true then (H a).map fun o=>(j,a,o) else none
    | _=>none
  have mem:∀ x ∈ Λc,(zbw σ ix n)[x.1]?=some (some (.ref x.2.1))∧Sl.own (zaB δ ix n)[x.1]?=true∧H x.2.1=some x.2.2:=fun x hx=>by
    obtain ⟨j,_,h⟩:=List.mem_filterMap.mp hx
    split at h
    · rename_i a q
      split at h
      · rename_i ow
        cases q2:H a with
        | none=>rw [q2] at h; cases h
        | some o=>rw [q2] at h; cases h; exact ⟨q,ow,q2⟩
      · cases h
    · cases h
  have zgt:∀ (j:Nat) (ll:Tr),(zaB δ ix n)[j]? ≠ some (.p ll):=fun j ll h=>by
    by_cases hj:j < ix.length
    · rw [gd j hj] at h
      cases q:δ[ix.getD j 0]? with
      | none=>rw [q] at h; cases h
      | some s=>rw [q] at h; cases s <;> cases h
    · rcases gn j hj with z | z <;> (rw [z] at h; cases h)
  refine ⟨Λc,⟨I.ext,?_,fun j=>?_,fun i j a hij h1 h2 h3 h4=>?_,fun x hx=>?_,fun j ll h=>absurd h (zgt j ll)⟩,fun j h=>?_,fun x hx=>⟨_,(mem x hx).2.2⟩⟩
  · unfold zbw zaB
    simp
  · by_cases hj:j < ix.length
    · rw [gd j hj,gs j hj]
      have z:=I.slot (ix.getD j 0)
      cases q:δ[ix.getD j 0]? with
      | none=>trivial
      | some s =>
        rw [q] at z
        cases s with
        | no=>trivial
        | v d=>obtain ⟨u,z1,z2⟩:=z; exact ⟨u,by rw [z1]; rfl,z2⟩
        | o d=>obtain ⟨a,z1,z2⟩:=z; exact ⟨a,by rw [z1]; rfl,z2⟩
        | l d=>obtain ⟨a,z1,z2⟩:=z; exact ⟨a,by rw [z1]; rfl,z2⟩
        | p ll=>trivial
    · rcases gn j hj with z | z <;> (rw [z]; trivial)
  · obtain ⟨i1,d1,a1,o1,i2,i3,i4,i5,i6,i7,i8⟩:=own i h1
    obtain ⟨j1,d2,a2,o2,j2,j3,j4,j5,j6,j7,j8⟩:=own j h2
    rw [i7] at h3; cases h3
    rw [j7] at h4; cases h4
    refine I.dist (ix.getD i 0) (ix.getD j 0) a (fun e=>hij ?_) (by rw [i2]; exact i3) (by rw [j2]; exact j3) i6 j6
    rw [List.getD_eq_getElem?_getD,List.getD_eq_getElem?_getD,List.getElem?_eq_getElem i1,List.getElem?_eq_getElem j1] at e
    exact ((List.getElem?_inj i1 hix).mp (by rw [List.getElem?_eq_getElem i1,List.getElem?_eq_getElem j1]; exact congrArg some e))
  · obtain ⟨m1,m2,m3⟩:=mem x hx
    obtain ⟨_,d,_,_,_,_,h4,⟨e,h5⟩,_⟩:=own x.1 m2
    exact ⟨⟨e,by rw [h4,h5]⟩,m1,m3⟩
  · obtain ⟨i1,d1,a1,o1,i2,i3,i4,i5,i6,i7,i8,_⟩:=own j h
    refine ⟨(j,a1,o1),List.mem_filterMap.mpr ⟨j,List.mem_range.mpr i1,?_⟩,rfl⟩
    rw [i7]
    show (if Sl.own (zaB δ ix n)[j]?=true then (H a1).map fun o=>(j,a1,o) else none)=_
    rw [if_pos h,i8]
    rfl
theorem EnvOk.side {p:Addr} {w:HO} (I:EnvOk K Λ F0 H0 F H σ δ) (ho:∀ i:Nat,Sl.own δ[i]?=true→∃ x ∈ Λ,x.1=i) (hp:∀ x ∈ Λ,x.2.1 ≠ p) (h0:H0 p=none) (h1:F p=none):EnvOk K Λ F0 H0 F (upd H p w) σ δ:=by
  have ne:∀ (i:Nat) (a:Addr),Sl.own δ[i]?=true→σ[i]?=some (some (.ref a))→a ≠ p:=fun i a h h'=>by
    obtain ⟨x,hx,e⟩:=ho i h
    have z:=(I.lent x hx).2.1
    rw [e,h'] at z
    cases z
    exact hp x hx
  have zgt:∀ (j:Nat) (ll:Tr),δ[j]? ≠ some (.p ll):=fun j ll h=>by
    obtain ⟨x,hx,e⟩:=ho j (by rw [h]; rfl)
    obtain ⟨d,hd⟩:=(I.lent x hx).1
    rw [e,h] at hd; cases hd
  refine ⟨⟨I.ext.ff,fun b o q=>?_,fun b o q=>?_,I.ext.nw⟩,I.len,fun i=>?_,I.dist,fun x hx=>?_,fun j ll h=>absurd h (zgt j ll)⟩
  · rw [zag (zaj q h0)]; exact I.ext.hh b o q
  · rw [zag (zaj q h1)]; exact I.ext.fh b o q
  · have z:=I.slot i
    cases q:δ[i]? with
    | none=>trivial
    | some s =>
      rw [q] at z
      cases s with
      | no=>trivial
      | v d=>exact z
      | o d=>obtain ⟨a,z1,z2,z3,z4⟩:=z; exact ⟨a,z1,z2,z3,z4.at (zag (ne i a (by rw [q]; rfl) z1))⟩
      | l d=>obtain ⟨a,z1,z2,z3,z4⟩:=z; exact ⟨a,z1,z2,z3,z4.at (zag (ne i a (by rw [q]; rfl) z1))⟩
      | p ll=>exact absurd q (zgt i ll)
  · obtain ⟨z1,z2,z3⟩:=I.lent x hx
    exact ⟨z1,z2,by rw [zag (hp x hx)]; exact z3⟩
theorem EnvOk.weakL {δ':En} (w:Weak δ δ') (hl:∀ x ∈ Λ,∃ d,δ[x.1]?=some (.l d)) (I:EnvOk K Λ F0 H0 F H σ δ'):EnvOk K Λ F0 H0 F H σ δ:=by
  refine ⟨I.ext,I.len.trans w.1.symm,fun i=>?_,fun i j a hij h1 h2 h3 h4=>?_,fun x hx=>⟨hl x hx,(I.lent x hx).2⟩,I.tabsOf (fun k ll h=>⟨(w.2 k).elim (fun z=>by rw [z] at h; cases h) fun z=>by rw [← z]; exact h,rfl⟩) (fun _ _ _ _ _ _ t f _=>⟨t,fun b hb=>(f b hb).2⟩) fun k j ll r b bs _ _ _ _ ho hs=>.inl ⟨(w.2 j).elim (fun z=>by rw [z] at ho; cases ho) fun z=>by rw [← z]; exact ho,hs⟩⟩
  · rcases w.2 i with z | z
    · rw [z]; trivial
    · rw [z]; exact I.slot i
  · have ow:∀ k:Nat,Sl.own δ[k]?=true→Sl.own δ'[k]?=true:=fun k h=>by
      rcases w.2 k with z | z
      · rw [z] at h; cases h
      · rw [← z]; exact h
    exact I.dist i j a hij (ow i h1) (ow j h2) h3 h4
theorem zfI {f:D→R (Option D)} {d:D} {l r:List D} (h:(zbn f (d :: l)).nev = .ok r):∃ o r',f d = .ok o∧(zbn f l).nev = .ok r'∧r=o.toList ++ r':=by
  unfold zbn at h
  cases q:f d with
  | no=>rw [q] at h; cases h
  | ex x=>rw [q] at h; cases h
  | ok o =>
    rw [q] at h
    cases q2:zbn f l with
    | no=>rw [R.bind_ok,q2] at h; cases h
    | ex x=>rw [R.bind_ok,q2] at h; cases h
    | ok r'=>rw [R.bind_ok,q2] at h; cases h; exact ⟨o,r',rfl,rfl,rfl⟩
theorem nev_ok {α:Type} {r:R α} {a:α} (h:r.nev = .ok a):r = .ok a:=by
  cases r with
  | no=>cases h
  | ok b=>cases h; rfl
  | ex x=>cases h
theorem zcj {wi:TI} {mi:En→R (List D)} {ix:List Nat} {n:Nat} {g:TG} {b:D→En→Option En} {tc:Option TT} {nc:Option (En→R Bool)}
    (hi:SIc K XO E wi mi) (hix:ix.Nodup) (hg:SG K g b) (hw:BW b) (hc:(tc=none∧nc=none)∨∃ c k,tc=some c∧nc=some k∧ST K XO EN c k) (he:SE K XO EN te me):SEo K XO E (zh1 wi ix n g tc te) (zex mi ix n b nc me):=by
  intro Λ F0 H0 F H σ δ Q I a
  refine hi Λ F0 H0 F H σ δ _ I (a.bind.imp fun ds F1 H1 e1 a1 J hJ p hp=>?_)
  unfold ifC at a1
  split at a1
  case isFalse=>exact a1.elim
  rename_i hsz
  have I1:=I.grow e1
  obtain ⟨Λc,Ic,hown,hall⟩:=zfg (n:=n) I1 hix
  cases qg:(zbn (zdg b nc me (zaB δ ix n)) ds).nev with
  | no=>rw [qg] at a1; exact a1.elim
  | ex x=>cases q2:zbn (zdg b nc me (zaB δ ix n)) ds <;> (rw [q2] at qg; cases qg)
  | ok l =>
  rw [qg] at a1
  have hlent:∀ x ∈ Λc,∃ d,(zaB δ ix n)[x.1]?=some (.l d):=fun x hx=>(Ic.lent x hx).1
  have hpn:∀ x ∈ Λc,x.2.1 ≠ p:=fun x hx e=>by
    obtain ⟨o,ho⟩:=hall x hx
    rw [e,hp] at ho; cases ho
  have p0:H0 p=none:=I1.ext.hh.free hp
  have f1:F1 p=none:=e1.fh.free hp
  refine ⟨fun i k ys σ2 H2=>∃ F2 l1 l2,EnvOk K Λc F0 H0 F2 H2 σ2 (zaB δ ix n)∧Ext F1 H1 F2 H2∧H2 p=some (.lst ys)∧F2 p=none∧RepL K F2 l1 ys∧(zbn (zdg b nc me (zaB δ ix n)) (ds.drop i)).nev = .ok l2∧l=l1 ++ l2∧k=ds.length - i∧i ≤ ds.length∧ys.length ≤ i,
    ⟨_,F1,[],l,?_,.newO e1.fh hp,zam,f1,.nil,qg,rfl,rfl,Nat.zero_le _,Nat.le_refl _⟩,?_⟩
  · exact Ic.grow (.newO e1.fh hp)
  rintro i k ys σ2 H2 ⟨F2,l1,l2,I2,x2,hD,hF,r,qd,rfl,rfl,hil,hys⟩
  refine ⟨hD,?_⟩
  by_cases hlt:i < ds.length
  · have e:ds.drop i=ds[i] :: ds.drop (i + 1):=List.drop_eq_getElem_cons hlt
    rw [e] at qd
    obtain ⟨o,l3,q1,q3,rfl⟩:=zfI qd
    obtain ⟨h1,h2⟩:=(hJ F2 H2 x2 i).1 ds[i] (by simp [hlt])
    refine .inr ⟨h1,fun ys' σ' H'=>∃ F' l1',EnvOk K Λc F0 H0 F' H' σ' (zaB δ ix n)∧Ext F1 H1 F' H'∧H' p=some (.lst ys')∧F' p=none∧RepL K F' l1' ys'∧l1 ++ (o.toList ++ l3)=l1' ++ l3∧ys'.length ≤ i + 1,
      fun ys' σ' H' ⟨F',l1',w1,w2,w3,w4,w5,w6,w7⟩=>⟨_,by omega,F',l1',l3,w1,w2,w3,w4,w5,q3,w6,rfl,hlt,w7⟩,fun x H' y=>?_⟩
    obtain ⟨F3,e3,rx⟩:=h2 x H' y
    have hp2:∀ {F5 H5:Hp},Ext F2 H2 F5 H5→H5 p=some (.lst ys)∧F5 p=none:=fun z=>⟨z.hh _ _ hD,z.nw p _ hF hD⟩
    unfold zdg at q1
    cases qb:b ds[i] (zaB δ ix n) with
    | none=>rw [qb] at q1; cases q1
    | some δ1 =>
      rw [qb] at q1
      have hwk:=hw _ _ _ qb
      refine hg Λc F0 H0 F3 H' σ2 _ _ x δ1 _ (I2.grow e3) rx qb fun σ3 I3=>?_
      have fin:∀ F4 H4,Ext F3 H' F4 H4→(me δ1).nev.bind (fun x=>R.ok (some x)) = .ok o→te σ3 H4 fun y H5=>H5 p=some (.lst ys)∧ys.length < sizeLine ∧
          ∃ F' l1',EnvOk K Λc F0 H0 F' (upd H5 p (.lst (ys ++ [y]))) σ3 (zaB δ ix n)∧Ext F1 H1 F' (upd H5 p (.lst (ys ++ [y])))∧upd H5 p (.lst (ys ++ [y])) p=some (.lst (ys ++ [y]))∧F' p=none∧RepL K F' l1' (ys ++ [y])∧l1 ++ (o.toList ++ l3)=l1' ++ l3∧(ys ++ [y]).length ≤ i + 1:=by
        intro F4 H4 e4 qe
        cases qm:me δ1 with
        | no=>rw [qm] at qe; cases qe
        | ex x=>rw [qm] at qe; cases qe
        | ok d =>
          rw [qm] at qe
          cases qe
          refine he Λc F0 H0 F4 H4 σ3 δ1 _ (I3.grow e4) ?_
          rw [qm]
          intro F5 H5 e5 v rv
          have z:=e3.trans (e4.trans e5)
          obtain ⟨z1,z2⟩:=hp2 z
          refine ⟨z1,by omega,F5,l1 ++ [d],(((I3.grow e4).grow e5).weakL hwk hlent).side hown hpn p0 z2,?_,zam,z2,(r.mono z.ff).append (.cons rv .nil),by simp,by simpa using hys⟩
          have w:=x2.trans z
          exact ⟨w.ff,fun c o q=>by rw [zag (zaj q hp)]; exact w.hh c o q,fun c o q=>by rw [zag (zaj q z2)]; exact w.fh c o q,w.nw⟩
      rcases hc with ⟨rfl,rfl⟩ | ⟨c,kc,rfl,rfl,hcc⟩
      · have z:=fin F3 H' (.refl e3.fh) q1
        unfold zf4
        simp only [if_true]
        exact z
      · simp only at q1
        refine hcc Λc F0 H0 F3 H' σ3 δ1 _ I3 ?_
        cases qk:kc δ1 with
        | no=>rw [qk] at q1; cases q1
        | ex x=>rw [qk] at q1; cases q1
        | ok bb =>
          rw [qk] at q1
          intro F4 H4 e4
          cases bb with
          | true=>rw [if_pos rfl]; exact fin F4 H4 e4 q1
          | false =>
            rw [if_neg Bool.false_ne_true]
            have eo:o=none:=by
              rw [R.nev_ok,R.bind_ok,if_neg Bool.false_ne_true] at q1
              cases q1; rfl
            subst eo
            have z:=e3.trans e4
            obtain ⟨z1,z2⟩:=hp2 z
            exact ⟨F4,l1,(I3.grow e4).weakL hwk hlent,x2.trans z,z1,z2,r.mono z.ff,rfl,by omega⟩
  · have e:i=ds.length:=by omega
    subst e
    rw [List.drop_length] at qd
    cases qd
    refine .inl ⟨(hJ F2 H2 x2 _).2 (by simp),a1 F2 H2 x2 p hF (e1.hh.free hp) ⟨ys,hD,?_⟩⟩
    rw [List.append_nil]
    exact r
def zbi (n:Nat) (ds:List D):En:=ds.map .v ++ List.replicate n .no
def runF (np nv:Nat) (m:En→O) (ds:List D):R D:=if ds.length=np then (match m (zbi nv ds) with | .rt d=>.ok d | .nx _=>.ok .non | .ex _ x=>.ex x | _=>.no) else .no
theorem zeh {np nv:Nat} {N:List Str} {ds:List D} {vs:List V} (s:Same F H) (r:RepL K F ds vs) (hn:N.length=np + nv) (hl:ds.length=np):EnvOk K [] F H F H (L2.start N vs) (zbi nv ds):=by
  have hv:=r.length
  unfold L2.start zbi
  have en:N.length - vs.length=nv:=by omega
  rw [en]
  refine ⟨.refl s,by simp [hv],fun i=>?_,fun i j a _ h1 _ _ _=>?_,fun x hx=>(by cases hx),fun i ll h1=>(by
    by_cases hi:i < ds.length
    · rw [List.getElem?_append_left (by simpa using hi),List.getElem?_map,List.getElem?_eq_getElem hi] at h1
      cases h1
    · rw [List.getElem?_append_right (by simpa using hi),List.getElem?_replicate] at h1
      split at h1 <;> cases h1)⟩
  · by_cases hi:i < ds.length
    · rw [List.getElem?_append_left (by simpa using hi),List.getElem?_append_left (by simp; omega),List.getElem?_map,List.getElem?_map,List.getElem?_eq_getElem hi]
      obtain ⟨v,h1,h2⟩:=r.get (List.getElem?_eq_getElem hi)
      rw [h1]
      exact ⟨v,rfl,h2⟩
    · rw [List.getElem?_append_right (by simpa using hi),List.getElem?_replicate]
      split <;> trivial
  · by_cases hi:i < ds.length
    · rw [List.getElem?_append_left (by simpa using hi),List.getElem?_map,List.getElem?_eq_getElem hi] at h1
      cases h1
    · rw [List.getElem?_append_right (by simpa using hi),List.getElem?_replicate] at h1
      split at h1 <;> cases h1
theorem zgB {np nv:Nat} {N:List Str} {vs:List V} {Q:VK} {E:XK} (h:SS K XO (fun _=>E) t m) (hn:N.length=np + nv) (sp:spM K XO (runF np nv m) vs H Q E):t { nx:=fun _ H'=>Q .non H',rt:=Q } (L2.start N vs) H:=by
  obtain ⟨F,ds,s,r,a⟩:=sp
  unfold runF at a
  split at a
  · rename_i hl
    refine h [] F H F H _ _ _ (zeh s r hn hl) ?_
    cases q:m (zbi nv ds) with
    | no=>rw [q] at a; exact a
    | nx δ=>rw [q] at a; exact fun σ F' H' I=>a F' H' I.ext _ (by simp only [Rep])
    | rt d=>rw [q] at a; exact fun v F' H' e r=>a F' H' e v r
    | ro d=>rw [q] at a; exact a.elim
    | bk δ=>rw [q] at a; exact a.elim
    | ct δ=>rw [q] at a; exact a.elim
    | ex δ x=>rw [q] at a; exact fun σ F' H' C dct I w=>a C dct F' H' I.ext w
  · exact a.elim
def runO (np nv:Nat) (m:En→O) (ds:List D):R D:=if ds.length=np then (match m (zbi nv ds) with | .ro d=>.ok d | .ex _ x=>.ex x | _=>.no) else .no
def spO (K:Kx) (XO:XOT) (f:List D→R D):Sp:=fun vs H Q E=>∃ F ds,Same F H∧RepL K F ds vs∧Aft (fun _=>E) XO [] F H (fun d F' H'=>∀ p,F' p=none→H p=none→Own K F' H' d p→Q (.ref p) H') (f ds)
theorem zfV {np nv:Nat} {N:List Str} {vs:List V} {Q:VK} {E:XK} (h:SS K XO (fun _=>E) t m) (hn:N.length=np + nv) (sp:spO K XO (runO np nv m) vs H Q E):t { nx:=fun _ H'=>Q .non H',rt:=Q } (L2.start N vs) H:=by
  obtain ⟨F,ds,s,r,a⟩:=sp
  unfold runO at a
  split at a
  · rename_i hl
    refine h [] F H F H _ _ _ (zeh s r hn hl) ?_
    cases q:m (zbi nv ds) with
    | no=>rw [q] at a; exact a
    | nx δ=>rw [q] at a; exact a.elim
    | rt d=>rw [q] at a; exact a.elim
    | ro d=>rw [q] at a; exact fun p F' H' e h0 h1 o=>a F' H' e p h0 h1 o
    | bk δ=>rw [q] at a; exact a.elim
    | ct δ=>rw [q] at a; exact a.elim
    | ex δ x=>rw [q] at a; exact fun σ F' H' C dct I w=>a C dct F' H' I.ext w
  · exact a.elim
theorem zer {np nv:Nat} {vs:List V} {Q:VK} {E:XK} (sp:spO K XO (runO np nv m) vs H Q E):vs.length=np:=by
  obtain ⟨F,ds,s,r,a⟩:=sp
  unfold runO at a
  split at a
  · rename_i hl; rw [r.length]; exact hl
  · exact a.elim
theorem zdG {np nv:Nat} {vs:List V} {Q:VK} {E:XK} (sp:spM K XO (runF np nv m) vs H Q E):vs.length=np:=by
  obtain ⟨F,ds,s,r,a⟩:=sp
  unfold runF at a
  split at a
  · rename_i hl; rw [r.length]; exact hl
  · exact a.elim
theorem zjK {f:List D→R D} {ns:List Int} {a:Addr} {Q:VK} {E:XK} (hf:f [.scr ns] = .ok (.bl true)) (h:SqL K.f H a (ns.map V.int)) (q:∀ H',Q (.bl true) H'):spM K XO f [.ref a] H Q E:=by
  refine ⟨fun b=>if b=a then H b else none,[.scr ns],fun b o e=>?_,.cons ?_ .nil,?_⟩
  · dsimp only at e
    split at e
    · exact e
    · cases e
  · simp only [Rep]
    refine ⟨a,rfl,?_⟩
    rcases h with (h | ⟨o,h⟩) | h
    · exact .inl (.inl (by dsimp only; rw [if_pos rfl]; exact h))
    · exact .inl (.inr ⟨o,by dsimp only; rw [if_pos rfl]; exact h⟩)
    · exact .inr h
  · rw [hf]
    intro F' H' _ v r
    simp only [Rep] at r
    subst r
    exact q H'
theorem zbB {f:List D→R D} {tl:TA} {ml:En→R (List D)} {E':XK} (h:SA K XO E tl ml):SEo K XO E (ze5 (spO K XO f) [] E' tl) (zao f ml):=by
  intro Λ F0 H0 F H σ δ Q I a
  refine h Λ F0 H0 F H σ δ _ I (a.bind.imp fun ds F1 H1 e1 a1 vs r=>⟨F1,ds,e1.fh,by rw [List.append_nil]; exact r,?_⟩)
  exact Aft.imp (fun d F2 H2 e2 p q h0 h1 o=>p q h0 (e1.hh.free h1) o) (Aft.any a1)
mutual
def zcI:D→Bool
  | .tup l=>zc3 l
  | .lst _=>false
  | .dct _ _=>false
  | .scr _=>false
  | .exc _=>false
  | .fd _ _=>false
  | .obj _ _ _=>false
  | _=>true
def zc3:List D→Bool
  | []=>true
  | d :: l=>zcI d && zc3 l
end
def ziM:D→Bool
  | .lst l=>zc3 l
  | .dct _ l=>zc3 l
  | _=>false
variable (K) in
def Bor (F H:Hp) (d:D) (v:V):Prop:=Rep K F d v∨(∃ a,v = .ref a∧Own K F H d a)∨∃ T fp,d=trD T∧TrOk K F H T v fp
variable (K XO E) in
def SAb (t:TA) (m:En→R (List D)):Prop:=∀ Λ F0 H0 F H σ δ Q,EnvOk K Λ F0 H0 F H σ δ→Aft E XO σ F H (fun ds F' H'=>∀ vs,Prd (Bor K F' H') ds vs→Q vs H') (m δ)→t σ H Q
theorem Bor.mono {F H F' H':Hp} (e:Ext F H F' H') {d:D} {v:V}:Bor K F H d v→Bor K F' H' d v
  | .inl h=>.inl (Rep.mono e.ff _ h)
  | .inr (.inl ⟨a,h1,h2⟩)=>.inr (.inl ⟨a,h1,h2.mono e.ff e.hh⟩)
  | .inr (.inr ⟨T,fp,h1,h2⟩)=>.inr (.inr ⟨T,fp,h1,TrOk.mono e.ff e.hh T h2⟩)
theorem zhl:SAb K XO E tNil mNil:=fun Λ F0 H0 F H σ δ Q I a=>a F H (.refl I.same) _ .nil
theorem zie {tr:TA} {mr:En→R (List D)} (ha:SE K XO E ta ma) (hr:SAb K XO E tr mr):SAb K XO E (zb7 ta tr) (zaa ma mr):=by
  intro Λ F0 H0 F H σ δ Q I a
  refine ha Λ F0 H0 F H σ δ _ I (a.bind.imp fun dx F1 H1 e1 a1 x rx=>?_)
  refine hr Λ F0 H0 F1 H1 σ δ _ (I.grow e1) (a1.bind.imp fun dy F2 H2 e2 a2 y ry=>?_)
  exact a2 F2 H2 (.refl e2.fh) _ (.cons (.inl (Rep.mono e2.ff _ rx)) ry)
theorem zfr {i:Nat} {tr:TA} {mr:En→R (List D)} (hr:SAb K XO E tr mr):SAb K XO E (zb7 (tVar i) tr) (zaa (mRd i) mr):=by
  intro Λ F0 H0 F H σ δ Q I a
  have key:∀ d v,mRd i δ = .ok d→σ[i]?=some (some v)→Bor K F H d v→zb7 (tVar i) tr σ H Q:=fun d v hm hs b=>by
    unfold zaa at a
    rw [hm] at a
    refine ⟨v,hs,hr Λ F0 H0 F H σ δ _ I (Aft.imp (fun dy F2 H2 e2 a2 y ry=>?_) (Aft.bind a))⟩
    exact a2 F2 H2 (.refl e2.fh) _ (.cons (b.mono e2) ry)
  have z:=I.slot i
  unfold zaa at a
  cases q:δ[i]? with
  | none =>
    have e:mRd i δ = .no:=by unfold mRd; rw [q]
    rw [e] at a; exact a.elim
  | some s =>
    rw [q] at z
    cases s with
    | no =>
      have e:mRd i δ = .no:=by unfold mRd; rw [q]
      rw [e] at a; exact a.elim
    | v d=>obtain ⟨u,z1,z2⟩:=z; exact key d u (by unfold mRd; rw [q]) z1 (.inl z2)
    | o d=>obtain ⟨u,z1,_,_,z2⟩:=z; exact key d _ (by unfold mRd; rw [q]) z1 (.inr (.inl ⟨u,rfl,z2⟩))
    | l d=>obtain ⟨u,z1,_,_,z2⟩:=z; exact key d _ (by unfold mRd; rw [q]) z1 (.inr (.inl ⟨u,rfl,z2⟩))
    | p ll =>
      have e:mRd i δ = .no:=by unfold mRd; rw [q]
      rw [e] at a; exact a.elim
def za2 (F H:Hp):Hp:=fun b=>match F b with
  | some o=>some o
  | none=>match H b with
    | some (.lst vs)=>some (.lst vs)
    | some (.dK kvs)=>some (.dK kvs)
    | some (.frz o u)=>some (.frz o u)
    | some (.ins C dx fs)=>some (.ins C dx fs)
    | _=>none
theorem zbH {F H:Hp}:Same F (za2 F H):=fun b o h=>by unfold za2; rw [h]
theorem zfD {F H:Hp} (s:Same F H):Same (za2 F H) H:=fun b o h=>by
  unfold za2 at h
  cases q:F b with
  | some u=>rw [q] at h; cases h; exact s _ _ q
  | none =>
    simp only [q] at h
    cases q2:H b with
    | none=>rw [q2] at h; cases h
    | some u=>cases u <;> simp only [q2] at h <;> cases h <;> rfl
theorem zjw {a:Addr} {vs:List V} (s:Same F H) (h:H a=some (.lst vs)):za2 F H a=some (.lst vs):=by
  unfold za2
  cases q:F a with
  | some u=>rw [s _ _ q] at h; exact h
  | none=>simp only [h]
mutual
theorem zeD (s:Same F H):∀ (T:Tr) {v:V} {fp:List Addr},TrOk K F H T v fp→Rep K (za2 F H) (trD T) v
  | .d x,v,fp,h=>by
    simp only [TrOk] at h
    simp only [trD]
    exact Rep.mono zbH x h.2
  | .l ts,v,fp,h=>by
    simp only [TrOk] at h
    obtain ⟨a,vs,fs,rfl,h2,h3,h4⟩:=h
    simp only [trD,Rep]
    exact ⟨a,vs,rfl,.inl (zjw s h3),zdF s ts h4⟩
  | .t ts,v,fp,h=>by
    simp only [TrOk] at h
    obtain ⟨a,vs,rfl,h3,h4⟩:=h
    simp only [trD,Rep]
    exact ⟨a,vs,rfl,zbH _ _ h3,zdF s ts h4⟩
theorem zdF (s:Same F H):∀ (ts:List Tr) {vs:List V} {fp:List Addr},TrOkL K F H ts vs fp→RepL K (za2 F H) (trDL ts) vs
  | [],vs,fp,h=>by
    simp only [TrOkL] at h
    rw [h.1]
    simp only [trDL]
    exact .nil
  | t :: ts,vs,fp,h=>by
    simp only [TrOkL] at h
    obtain ⟨v,r,f1,f2,rfl,h2,h3,h4⟩:=h
    simp only [trDL]
    exact .cons (zeD s t h3) (zdF s ts h4)
end
theorem zei {F H:Hp} (s:Same F H):∀ {d:D} {v:V},Bor K F H d v→Rep K (za2 F H) d v:=by
  intro d v h
  rcases h with h | ⟨a,rfl,h⟩ | ⟨T,fp,rfl,h⟩
  · exact Rep.mono zbH _ h
  · cases d with
    | lst l =>
      obtain ⟨vs,h1,h2⟩:=h
      simp only [Rep]
      refine ⟨a,vs,rfl,.inl ?_,h2.mono zbH⟩
      unfold za2
      cases q:F a with
      | some u=>rw [s _ _ q] at h1; exact h1
      | none=>simp only [h1]
    | dct ks l =>
      obtain ⟨vs,h1,h0,h2⟩:=h
      simp only [Rep]
      refine ⟨a,vs,rfl,?_,h0,h2.mono zbH⟩
      unfold za2
      cases q:F a with
      | some u=>rw [s _ _ q] at h1; exact h1
      | none=>simp only [h1]
    | obj c ks l =>
      obtain ⟨dx,vs,h1,h0,h2⟩:=h
      simp only [Rep]
      refine ⟨a,dx,vs,rfl,?_,h0,h2.mono zbH⟩
      unfold za2
      cases q:F a with
      | some u=>rw [s _ _ q] at h1; exact h1
      | none=>simp only [h1]
    | _=>exact h.elim
  · exact zeD s T h
theorem zf2 {F H:Hp} (s:Same F H):∀ {ds:List D} {vs:List V},Prd (Bor K F H) ds vs→RepL K (za2 F H) ds vs
  | _,_,.nil=>.nil
  | _,_,.cons h t=>.cons (zei s h) (zf2 s t)
open Classical in
def minH (F H F':Hp):Hp:=fun b=>if F b=none∧H b ≠ none then none else F' b
theorem ziI {F H F' H':Hp} (e:Ext (za2 F H) H F' H') {a:Addr} {o:HO} (h:F' a=some o) (h1:∀ vs,o ≠ .lst vs) (h2:∀ kvs,o ≠ .dK kvs) (h3:∀ q u,o ≠ .frz q u) (h4:∀ C dx fs,o ≠ .ins C dx fs):minH F H F' a=some o:=by
  unfold minH
  split
  · rename_i hc
    exfalso
    cases qh:H a with
    | none=>exact hc.2 qh
    | some u =>
      have np:za2 F H a=match H a with | some (.lst vs)=>some (.lst vs) | some (.dK kvs)=>some (.dK kvs) | some (.frz o u)=>some (.frz o u) | some (.ins C dx fs)=>some (.ins C dx fs) | _=>none:=by
        unfold za2; rw [hc.1]
      cases u with
      | lst vs=>rw [qh] at np; have z:=e.ff a _ np; rw [h] at z; cases z; exact h1 vs rfl
      | dK vs=>rw [qh] at np; have z:=e.ff a _ np; rw [h] at z; cases z; exact h2 vs rfl
      | frz q w=>rw [qh] at np; have z:=e.ff a _ np; rw [h] at z; cases z; exact h3 q w rfl
      | ins C dx fs=>rw [qh] at np; have z:=e.ff a _ np; rw [h] at z; cases z; exact h4 C dx fs rfl
      | _=>rw [qh] at np; have z:=e.nw a _ np qh; rw [h] at z; cases z
  · exact h
mutual
theorem zfG {F H F' H':Hp} (e:Ext (za2 F H) H F' H'):∀ (d:D) {v:V},zcI d=true→Rep K F' d v→Rep K (minH F H F') d v
  | .non,v,_,h=>by simp only [Rep] at h ⊢; exact h
  | .bl _,v,_,h=>by simp only [Rep] at h ⊢; exact h
  | .int _,v,_,h=>by simp only [Rep] at h ⊢; exact h
  | .str _,v,_,h=>by simp only [Rep] at h ⊢; exact h
  | .lst _,v,c,h=>by simp only [zcI] at c; cases c
  | .dct _ _,v,c,h=>by simp only [zcI] at c; cases c
  | .scr _,v,c,h=>by simp only [zcI] at c; cases c
  | .exc _,v,c,h=>by simp only [zcI] at c; cases c
  | .fd _ _,v,c,h=>by simp only [zcI] at c; cases c
  | .obj _ _ _,v,c,h=>by simp only [zcI] at c; cases c
  | .tup l,v,c,h=>by
    simp only [zcI] at c
    simp only [Rep] at h ⊢
    obtain ⟨a,vs,h1,h2,h3⟩:=h
    exact ⟨a,vs,h1,ziI e h2 (fun _ z=>by cases z) (fun _ z=>by cases z) (fun _ _ z=>by cases z) (fun _ _ _ z=>by cases z),zdm e l c h3⟩
theorem zdm {F H F' H':Hp} (e:Ext (za2 F H) H F' H'):∀ (l:List D) {vs:List V},zc3 l=true→RepL K F' l vs→RepL K (minH F H F') l vs
  | [],vs,_,h=>by simp only [RepL] at h ⊢; exact h
  | d :: l,vs,c,h=>by
    simp only [zc3,Bool.and_eq_true] at c
    simp only [RepL] at h ⊢
    obtain ⟨v,r,h1,h2,h3⟩:=h
    exact ⟨v,r,h1,zfG e d c.1 h2,zdm e l c.2 h3⟩
end
theorem zeo {F H F' H':Hp} (e:Ext (za2 F H) H F' H'):Ext F H (minH F H F') H':=by
  refine ⟨fun b o h=>?_,e.hh,fun b o h=>?_,fun p o h1 h2=>?_⟩
  · unfold minH
    rw [if_neg (fun hc=>by rw [h] at hc; cases hc.1)]
    exact e.ff b o (zbH b o h)
  · unfold minH at h
    split at h
    · cases h
    · exact e.fh b o h
  · unfold minH
    rw [if_pos ⟨h1,by rw [h2]; intro z; cases z⟩]
def zdz (f:List D→R D) (ml:En→R (List D)) (δ:En):R D:=(ml δ).bind fun l=>(f l).nev.bind fun d=>if zcI d=true then .ok d else .no
theorem zfZ {f:List D→R D} {tl:TA} {ml:En→R (List D)} {E':XK} (h:SAb K XO E tl ml):SE K XO E (ze5 (spM K XO f) [] E' tl) (zdz f ml):=by
  intro Λ F0 H0 F H σ δ Q I a
  refine h Λ F0 H0 F H σ δ _ I (a.bind.imp fun ds F1 H1 e1 a1 vs r=>⟨za2 F1 H1,ds,zfD e1.fh,by rw [List.append_nil]; exact zf2 e1.fh r,?_⟩)
  cases q:f ds with
  | no=>rw [q] at a1; exact a1.elim
  | ex x=>rw [q] at a1; exact a1.elim
  | ok d =>
    rw [q] at a1
    intro F2 H2 e2 v rv
    simp only [R.nev_ok,R.bind_ok] at a1
    split at a1
    · rename_i hc
      exact a1 _ H2 (zeo e2) v (zfG e2 d hc rv)
    · exact a1.elim
variable (K) in
def SC (r:List V→Hp→VK→Prop) (f:List D→Option D):Prop:=∀ F H vs ds d Q,Same F H→Prd (Top K F H) ds vs→f ds=some d→(∀ v F' H',Ext F H F' H'→Rep K F' d v→Q v H')→r vs H Q
variable (K) in
def SCo (r:List V→Hp→VK→Prop) (f:List D→Option D):Prop:=∀ F H vs ds d Q,Same F H→Prd (Top K F H) ds vs→f ds=some d→(∀ p F' H',Ext F H F' H'→F' p=none→H p=none→Own K F' H' d p→Q (.ref p) H')→r vs H Q
def mCB (f:List D→Option D) (ml:En→R (List D)) (δ:En):R D:=(ml δ).bind fun l=>R.of (f l)
theorem zcC {r:List V→Hp→VK→Prop} {f:List D→Option D} {tl:TA} {ml:En→R (List D)} (hr:SC K r f) (h:SAr K XO E tl ml):SE K XO E (tCB r tl) (mCB f ml):=by
  intro Λ F0 H0 F H σ δ Q I a
  refine h Λ F0 H0 F H σ δ _ I (a.bind.imp fun ds F1 H1 e1 a1 vs rv=>?_)
  cases q:f ds with
  | none=>rw [q] at a1; exact a1.elim
  | some d=>rw [q] at a1; exact hr F1 H1 vs ds d Q e1.fh rv q fun v F' H' e r=>a1 F' H' e v r
theorem zfU {r:List V→Hp→VK→Prop} {f:List D→Option D} {tl:TA} {ml:En→R (List D)} (hr:SCo K r f) (h:SAr K XO E tl ml):SEo K XO E (tCB r tl) (mCB f ml):=by
  intro Λ F0 H0 F H σ δ Q I a
  refine h Λ F0 H0 F H σ δ _ I (a.bind.imp fun ds F1 H1 e1 a1 vs rv=>?_)
  cases q:f ds with
  | none=>rw [q] at a1; exact a1.elim
  | some d=>rw [q] at a1; exact hr F1 H1 vs ds d Q e1.fh rv q fun p F' H' e h0 h1 o=>a1 F' H' e p h0 (e1.hh.free h1) o
def fLen:List D→Option D
  | [.lst l]=>some (.int l.length)
  | [.scr l]=>some (.int l.length)
  | [.tup l]=>some (.int l.length)
  | _=>none
theorem zbZ:SC K (fun xs H Q=>∃ p ys,xs = [.ref p]∧(SqL K.f H p ys∨SqT K.f H p ys)∧Q (.int ys.length) H) fLen:=by
  intro F H vs ds d Q s r e q
  unfold fLen at e
  split at e
  · cases e
    cases r with
    | cons r r' =>
      cases r'
      obtain ⟨a,xs,rfl,h1,h2⟩:=r
      exact ⟨a,xs,rfl,.inl (.inl h1),q _ F H (.refl s) (by simp only [Rep]; rw [h2.length])⟩
  · cases e
    cases r with
    | cons r r' =>
      cases r'
      simp only [Top,Rep] at r
      obtain ⟨a,rfl,h1⟩:=r
      exact ⟨a,_,rfl,.inl (s.seq h1),q _ F H (.refl s) (by simp only [Rep]; rw [List.length_map])⟩
  · cases e
    cases r with
    | cons r r' =>
      cases r'
      simp only [Top,Rep] at r
      obtain ⟨a,xs,rfl,h1,h2⟩:=r
      exact ⟨a,xs,rfl,.inr (.inl (.inl (s _ _ h1))),q _ F H (.refl s) (by simp only [Rep]; rw [h2.length])⟩
  · cases e
def zdb:List D→Option D
  | [.lst l]=>some (.lst l)
  | [.tup l]=>some (.lst l)
  | _=>none
theorem zez:SCo K (fun xs H Q=>∃ p ys,xs = [.ref p]∧(SqL K.f H p ys∨SqT K.f H p ys)∧∀ l,H l=none→Q (.ref l) (upd H l (.lst ys))) zdb:=by
  intro F H vs ds d Q s r e q
  unfold zdb at e
  split at e
  · cases e
    cases r with
    | cons r r' =>
      cases r'
      obtain ⟨a,xs,rfl,h1,h2⟩:=r
      exact ⟨a,xs,rfl,.inl (.inl h1),fun p hp=>q _ F _ (.newO s hp) (s.free hp) hp ⟨xs,zam,h2⟩⟩
  · cases e
    cases r with
    | cons r r' =>
      cases r'
      simp only [Top,Rep] at r
      obtain ⟨a,xs,rfl,h1,h2⟩:=r
      exact ⟨a,xs,rfl,.inr (.inl (.inl (s _ _ h1))),fun p hp=>q _ F _ (.newO s hp) (s.free hp) hp ⟨xs,zam,h2⟩⟩
  · cases e
def asI:D→Option Int
  | .int i=>some i
  | _=>none
def mNoP (_:En):R (Option Int):=.ok none
def zdc (me:En→R D) (δ:En):R (Option Int):=(me δ).bind fun d=>(R.of (asI d)).bind fun i=>.ok (some i)
variable (K XO E) in
def SO (t:TO) (m:En→R (Option Int)):Prop:=∀ Λ F0 H0 F H σ δ Q,EnvOk K Λ F0 H0 F H σ δ→Aft E XO σ F H (fun o _ H'=>Q o H') (m δ)→t σ H Q
theorem zks:SO K XO E zhs mNoP:=fun Λ F0 H0 F H σ δ Q I a=>a F H (.refl I.same)
theorem zfO (h:SE K XO E te me):SO K XO E (zjM te) (zdc me):=by
  intro Λ F0 H0 F H σ δ Q I a
  refine h Λ F0 H0 F H σ δ _ I (a.bind.imp fun d F1 H1 e1 a1 v r=>?_)
  cases d with
  | int i=>simp only [Rep] at r; exact ⟨i,r,a1 F1 H1 (.refl e1.fh)⟩
  | _=>exact a1.elim
def cutD (xs:List D) (lo hi:Option Int):List D:=(xs.drop (HT.sIx xs.length 0 lo)).take (HT.sIx xs.length xs.length hi - HT.sIx xs.length 0 lo)
def mSl (me:En→R D) (ml mh:En→R (Option Int)) (δ:En):R D:=(me δ).bind fun d=>(ml δ).bind fun lo=>(mh δ).bind fun hi=>(R.of (asL d)).bind fun l=>.ok (.lst (cutD l lo hi))
theorem ze6 {tl th:TO} {ml mh:En→R (Option Int)} (h:SEr K XO E te me) (hl:SO K XO E tl ml) (hh:SO K XO E th mh):SEo K XO E (tSl (rSlL K.f) te tl th) (mSl me ml mh):=by
  intro Λ F0 H0 F H σ δ Q I a
  refine h Λ F0 H0 F H σ δ _ I (a.bind.imp fun d F1 H1 e1 a1 v r=>?_)
  refine hl Λ F0 H0 F1 H1 σ δ _ (I.grow e1) (a1.bind.imp fun lo F2 H2 e2 a2=>?_)
  refine hh Λ F0 H0 F2 H2 σ δ _ ((I.grow e1).grow e2) (a2.bind.imp fun hi F3 H3 e3 a3=>?_)
  cases d with
  | lst l =>
    obtain ⟨p,vs,rfl,h1,h2⟩:=r
    refine ⟨p,vs,rfl,.inl (PM.Same.rd e3.hh (PM.Same.rd e2.hh h1)),fun q hq=>a3 F3 _ (.newO e3.fh hq) q (e3.fh.free hq) (e1.hh.free (e2.hh.free (e3.hh.free hq))) ⟨_,zam,?_⟩⟩
    unfold cutD cutV
    rw [← h2.length]
    exact (((h2.mono e2.ff).mono e3.ff).drop _).take _
  | scr l =>
    simp only [Top,Rep] at r
    obtain ⟨p,rfl,h1⟩:=r
    refine ⟨p,_,rfl,e3.hh.seq (e2.hh.seq (e1.fh.seq h1)),fun q hq=>a3 F3 _ (.newO e3.fh hq) q (e3.fh.free hq) (e1.hh.free (e2.hh.free (e3.hh.free hq))) ⟨_,zam,?_⟩⟩
    unfold cutD cutV
    rw [List.length_map,List.length_map]
    exact (RepL.ints.drop _).take _
  | _=>exact a3.elim
end
end PM
namespace PM
open PySem L2
def zaU:Nat→D→Bool
  | _,.non=>true
  | _,.int _=>true
  | n + 1,.tup l=>l.all (zaU n)
  | n + 1,.lst l=>l.all (zaU n)
  | _,_=>false
open Classical in
def oNeD (x y:D):Option D:=ifC (zaU 8 x=true∧zaU 8 y=true) (some (.bl (!decide (x=y)))) none
def isiB:String→D→Bool
  | "int",.int _=>true
  | "int",.bl _=>true
  | "bool",.bl _=>true
  | "list",.lst _=>true
  | "tuple",.tup _=>true
  | "str",.str _=>true
  | _,_=>false
def okI:D→Bool
  | .scr _=>false
  | .exc _=>false
  | .fd _ _=>false
  | .obj _ _ _=>false
  | _=>true
def oIsi (c:String) (d:D):Option D:=match d with | .scr _=>none | .exc _=>none | .fd _ _=>none | .obj _ _ _=>none | d=>some (.bl (isiB c d))
def asIs:List D→Option (List Int)
  | []=>some []
  | .int i :: l=>(asIs l).map (i :: ·)
  | _=>none
theorem zh5 (ns:List Int):asIs (ns.map .int)=some ns:=by
  induction ns with
  | nil=>rfl
  | cons a l ih=>simp [asIs,ih]
theorem zdJ {l:List D} {ns:List Int} (h:asIs l=some ns):l=ns.map .int:=by
  induction l generalizing ns with
  | nil=>cases h; rfl
  | cons d l ih =>
    cases d with
    | int i =>
      simp only [asIs] at h
      cases q:asIs l with
      | none=>rw [q] at h; cases h
      | some m=>rw [q] at h; cases h; rw [ih q]; rfl
    | _=>cases h
theorem zcR {β:Type} {f:D→R (Option D)} (enc:β→D) (g:β→Option D):∀ (l:List β),(∀ x ∈ l,f (enc x) = .ok (g x))→zbn f (l.map enc) = .ok (l.filterMap g)
  | [],_=>rfl
  | x :: l,h=>by
    rw [List.map_cons]
    unfold zbn
    rw [h x List.mem_cons_self,R.bind_ok,zcR enc g l fun y hy=>h y (List.mem_cons_of_mem _ hy)]
    cases q:g x with
    | none=>rw [List.filterMap_cons_none q]; rfl
    | some d=>rw [List.filterMap_cons_some q]; rfl
theorem zkJ {n:Nat} (h:n ≤ 100000):n ≤ sizeLine:=Nat.le_trans h (by decide)
theorem zju {n:Nat} (h:n ≤ 100000):n < sizeLine:=Nat.lt_of_le_of_lt h (by decide)
end PM
namespace PM
open PySem L2
theorem fitN {i:Int} (n:Nat) (h:i.natAbs ≤ n) (h2:n < 2 ^ 8000:=by decide +kernel):Fit i:=Nat.lt_of_le_of_lt h h2
@[simp] theorem zkM (i j:Int):oAdd (.int i) (.int j)=some (.int (i + j)):=rfl
@[simp] theorem zkQ (i j:Int):oSub (.int i) (.int j)=some (.int (i - j)):=rfl
theorem zkf {i j:Int} (h:Fit i) (h':Fit j):oMul (.int i) (.int j)=some (.int (i * j)):=za0 (p:=Fit i∧Fit j) ⟨h,h'⟩
theorem zjZ {i j:Int} (h:j ≠ 0) (h':Fit j):oDiv (.int i) (.int j)=some (.int (i.fdiv j)):=za0 (p:=j ≠ 0∧Fit j) ⟨h,h'⟩
theorem zca {i j:Int} (h:0 < j) (h':Fit j):oDiv (.int i) (.int j)=some (.int (i / j)):=by
  rw [zjZ (by omega) h',Int.fdiv_eq_ediv_of_nonneg _ (by omega)]
theorem zbp {i j:Int} (h:0 < j):oMod (.int i) (.int j)=some (.int (i % j)):=za0 (p:=0 < j) h
theorem ziX {i j:Int} (h:CPow i j):oPow (.int i) (.int j)=some (.int (i ^ j.toNat)):=za0 (p:=CPow i j) h
@[simp] theorem zkT (i j:Int):oLt (.int i) (.int j)=some (.bl (decide (i < j))):=rfl
@[simp] theorem zkX (i j:Int):oGt (.int i) (.int j)=some (.bl (decide (j < i))):=rfl
@[simp] theorem zkP (i:Int):oNeg (.int i)=some (.int (-i)):=rfl
@[simp] theorem zkF (i j:Int):oEq (.int i) (.int j)=some (.bl (decide (i=j))):=by simp [oEq,fl,scal]
@[simp] theorem zkV (i j:Int):oNe (.int i) (.int j)=some (.bl (!decide (i=j))):=by simp [oNe,fl,scal]
@[simp] theorem zkC (b:Bool):asB (.bl b)=some b:=rfl
@[simp] theorem zkY (l:List D):asL (.lst l)=some l:=rfl
@[simp] theorem zkW (l:List D):asT (.tup l)=some l:=rfl
@[simp] theorem zjG (i:Int):asI (.int i)=some i:=rfl
@[simp] theorem zkR (l:List D):fLen [.lst l]=some (.int l.length):=rfl
@[simp] theorem zkN (l:List D):fLen [.tup l]=some (.int l.length):=rfl
@[simp] theorem zkx (l:List D):zdb [.lst l]=some (.lst l):=rfl
@[simp] theorem zkt (a b:D):oIxT (.tup [a,b]) (.int 0)=some a:=rfl
@[simp] theorem zkz (a b:D):oIxT (.tup [a,b]) (.int 1)=some b:=rfl
theorem atI_nat {α:Type} {l:List α} {k:Nat} {d:α} (h:l[k]?=some d):atI l (k:Int)=some d:=by
  have hk:=(List.getElem?_eq_some_iff.mp h).1
  unfold atI ixN
  rw [if_pos (by omega),if_pos (by omega)]
  exact h
theorem zjU {l:List D} {k:Nat} {d:D} (h:l[k]?=some d):oIxL (.lst l) (.int (k:Int))=some d:=atI_nat h
theorem ziN {l:List D} {i:Int} {d:D} (h0:0 ≤ i) (h:l[i.toNat]?=some d):oIxL (.lst l) (.int i)=some d:=by
  have e:i=((i.toNat:Nat):Int):=by omega
  rw [e]
  exact zjU h
theorem rng1 {n:Int} (h0:0 ≤ n) (h:n ≤ 100000):rng [.int n]=some (zdo 0 n.toNat):=by
  show ifC _ _ _=_
  rw [za0 (by omega)]
theorem zjt (n:Nat):zdo 0 n=(List.range n).map fun (k:Nat)=>D.int (k:Int):=by
  unfold zdo
  exact List.map_congr_left fun k _=>by simp
theorem zcD (l:List D):zgS l=(l.zipIdx).map fun p=>D.tup [.int (p.2:Int),p.1]:=by
  unfold zgS
  rw [List.mapIdx_eq_zipIdx_map]
@[simp] theorem zkU (a b:α):([a,b].length ≤ sizeLine)=True:=by simp [sizeLine]
end PM
namespace PM
open PySem L2
def sv:Option D→Sl
  | none=>.no
  | some d=>.v d
theorem zcO {i:Nat} {d:D} {δ:En} {o:Option D} (h:δ[i]?=some (sv o)):zav i d δ=some (δ.set i (.v d)):=by
  unfold zav
  rw [h]
  cases o <;> rfl
@[simp] theorem zku:sv none = .no:=rfl
@[simp] theorem zky (d:D):sv (some d) = .v d:=rfl
def dk (L:List Int):D:=.dct (L.map .inl) (L.map fun _=>.bl true)
theorem zjD (L:List Int) (t:Int):getK (L.map .inl) (L.map fun _=>.bl true) (.inl t)=if t ∈ L then some (.bl true) else none:=by
  induction L with
  | nil=>rfl
  | cons a l ih =>
    simp only [List.map_cons,getK,ih]
    by_cases h:a=t
    · subst h; simp
    · have h':¬ (Sum.inl a:Key)=Sum.inl t:=fun e=>h (Sum.inl.inj e)
      rw [if_neg h']
      have e:(t ∈ a :: l)=(t ∈ l):=by
        rw [List.mem_cons]
        exact propext ⟨fun z=>z.resolve_left (fun e=>h e.symm),.inr⟩
      simp only [e]
theorem zjV (L:List Int) (t:Int):(L.map (.inl:Int→Key)).any (fun a=>decide (a = .inl t))=decide (t ∈ L):=by
  rw [Bool.eq_iff_iff]
  simp only [List.any_eq_true,List.mem_map,decide_eq_true_eq]
  constructor
  · rintro ⟨x,⟨a,h1,rfl⟩,h2⟩
    cases h2; exact h1
  · intro h
    exact ⟨_,⟨t,h,rfl⟩,rfl⟩
theorem zjg (L:List Int) (t:Int):putL (L.map .inl) (L.map fun _=>.bl true) (.inl t) (.bl true)=L.map fun _=>.bl true:=by
  induction L with
  | nil=>rfl
  | cons a l ih=>simp only [List.map_cons,putL,ih,ite_self]
theorem zj8 (L:List Int) (t:Int):putD (L.map .inl) (L.map fun _=>.bl true) (.inl t) (.bl true)=dk (if t ∈ L then L else L ++ [t]):=by
  unfold putD
  rw [zjV]
  by_cases h:t ∈ L
  · rw [if_pos (by simpa using h),if_pos h,zjg]; rfl
  · rw [if_neg (by simpa using h),if_neg h]
    simp [dk]
@[simp] theorem zkS (L:List Int) (t:Int):dIn (.int t) (dk L)=some (.bl (decide (t ∈ L))):=by
  simp only [dIn,asK,dk,zjD]
  by_cases h:t ∈ L <;> simp [h]
theorem zf3 {i:Nat} {mk me:En→R D} {δ:En} {L:List Int} {t:Int} (h:δ[i]?=some (.o (dk L))) (h1:mk δ = .ok (.int t)) (h2:me δ = .ok (.bl true)) (hl:L.length ≤ 100000) :
    zgP i mk me δ = .nx (δ.set i (.o (dk (if t ∈ L then L else L ++ [t])))):=by
  unfold zgP
  rw [h]
  simp only [dk,h2,h1,R.toO_ok,asK]
  rw [za0 (by rw [List.length_map]; exact zju hl),zj8]
  rfl
def iL (l:List Int):D:=.lst (l.map .int)
theorem zbT {α:Type} {f:D→R (Option D)} (enc:α→D) (p:α→Bool) (l:List α) (h:∀ x ∈ l,f (enc x) = .ok (if p x=true then some (enc x) else none)):zbn f (l.map enc) = .ok ((l.filter p).map enc):=by
  rw [zcR enc (fun x=>if p x=true then some (enc x) else none) l h]
  congr 1
  induction l with
  | nil=>rfl
  | cons a l ih =>
    have ih':=ih fun x hx=>h x (List.mem_cons_of_mem _ hx)
    by_cases hp:p a=true
    · rw [List.filterMap_cons_some (b:=enc a) (by simp [hp]),ih',List.filter_cons_of_pos hp,List.map_cons]
    · rw [List.filterMap_cons_none (by simp [hp]),ih',List.filter_cons_of_neg hp]
theorem zea {α:Type} {f:D→R (Option D)} (enc:α→D) (g:α→D) (l:List α) (h:∀ x ∈ l,f (enc x) = .ok (some (g x))):zbn f (l.map enc) = .ok (l.map g):=by
  rw [zcR enc (fun x=>some (g x)) l h,List.filterMap_eq_map']
end PM
namespace PM
open PySem L2
theorem zcm {mi:En→R (List D)} {ix:List Nat} {n:Nat} {b:D→En→Option En} {nc:Option (En→R Bool)} {me:En→R D} {δ:En} {l r:List D} (h1:mi δ = .ok l) (hl:l.length ≤ 100000)
    (h2:zbn (zdg b nc me (zaB δ ix n)) l = .ok r):zex mi ix n b nc me δ = .ok (.lst r):=by
  unfold zex
  rw [h1,R.bind_ok,za0 (zkJ hl),h2]
  rfl
theorem zcf {mi:En→R (List D)} {b:D→En→Option En} {m:En→O} {δ:En} {l:List D} (h:mi δ = .ok l):mFor mi b m δ=zdf b m l δ:=by
  unfold mFor
  rw [h]
  rfl
theorem zfJ {np nv:Nat} {m:En→O} {ds:List D} {d:D} (h:m (zbi nv ds) = .rt d) (hl:ds.length=np:=by rfl):runF np nv m ds = .ok d:=by
  unfold runF
  rw [if_pos hl,h]
theorem zeF {np nv:Nat} {m:En→O} {ds:List D} {d:D} (h:m (zbi nv ds) = .ro d) (hl:ds.length=np:=by rfl):runO np nv m ds = .ok d:=by
  unfold runO
  rw [if_pos hl,h]
theorem zap {m n:En→O} {δ δ':En} (h:m δ = .nx δ'):mSeq m n δ=n δ':=by unfold mSeq; rw [h]
theorem zaQ {me:En→R D} {b:D→En→Option En} {δ δ':En} {d:D} (h:me δ = .ok d) (h2:b d δ=some δ'):mAsg me b δ = .nx δ':=by unfold mAsg; rw [h,R.toO_ok,h2]; rfl
theorem zi0 {n:En→R Bool} {m m':En→O} {δ:En} (h:n δ = .ok true):mIfS n m m' δ=m δ:=by unfold mIfS; rw [h]; rfl
theorem ziO {n:En→R Bool} {m m':En→O} {δ:En} (h:n δ = .ok false):mIfS n m m' δ=m' δ:=by unfold mIfS; rw [h]; rfl
theorem zbS {β:Type} {b:D→En→Option En} {m:En→O} (enc:β→D) (P:List β→En→Prop) (all:List β)
    (step:∀ pre x post δ,all=pre ++ x :: post→P pre δ→∃ δ1 δ2,b (enc x) δ=some δ1∧(m δ1 = .nx δ2∨m δ1 = .ct δ2)∧P (pre ++ [x]) δ2) (δ:En) (h:P [] δ):∃ δ2,zdf b m (all.map enc) δ = .nx δ2∧P all δ2:=by
  have key:∀ (post pre:List β) (δ:En),all=pre ++ post→P pre δ→∃ δ2,zdf b m (post.map enc) δ = .nx δ2∧P all δ2:=by
    intro post
    induction post with
    | nil=>intro pre δ e h; exact ⟨δ,rfl,by rw [e,List.append_nil]; exact h⟩
    | cons x post ih =>
      intro pre δ e h
      obtain ⟨δ1,δ2,h1,h2,h3⟩:=step pre x post δ e h
      obtain ⟨δ3,h4,h5⟩:=ih (pre ++ [x]) δ2 (by rw [e]; simp) h3
      refine ⟨δ3,?_,h5⟩
      rw [List.map_cons]
      unfold zdf
      rw [h1]
      rcases h2 with h2 | h2 <;> (simp only [h2]; exact h4)
  exact key all [] δ rfl h
end PM
namespace PM
open PySem L2
@[simp] theorem zkH (l:List Int):fLen [iL l]=some (.int l.length):=by simp [iL]
@[simp] theorem zkO (l:List Int):asL (iL l)=some (l.map .int):=rfl
theorem zcc {α:Type} {l:List α} {pre post:List (α × Nat)} {x:α × Nat} (h:l.zipIdx=pre ++ x :: post):x.2=pre.length∧l[x.2]?=some x.1∧∀ q ∈ pre,q.2 < x.2:=by
  have at':∀ (k:Nat) (y:α × Nat),(pre ++ x :: post)[k]?=some y→l[k]?=some y.1∧y.2=k:=by
    intro k y hk
    rw [← h,List.getElem?_zipIdx] at hk
    cases e:l[k]? with
    | none=>rw [e] at hk; cases hk
    | some a=>rw [e] at hk; cases hk; exact ⟨rfl,by simp⟩
  obtain ⟨h1,h2⟩:=at' pre.length x (by simp)
  refine ⟨h2,by rw [h2]; exact h1,fun q hq=>?_⟩
  obtain ⟨k,hk,e⟩:=List.getElem_of_mem hq
  obtain ⟨_,h3⟩:=at' k q (by rw [List.getElem?_append_left hk,List.getElem?_eq_getElem hk,e])
  omega
end PM
namespace PM
open PySem L2
theorem zik {l:List D} {k:Nat} (h:k ≤ l.length):cutD l none (some (k:Int))=l.take k:=by
  unfold cutD
  have e:HT.sIx l.length l.length (some (k:Int))=k:=by
    show (if (k:Int) < 0 then ((k:Int) + (l.length:Int)).toNat else min (k:Int).toNat l.length)=k
    rw [if_neg (by omega)]; omega
  rw [e]
  show (l.drop 0).take (k - 0)=_
  simp
theorem ziC (l:List Int) (lo hi:Option Int):∃ cs:List Int,cutD (l.map .int) lo hi=cs.map .int∧cs.length ≤ l.length:=by
  refine ⟨(l.drop (HT.sIx l.length 0 lo)).take (HT.sIx l.length l.length hi - HT.sIx l.length 0 lo),?_,by rw [List.length_take,List.length_drop]; omega⟩
  unfold cutD
  rw [List.length_map,List.map_take,List.map_drop]
theorem zg2 {x y:D} (hx:zaU 8 x=true) (hy:zaU 8 y=true) (h:x=y):oNeD x y=some (.bl false):=by
  unfold oNeD
  rw [za0 ⟨hx,hy⟩]
  simp [h]
theorem zge (l:List Int):zaU 8 (iL l)=true:=by
  show (l.map D.int).all (zaU 7)=true
  rw [List.all_map,List.all_eq_true]
  intro x _; rfl
end PM
namespace PM
open PySem L2 PyProof.Rows
section
variable {K:Kx} {ca:Nat→Addr} {an:Nat→Str} {XO:XOT} {E:L2.St→XK} {ta tb te:TE} {ma mb me:En→R D} {X:Cx}
theorem zce {F:Hp}:∀ {ns:List Int} {xs:List V},RepL K F (ns.map .int) xs→xs=ns.map V.int
  | [],xs,h=>by simpa only [List.map_nil,RepL] using h
  | n :: ns,xs,h=>by
    simp only [List.map_cons,RepL,Rep] at h
    obtain ⟨v,r,rfl,rfl,h3⟩:=h
    rw [zce h3]; rfl
theorem zjh {K:W.Frag} {S T:String} (h2:PySem.W.kitMeta T=true) (h3:(PySem.fastBuiltinMro S).map (·.contains (.type T))=some true):PySem.W.kitOne K (.type S) (.type T)=some true:=by
  unfold PySem.W.kitOne
  split
  · rfl
  · show (if PySem.W.kitMeta T=true then PySem.W.subIn K (.type S) (.type T) else none)=some true
    rw [if_pos h2]
    exact h3
def zd1:D→String
  | .non=>"NoneType"
  | .bl _=>"bool"
  | .int _=>"int"
  | .str _=>"str"
  | .tup _=>"tuple"
  | .lst _=>"list"
  | .dct _ _=>"dict"
  | .scr _=>"list"
  | .exc _=>"object"
  | .fd _ _=>"object"
  | .obj _ _ _=>"object"
theorem zdh {K:W.Frag}:PySem.W.kitOne K (.type "NoneType") (.type "int")=some false:=L2.kit_no (by decide +kernel) (by decide +kernel) (by decide +kernel)
theorem kit_int_bool {K:W.Frag}:PySem.W.kitOne K (.type "bool") (.type "int")=some true:=zjh (by decide +kernel) (by decide +kernel)
theorem zfC {K:W.Frag}:PySem.W.kitOne K (.type "int") (.type "int")=some true:=L2.kit_self
theorem zfw {K:W.Frag}:PySem.W.kitOne K (.type "str") (.type "int")=some false:=L2.kit_no (by decide +kernel) (by decide +kernel) (by decide +kernel)
theorem zeg {K:W.Frag}:PySem.W.kitOne K (.type "tuple") (.type "int")=some false:=L2.kit_no (by decide +kernel) (by decide +kernel) (by decide +kernel)
theorem zeT {K:W.Frag}:PySem.W.kitOne K (.type "list") (.type "int")=some false:=L2.kit_no (by decide +kernel) (by decide +kernel) (by decide +kernel)
theorem zfc {K:W.Frag}:PySem.W.kitOne K (.type "dict") (.type "int")=some false:=L2.kit_no (by decide +kernel) (by decide +kernel) (by decide +kernel)
theorem zcZ {K:W.Frag}:PySem.W.kitOne K (.type "NoneType") (.type "bool")=some false:=L2.kit_no (by decide +kernel) (by decide +kernel) (by decide +kernel)
theorem zes {K:W.Frag}:PySem.W.kitOne K (.type "bool") (.type "bool")=some true:=L2.kit_self
theorem ze3 {K:W.Frag}:PySem.W.kitOne K (.type "int") (.type "bool")=some false:=L2.kit_no (by decide +kernel) (by decide +kernel) (by decide +kernel)
theorem zff {K:W.Frag}:PySem.W.kitOne K (.type "str") (.type "bool")=some false:=L2.kit_no (by decide +kernel) (by decide +kernel) (by decide +kernel)
theorem zdW {K:W.Frag}:PySem.W.kitOne K (.type "tuple") (.type "bool")=some false:=L2.kit_no (by decide +kernel) (by decide +kernel) (by decide +kernel)
theorem zeu {K:W.Frag}:PySem.W.kitOne K (.type "list") (.type "bool")=some false:=L2.kit_no (by decide +kernel) (by decide +kernel) (by decide +kernel)
theorem zew {K:W.Frag}:PySem.W.kitOne K (.type "dict") (.type "bool")=some false:=L2.kit_no (by decide +kernel) (by decide +kernel) (by decide +kernel)
theorem zc0 {K:W.Frag}:PySem.W.kitOne K (.type "NoneType") (.type "list")=some false:=L2.kit_no (by decide +kernel) (by decide +kernel) (by decide +kernel)
theorem zev {K:W.Frag}:PySem.W.kitOne K (.type "bool") (.type "list")=some false:=L2.kit_no (by decide +kernel) (by decide +kernel) (by decide +kernel)
theorem zfm {K:W.Frag}:PySem.W.kitOne K (.type "int") (.type "list")=some false:=L2.kit_no (by decide +kernel) (by decide +kernel) (by decide +kernel)
theorem zeZ {K:W.Frag}:PySem.W.kitOne K (.type "str") (.type "list")=some false:=L2.kit_no (by decide +kernel) (by decide +kernel) (by decide +kernel)
theorem zdU {K:W.Frag}:PySem.W.kitOne K (.type "tuple") (.type "list")=some false:=L2.kit_no (by decide +kernel) (by decide +kernel) (by decide +kernel)
theorem zec {K:W.Frag}:PySem.W.kitOne K (.type "list") (.type "list")=some true:=L2.kit_self
theorem zeM {K:W.Frag}:PySem.W.kitOne K (.type "dict") (.type "list")=some false:=L2.kit_no (by decide +kernel) (by decide +kernel) (by decide +kernel)
theorem zcM {K:W.Frag}:PySem.W.kitOne K (.type "NoneType") (.type "tuple")=some false:=L2.kit_no (by decide +kernel) (by decide +kernel) (by decide +kernel)
theorem zdV {K:W.Frag}:PySem.W.kitOne K (.type "bool") (.type "tuple")=some false:=L2.kit_no (by decide +kernel) (by decide +kernel) (by decide +kernel)
theorem zeC {K:W.Frag}:PySem.W.kitOne K (.type "int") (.type "tuple")=some false:=L2.kit_no (by decide +kernel) (by decide +kernel) (by decide +kernel)
theorem zeB {K:W.Frag}:PySem.W.kitOne K (.type "str") (.type "tuple")=some false:=L2.kit_no (by decide +kernel) (by decide +kernel) (by decide +kernel)
theorem zdE {K:W.Frag}:PySem.W.kitOne K (.type "tuple") (.type "tuple")=some true:=L2.kit_self
theorem zdT {K:W.Frag}:PySem.W.kitOne K (.type "list") (.type "tuple")=some false:=L2.kit_no (by decide +kernel) (by decide +kernel) (by decide +kernel)
theorem zdP {K:W.Frag}:PySem.W.kitOne K (.type "dict") (.type "tuple")=some false:=L2.kit_no (by decide +kernel) (by decide +kernel) (by decide +kernel)
theorem zia {K:W.Frag} (d:D) (h:okI d=true):PySem.W.kitOne K (.type (zd1 d)) (.type "int")=some (isiB "int" d):=by
  cases d with
  | non=>exact zdh
  | bl b=>exact kit_int_bool
  | int b=>exact zfC
  | str b=>exact zfw
  | tup b=>exact zeg
  | lst b=>exact zeT
  | dct b b'=>exact zfc
  | scr b=>cases h
  | exc b=>cases h
  | fd b b'=>cases h
  | obj b b' b''=>cases h
theorem zgX {K:W.Frag} (d:D) (h:okI d=true):PySem.W.kitOne K (.type (zd1 d)) (.type "bool")=some (isiB "bool" d):=by
  cases d with
  | non=>exact zcZ
  | bl b=>exact zes
  | int b=>exact ze3
  | str b=>exact zff
  | tup b=>exact zdW
  | lst b=>exact zeu
  | dct b b'=>exact zew
  | scr b=>cases h
  | exc b=>cases h
  | fd b b'=>cases h
  | obj b b' b''=>cases h
theorem zfb {K:W.Frag} (d:D) (h:okI d=true):PySem.W.kitOne K (.type (zd1 d)) (.type "list")=some (isiB "list" d):=by
  cases d with
  | non=>exact zc0
  | bl b=>exact zev
  | int b=>exact zfm
  | str b=>exact zeZ
  | tup b=>exact zdU
  | lst b=>exact zec
  | dct b b'=>exact zeM
  | scr b=>cases h
  | exc b=>cases h
  | fd b b'=>cases h
  | obj b b' b''=>cases h
theorem zgO {K:W.Frag} (d:D) (h:okI d=true):PySem.W.kitOne K (.type (zd1 d)) (.type "tuple")=some (isiB "tuple" d):=by
  cases d with
  | non=>exact zcM
  | bl b=>exact zdV
  | int b=>exact zeC
  | str b=>exact zeB
  | tup b=>exact zdE
  | lst b=>exact zdT
  | dct b b'=>exact zdP
  | scr b=>cases h
  | exc b=>cases h
  | fd b b'=>cases h
  | obj b b' b''=>cases h
theorem zeW {c:String} (hk:∀ d,okI d=true→PySem.W.kitOne K.f (.type (zd1 d)) (.type c)=some (isiB c d)) (ha:SEr K XO E ta ma):SE K XO E (tCB (rIs K.f) (zb7 ta (zb7 (tC (.ty c)) tNil))) (m1 (oIsi c) ma):=by
  intro Λ F0 H0 F H σ δ Q I a
  refine ha Λ F0 H0 F H σ δ _ I (a.bind.imp fun d F1 H1 e1 a1 x rx=>?_)
  by_cases hs':okI d=true
  case neg =>
    cases d with
    | scr _=>exact a1.elim
    | exc _=>exact a1.elim
    | fd _ _=>exact a1.elim
    | obj _ _ _=>exact a1.elim
    | _=>exact absurd rfl hs'
  have a2:Aft E XO σ F1 H1 (fun d F' H'=>∀ v,Rep K F' d v→Q v H') (.ok (.bl (isiB c d))):=by
    cases d with
    | scr l=>cases hs'
    | exc l=>cases hs'
    | fd _ _=>cases hs'
    | obj _ _ _=>cases hs'
    | _=>exact a1
  have fin:=a2 F1 H1 (.refl e1.fh) (.bl (isiB c d)) (by simp only [Rep])
  suffices h:TyOf K.f H1 x (.type (zd1 d)) from ⟨x,.ty c,.type c,_,_,rfl,rfl,h,hk d hs',fin⟩
  cases d with
  | non=>simp only [Top,Rep] at rx; subst rx; exact .non
  | bl b=>simp only [Top,Rep] at rx; subst rx; exact .bl _
  | int b=>simp only [Top,Rep] at rx; subst rx; exact .int _
  | str b=>simp only [Top,Rep] at rx; subst rx; exact .str _
  | tup l =>
    simp only [Top,Rep] at rx
    obtain ⟨p,vs,rfl,h1,h2⟩:=rx
    exact .tup (e1.fh _ _ h1)
  | lst l =>
    obtain ⟨p,vs,rfl,h1,h2⟩:=rx
    rcases h1 with h | ⟨o,h⟩
    · exact .lst h
    · exact .frz h
  | dct ks l=>obtain ⟨p,kvs,rfl,h1,h2⟩:=rx; exact .dK h1
  | scr l=>cases hs'
  | exc l=>cases hs'
  | fd _ _=>cases hs'
  | obj _ _ _=>cases hs'
def toPy:Nat→D→PyData
  | _,.non=>.none
  | _,.int i=>.int i
  | n + 1,.tup l=>.tuple (l.map (toPy n))
  | n + 1,.lst l=>.list (l.map (toPy n))
  | _,_=>.none
theorem zgi:∀ (n:Nat) (d:D),zaU n d=true→(toPy n d).canLay0=true∧(toPy n d).depth ≤ n:=by
  intro n
  induction n with
  | zero =>
    intro d h
    cases d with
    | non=>exact ⟨rfl,Nat.le_refl _⟩
    | int i=>exact ⟨rfl,Nat.le_refl _⟩
    | _=>cases h
  | succ n ih =>
    have all:∀ l:List D,l.all (zaU n)=true→PyData.canLayAll0 (l.map (toPy n))=true∧PyData.depthAll (l.map (toPy n)) ≤ n:=by
      intro l
      induction l with
      | nil=>intro _; exact ⟨rfl,Nat.zero_le _⟩
      | cons a l ih2 =>
        intro h
        rw [List.all_cons,Bool.and_eq_true] at h
        obtain ⟨h1,h2⟩:=ih a h.1
        obtain ⟨h3,h4⟩:=ih2 h.2
        refine ⟨?_,?_⟩
        · simp only [List.map_cons,PyData.canLayAll0,h1,h3,Bool.and_self]
        · simp only [List.map_cons,PyData.depthAll]; omega
    intro d h
    cases d with
    | non=>exact ⟨rfl,Nat.zero_le _⟩
    | int i=>exact ⟨rfl,Nat.zero_le _⟩
    | tup l=>obtain ⟨h1,h2⟩:=all l h; exact ⟨by simpa only [toPy,PyData.canLay0] using h1,by simp only [toPy,PyData.depth]; omega⟩
    | lst l=>obtain ⟨h1,h2⟩:=all l h; exact ⟨by simpa only [toPy,PyData.canLay0] using h1,by simp only [toPy,PyData.depth]; omega⟩
    | _=>cases h
open Classical in
theorem zi5:∀ (n:Nat) (d d':D),zaU n d=true→zaU n d'=true→PyData.eqv (toPy n d) (toPy n d')=decide (d=d'):=by
  intro n
  induction n with
  | zero =>
    intro d d' h h'
    cases d with
    | non=>cases d' <;> first | (simp [toPy,PyData.eqv]; done) | cases h'
    | int i =>
      cases d' with
      | int j=>simp only [toPy,PyData.eqv]; by_cases e:i=j <;> simp [e]
      | _=>first | (simp [toPy,PyData.eqv]; done) | cases h'
    | _=>cases h
  | succ n ih =>
    have all:∀ l l':List D,l.all (zaU n)=true→l'.all (zaU n)=true→PyData.eqvAll (l.map (toPy n)) (l'.map (toPy n))=decide (l=l'):=by
      intro l
      induction l with
      | nil=>intro l' _ _; cases l' <;> simp [PyData.eqvAll]
      | cons a l ih2 =>
        intro l' h h'
        cases l' with
        | nil=>simp [PyData.eqvAll]
        | cons b l' =>
          rw [List.all_cons,Bool.and_eq_true] at h h'
          simp only [List.map_cons,PyData.eqvAll,ih a b h.1 h'.1,ih2 l' h.2 h'.2]
          by_cases e1:a=b <;> by_cases e2:l=l' <;> simp [e1,e2]
    intro d d' h h'
    cases d with
    | non=>cases d' <;> first | (simp [toPy,PyData.eqv]; done) | cases h'
    | int i =>
      cases d' with
      | int j=>simp only [toPy,PyData.eqv]; by_cases e:i=j <;> simp [e]
      | _=>first | (simp [toPy,PyData.eqv]; done) | cases h'
    | tup l =>
      cases d' with
      | tup l'=>simp only [toPy,PyData.eqv,all l l' h h']; simp
      | _=>first | (simp [toPy,PyData.eqv]; done) | cases h'
    | lst l =>
      cases d' with
      | lst l'=>simp only [toPy,PyData.eqv,all l l' h h']; simp
      | _=>first | (simp [toPy,PyData.eqv]; done) | cases h'
    | _=>cases h
theorem ziy {pins:List (Addr × Obj)} {σ:L2.St} {H F:Hp} {s:Shared} (I:Inv X pins σ H s) (sm:Same F H):∀ (n:Nat) (d:D) (v:V) (u:Value),zaU n d=true→Rep ⟨X.K,ca,an⟩ F d v→RelV v u→∃ as,Reads s.heap u (toPy n d) as:=by
  intro n
  induction n with
  | zero =>
    intro d v u h r ru
    cases d with
    | non=>simp only [Rep] at r; subst r; cases ru; exact ⟨_,.none⟩
    | int i=>simp only [Rep] at r; subst r; obtain ⟨t,rfl⟩:=ru; exact ⟨_,.int i t⟩
    | _=>cases h
  | succ n ih =>
    have all:∀ (l:List D) (vs:List V) (us:List Value),l.all (zaU n)=true→RepL ⟨X.K,ca,an⟩ F l vs→Vals vs us→∃ as,ReadsAll s.heap us (l.map (toPy n)) as:=by
      intro l
      induction l with
      | nil=>intro vs us _ r ru; simp only [RepL] at r; subst r; cases ru; exact ⟨_,.nil⟩
      | cons a l ih2 =>
        intro vs us h r ru
        rw [List.all_cons,Bool.and_eq_true] at h
        simp only [RepL] at r
        obtain ⟨v,r',rfl,r1,r2⟩:=r
        cases ru with
        | cons ru ru' =>
          obtain ⟨as,h1⟩:=ih a v _ h.1 r1 ru
          obtain ⟨bs,h2⟩:=ih2 r' _ h.2 r2 ru'
          exact ⟨_,.cons h1 h2⟩
    intro d v u h r ru
    cases d with
    | non=>simp only [Rep] at r; subst r; cases ru; exact ⟨_,.none⟩
    | int i=>simp only [Rep] at r; subst r; obtain ⟨t,rfl⟩:=ru; exact ⟨_,.int i t⟩
    | tup l =>
      simp only [Rep] at r
      obtain ⟨a,vs,rfl,h1,h2⟩:=r
      cases ru
      obtain ⟨its,rv,⟨o,e,c,k,dd⟩,_⟩:=I.tuple (show SqT X.K H a vs from .inl (.inl (sm _ _ h1)))
      obtain ⟨as,h3⟩:=all l vs its h h2 rv
      exact ⟨_,.tuple e c dd (by simpa using h3)⟩
    | lst l =>
      simp only [Rep] at r
      obtain ⟨a,vs,rfl,h1,h2⟩:=r
      cases ru
      obtain ⟨its,rv,⟨o,k,e,c,_,dd⟩,_⟩:=I.list (show SqL X.K H a vs from .inl (PM.Same.rd sm h1))
      obtain ⟨as,h3⟩:=all l vs its h h2 rv
      exact ⟨_,.list e c dd (by simpa using h3)⟩
    | _=>cases h
theorem zeU {pins:List (Addr × Obj)} {σ:L2.St} {H F:Hp} {s:Shared} (I:Inv X pins σ H s) (sm:Same F H) {n:Nat} {d:D} {v:V} {u:Value} (h:zaU n d=true) (r:Top ⟨X.K,ca,an⟩ F H d v) (ru:RelV v u):∃ as,Reads s.heap u (toPy n d) as:=by
  have r':Rep ⟨X.K,ca,an⟩ (za2 F H) d v:=by
    cases d with
    | lst l =>
      obtain ⟨a,vs,rfl,h1,h2⟩:=r
      rcases h1 with h1 | ⟨o,h1⟩
      · exact zei sm (.inr (.inl ⟨a,rfl,vs,h1,h2⟩))
      · simp only [Rep]
        refine ⟨a,vs,rfl,.inr ⟨o,?_⟩,h2.mono zbH⟩
        unfold za2
        cases q:F a with
        | some u=>rw [sm _ _ q] at h1; exact h1
        | none=>simp only [h1]
    | dct ks l=>cases n <;> cases h
    | obj c ks l=>cases n <;> cases h
    | _=>exact Rep.mono zbH _ r
  exact ziy I (zfD sm) n d v u h r' ru
open Classical in
def rEqD (K:Kx) (neg:Bool):R2:=fun x y H Q=>∃ (F:Hp) (dx dy:D),Same F H∧Top K F H dx x∧Top K F H dy y∧zaU 8 dx=true∧zaU 8 dy=true∧Q (.bl (if neg=true then !decide (dx=dy) else decide (dx=dy))) H
theorem ziQ (hu:X.A.units + 64 < cLine):OpR X (compareOp .NotEq) (rEqD ⟨X.K,ca,an⟩ true):=by
  intro pins s σ H x y v u Q I rx ry h
  obtain ⟨F,dx,dy,sm,tx,ty,px,py,q⟩:=h
  obtain ⟨as,ra⟩:=zeU I sm px tx rx
  obtain ⟨bs,rb⟩:=zeU I sm py ty ry
  obtain ⟨l1,l2⟩:=zgi 8 dx px
  obtain ⟨m1,m2⟩:=zgi 8 dy py
  refine SeqAt.compareNe_reads ra rb l1 m1 (by omega) ?_
  rw [zi5 8 dx dy px py]
  exact ⟨.bl _,H,I,rfl,q⟩
theorem ziZ:SR K (rEqD K true) oNeD:=by
  intro F H x y dx dy d Q s hx hy e q
  unfold oNeD ifC at e
  split at e
  · rename_i h
    cases e
    exact ⟨F,dx,dy,s,hx,hy,h.1,h.2,q _ F H (.refl s) (by simp only [Rep]; rfl)⟩
  · cases e
end
end PM
namespace L2
open PySem PySem.Spec PyProof.Rows
def zit (scope osc:Scope):Scope:={ scope with names:=scope.names.map fun (n,k)=>if (k == .free && osc.kind == .function && osc.names.lookup n == some .cell) then (n,.cell) else (n,k) }
section
variable {X:Cx}
end
end L2
namespace PM
open PySem L2
section
variable {K:Kx} {XO:XOT} {E:L2.St→XK}
end
end PM
namespace PM
open PySem L2
section
variable {K:Kx} {E:L2.St→XK} {ta:TE} {ma:En→R D} {t u:TS} {m n:En→O} {Λ:List (Nat × Addr × HO)} {F0 H0 F H:Hp} {σ:L2.St} {δ:En}
end
end PM
namespace L2
open PySem PySem.Spec PyProof.Rows
section
variable {P:Program} {w:World} {B:Around} {Z:Result→Shared→Prop} {J S:Addr} {fp wr:List Addr} {n:Nat} {Pv:Nat→Value→Prop} {Sn:Nat→Heap→Prop}
end
section
variable {P:Program} {w:World} {B:Around} {E:Value→Shared→Prop} {s:Shared} {Q:Value→Shared→Prop} {l:Addr} {xs:Array (Int × Tok)} {df:Value}
end
end L2
namespace L2
open PySem PySem.Spec PyProof.Rows
section
variable {X:Cx}
end
end L2
namespace PM
open PySem L2
section
variable {K:Kx} {XO:XOT} {E:L2.St→XK} {td te:TE} {md me:En→R D}
end
end PM
namespace L2
open PySem PySem.Spec PyProof.Rows
section
variable {X:Cx}
end
end L2
namespace PM
open PySem L2
section
variable {K:Kx} {XO:XOT} {E:L2.St→XK} {td ty tx:TE} {md my mx:En→R D}
def oIn (x y:D):Option D:=match x,y with | .int i,.lst l=>(asIs l).map fun ns=>.bl (decide (i ∈ ns)) | .int i,.tup l=>(asIs l).map fun ns=>.bl (decide (i ∈ ns)) | _,_=>none
theorem zf5 {i:Int} {ns:List Int}:inV (.int i) (ns.map V.int)=decide (i ∈ ns):=by
  rw [Bool.eq_iff_iff]
  unfold inV
  simp only [List.any_map,List.any_eq_true,Function.comp,decide_eq_true_eq]
  constructor
  · rintro ⟨a,h1,h2⟩
    have:a=i:=by simpa [eqV] using h2
    subst this; exact h1
  · intro h
    exact ⟨i,h,by simp [eqV]⟩
theorem zfd {ns:List Int}:(ns.map V.int).all zem=true:=by
  rw [List.all_map,List.all_eq_true]
  intro x _; rfl
theorem zkp:SR K (rIn K.f false) oIn:=by
  intro F H x y dx dy d Q s hx hy e q
  cases dx with
  | int i =>
    simp only [Top,Rep] at hx
    subst hx
    cases dy with
    | lst l =>
      obtain ⟨a,vs,rfl,h1,h2⟩:=hy
      simp only [oIn] at e
      cases z:asIs l with
      | none=>rw [z] at e; cases e
      | some ns =>
        rw [z] at e; cases e
        have el:=zdJ z; subst el
        have ev:=zce h2; subst ev
        exact ⟨a,_,rfl,.inl (.inl h1),rfl,zfd,q _ F H (.refl s) (by simp only [Rep]; rw [zf5]; rfl)⟩
    | tup l =>
      simp only [Top,Rep] at hy
      obtain ⟨a,vs,rfl,h1,h2⟩:=hy
      simp only [oIn] at e
      cases z:asIs l with
      | none=>rw [z] at e; cases e
      | some ns =>
        rw [z] at e; cases e
        have el:=zdJ z; subst el
        have ev:=zce h2; subst ev
        exact ⟨a,_,rfl,.inr (.inl (.inl (s _ _ h1))),rfl,zfd,q _ F H (.refl s) (by simp only [Rep]; rw [zf5]; rfl)⟩
    | _=>cases e
  | _=>cases e
end
end PM
namespace L2
open PySem PySem.Spec PyProof.Rows
section
variable {X:Cx}
end
end L2
namespace PM
open PySem L2
section
variable {K:Kx} {XO:XOT} {E:L2.St→XK}
end
end PM
namespace L2
open PySem PySem.Spec PyProof.Rows
theorem Inv.turnedL {X:Cx} {pins:List (Addr × Obj)} {σ:St} {H:Hp} {s:Shared} {h':Heap} {t':Nat} (ch:List Addr) (I:Inv X pins σ H s) (hf:∀ b ∈ ch,FpOk X pins H b) (k:∀ b o,b ∉ ch→s.heap.get? b=some o→h'.get? b=some o):Inv X pins σ H { s with heap:=h',toks:=t' }:=by
  have nit:∀ b u,H b=some u→b ∉ ch:=fun b u e z=>by
    obtain ⟨f0,_⟩:=hf b z
    rw [f0] at e; cases e
  refine I.step (g':=s.gens) (d':=s.drawn) (ch:=ch) (fun b hb=>?_) (fun b o _ _ hc e _=>k b o hc e) (fun b o _ _ hc e _=>⟨o.slots,k b o hc e⟩) (fun _ _ _ _ n=>n)
    (fun b o hc e=>⟨o,k b o hc e⟩) (fun _ _ e=>e) (fun _ _ _ e=>e) (fun b ps e=>⟨#[],by rw [e]; simp⟩) (fun m hm=>?_) (fun b u e=>?_) I.bare
  · obtain ⟨f0,f1,f2,f3,f4,f5⟩:=hf b hb
    exact ⟨f3,f1,f4,f5⟩
  · obtain ⟨o,es,ep,ho,r⟩:=hm
    refine ⟨o,es,ep,k _ o (fun z=>?_) ho,r⟩
    obtain ⟨_,f1,_⟩:=hf _ z
    exact f1 rfl
  · refine (I.hok b u e).stay (fun c v hc q=>k c v ?_ q) (fun _ q=>q) fun _ _ q=>q
    rcases hc with z | z
    · rw [z]; exact nit b u e
    · exact nit c _ z
theorem Inv.laidT {X:Cx} {pins:List (Addr × Obj)} {σ:St} {H:Hp} {s:Shared} {h':Heap} {t':Nat} (ch:List Addr) {xs:List V} {us:List Value} (I:Inv X pins σ H s) (hf:∀ b ∈ ch,FpOk X pins H b) (k:∀ b o,b ∉ ch→s.heap.get? b=some o→h'.get? b=some o)
    (hl:xs.length ≤ sizeLine) (rv:Vals xs us) (ht:h'.get? s.heap.objs.size=some { cls:=.type "tuple",data:=.seq us.toArray }):Inv X pins σ (upd H s.heap.objs.size (.tup xs)) { s with heap:=h',toks:=t' }:=by
  have hT:H s.heap.objs.size=none:=I.hok.fresh (Nat.le_refl _)
  have nit:∀ b u,H b=some u→b ∉ ch:=fun b u e z=>by
    obtain ⟨f0,_⟩:=hf b z
    rw [f0] at e; cases e
  refine I.step (h':=h') (g':=s.gens) (d':=s.drawn) (t':=t') (ch:=ch) (fun b hb=>?_) (fun b o _ _ hb q _=>k b o hb q) (fun b o _ _ hb q _=>⟨o.slots,k b o hb q⟩) (fun b o hb q n=>?_) (fun b o hb q=>⟨o,k b o hb q⟩) (fun b ys q=>?_) (fun b o ys q=>?_) (fun b ps q=>⟨#[],?_⟩) (fun m hm=>?_) ?_ I.bare
  · obtain ⟨f0,f1,f2,f3,f4,f5⟩:=hf b hb
    exact ⟨f3,f1,f4,f5⟩
  · rw [zag (Nat.ne_of_lt (Heap.lt_size q))]; exact n
  · rw [zag (zaj q hT)]; exact q
  · rw [zag (zaj q hT)]; exact q
  · rw [zag (zaj q hT),q]; simp
  · obtain ⟨o,es',ep,ho',r⟩:=hm
    refine ⟨o,es',ep,k _ o (fun z=>?_) ho',r⟩
    obtain ⟨_,f1,_⟩:=hf _ z
    exact f1 rfl
  · intro b o q
    by_cases hb:b=s.heap.objs.size
    · subst hb
      rw [zam] at q; cases q
      exact ⟨hl,us,rv,⟨_,ht,rfl,_,rfl⟩⟩
    · rw [zag hb] at q
      refine (I.hok b o q).stay (fun c v hc' q'=>?_) (fun c q'=>by rw [zag (zaj q' hT)]; exact q') fun c ys q'=>by rw [zag (zaj q' hT)]; exact q'
      rcases hc' with rfl | hc'
      · exact k _ v (nit _ _ q) q'
      · exact k _ v (nit _ _ hc') q'
theorem zeY {h:Heap} {z TI TO i1 i2 a b:Addr} {f0 u v:Value} {k1 k2:Nat} {xs ys:Array Value} (hd : [z,TI,TO,i1,i2].Nodup) (h1:IsZip h z TI TO f0) (h3:IsPair h TO u v) (h4:h.IsListIter i1 a k1) (h5:h.IsListIter i2 b k2) (p:PlainL h a xs) (p':PlainL h b ys):ZipApart z TI TO i1 i2 a b:=by
  obtain ⟨o,n,e,c,_⟩:=p
  obtain ⟨o',n',e',c',_⟩:=p'
  obtain ⟨j1,g1,d1,_⟩:=h4
  obtain ⟨j2,g2,d2,_⟩:=h5
  simp only [List.nodup_cons,List.mem_cons,List.not_mem_nil,or_false,not_or,List.nodup_nil,and_true,not_false_eq_true] at hd
  obtain ⟨⟨z1,z2,z3,z4⟩,⟨y1,y2,y3⟩,⟨x1,x2⟩,w1⟩:=hd
  have q1:∀ {o:Obj} {l:Addr},h.get? l=some o→o.cls = .type "list"→l ≠ z:=fun e c r=>by subst r; rw [h1] at e; cases e; simp at c
  have q2:∀ {o:Obj} {l:Addr},h.get? l=some o→o.cls = .type "list"→l ≠ TO:=fun e c r=>by subst r; rw [h3] at e; cases e; simp at c
  have q3:∀ {o:Obj} {l:Addr},h.get? l=some o→o.cls = .type "list"→l ≠ i1:=fun e c r=>by subst r; rw [g1] at e; cases e; rw [d1] at c; simp at c
  have q4:∀ {o:Obj} {l:Addr},h.get? l=some o→o.cls = .type "list"→l ≠ i2:=fun e c r=>by subst r; rw [g2] at e; cases e; rw [d2] at c; simp at c
  exact ⟨Ne.symm z1,Ne.symm z2,Ne.symm z3,Ne.symm z4,y1,y2,y3,x1,x2,w1,q1 e c,q2 e c,q3 e c,q4 e c,q1 e' c',q2 e' c',q3 e' c',q4 e' c'⟩
def Itz (K:PySem.W.Frag) (a b:Addr):It :=
  ⟨fun i H=>∃ xs ys x y,SqL K H a xs∧SqL K H b ys∧xs[i]?=some x∧ys[i]?=some y,
   fun i H v H'=>∃ p x y,v = .ref p∧H p=none∧H'=upd H p (.tup [x,y])∧(∀ xs,SqL K H a xs→xs[i]?=some x)∧∀ ys,SqL K H b ys→ys[i]?=some y,
   fun i H=>∃ xs ys,SqL K H a xs∧SqL K H b ys∧(xs.length ≤ i∨ys.length ≤ i)⟩
theorem zir {P:Program} {w:World} {K:PySem.W.Frag} {es:List Expr} {k} {pos:Pos} (a b z TI TO i1 i2:Addr) (hd : [z,TI,TO,i1,i2].Nodup) :
    Turn P w K (.Tuple es k pos) (Itz K a b) [z,TI,TO,i1,i2] z (fun i h=>IsZip h z TI TO .none∧IsPair h TI (.ref i1) (.ref i2)∧(∃ u v,IsPair h TO u v)∧h.IsListIter i1 a i∧h.IsListIter i2 b i) where
  mem:=by simp
  obj:=fun i h st c hc=>by
    obtain ⟨h1,h2,⟨u,v,h3⟩,⟨o1,h4,c1,d1⟩,o2,h5,c2,d2⟩:=st
    simp only [List.mem_cons,List.not_mem_nil,or_false] at hc
    rcases hc with rfl | rfl | rfl | rfl | rfl
    · exact ⟨_,h1,fun v z=>by cases (show Data.fields _=Data.cell v from z)⟩
    · exact ⟨_,h2,fun v z=>by cases (show Data.seq _=Data.cell v from z)⟩
    · exact ⟨_,h3,fun v z=>by cases (show Data.seq _=Data.cell v from z)⟩
    · exact ⟨o1,h4,fun v z=>by rw [d1] at z; cases z⟩
    · exact ⟨o2,h5,fun v z=>by rw [d2] at z; cases z⟩
  keep:=fun i h h' st q=>by
    obtain ⟨h1,h2,⟨u,v,h3⟩,h4,h5⟩:=st
    exact ⟨q z (by simp) _ h1,q TI (by simp) _ h2,⟨u,v,q TO (by simp) _ h3⟩,h4.at fun o e=>q i1 (by simp) o e,h5.at fun o e=>q i2 (by simp) o e⟩
  item:=by
    intro X hP hw hK hc i pins s σ H E I hf st hg
    subst hP hw hK
    obtain ⟨xs,ys,x,y,q1,q2,hx,hy⟩:=hg
    obtain ⟨its,rv,p,hz⟩:=I.list q1
    obtain ⟨its',rv',p',hz'⟩:=I.list q2
    obtain ⟨u,hu,ru⟩:=rv.get hx
    obtain ⟨u',hu',ru'⟩:=rv'.get hy
    obtain ⟨h1,h2,⟨f,g,h3⟩,h4,h5⟩:=st
    have D:=zeY hd h1 h3 h4 h5 p p'
    have hT:H s.heap.objs.size=none:=I.hok.fresh (Nat.le_refl _)
    have nT:∀ c o,s.heap.get? c=some o→c ≠ s.heap.objs.size:=fun c o e=>Nat.ne_of_lt (Heap.lt_size e)
    refine wpAny_pyNext_zip_item D h1 h2 h3 h4 h5 p.isList p'.isList (x:=u) (y:=u') (by simpa using hu) (by simpa using hu') fun h' a1 a2 a3 a4 a5 a6 hk=>⟨_,rfl,?_⟩
    refine wpAny_letOwnedTupleGo_zip a1 fun h'' b1 hs''=>?_
    have hs2:Heap.SameBut z h' h'':=hs''
    have nzT:=nT z _ h1
    have hk2:∀ c o,c ∉ [z,TI,TO,i1,i2]→s.heap.get? c=some o→h''.get? c=some o:=fun c o hc q=>by
      simp only [List.mem_cons,List.not_mem_nil,or_false,not_or] at hc
      exact (hs2.2 c hc.1).trans (hk c o hc.1 hc.2.2.1 hc.2.2.2.1 hc.2.2.2.2 q)
    refine ⟨.ref s.heap.objs.size,upd H s.heap.objs.size (.tup [x,y]),?_,rfl,⟨_,x,y,rfl,hT,rfl,fun xs' h=>by rw [I.list_inj h q1]; exact hx,fun ys' h=>by rw [I.list_inj h q2]; exact hy⟩,
      ⟨b1,(hs2.2 _ D.TIz).trans (hk _ _ D.TIz D.TITO D.TIi1 D.TIi2 h2),⟨u,u',(hs2.2 _ D.TOz).trans a2⟩,a3.at fun o e=>(hs2.2 _ D.i1z).trans e,a4.at fun o e=>(hs2.2 _ D.i2z).trans e⟩,fun c hc=>?_⟩
    · exact I.laidT (t':=s.toks) [z,TI,TO,i1,i2] hf hk2 (by show 2 ≤ sizeLine; decide) (.cons ru (.cons ru' .nil)) ((hs2.2 _ (Ne.symm nzT)).trans a5)
    · obtain ⟨f0,_⟩:=hf c hc
      rw [zag]
      · exact f0
      · obtain ⟨o1,e4,_⟩:=h4
        obtain ⟨o2,e5,_⟩:=h5
        simp only [List.mem_cons,List.not_mem_nil,or_false] at hc
        rcases hc with rfl | rfl | rfl | rfl | rfl
        · exact nT _ _ h1
        · exact nT _ _ h2
        · exact nT _ _ h3
        · exact nT _ _ e4
        · exact nT _ _ e5
  done:=by
    intro X hP hw hK hc i pins s σ H E I hf st hg
    subst hP hw hK
    obtain ⟨xs,ys,q1,q2,he⟩:=hg
    obtain ⟨its,rv,p,hz⟩:=I.list q1
    obtain ⟨its',rv',p',hz'⟩:=I.list q2
    obtain ⟨h1,h2,⟨f,g,h3⟩,h4,h5⟩:=st
    have D:=zeY hd h1 h3 h4 h5 p p'
    have l1:=rv.length
    have l2:=rv'.length
    refine wpAny_pyNext_zip_end (I.ok.hd hc) D h1 h2 h3 h4 h5 p.isList p'.isList (he.imp (fun z=>by simp; omega) fun z=>by simp; omega) fun h' hk=>⟨rfl,?_⟩
    exact I.turnedL (t':=s.toks) [z,TI,TO,i1,i2] hf fun c o hc q=>by
      simp only [List.mem_cons,List.not_mem_nil,or_false,not_or] at hc
      exact hk c o hc.1 hc.2.2.1 hc.2.2.2.1 hc.2.2.2.2 q
  self:=fun _ _ _ _ _ st h=>wpAny_pyIter_zip st.1 h
section
variable {X:Cx}
def iZip (K:PySem.W.Frag) (ta:TA):TI:=fun σ H R=>ta σ H fun vs H1=>∃ a b,vs = [.ref a,.ref b]∧(∃ xs,SqL K H1 a xs)∧(∃ ys,SqL K H1 b ys)∧R (Itz K a b) H1
theorem zkb {es:List Expr} {k} {tp:Pos} {l l':Expr} {ta:TA} {p pos:Pos} (hg:Gl X "zip") (hm:X.mg "zip"=none) (ha:PA X [l,l'] ta) (hs:starEach [l,l'] X.env=(false,eval l X.env) :: starEach [l'] X.env:=by rfl) (hs2:(backTo pos (starEach [l'] X.env)).any (·.1)=false:=by rfl) :
    PI X (.Tuple es k tp) (.Call (.Name "zip" p) [l,l'] [] pos) (iZip X.K ta):=by
  intro pins s σ H R I h
  refine Call_ (zd5 I hg hm PyProof.Rows.boot_zip (PyProof.Rows.callWith_type1 (thn (ha pos pins s σ H _ I h) fun us s1 ⟨vs,H1,I1,r1,q1⟩=>?_) hs hs2))
  obtain ⟨a,b,e,⟨xs,hq⟩,⟨ys,hq'⟩,q⟩:=q1
  subst e
  obtain ⟨u,v,rfl,rx,ry⟩:=zjz r1
  cases rx
  cases ry
  obtain ⟨its,rv,pl,hz⟩:=I1.list hq
  obtain ⟨its',rv',pl',hz'⟩:=I1.list hq'
  refine call_zip_2 pl.isList pl'.isList fun h' c1 c2 c3 c4 c5 hsz hk=>?_
  have I2:Inv X pins σ H1 { s1 with heap:=h' }:=I1.kept (t':=s1.toks) hk
  obtain ⟨m,em⟩:∃ m,m=s1.heap.objs.size:=⟨_,rfl⟩
  have hnd : [m + 4,m + 2,m + 3,m,m + 1].Nodup:=by simp
  rw [← em] at c1 c2 c3 c4 c5 ⊢
  refine wpAny_pyIter_zip c1 ⟨m + 4,[m + 4,m + 2,m + 3,m,m + 1],_,_,H1,rfl,I2,zir a b _ _ _ _ _ hnd,⟨c1,c2,⟨_,_,c3⟩,c4,c5⟩,fun d hd=>?_,q⟩
  have hd':s1.heap.objs.size ≤ d:=by
    simp only [List.mem_cons,List.not_mem_nil,or_false] at hd
    rcases hd with rfl | rfl | rfl | rfl | rfl <;> omega
  exact I1.fpOk hd' (I1.hok.fresh hd')
end
end L2
namespace PM
open PySem L2
section
variable {K:Kx} {XO:XOT} {E:L2.St→XK}
def zipD (l r:List D):List D:=List.zipWith (fun x y=>.tup [x,y]) l r
def zip1:List D→Option (List D)
  | [x,y]=>(asL' x).bind fun l=>(asL' y).map (zipD l)
  | _=>none
def mZip (ml:En→R (List D)) (δ:En):R (List D):=(ml δ).bind fun l=>R.of (zip1 l)
theorem zhR {l r:List D} (h:zip1 l=some r):∃ x y,l = [.lst x,.lst y]∧r=zipD x y:=by
  match l,h with
  | [x,y],h =>
    cases x with
    | lst x =>
      cases y with
      | lst y=>cases h; exact ⟨x,y,rfl,rfl⟩
      | _=>cases h
    | _=>cases h
theorem ziz {a b:Addr} {ds es:List D} {vs ws:List V} {F1:Hp} {P:Hp→Hp→Prop} (r:RepL K F1 ds vs) (r':RepL K F1 es ws) (h:∀ F2 H2,P F2 H2→Same F1 F2∧Same F2 H2∧SqL K.f H2 a vs∧SqL K.f H2 b ws):IsIt K (Itz K.f a b) P (zipD ds es):=by
  intro F2 H2 p i
  obtain ⟨s1,s2,q,q'⟩:=h F2 H2 p
  unfold zipD
  rw [List.getElem?_zipWith]
  refine ⟨fun d hd=>?_,fun hn=>?_⟩
  · cases e:ds[i]? with
    | none=>rw [e] at hd; cases hd
    | some x =>
      cases e':es[i]? with
      | none=>rw [e,e'] at hd; cases hd
      | some y =>
        rw [e,e'] at hd
        cases hd
        obtain ⟨v,hv,rv⟩:=r.get e
        obtain ⟨w,hw,rw'⟩:=r'.get e'
        refine ⟨⟨vs,ws,v,w,q,q',hv,hw⟩,fun x' H' y=>?_⟩
        obtain ⟨p',x1,y1,rfl,hp,rfl,z1,z2⟩:=y
        have z:=z1 vs q
        rw [hv] at z; cases z
        have z:=z2 ws q'
        rw [hw] at z; cases z
        refine ⟨_,.new s2 hp,?_⟩
        simp only [Rep]
        have m:=s1.trans (Same.upd (u:=.tup [v,w]) (s2.free hp))
        exact ⟨p',_,rfl,zam,.cons (Rep.mono m _ rv) (.cons (Rep.mono m _ rw') .nil)⟩
  · cases e:ds[i]? with
    | none=>exact ⟨vs,ws,q,q',.inl (by rw [r.length]; exact List.getElem?_eq_none_iff.mp e)⟩
    | some x =>
      cases e':es[i]? with
      | none=>exact ⟨vs,ws,q,q',.inr (by rw [r'.length]; exact List.getElem?_eq_none_iff.mp e')⟩
      | some y=>rw [e,e'] at hn; cases hn
theorem zjE {tl:TA} {ml:En→R (List D)} (h:SA K XO E tl ml):SI K XO E (iZip K.f tl) (mZip ml):=by
  intro Λ F0 H0 F H σ δ R I a
  refine h Λ F0 H0 F H σ δ _ I (a.bind.imp fun ds F1 H1 e1 a1 vs r=>?_)
  cases q:zip1 ds with
  | none=>rw [q] at a1; exact a1.elim
  | some z =>
    rw [q] at a1
    obtain ⟨l,l',rfl,rfl⟩:=zhR q
    obtain ⟨v,w,rfl,r1,r2⟩:=RepL.two r
    simp only [Rep] at r1 r2
    obtain ⟨a,vs,rfl,h1,h2⟩:=r1
    obtain ⟨b,ws,rfl,h3,h4⟩:=r2
    exact ⟨a,b,rfl,⟨vs,.inl (PM.Same.rd e1.fh h1)⟩,⟨ws,.inl (PM.Same.rd e1.fh h3)⟩,a1 F1 H1 (.refl e1.fh) _ (ziz h2 h4 fun F2 H2 x=>⟨x.1,x.2,.inl (PM.Same.rd x.2 (PM.Same.rd x.1 h1)),.inl (PM.Same.rd x.2 (PM.Same.rd x.1 h3))⟩)⟩
end
end PM
namespace PM
end PM
namespace L2
open PySem PySem.Spec PyProof.Rows
section
variable {X:Cx}
end
end L2
namespace PM
open PySem L2
section
variable {K:Kx}
def zeS:List D→Option D
  | [.int i,.int j]=>some (.int (if j < i then j else i))
  | _=>none
theorem zhc:SC K (fun xs H Q=>∃ i j,xs = [.int i,.int j]∧Q (.int (if j < i then j else i)) H) zeS:=by
  intro F H vs ds d Q s r e q
  unfold zeS at e
  split at e
  · rename_i i j
    cases e
    cases r with
    | cons r r' =>
      cases r' with
      | cons r2 r3 =>
        cases r3
        simp only [Top,Rep] at r r2
        subst r r2
        exact ⟨i,j,rfl,q _ F H (.refl s) (by simp only [Rep])⟩
  · cases e
end
end PM
namespace L2
open PySem PySem.Spec PyProof.Rows
section
variable {X:Cx}
end
end L2
namespace PM
open PySem L2
section
variable {K:Kx}
end
end PM
namespace PM
open PySem L2
section
variable {K:Kx} {XO:XOT} {E:L2.St→XK} {te:TE} {me:En→R D}
end
end PM
namespace L2
open PySem PySem.Spec PyProof.Rows
section
variable {X:Cx}
end
end L2
namespace PM
open PySem L2
section
variable {K:Kx} {XO:XOT} {E:L2.St→XK} {tl te:TE} {ml me:En→R D}
end
end PM
namespace L2
open PySem PySem.Spec PyProof.Rows
open Sem (wp)
section
variable {P:Program} {w:World} {B:Around} {Er:Value→Shared→Prop} {hp:Heap} {gs:Array GenState} {dr:Drawn} {tk:Nat} {os:OsState}
variable {nm q:Str} {C N:Addr} {bs bm bmB:List Value} {hdct:Bool} {sn:List Str} {sub:List Value} {ab:Bool} {col:Option Bool} {dd:Option Addr} {k0 k1 k2 k3 k5:Option Value} {B0 Bn newId nid initId inN:String} {bmN:List Value}
end
end L2
namespace L2
open PySem PySem.Spec PyProof.Rows
section
variable {P:Program} {w:World} {B:Around} {Er:Value→Shared→Prop} {s:Shared}
end
end L2
namespace L2
open PySem PySem.Spec PyProof.Rows
section
variable {X:Cx}
end
end L2
namespace PM
open PySem L2
section
variable {K:Kx} {XO:XOT} {E:L2.St→XK}
end
end PM
namespace L2
open PySem PySem.Spec PyProof.Rows
section
variable {X:Cx}
theorem zfY:PGet X (rIxL X.K):=by
  intro pins s σ H x y v u Q I rx ry h
  obtain ⟨p,xs,i,z,rfl,rfl,hq,he,q⟩:=h
  cases rx
  obtain ⟨t,rfl⟩:=ry
  obtain ⟨its,r,pl,hz⟩:=I.list hq
  obtain ⟨j,h1,h2,h3,h4,h5⟩:=zfB he
  obtain ⟨w,ew,rw'⟩:=r.get h2
  have hl:=r.length
  have hn:=zeV
  by_cases h0:0 ≤ i
  · have hj:i.toNat=j:=by
      rw [seqIndex_of h0 h5] at h1
      exact Option.some.inj h1
    exact wpAny_getItem_list pl.isList h0 (by omega) (by rw [hj]; simpa using ew) ⟨z,H,I,rw',q⟩
  · have hj:(i + (its.toArray.size:Int)).toNat=j:=by
      rw [seqIndex_neg (by omega) h4] at h1
      rw [List.size_toArray,← hl]
      exact Option.some.inj h1
    exact wpAny_getItem_list_neg pl.isList (by omega) (by rw [List.size_toArray] <;> omega) (by omega) (by rw [hj]; simpa using ew) ⟨z,H,I,rw',q⟩
end
end L2
namespace PM
open PySem L2
section
variable {K:Kx} {XO:XOT} {E:L2.St→XK}
end
end PM
namespace L2
open PySem PySem.Spec PyProof.Rows
section
variable {X:Cx}
end
end L2
namespace PM
open PySem L2
section
variable {K:Kx} {XO:XOT} {E:L2.St→XK} {tk te:TE} {mk me:En→R D}
end
end PM
namespace PM
open PySem L2
section
variable {K:Kx} {XO:XOT} {E:St→XK} {ta tb te:TE} {ma mb me:En→R D} {t u:TS} {m n:En→O} {Λ:List (Nat × Addr × HO)} {F0 H0 F H F' H' F1 H1:Hp} {σ:St} {δ:En} {Dn:Ends}
structure TabO (H:Hp) (a:Addr) (bs:List Addr) (ll:List (List Int)):Prop where
  top:H a=some (.lst (bs.map .ref))
  len:bs.length=ll.length
  row:∀ (i:Nat) (b:Addr) (l:List Int),bs[i]?=some b→ll[i]?=some l→H b=some (.lst (l.map .int))
  nd:(a :: bs).Nodup
theorem TabO.mono {a:Addr} {bs:List Addr} {ll:List (List Int)} (e:Same H H') (t:TabO H a bs ll):TabO H' a bs ll:=⟨e _ _ t.top,t.len,fun i b l h1 h2=>e _ _ (t.row i b l h1 h2),t.nd⟩
theorem TabO.obj {a:Addr} {bs:List Addr} {ll:List (List Int)} (t:TabO H a bs ll):∀ b ∈ a :: bs,∃ o,H b=some o:=fun b hb=>by
  rcases List.mem_cons.mp hb with rfl | hb
  · exact ⟨_,t.top⟩
  · obtain ⟨i,hi,e⟩:=List.getElem_of_mem hb
    have hl:i < ll.length:=by rw [← t.len]; exact hi
    exact ⟨_,t.row i b ll[i] (by rw [List.getElem?_eq_getElem hi,e]) (List.getElem?_eq_getElem hl)⟩
def rowT (l:List Int):Tr:=.l (l.map fun i=>.d (.int i))
def tabT (ll:List (List Int)):Tr:=.l (ll.map rowT)
theorem ints_iff:∀ {l:List Int} {vs:List V} {fp:List Addr},TrOkL K F H (l.map fun i=>.d (.int i)) vs fp ↔ vs=l.map .int∧fp = []
  | [],vs,fp=>by simp only [List.map_nil,TrOkL]
  | i :: l,vs,fp=>by
    simp only [List.map_cons,TrOkL,TrOk,Rep]
    constructor
    · rintro ⟨v,r,f1,f2,rfl,rfl,⟨rfl,rfl⟩,h⟩
      obtain ⟨rfl,rfl⟩:=ints_iff.mp h
      exact ⟨rfl,rfl⟩
    · rintro ⟨rfl,rfl⟩
      exact ⟨_,_,[],[],rfl,rfl,⟨rfl,rfl⟩,ints_iff.mpr ⟨rfl,rfl⟩⟩
theorem row_iff {l:List Int} {v:V} {fp:List Addr}:TrOk K F H (rowT l) v fp ↔ ∃ b,v = .ref b∧fp = [b]∧H b=some (.lst (l.map .int)):=by
  unfold rowT
  simp only [TrOk]
  constructor
  · rintro ⟨a,vs,fs,rfl,rfl,h1,h2⟩
    obtain ⟨rfl,rfl⟩:=ints_iff.mp h2
    exact ⟨a,rfl,rfl,h1⟩
  · rintro ⟨b,rfl,rfl,h⟩
    exact ⟨b,_,[],rfl,rfl,h,ints_iff.mpr ⟨rfl,rfl⟩⟩
theorem rows_iff:∀ {ll:List (List Int)} {vs:List V} {bs:List Addr},TrOkL K F H (ll.map rowT) vs bs ↔ vs=bs.map .ref∧bs.length=ll.length∧∀ (i:Nat) (b:Addr) (l:List Int),bs[i]?=some b→ll[i]?=some l→H b=some (.lst (l.map .int))
  | [],vs,bs=>by
    simp only [List.map_nil,TrOkL]
    constructor
    · rintro ⟨rfl,rfl⟩; exact ⟨rfl,rfl,fun i b l h=>by simp at h⟩
    · rintro ⟨rfl,h,_⟩
      cases bs with
      | nil=>exact ⟨rfl,rfl⟩
      | cons _ _=>simp at h
  | l :: ll,vs,bs=>by
    simp only [List.map_cons,TrOkL]
    constructor
    · rintro ⟨v,r,f1,f2,rfl,rfl,h1,h2⟩
      obtain ⟨b,rfl,rfl,h3⟩:=row_iff.mp h1
      obtain ⟨rfl,h4,h5⟩:=rows_iff.mp h2
      refine ⟨rfl,by simp [h4],fun i c r g1 g2=>?_⟩
      cases i with
      | zero=>simp at g1 g2; subst g1 g2; exact h3
      | succ i=>exact h5 i c r (by simpa using g1) (by simpa using g2)
    · rintro ⟨rfl,h,hr⟩
      cases bs with
      | nil=>simp at h
      | cons b bs=>exact ⟨_,_,[b],bs,rfl,rfl,row_iff.mpr ⟨b,rfl,rfl,hr 0 b l rfl rfl⟩,rows_iff.mpr ⟨rfl,by simpa using h,fun i c r g1 g2=>hr (i + 1) c r (by simpa using g1) (by simpa using g2)⟩⟩
theorem tab_iff {a:Addr} {bs:List Addr} {ll:List (List Int)}:Tab K F H a bs (tabT ll) ↔ TabO H a bs ll:=by
  constructor
  · intro t
    have:=t.ok
    unfold tabT at this
    simp only [TrOk] at this
    obtain ⟨a',vs,fs,h1,h2,h3,h4⟩:=this
    cases h1; cases h2
    obtain ⟨rfl,h5,h6⟩:=rows_iff.mp h4
    exact ⟨h3,h5,h6,t.nd⟩
  · intro t
    refine ⟨?_,t.nd⟩
    unfold tabT
    simp only [TrOk]
    exact ⟨a,_,bs,rfl,rfl,t.top,rows_iff.mpr ⟨rfl,t.len,t.row⟩⟩
def ziE:Tr→Option Int
  | .d (.int i)=>some i
  | _=>none
def zbO {α:Type} (f:Tr→Option α):List Tr→Option (List α)
  | []=>some []
  | t :: ts=>(f t).bind fun x=>(zbO f ts).bind fun r=>some (x :: r)
def zjk:Tr→Option (List Int)
  | .l ts=>zbO ziE ts
  | _=>none
def zim:Tr→Option (List (List Int))
  | .l ts=>zbO zjk ts
  | _=>none
theorem zbA {α:Type} {f:Tr→Option α} {g:α→Tr} (h:∀ t x,f t=some x→t=g x):∀ {ts:List Tr} {l:List α},zbO f ts=some l→ts=l.map g
  | [],l,e=>by cases e; rfl
  | t :: ts,l,e=>by
    unfold zbO at e
    cases q:f t with
    | none=>rw [q] at e; cases e
    | some x =>
      rw [q] at e
      cases q2:zbO f ts with
      | none=>simp only [Option.bind] at e; rw [q2] at e; cases e
      | some r =>
        simp only [Option.bind] at e
        rw [q2] at e
        cases e
        rw [h t x q,zbA h q2]; rfl
theorem zbM {α:Type} {f:Tr→Option α} {g:α→Tr} (h:∀ x,f (g x)=some x):∀ (l:List α),zbO f (l.map g)=some l
  | []=>rfl
  | x :: l=>by
    show (f (g x)).bind _=_
    rw [h x]
    show (zbO f (l.map g)).bind _=_
    rw [zbM h l]; rfl
theorem zgL {t:Tr} {i:Int} (h:ziE t=some i):t = .d (.int i):=by
  unfold ziE at h
  split at h
  · cases h; rfl
  · cases h
theorem zgH {t:Tr} {l:List Int} (h:zjk t=some l):t=rowT l:=by
  unfold zjk at h
  split at h
  · rw [zbA (fun _ _=>zgL) h]; rfl
  · cases h
theorem zgx {t:Tr} {ll:List (List Int)} (h:zim t=some ll):t=tabT ll:=by
  unfold zim at h
  split at h
  · rw [zbA (fun _ _=>zgH) h]; rfl
  · cases h
@[simp] theorem zd7 (ll:List (List Int)):zim (tabT ll)=some ll:=zbM (fun l=>zbM (f:=ziE) (fun _=>rfl) l) ll
theorem zdj:∀ (ts:List Tr),trDL ts=ts.map trD
  | []=>by simp only [trDL,List.map_nil]
  | t :: ts=>by simp only [trDL,List.map_cons,zdj ts]
def zfp:Sl→Sl
  | .o d=>.v d
  | .l d=>.v d
  | .p T=>.v (trD T)
  | s=>s
def peek (δ:En):En:=δ.map zfp
theorem zfA (I:EnvOk K Λ F0 H0 F H σ δ):EnvOk K [] (za2 F H) H (za2 F H) H σ (peek δ):=by
  have pk:∀ i:Nat,(peek δ)[i]?=(δ[i]?).map zfp:=fun i=>by unfold peek; rw [List.getElem?_map]
  have no:∀ i:Nat,Sl.own (peek δ)[i]?=false:=fun i=>by
    rw [pk]
    cases q:δ[i]? with
    | none=>rfl
    | some s=>cases s <;> rfl
  refine ⟨.refl (zfD I.same),by rw [I.len]; simp [peek],fun i=>?_,fun i j a _ h1=>(by rw [no i] at h1; cases h1),fun x hx=>(by cases hx),fun i T h=>?_⟩
  · have z:=I.slot i
    rw [pk]
    cases q:δ[i]? with
    | none=>trivial
    | some s =>
      rw [q] at z
      cases s with
      | no=>trivial
      | v d=>obtain ⟨u,z1,z2⟩:=z; exact ⟨u,z1,Rep.mono zbH d z2⟩
      | o d=>obtain ⟨a,z1,_,_,z4⟩:=z; exact ⟨_,z1,zei I.same (.inr (.inl ⟨a,rfl,z4⟩))⟩
      | l d=>obtain ⟨a,z1,_,_,z4⟩:=z; exact ⟨_,z1,zei I.same (.inr (.inl ⟨a,rfl,z4⟩))⟩
      | p T=>obtain ⟨a,bs,z1,z2,_⟩:=z; exact ⟨_,z1,zeD I.same T z2.ok⟩
  · have:=no i
    rw [h] at this; cases this
def zco (m:En→R D) (δ:En):R D:=match m (peek δ) with | .ok d=>if zcI d=true then .ok d else .no | _=>.no
theorem zeH (h:SE K XO E te me):SE K XO E te (zco me):=by
  intro Λ F0 H0 F H σ δ Q I a
  refine h [] (za2 F H) H (za2 F H) H σ (peek δ) Q (zfA I) ?_
  unfold zco at a
  cases q:me (peek δ) with
  | no=>rw [q] at a; exact a
  | ex x=>rw [q] at a; exact a.elim
  | ok d =>
    rw [q] at a
    dsimp only at a
    split at a
    · rename_i hc
      intro F2 H2 e2 v rv
      exact a _ H2 (zeo e2) v (zfG e2 d hc rv)
    · exact a.elim
def zd4 (m:En→R D) (δ:En):R D:=match m (peek δ) with | .ok d=>if ziM d=true then .ok d else .no | _=>.no
theorem zio (h:SEo K XO E te me):SEo K XO E te (zd4 me):=by
  intro Λ F0 H0 F H σ δ Q I a
  refine h [] (za2 F H) H (za2 F H) H σ (peek δ) Q (zfA I) ?_
  unfold zd4 at a
  cases q:me (peek δ) with
  | no=>rw [q] at a; exact a
  | ex x=>rw [q] at a; exact a.elim
  | ok d =>
    rw [q] at a
    dsimp only at a
    split at a
    · rename_i hc
      intro F2 H2 e2 p h0 h1 o
      refine a _ H2 (zeo e2) p ?_ h1 ?_
      · unfold minH
        split
        · rfl
        · exact h0
      · cases d with
        | lst l=>obtain ⟨ws,g1,g2⟩:=o; exact ⟨ws,g1,zdm e2 l hc g2⟩
        | dct ks l=>obtain ⟨ws,g1,g0,g2⟩:=o; exact ⟨ws,g1,g0,zdm e2 l hc g2⟩
        | obj c ks l=>cases hc
        | _=>exact o.elim
    · exact a.elim
variable (K XO E) in
def SEp (t:TE) (m:En→R (List (List Int))):Prop:=∀ Λ F0 H0 F H σ δ Q,EnvOk K Λ F0 H0 F H σ δ→Aft E XO σ F H (fun ll F' H'=>∀ a bs,TabO H' a bs ll→(∀ b ∈ a :: bs,F' b=none∧H b=none)→Q (.ref a) H') (m δ)→t σ H Q
def asIl:D→Option (List Int)
  | .lst l=>asIs l
  | _=>none
theorem zdt {d:D} {l:List Int} (h:asIl d=some l):d=iL l:=by
  cases d with
  | lst x=>rw [zdJ h]; rfl
  | _=>cases h
def zfy (b:D→En→Option En) (me:En→R D) (δ:En) (d:D):R (List Int):=match b d δ with
  | none=>.no
  | some δ1=>(me δ1).nev.bind fun x=>R.of (asIl x)
def zbC (f:D→R (List Int)):List D→R (List (List Int))
  | []=>.ok []
  | d :: l=>(f d).bind fun o=>(zbC f l).bind fun r=>.ok (o :: r)
def zhX (mi:En→R (List D)) (ix:List Nat) (n:Nat) (b:D→En→Option En) (me:En→R D) (δ:En):R (List (List Int)) :=
  (mi δ).bind fun ds=>ifC (ds.length ≤ sizeLine) (zbC (zfy b me (zaB δ ix n)) ds).nev .no
theorem zeR {f:D→R (List Int)} {d:D} {l:List D} {r:List (List Int)} (h:zbC f (d :: l) = .ok r):∃ o r',f d = .ok o∧zbC f l = .ok r'∧r=o :: r':=by
  unfold zbC at h
  cases q:f d with
  | no=>rw [q] at h; cases h
  | ex x=>rw [q] at h; cases h
  | ok o =>
    rw [q] at h
    cases q2:zbC f l with
    | no=>rw [R.bind_ok,q2] at h; cases h
    | ex x=>rw [R.bind_ok,q2] at h; cases h
    | ok r'=>rw [R.bind_ok,q2] at h; cases h; exact ⟨o,r',rfl,rfl,rfl⟩
theorem zil {wi:TI} {mi:En→R (List D)} {ix:List Nat} {n:Nat} {g:TG} {b:D→En→Option En}
    (hi:SIc K XO E wi mi) (hix:ix.Nodup) (hg:SG K g b) (hw:BW b) (he:SEo K XO EN te me):SEp K XO E (zh1 wi ix n g none te) (zhX mi ix n b me):=by
  intro Λ F0 H0 F H σ δ Q I a
  refine hi Λ F0 H0 F H σ δ _ I (a.bind.imp fun ds F1 H1 e1 a1 J hJ p hp=>?_)
  unfold ifC at a1
  split at a1
  case isFalse=>exact a1.elim
  rename_i hsz
  have I1:=I.grow e1
  obtain ⟨Λc,Ic,hown,hall⟩:=zfg (n:=n) I1 hix
  cases qg':(zbC (zfy b me (zaB δ ix n)) ds).nev with
  | no=>rw [qg'] at a1; exact a1.elim
  | ex x=>cases q2:zbC (zfy b me (zaB δ ix n)) ds <;> (rw [q2] at qg'; cases qg')
  | ok l =>
  rw [qg'] at a1
  have qg:=nev_ok qg'
  have hlent:∀ x ∈ Λc,∃ d,(zaB δ ix n)[x.1]?=some (.l d):=fun x hx=>(Ic.lent x hx).1
  have hpn:∀ x ∈ Λc,x.2.1 ≠ p:=fun x hx e=>by
    obtain ⟨o,ho⟩:=hall x hx
    rw [e,hp] at ho; cases ho
  have p0:H0 p=none:=I1.ext.hh.free hp
  have f1:F1 p=none:=e1.fh.free hp
  refine ⟨fun i k ys σ2 H2=>∃ F2 l1 l2 bs,EnvOk K Λc F0 H0 F2 H2 σ2 (zaB δ ix n)∧Ext F1 H1 F2 H2∧ys=bs.map .ref∧TabO H2 p bs l1∧(∀ c ∈ p :: bs,F2 c=none∧H1 c=none)∧zbC (zfy b me (zaB δ ix n)) (ds.drop i) = .ok l2∧l=l1 ++ l2∧k=ds.length - i∧i ≤ ds.length∧ys.length ≤ i,
    ⟨_,F1,[],l,[],?_,.newO e1.fh hp,rfl,⟨zam,rfl,fun i c r h=>by simp at h,by simp⟩,fun c hc=>?_,qg,rfl,rfl,Nat.zero_le _,Nat.le_refl _⟩,?_⟩
  · exact Ic.grow (.newO e1.fh hp)
  · rw [List.mem_singleton.mp hc]; exact ⟨f1,hp⟩
  rintro i k ys σ2 H2 ⟨F2,l1,l2,bs,I2,x2,rfl,tb,hfr,qd,rfl,rfl,hil,hys⟩
  refine ⟨tb.top,?_⟩
  by_cases hlt:i < ds.length
  · have e:ds.drop i=ds[i] :: ds.drop (i + 1):=List.drop_eq_getElem_cons hlt
    rw [e] at qd
    obtain ⟨row,l3,q1,q3,rfl⟩:=zeR qd
    obtain ⟨h1,h2⟩:=(hJ F2 H2 x2 i).1 ds[i] (by simp [hlt])
    refine .inr ⟨h1,fun ys' σ' H'=>∃ F' bs',EnvOk K Λc F0 H0 F' H' σ' (zaB δ ix n)∧Ext F1 H1 F' H'∧ys'=bs'.map .ref∧TabO H' p bs' (l1 ++ [row])∧(∀ c ∈ p :: bs',F' c=none∧H1 c=none)∧ys'.length ≤ i + 1,
      fun ys' σ' H' ⟨F',bs',w1,w2,w3,w4,w5,w6⟩=>⟨_,by omega,F',l1 ++ [row],l3,bs',w1,w2,w3,w4,w5,q3,by simp,rfl,hlt,w6⟩,fun x H' y=>?_⟩
    obtain ⟨F3,e3,rx⟩:=h2 x H' y
    unfold zfy at q1
    cases qb:b ds[i] (zaB δ ix n) with
    | none=>rw [qb] at q1; cases q1
    | some δ1 =>
      rw [qb] at q1
      dsimp only at q1
      have hwk:=hw _ _ _ qb
      refine hg Λc F0 H0 F3 H' σ2 _ _ x δ1 _ (I2.grow e3) rx qb fun σ3 I3=>?_
      unfold zf4
      simp only [if_true]
      cases qm:me δ1 with
      | no=>rw [qm] at q1; cases q1
      | ex x=>rw [qm] at q1; cases q1
      | ok d =>
        rw [qm] at q1
        simp only [R.nev_ok,R.bind_ok] at q1
        have ed:d=iL row:=by
          cases qa:asIl d with
          | none=>rw [qa] at q1; cases q1
          | some r=>rw [qa] at q1; cases q1; exact zdt qa
        subst ed
        refine he Λc F0 H0 F3 H' σ3 δ1 _ I3 ?_
        rw [qm]
        intro F5 H5 e5 c c0 c1 co
        have z:=e3.trans e5
        obtain ⟨vs,cv,cr⟩:=co
        have ex:=zce cr
        subst ex
        have tb5:=tb.mono z.hh
        have z2:F5 p=none:=z.nw p _ (hfr p (by simp)).1 tb.top
        have cH2:H2 c=none:=e3.hh.free c1
        have cne:∀ q ∈ p :: bs,q ≠ c:=fun q hq ee=>by
          obtain ⟨o,ho⟩:=tb.obj q hq
          rw [ee,cH2] at ho; cases ho
        refine ⟨tb5.top,?_,F5,bs ++ [c],((I3.grow e5).weakL hwk hlent).side hown hpn p0 z2,?_,by simp,⟨?_,by simp [tb.len],fun j q r g1 g2=>?_,?_⟩,fun q hq=>?_,by simpa using hys⟩
        · simp at hys ⊢; omega
        · have w:=x2.trans z
          exact ⟨w.ff,fun c o q=>by rw [zag (zaj q hp)]; exact w.hh c o q,fun c o q=>by rw [zag (zaj q z2)]; exact w.fh c o q,w.nw⟩
        · rw [zam]; simp
        · have qp:q ≠ p:=fun ee=>by
            have hm:=List.mem_of_getElem? g1
            rw [ee] at hm
            rcases List.mem_append.mp hm with w | w
            · exact (List.nodup_cons.mp tb.nd).1 w
            · exact cne p (by simp) (List.mem_singleton.mp w)
          rw [zag qp]
          by_cases hj:j < bs.length
          · rw [List.getElem?_append_left hj] at g1
            rw [List.getElem?_append_left (by rw [← tb.len]; exact hj)] at g2
            exact tb5.row j q r g1 g2
          · rw [List.getElem?_append_right (by omega)] at g1
            rw [List.getElem?_append_right (by rw [← tb.len]; omega),← tb.len] at g2
            have j0:j - bs.length=0:=by
              have:=(List.getElem?_eq_some_iff.mp g1).1
              simp at this; omega
            rw [j0] at g1 g2
            simp at g1 g2
            subst g1 g2
            exact cv
        · have nd:=tb.nd
          rw [← List.cons_append,List.nodup_append]
          exact ⟨nd,by simp,fun q hq r hr ee=>cne q hq (by rw [ee]; exact List.mem_singleton.mp hr)⟩
        · rw [← List.cons_append] at hq
          rcases List.mem_append.mp hq with w | w
          · obtain ⟨o,ho⟩:=tb.obj q w
            exact ⟨z.nw q o (hfr q w).1 ho,(hfr q w).2⟩
          · rw [List.mem_singleton.mp w]
            exact ⟨c0,x2.hh.free cH2⟩
  · have e:i=ds.length:=by omega
    subst e
    rw [List.drop_length] at qd
    cases qd
    refine .inl ⟨(hJ F2 H2 x2 _).2 (by simp),a1 F2 H2 x2 p bs (by rw [List.append_nil]; exact tb) fun c hc=>⟨(hfr c hc).1,e1.hh.free (hfr c hc).2⟩⟩
def zgt (i:Nat) (δ:En):Bool:=(List.range δ.length).all fun j=>j == i || match δ[j]? with | some (.p _)=>false | _=>true
theorem EnvOk.putP {i:Nat} {T:Tr} {a:Addr} {bs:List Addr} (I:EnvOk K Λ F0 H0 F H σ δ) (hl:∃ x,δ[i]?=some x∧∀ d,x ≠ .l d) (e:Ext F H F' H') (t:Tab K F' H' a bs T) (h0:∀ b ∈ a :: bs,F' b=none∧H b=none) :
    EnvOk K Λ F0 H0 F' H' (σ.set i (some (.ref a))) (δ.set i (.p T)):=by
  obtain ⟨x,hx,hnl⟩:=hl
  have hi:i < δ.length:=(List.getElem?_eq_some_iff.mp hx).1
  have hi':i < σ.length:=by rw [I.len]; exact hi
  have fresh:∀ (k:Nat) (b:Addr),k ≠ i→Sl.own δ[k]?=true→σ[k]?=some (some (.ref b))→b ∉ a :: bs:=fun k b hki hk hs hb=>by
    have z:=I.slot k
    have hn':=(h0 b hb).2
    cases q:δ[k]? with
    | none=>rw [q] at hk; cases hk
    | some y =>
      rw [q] at hk z
      cases y with
      | no=>cases hk
      | v d=>cases hk
      | o d=>obtain ⟨c,z1,_,_,z4⟩:=z; rw [hs] at z1; cases z1; obtain ⟨u,hu⟩:=z4.obj; rw [hn'] at hu; cases hu
      | l d=>obtain ⟨c,z1,_,_,z4⟩:=z; rw [hs] at z1; cases z1; obtain ⟨u,hu⟩:=z4.obj; rw [hn'] at hu; cases hu
      | p l2=>obtain ⟨c,cs,z1,z2,_⟩:=z; rw [hs] at z1; cases z1; obtain ⟨u,hu⟩:=z2.obj b (by simp); rw [hn'] at hu; cases hu
  have J:=I.grow e
  have f3:∀ b ∈ a :: bs,H0 b=none∧F' b=none:=fun b hb=>⟨I.ext.hh.free (h0 b hb).2,(h0 b hb).1⟩
  refine ⟨J.ext,by simp [I.len],fun j=>?_,fun j k b hjk g1 g2 g3 g4=>?_,fun y hy=>?_,fun j l2 g1=>?_⟩
  · by_cases ee:i=j
    · subst ee
      rw [List.getElem?_set_self hi,List.getElem?_set_self hi']
      exact ⟨a,bs,rfl,t,f3⟩
    · rw [List.getElem?_set_ne ee,List.getElem?_set_ne ee]
      exact J.slot j
  · by_cases e1:i=j
    · subst e1
      rw [List.getElem?_set_self hi'] at g3; cases g3
      rw [List.getElem?_set_ne hjk] at g2 g4
      exact fresh k a (Ne.symm hjk) g2 g4 (by simp)
    · by_cases e2:i=k
      · subst e2
        rw [List.getElem?_set_self hi'] at g4; cases g4
        rw [List.getElem?_set_ne e1] at g1 g3
        exact fresh j a (Ne.symm e1) g1 g3 (by simp)
      · rw [List.getElem?_set_ne e1] at g1 g3
        rw [List.getElem?_set_ne e2] at g2 g4
        exact I.dist j k b hjk g1 g2 g3 g4
  · obtain ⟨⟨d',g1⟩,g2,g3⟩:=J.lent y hy
    have ne:i ≠ y.1:=by
      intro ee
      rw [← ee,hx] at g1
      exact hnl d' (Option.some.inj g1)
    exact ⟨⟨d',by rw [List.getElem?_set_ne ne]; exact g1⟩,by rw [List.getElem?_set_ne ne]; exact g2,g3⟩
  · -- the other trees: what they hold was there
    have old:∀ (k:Nat) (T2:Tr),k ≠ i→δ[k]?=some (.p T2)→∃ a2 bs2,σ[k]?=some (some (.ref a2))∧Tab K F' H' a2 bs2 T2∧(∀ b ∈ a2 :: bs2,b ∉ a :: bs)∧(∀ b ∈ a2 :: bs2,H0 b=none∧F' b=none)∧(∀ (j:Nat) (b:Addr),j ≠ k→Sl.own δ[j]?=true→σ[j]?=some (some (.ref b))→b ∉ a2 :: bs2)∧∀ (j:Nat) (T':Tr),j ≠ k→δ[j]?=some (.p T')→∃ a' bs',σ[j]?=some (some (.ref a'))∧Tab K F' H' a' bs' T'∧∀ b ∈ a' :: bs',b ∉ a2 :: bs2:=fun k T2 hk q=>by
      obtain ⟨a2,bs2,s1,s2,s3,s4,s5⟩:=I.tab q
      refine ⟨a2,bs2,s1,s2.mono e.ff e.hh,fun b hb hb2=>?_,fun b hb=>?_,s4,fun j T' hj hT=>?_⟩
      · obtain ⟨o,ho⟩:=s2.obj b hb
        rw [(h0 b hb2).2] at ho; cases ho
      · obtain ⟨o,ho⟩:=s2.obj b hb
        exact ⟨(s3 b hb).1,e.nw b o (s3 b hb).2 ho⟩
      · obtain ⟨a',bs',u1,u2,u3⟩:=s5 j T' hj hT
        exact ⟨a',bs',u1,u2.mono e.ff e.hh,u3⟩
    by_cases ee:i=j
    · subst ee
      rw [List.getElem?_set_self hi] at g1; cases g1
      refine ⟨a,bs,List.getElem?_set_self hi',t,f3,fun k b hk ho hs hb=>?_,fun k l3 hk hT=>?_⟩
      · rw [List.getElem?_set_ne (Ne.symm hk)] at ho hs
        exact fresh k b hk ho hs hb
      · rw [List.getElem?_set_ne (Ne.symm hk)] at hT
        obtain ⟨a2,bs2,s1,s2,s3,_⟩:=old k l3 hk hT
        exact ⟨a2,bs2,by rw [List.getElem?_set_ne (Ne.symm hk)]; exact s1,s2,s3⟩
    · rw [List.getElem?_set_ne ee] at g1
      obtain ⟨a2,bs2,s1,s2,s3,s4,s5,s6⟩:=old j l2 (Ne.symm ee) g1
      refine ⟨a2,bs2,by rw [List.getElem?_set_ne ee]; exact s1,s2,s4,fun k b hk ho hs hb=>?_,fun k l3 hk hT=>?_⟩
      · by_cases e2:i=k
        · subst e2
          rw [List.getElem?_set_self hi'] at hs; cases hs
          exact s3 a hb (by simp)
        · rw [List.getElem?_set_ne e2] at ho hs
          exact s5 k b hk ho hs hb
      · by_cases e2:i=k
        · subst e2
          rw [List.getElem?_set_self hi] at hT; cases hT
          exact ⟨a,bs,List.getElem?_set_self hi',t,fun b hb hb2=>s3 b hb2 hb⟩
        · rw [List.getElem?_set_ne e2] at hT
          obtain ⟨a',bs',u1,u2,u3⟩:=s6 k l3 hk hT
          exact ⟨a',bs',by rw [List.getElem?_set_ne e2]; exact u1,u2,u3⟩
def zib (me:En→R (List (List Int))) (i:Nat) (δ:En):O:=(me δ).toO δ fun ll=>match δ[i]? with
  | none=>.no
  | some (.l _)=>.no
  | some _=>if zgt i δ=true then .nx (δ.set i (.p (tabT ll))) else .no
theorem zjq {i:Nat} {mp:En→R (List (List Int))} (h:SEp K XO E te mp):SS K XO E (tAsg te (zcT i)) (zib mp i):=by
  intro Λ F0 H0 F H σ δ Dn I a
  refine h Λ F0 H0 F H σ δ _ I ((AftS.of I a).imp fun ll F1 H1 e c p bs t h0=>?_)
  cases q:δ[i]? with
  | none=>simp only [q] at c; exact c.elim
  | some x =>
    simp only [q] at c
    cases x with
    | l d=>exact c.elim
    | no | v d | o d | p l2 =>
      dsimp only at c
      split at c
      · rename_i hn
        exact c _ F1 H1 (I.putP ⟨_,q,fun d z=>by cases z⟩ e (tab_iff.mpr t) h0)
      · exact c.elim
structure TabAt (K:Kx) (H0 F H:Hp) (σ:St) (δ:En) (i:Nat) (a:Addr) (bs:List Addr) (T:Tr):Prop where
  is:δ[i]?=some (.p T)
  at':σ[i]?=some (some (.ref a))
  tab:Tab K F H a bs T
  free:∀ b ∈ a :: bs,H0 b=none∧F b=none
  dist:∀ (j:Nat) (b:Addr),j ≠ i→Sl.own δ[j]?=true→σ[j]?=some (some (.ref b))→b ∉ a :: bs
  one:∀ (j:Nat) (T':Tr),j ≠ i→δ[j]?=some (.p T')→∃ a' bs',σ[j]?=some (some (.ref a'))∧Tab K F H a' bs' T'∧∀ b ∈ a' :: bs',b ∉ a :: bs
theorem EnvOk.tabAt (I:EnvOk K Λ F0 H0 F H σ δ) {i:Nat} {T:Tr} (hx:δ[i]?=some (.p T)):∃ a bs,TabAt K H0 F H σ δ i a bs T:=by
  obtain ⟨a,bs,s1,s2,s3,s4,s5⟩:=I.tab hx
  exact ⟨a,bs,hx,s1,s2,s3,s4,s5⟩
theorem TabAt.grow {i:Nat} {a:Addr} {bs:List Addr} {T:Tr} (t:TabAt K H0 F H σ δ i a bs T) (e:Ext F H F' H'):TabAt K H0 F' H' σ δ i a bs T :=
  ⟨t.is,t.at',t.tab.mono e.ff e.hh,fun b hb=>let ⟨o,ho⟩:=t.tab.obj b hb; ⟨(t.free b hb).1,e.nw b o (t.free b hb).2 ho⟩,t.dist,fun j T' hj hT=>let ⟨a',bs',u1,u2,u3⟩:=t.one j T' hj hT; ⟨a',bs',u1,u2.mono e.ff e.hh,u3⟩⟩
theorem EnvOk.chgT {i:Nat} {T T':Tr} {a b:Addr} {bs bs':List Addr} {u:HO} (I:EnvOk K Λ F0 H0 F H σ δ) (t:TabAt K H0 F H σ δ i a bs T) (hb:b ∈ a :: bs) (t':Tab K F (upd H b u) a bs' T') (sub:∀ c ∈ bs',c ∈ bs) :
    EnvOk K Λ F0 H0 F (upd H b u) σ (δ.set i (.p T')):=by
  have hx:=t.is
  have hi:i < δ.length:=(List.getElem?_eq_some_iff.mp hx).1
  have fb:=t.free b hb
  have sub':∀ c ∈ a :: bs',c ∈ a :: bs:=fun c hc=>by
    rcases List.mem_cons.mp hc with rfl | hc
    · simp
    · exact List.mem_cons_of_mem _ (sub c hc)
  have oth:∀ (j:Nat) (c:Addr),i ≠ j→Sl.own δ[j]?=true→σ[j]?=some (some (.ref c))→c ≠ b:=fun j c hj ho hs ee=>t.dist j c (Ne.symm hj) ho hs (by rw [ee]; exact hb)
  have ow:∀ k2:Nat,Sl.own (δ.set i (.p T'))[k2]?=true→Sl.own δ[k2]?=true:=by
    intro k2 h
    by_cases ee:i=k2
    · subst ee; rw [hx]; rfl
    · rw [List.getElem?_set_ne ee] at h; exact h
  refine ⟨⟨I.ext.ff,fun c w q=>?_,fun c w q=>?_,I.ext.nw⟩,by simp [I.len],fun j=>?_,fun j k2 c hjk g1 g2 g3 g4=>?_,fun y hy=>?_,fun j l2 g1=>?_⟩
  · rw [zag (zaj q fb.1)]; exact I.ext.hh c w q
  · rw [zag (zaj q fb.2)]; exact I.ext.fh c w q
  · by_cases ee:i=j
    · subst ee
      rw [List.getElem?_set_self hi]
      exact ⟨a,bs',t.at',t',fun c hc=>t.free c (sub' c hc)⟩
    · rw [List.getElem?_set_ne ee]
      have w:=I.slot j
      cases q:δ[j]? with
      | none=>trivial
      | some y =>
        rw [q] at w
        cases y with
        | no=>trivial
        | v d=>exact w
        | o d=>obtain ⟨c,w1,w2,w3,w4⟩:=w; exact ⟨c,w1,w2,w3,w4.at (zag (oth j c ee (by rw [q]; rfl) w1))⟩
        | l d=>obtain ⟨c,w1,w2,w3,w4⟩:=w; exact ⟨c,w1,w2,w3,w4.at (zag (oth j c ee (by rw [q]; rfl) w1))⟩
        | p l2 =>
          obtain ⟨a',bs',u1,u2,u3⟩:=t.one j l2 (Ne.symm ee) q
          obtain ⟨c,cs,w1,w2,w3⟩:=w
          rw [u1] at w1; cases w1
          have eb:=zfl w2 u2
          subst eb
          exact ⟨_,cs,u1,u2.at' fun x hx=>zag fun z=>u3 x hx (z ▸ hb),w3⟩
  · exact I.dist j k2 c hjk (ow j g1) (ow k2 g2) g3 g4
  · obtain ⟨⟨d2,g1⟩,g2,g3⟩:=I.lent y hy
    have ne:i ≠ y.1:=by
      intro ee
      rw [← ee,hx] at g1
      cases g1
    exact ⟨⟨d2,by rw [List.getElem?_set_ne ne]; exact g1⟩,g2,by rw [zag (oth y.1 y.2.1 ne (by rw [g1]; rfl) g2)]; exact g3⟩
  · by_cases ee:i=j
    · subst ee
      rw [List.getElem?_set_self hi] at g1; cases g1
      refine ⟨a,bs',t.at',t',fun c hc=>t.free c (sub' c hc),fun k2 c hk ho hs hc=>?_,fun k2 l3 hk hT=>?_⟩
      · exact t.dist k2 c hk (ow k2 ho) hs (sub' c hc)
      · rw [List.getElem?_set_ne (Ne.symm hk)] at hT
        obtain ⟨a',cs,u1,u2,u3⟩:=t.one k2 l3 hk hT
        exact ⟨a',cs,u1,u2.at' fun x hx=>zag fun z=>u3 x hx (z ▸ hb),fun x hx hx2=>u3 x hx (sub' x hx2)⟩
    · rw [List.getElem?_set_ne ee] at g1
      obtain ⟨a2,bs2,s1,s2,s3,s4,s5⟩:=I.tab g1
      obtain ⟨a',cs,u1,u2,u3⟩:=t.one j l2 (Ne.symm ee) g1
      rw [u1] at s1; cases s1
      have eb:=zfl s2 u2
      subst eb
      refine ⟨_,bs2,u1,u2.at' fun x hx=>zag fun z=>u3 x hx (z ▸ hb),s3,fun k2 c hk ho hs hc=>s4 k2 c hk (ow k2 ho) hs hc,fun k2 l3 hk hT=>?_⟩
      by_cases e2:i=k2
      · subst e2
        rw [List.getElem?_set_self hi] at hT; cases hT
        exact ⟨a,bs',t.at',t',fun x hx hx2=>u3 x hx2 (sub' x hx)⟩
      · rw [List.getElem?_set_ne e2] at hT
        obtain ⟨a3,cs3,v1,v2,v3⟩:=s5 k2 l3 hk hT
        obtain ⟨a4,cs4,x1,x2,x3⟩:=t.one k2 l3 (Ne.symm e2) hT
        rw [v1] at x1; cases x1
        have eb:=zfl v2 x2
        subst eb
        exact ⟨_,cs3,v1,v2.at' fun x hx=>zag fun z=>x3 x hx (z ▸ hb),v3⟩
def tabOf:Option Sl→Option (List (List Int))
  | some (.p T)=>zim T
  | _=>none
theorem zgD {x:Option Sl} {ll:List (List Int)} (h:tabOf x=some ll):x=some (.p (tabT ll)):=by
  unfold tabOf at h
  split at h
  · rw [zgx h]
  · cases h
@[simp] theorem zkD (ll:List (List Int)):tabOf (some (.p (tabT ll)))=some ll:=zd7 ll
end
end PM
namespace L2
open PySem PySem.Spec PyProof.Rows
section
variable {X:Cx} {x:Str} {np hpos pos:Pos} {body:List Stmt} {b₀:Stmt} {suite:List Stmt} {D':Addr} {tb:(St→XK)→TS} {th:TS}
end
end L2
namespace PM
open PySem L2
section
variable {K:Kx} {E:L2.St→XK}
end
end PM
namespace PM
end PM
namespace L2
open PySem PySem.Spec PyProof.Rows
section
variable {prog:Program} {w:World} {A:Around} {E:Value→Shared→Prop} {s:Shared}
end
section
variable {prog:Program} {w:World} {A:Around} {R:Result→Shared→Prop} {I S:Addr} {fp wr:List Addr} {n:Nat} {P:Nat→Value→Prop} {St:Nat→Heap→Prop} {bt:Nat→Nat→Bool}
end
section
variable {prog:Program} {w:World} {A:Around} {E:Value→Shared→Prop} {s:Shared}
end
section
variable {X:Cx}
end
end L2
namespace PM
open PySem L2
section
variable {K:Kx}
end
end PM
namespace L2
open PySem PySem.Spec PyProof.Rows
section
variable {X:Cx}
end
end L2
namespace PM
open PySem L2
section
variable {K:Kx} {XO:XOT} {E:L2.St→XK}
end
end PM
namespace L2
open PySem PySem.Spec PyProof.Rows
section
variable {X:Cx} {a b c:Expr} {ta tb tc:TE} {pos:Pos}
end
end L2
namespace PM
open PySem L2
section
variable {K:Kx} {XO:XOT} {E:L2.St→XK} {ta tb tc:TE} {ma mb mc:En→R D}
end
end PM
namespace L2
open PySem PySem.Spec PyProof.Rows
section
variable {X:Cx} {e st:Expr} {te ts:TE} {p2 pos:Pos}
end
end L2
namespace PM
open PySem L2
section
variable {K:Kx} {XO:XOT} {E:L2.St→XK} {te ts:TE} {me ms:En→R D}
end
end PM
namespace L2
open PySem PySem.Spec PyProof.Rows
section
variable {prog:Program} {w:World} {A:Around} {E:Value→Shared→Prop} {s:Shared}
end
section
variable {prog:Program} {w:World} {A:Around} {E:Value→Shared→Prop} {s:Shared}
end
section
variable {X:Cx} {l:Expr} {tl:TE}
end
end L2
namespace PM
open PySem L2
section
variable {K:Kx} {XO:XOT} {E:L2.St→XK} {te:TE} {me:En→R D}
end
end PM
namespace L2
open PySem PySem.Spec PyProof.Rows Builtin Builtin.ObjectAttr
section
variable {prog:Program} {w:World} {A:Around} {E:Value→Shared→Prop} {s:Shared} {K:PySem.W.Frag} {x C:Addr} {ox:Obj} {od:Option Obj} {name:Str} {tk:Tok} {v:Value} {R:Result→Shared→Prop}
end
section
variable {X:Cx} {o e value:Expr} {f:Str} {pos pos' tpos:Pos} {ta tv:TE}
end
section
variable {M:Model} {A:Around} {E:Value→Shared→Prop} {s:Shared} {B:Heap} {env:Env} {outer l:List Env} {L e:Addr} {Q:Unit→Shared→Prop}
end
section
variable {P:Program} {w:World} {K:PySem.W.Frag} {mg:Str→Option Value} {base:Heap} {N:List Str} {qual:Str} {scope:Scope} {f:Addr} {cd:Value} {A:Around} {outer:List Env} {s0:Shared} {H0:Hp} {E:XK}
end
section
variable {M:Model} {A:Around} {E:Value→Shared→Prop} {env:Env}
variable {nm q:Str} {C N:Addr} {bs bm:List Value} {hdct:Bool} {sn:List Str} {sub:List Value} {ab:Bool} {col:Option Bool} {dd:Option Addr} {k0 k1 k2 k3 k5:Option Value} {newId:String}
end
section
variable {P:Program} {w:World} {K:PySem.W.Frag} {mg:Str→Option Value} {base:Heap} {N:List Str} {qual:Str} {scope:Scope} {f:Addr} {cd:Value} {A:Around} {outer:List Env} {s0:Shared} {H0:Hp} {E:XK}
end
section
variable {X:Cx} {CX:CXT} {k:Nat} {fa:Addr} {fd:FuncData} {ps:List Str} {sp:Sp} {x:Str} {np cpos pos:Pos} {e₀:Expr} {rest:List Expr} {C:Addr} {bmB bmN:List Value} {newId Bn B nid inN initId:String} {E:St→XK} {t:TA}
end
end L2
namespace PM
open PySem L2
section
variable {X:Cx} {fa:Addr} {ps:List Str} {sp:Sp} {x:Str} {np cpos pos:Pos} {e₀:Expr} {rest:List Expr} {C:Addr} {bmB bmN:List Value} {newId Bn B nid inN initId:String} {E:L2.St→XK} {t:TA}
end
section
variable {K:Kx} {XO:XOT} {E:L2.St→XK} {ta:TE} {ma:En→R D} {Λ:List (Nat × Addr × HO)} {F0 H0 F H:Hp} {σ:L2.St} {δ:En}
end
end PM
namespace L2
open PySem PyProof.Rows
section
variable {N:Nat} {p:Array Nat}
end
section
variable {ky:Nat→Int} {N:Nat} {cmp:Nat→Nat→(Bool→Shared→Prop)→Shared→Prop}
end
end L2
namespace L2
open PySem PySem.Spec PyProof.Rows
section
variable {prog:Program} {w:World} {A:Around} {E:Value→Shared→Prop} {s:Shared}
end
section
variable {X:Cx} {pins:List (Addr × Obj)} {σ:St} {H:Hp} {s:Shared} {h':Heap}
end
end L2
namespace PM
open PySem L2
section
variable {K:Kx} {XO:XOT} {E:L2.St→XK}
end
end PM
namespace L2
open PySem PySem.Spec PyProof.Rows
section
variable {P:Program} {w:World} {K:PySem.W.Frag} {mg mb:Str→Option Value} {CX:CXT} {k:Nat} {fa a tP:Addr} {fd:FuncData} {x:Str} {sp:Sp} {s₁:Shared} {vs:List Value} {ns:List Int}
end
end L2
namespace L2
open PySem PySem.Spec PyProof.Rows
section
variable {X:Cx}
end
end L2
namespace PM
open PySem L2
section
variable {K:Kx} {XO:XOT} {E:L2.St→XK}
end
end PM
namespace PM
open PySem L2
section
variable {K:Kx}
end
end PM
namespace L2
open PySem PySem.Spec PyProof.Rows
section
variable {prog:Program} {w:World} {A:Around} {E:Value→Shared→Prop} {s:Shared}
end
end L2
namespace L2
open PySem PySem.Spec PyProof.Rows
section
variable {prog:Program} {w:World} {A:Around} {E:Value→Shared→Prop} {s:Shared}
end
section
variable {X:Cx} {pins:List (Addr × Obj)} {σ:St} {A:Around} {R:Result→Shared→Prop}
end
end L2
namespace PM
open PySem L2
section
variable {K:Kx} {XO:XOT} {E:L2.St→XK}
end
end PM
namespace L2
open PySem PySem.Spec PyProof.Rows
section
variable {X:Cx} {pins:List (Addr × Obj)} {σ:St} {H:Hp} {s:Shared} {a:Addr} {kvs:List (Key × V)}
end
section
variable {X:Cx}
end
end L2
namespace PM
open PySem L2
section
variable {K:Kx} {XO:XOT} {E:L2.St→XK}
end
end PM
namespace L2
open PySem PySem.Spec PyProof.Rows
section
variable {P:Program} {w:World} {K:PySem.W.Frag} {mg:Str→Option Value} {base:Heap} {CX:CXT} {k:Nat} {x:Str} {ps:List Str} {sp:Sp} {d:V}
end
section
variable {X:Cx} {CX:CXT} {k:Nat} {x:Str} {ps:List Str} {sp:Sp} {E:XK} {p pos:Pos} {a b:Expr} {ta tb:TE} {d:V}
end
section
variable {P:Program} {w:World} {K:PySem.W.Frag} {mg:Str→Option Value} {base:Heap} {d:V}
end
end L2
namespace PM
open PySem L2
section
variable {K:Kx} {F H:Hp}
end
section
variable {K:Kx} {XO:XOT} {E:L2.St→XK} {ta te:TE} {ma me:En→R D}
end
section
variable {K:Kx} {XO:XOT} {E:L2.St→XK} {F0 H0 F H:Hp} {σ:L2.St} {δ:En}
end
end PM
namespace L2
open PySem PySem.Spec PyProof.Rows
section
variable {prog:Program} {w:World} {A:Around} {E:Value→Shared→Prop} {s:Shared}
end
end L2
namespace L2
open PySem PySem.Spec PyProof.Rows
section
variable {X:Cx}
end
end L2
namespace PM
open PySem L2
section
variable {K:Kx} {XO:XOT} {E:L2.St→XK}
end
end PM
namespace L2
open PySem PySem.Spec PyProof.Rows
section
variable {X:Cx} {CX:CXT} {k:Nat} {x m:Str} {C:Addr} {ps:List Str} {sp:Sp} {E:XK} {p pos apos:Pos} {e o:Expr} {es:List Expr} {t:TA} {ta:TE}
end
end L2
namespace PM
open PySem L2
section
variable {K:Kx} {XO:XOT} {E:L2.St→XK} {F0 H0 F H:Hp} {σ:L2.St} {δ:En}
end
end PM
namespace PM
open PySem L2
section
variable {K:Kx} {XO:XOT} {E:L2.St→XK} {F0 H0 F H F1 H1 F' H':Hp}
end
end PM
namespace L2
open PySem PySem.Spec PyProof.Rows
section
variable {P:Program} {w:World} {K:PySem.W.Frag} {mg:Str→Option Value} {base:Heap} {CX:CXT} {k:Nat} {x m qual:Str} {C:Addr} {st:Stmt} {f:Addr} {fd:FuncData} {ps:List Str} {sp:Sp}
end
end L2
namespace L2
open PySem PySem.Spec PyProof.Rows
section
variable {X:Cx} {CX:CXT} {k:Nat} {x:Str} {C:Addr} {ps:List Str} {sp:Sp} {E:St→XK} {p pos:Pos} {e:Expr} {es:List Expr} {t:TA}
end
end L2
namespace PM
open PySem L2
section
variable {K:Kx} {XO:XOT} {E:L2.St→XK} {F0 H0 F H F1 H1 F' H':Hp}
end
end PM
namespace L2
open PySem PySem.Spec PyProof.Rows
section
variable {prog:Program} {w:World} {A:Around} {E:Value→Shared→Prop} {s:Shared}
end
section
variable {X:Cx}
end
end L2
namespace PM
open PySem L2
section
variable {K:Kx} {XO:XOT} {E:L2.St→XK}
end
end PM
namespace L2
open PySem PySem.Spec PyProof.Rows
section
variable {prog:Program} {w:World} {A:Around} {E:Value→Shared→Prop} {s:Shared}
end
section
variable {X:Cx}
end
end L2
namespace PM
open PySem L2
section
variable {K:Kx} {XO:XOT} {E:L2.St→XK}
end
end PM
namespace L2
open PySem PySem.Spec PyProof.Rows
end L2
namespace L2
open PySem PySem.Spec PyProof.Rows
section
variable {prog:Program} {w:World} {K:Type} [DecidableEq K] {knd:KeyKind prog w K} {A:Around} {E:Value→Shared→Prop} {s:Shared}
end
section
variable {prog:Program} {w:World} {K:Type} [DecidableEq K] {knd:KeyKind prog w K} {A:Around} {E:Value→Shared→Prop} {s:Shared}
end
section
variable {prog:Program} {w:World} {K:Type} [DecidableEq K] {knd:KeyKind prog w K} {A:Around} {E:Value→Shared→Prop} {s:Shared}
end
end L2
namespace L2
open PySem PySem.Spec PyProof.Rows
section
variable {X:Cx}
end
end L2
namespace PM
open PySem L2
section
variable {K:Kx} {XO:XOT} {E:L2.St→XK}
end
end PM
namespace PM
open PySem L2
section
variable {K:Kx} {XO:XOT} {E:St→XK} {ta tb te:TE} {ma mb me:En→R D} {t u:TS} {m n:En→O} {Λ:List (Nat × Addr × HO)} {F0 H0 F H F' H' F1 H1:Hp} {σ:St} {δ:En} {Dn:Ends}
theorem leaf_iff:∀ {l:List D} {vs:List V} {fp:List Addr},TrOkL K F H (l.map .d) vs fp ↔ RepL K F l vs∧fp = []
  | [],vs,fp=>by simp only [List.map_nil,TrOkL,RepL]
  | d :: l,vs,fp=>by
    simp only [List.map_cons,TrOkL,TrOk,RepL]
    constructor
    · rintro ⟨v,r,f1,f2,rfl,rfl,⟨rfl,h1⟩,h2⟩
      obtain ⟨h3,rfl⟩:=leaf_iff.mp h2
      exact ⟨⟨v,r,rfl,h1,h3⟩,rfl⟩
    · rintro ⟨⟨v,r,rfl,h1,h3⟩,rfl⟩
      exact ⟨v,r,[],[],rfl,rfl,⟨rfl,h1⟩,leaf_iff.mpr ⟨h3,rfl⟩⟩
theorem TrOkL.append:∀ {ts:List Tr} {vs:List V} {f1:List Addr} {us:List Tr} {ws:List V} {f2:List Addr},TrOkL K F H ts vs f1→TrOkL K F H us ws f2→TrOkL K F H (ts ++ us) (vs ++ ws) (f1 ++ f2)
  | [],vs,f1,us,ws,f2,h,h'=>by
    simp only [TrOkL] at h
    obtain ⟨rfl,rfl⟩:=h
    exact h'
  | t :: ts,vs,f1,us,ws,f2,h,h'=>by
    simp only [TrOkL] at h
    obtain ⟨v,r,g1,g2,rfl,rfl,h3,h4⟩:=h
    simp only [List.cons_append,TrOkL]
    exact ⟨v,r ++ ws,g1,g2 ++ f2,rfl,by rw [List.append_assoc],h3,TrOkL.append h4 h'⟩
theorem TrOkL.length:∀ {ts:List Tr} {vs:List V} {fp:List Addr},TrOkL K F H ts vs fp→vs.length=ts.length
  | [],vs,fp,h=>by simp only [TrOkL] at h; rw [h.1]; rfl
  | t :: ts,vs,fp,h=>by
    simp only [TrOkL] at h
    obtain ⟨v,r,g1,g2,rfl,rfl,h3,h4⟩:=h
    simp [TrOkL.length h4]
theorem TrOkL.focus:∀ {ts:List Tr} {vs:List V} {fp:List Addr} {k:Nat} {t:Tr},TrOkL K F H ts vs fp→ts[k]?=some t→∃ v f0 f1 f2,vs[k]?=some v∧fp=f0 ++ (f1 ++ f2)∧TrOk K F H t v f1∧∀ (H':Hp) (t':Tr) (v':V) (f1':List Addr),(∀ b ∈ f0 ++ f2,H' b=H b)→TrOk K F H' t' v' f1'→TrOkL K F H' (ts.set k t') (vs.set k v') (f0 ++ (f1' ++ f2))
  | [],vs,fp,k,t,h,e=>by simp at e
  | x :: ts,vs,fp,0,t,h,e=>by
    simp only [TrOkL] at h
    obtain ⟨v,r,g1,g2,rfl,rfl,h3,h4⟩:=h
    simp at e; subst e
    refine ⟨v,[],g1,g2,rfl,rfl,h3,fun H' t' v' f1' hb h'=>?_⟩
    simp only [List.set_cons_zero,List.nil_append,TrOkL]
    exact ⟨v',r,f1',g2,rfl,rfl,h',TrOkL.at' ts h4 fun b hb'=>hb b (by simpa using hb')⟩
  | x :: ts,vs,fp,k + 1,t,h,e=>by
    simp only [TrOkL] at h
    obtain ⟨v,r,g1,g2,rfl,rfl,h3,h4⟩:=h
    obtain ⟨w,f0,f1,f2,i1,rfl,i3,i4⟩:=TrOkL.focus (k:=k) (t:=t) h4 (by simpa using e)
    refine ⟨w,g1 ++ f0,f1,f2,by simpa using i1,by rw [List.append_assoc],i3,fun H' t' v' f1' hb h'=>?_⟩
    simp only [List.set_cons_succ,TrOkL]
    exact ⟨v,_,g1,_,rfl,by rw [List.append_assoc],TrOk.at' x h3 fun b hb'=>hb b (by simp [hb']),i4 H' t' v' f1' (fun b hb'=>hb b (by rcases List.mem_append.mp hb' with z | z <;> simp [z])) h'⟩
end
end PM
namespace PM
open PySem L2
section
variable {K:Kx} {XO:XOT} {E:St→XK} {ta tb te:TE} {ma mb me:En→R D} {t u:TS} {m n:En→O} {Λ:List (Nat × Addr × HO)} {F0 H0 F H F' H' F1 H1:Hp} {σ:St} {δ:En} {Dn:Ends}
end
end PM
namespace PM
open PySem L2
section
variable {K:Kx} {XO:XOT} {E:St→XK} {ta tb te to:TE} {ma mb me mo:En→R D} {t u:TS} {m n:En→O} {Λ:List (Nat × Addr × HO)} {F0 H0 F H F' H' F1 H1:Hp} {σ:St} {δ:En} {Dn:Ends}
end
end PM
namespace PM
open PySem L2
section
variable {K:Kx} {XO:XOT} {E:St→XK} {te ti tj:TE} {me mi mj:En→R D} {Λ:List (Nat × Addr × HO)} {F0 H0 F H:Hp} {σ:St} {δ:En} {Dn:Ends}
end
end PM
namespace L2
open PySem PySem.Spec PyProof.Rows
section
variable {X:Cx}
end
end L2
namespace PM
open PySem L2
section
variable {K:Kx}
end
end PM
namespace L2
open PySem PySem.Spec PyProof.Rows
end L2
namespace PM
end PM
namespace L2
open PySem PySem.Spec PyProof.Rows
section
variable {prog:Program} {w:World} {A:Around} {E:Value→Shared→Prop} {s:Shared}
end
end L2
namespace L2
open PySem PySem.Spec PyProof.Rows
end L2
namespace PM
open PySem L2
end PM
namespace L2
open PySem PySem.Spec PyProof.Rows PM
section
variable {X:Cx} {ca:Nat→Addr} {an:Nat→Str}
end
end L2
namespace PM
open PySem L2
section
variable {K:Kx} {c:Nat} {d:Int→Int→Int} {L:D} {F H F' H' F'' H'':Hp} {x kp dx:Addr} {lv:V} {kvs:List (List Key × V)}
end
section
variable {K:Kx} {XO:XOT} {E:L2.St→XK}
end
end PM
namespace PM
open PySem L2
section
variable {K:Kx} {c m:Nat} {d:Int→Int→Int} {L:D} {E:XK}
end
end PM
namespace PM
open PySem L2
section
variable {K:Kx} {c m:Nat} {d:Int→Int→Int} {L:D}
end
end PM
namespace L2
open PySem PySem.Spec PyProof.Rows
section
variable {P:Program} {w:World} {K:PySem.W.Frag} {mg:Str→Option Value} {base:Heap} {CX:CXT} {k:Nat} {m:Str} {C:Addr} {ps:List Str} {sp sp':Sp}
end
end L2
namespace PM
open PySem L2
section
variable {K:Kx} {c m:Nat} {d:Int→Int→Int} {L:D}
end
end PM
namespace L2
open PySem PySem.Spec PyProof.Rows
section
variable {prog:Program} {w:World} {K:Type} [DecidableEq K] {knd:KeyKind prog w K} {A:Around} {E:Value→Shared→Prop} {s:Shared}
end
section
variable {X:Cx}
end
end L2
namespace PM
open PySem L2
section
variable {K:Kx} {XO:XOT} {E:L2.St→XK}
end
end PM
namespace PM
open PySem L2
section
variable {K:Kx} {XO:XOT} {E:L2.St→XK} {Λ:List (Nat × Addr × HO)} {F0 H0 F H:Hp} {σ:L2.St} {δ:En}
end
end PM
namespace PM
open PySem L2
section
variable {K:Kx} {XO:XOT} {E:L2.St→XK} {Λ:List (Nat × Addr × HO)} {F0 H0 F H:Hp} {σ:L2.St} {δ:En} {t:TS} {m:En→O}
end
end PM
namespace L2
open PySem PySem.Spec PyProof.Rows
section
variable {X:Cx}
end
end L2
namespace PM
open PySem L2
section
variable {X:Cx} {K:Kx} {XO:XOT} {E:L2.St→XK} {te:TE} {me:En→R D} {ca:Nat→Addr} {an:Nat→Str}
end
end PM
namespace L2
open PySem PySem.Spec PyProof.Rows
section
variable {X:Cx}
section
variable {prog:Program} {w:World} {A:Around} {E:Value→Shared→Prop} {s:Shared} {a:Addr} {xs:Array (Int × Tok)}
end
end
end L2
namespace PM
open PySem L2
section
variable {K:Kx}
end
end PM
namespace L2
open PySem PySem.Spec PyProof.Rows
section
variable {prog:Program} {w:World} {A:Around} {E:Value→Shared→Prop} {s:Shared}
end
end L2
namespace PM
open PySem L2
end PM
namespace L2
open PySem PySem.Spec PyProof.Rows PM
section
variable {X:Cx} {ca:Nat→Addr} {an:Nat→Str}
end
end L2
namespace PM
open PySem L2
section
variable {K:Kx}
end
end PM
namespace PM
open PySem L2
section
variable {K:Kx} {XO:XOT} {E:L2.St→XK} {F0 H0 F H F1 H1 F' H':Hp}
variable (K XO E) in
def SEt (t:TE) (m:En→R Tr):Prop:=∀ Λ F0 H0 F H σ δ Q,EnvOk K Λ F0 H0 F H σ δ→Aft E XO σ F H (fun T F' H'=>∀ a bs,Tab K F' H' a bs T→(∀ b ∈ a :: bs,F' b=none∧H b=none)→Q (.ref a) H') (m δ)→t σ H Q
def mTr2 (ma mb:En→R Tr) (δ:En):R Tr:=(ma δ).bind fun x=>(mb δ).bind fun y=>.ok (.l [x,y])
theorem zic {ta tb:TE} {ma mb:En→R Tr} (ha:SEt K XO E ta ma) (hb:SEt K XO E tb mb):SEt K XO E (tLst (zb7 ta (zb7 tb tNil))) (mTr2 ma mb):=by
  intro Λ F0 H0 F H σ δ Q I a
  refine ha Λ F0 H0 F H σ δ _ I (a.bind.imp fun T1 F1 H1 e1 a1 p bs t1 n1=>?_)
  refine hb Λ F0 H0 F1 H1 σ δ _ (I.grow e1) (a1.bind.imp fun T2 F2 H2 e2 a2 q cs t2 n2=>?_)
  refine ⟨by simp [sizeLine],fun c hc=>?_⟩
  have u1:Tab K F2 H2 p bs T1:=t1.mono e2.ff e2.hh
  have c1:∀ b ∈ p :: bs,b ≠ c:=fun b hb z=>by
    obtain ⟨o,ho⟩:=u1.obj b hb
    rw [z,hc] at ho; cases ho
  have c2:∀ b ∈ q :: cs,b ≠ c:=fun b hb z=>by
    obtain ⟨o,ho⟩:=t2.obj b hb
    rw [z,hc] at ho; cases ho
  have dj:∀ b ∈ p :: bs,b ∉ q :: cs:=fun b h1 h2=>by
    obtain ⟨o,ho⟩:=t1.obj b h1
    rw [(n2 b h2).2] at ho; cases ho
  refine a2 F2 _ (.newO e2.fh hc) c ((p :: bs) ++ (q :: cs)) ⟨?_,?_⟩ fun b hb=>?_
  · have k1:=TrOk.at' (H':=upd H2 c (.lst [.ref p,.ref q])) T1 u1.ok fun b hb=>zag (c1 b hb)
    have k2:=TrOk.at' (H':=upd H2 c (.lst [.ref p,.ref q])) T2 t2.ok fun b hb=>zag (c2 b hb)
    simp only [TrOk]
    refine ⟨c,[.ref p,.ref q],(p :: bs) ++ (q :: cs),rfl,rfl,zam,?_⟩
    simp only [TrOkL]
    exact ⟨_,_,p :: bs,q :: cs,rfl,rfl,k1,_,_,q :: cs,[],rfl,by rw [List.append_nil],k2,rfl,rfl⟩
  · refine List.nodup_cons.mpr ⟨fun z=>?_,List.nodup_append.mpr ⟨u1.nd,t2.nd,fun x hx y hy z=>dj x hx (z ▸ hy)⟩⟩
    rcases List.mem_append.mp z with z | z
    · exact c1 c z rfl
    · exact c2 c z rfl
  · rcases List.mem_cons.mp hb with rfl | hb
    · exact ⟨e2.fh.free hc,(e1.hh.trans e2.hh).free hc⟩
    · rcases List.mem_append.mp hb with hb | hb
      · obtain ⟨o,ho⟩:=t1.obj b hb
        exact ⟨e2.nw _ _ (n1 b hb).1 ho,(n1 b hb).2⟩
      · exact ⟨(n2 b hb).1,e1.hh.free (n2 b hb).2⟩
def zdD (me:En→R Tr) (i:Nat) (δ:En):O:=(me δ).toO δ fun T=>match δ[i]? with
  | none=>.no
  | some (.l _)=>.no
  | some _=>.nx (δ.set i (.p T))
theorem zgh {i:Nat} {te:TE} {mp:En→R Tr} (h:SEt K XO E te mp):SS K XO E (tAsg te (zcT i)) (zdD mp i):=by
  intro Λ F0 H0 F H σ δ Dn I a
  refine h Λ F0 H0 F H σ δ _ I ((AftS.of I a).imp fun T F1 H1 e c p bs t h0=>?_)
  cases q:δ[i]? with
  | none=>simp only [q] at c; exact c.elim
  | some x =>
    simp only [q] at c
    cases x with
    | l d=>exact c.elim
    | no | v d | o d | p l2 =>
      exact c _ F1 H1 (I.putP ⟨_,q,fun d z=>by cases z⟩ e t h0)
end
end PM
namespace L2
open PySem PySem.Spec PyProof.Rows
section
variable {X:Cx}
end
end L2
namespace PM
open PySem L2
section
variable {K:Kx} {XO:XOT} {E:L2.St→XK} {F0 H0 F H F1 H1 F' H':Hp}
end
end PM
namespace PM
open PySem L2
section
variable {K:Kx} {XO:XOT} {E:L2.St→XK} {Λ:List (Nat × Addr × HO)} {F0 H0 F H:Hp} {σ:L2.St} {δ:En}
theorem Tab.edit {a:Addr} {bs:List Addr} {ts:List Tr} {c:Nat} {U:Tr} (t:Tab K F H a bs (.l ts)) (hc:ts[c]?=some U) :
    ∃ vs v f,H a=some (.lst vs)∧vs.length=ts.length∧vs[c]?=some v∧TrOk K F H U v f∧f.Nodup∧(∀ b ∈ f,b ∈ bs)∧∀ (H':Hp) (U':Tr) (f':List Addr),(∀ b,b ∉ f→H' b=H b)→TrOk K F H' U' v f'→f'.Sublist f→∃ bs',Tab K F H' a bs' (.l (ts.set c U'))∧bs'.Sublist bs:=by
  have ok:=t.ok
  simp only [TrOk] at ok
  obtain ⟨a',vs,fs,ea,eb,h3,h4⟩:=ok
  cases ea
  cases eb
  have nd:=t.nd
  obtain ⟨v,f0,f1,f2,g1,g2,g3,g4⟩:=h4.focus hc
  subst g2
  have nd2:=(List.nodup_cons.mp nd).2
  have n0:=List.nodup_append.mp nd2
  have n1:=List.nodup_append.mp n0.2.1
  refine ⟨vs,v,f1,h3,h4.length,g1,g3,n1.1,fun b hb=>by simp [hb],fun H' U' f' hH hU hs=>?_⟩
  have na:a ∉ f1:=fun z=>(List.nodup_cons.mp nd).1 (by simp [z])
  have r:=g4 H' U' v f' (fun b hb=>hH b fun z=>by
    rcases List.mem_append.mp hb with w | w
    · exact n0.2.2 b w b (by simp [z]) rfl
    · exact n1.2.2 b z b w rfl) hU
  have ev:vs.set c v=vs:=by
    refine List.ext_getElem? fun j=>?_
    by_cases z:c=j
    · subst z
      rw [List.getElem?_set_self (List.getElem?_eq_some_iff.mp g1).1,g1]
    · rw [List.getElem?_set_ne z]
  rw [ev] at r
  have sb:(f0 ++ (f' ++ f2)).Sublist (f0 ++ (f1 ++ f2)):=(hs.append_right f2).append_left f0
  refine ⟨f0 ++ (f' ++ f2),⟨?_,nd.sublist (sb.cons₂ a)⟩,sb⟩
  simp only [TrOk]
  exact ⟨a,vs,_,rfl,rfl,by rw [hH a na]; exact h3,r⟩
theorem zh4 {b:Addr} {H:Hp}:TrOk K F (upd H b (.lst [])) (.l []) (.ref b) [b]:=by
  simp only [TrOk,TrOkL]
  exact ⟨b,[],[],rfl,rfl,zam,rfl,rfl⟩
theorem EnvOk.blur {j:Nat} {x:Option V} (I:EnvOk K Λ F0 H0 F H σ δ) (hj:δ[j]?=some .no):EnvOk K Λ F0 H0 F H (σ.set j x) δ:=by
  refine ⟨I.ext,by simp [I.len],fun k=>?_,fun k l a hkl g1 g2 g3 g4=>?_,fun y hy=>?_,fun k T h=>?_⟩
  · by_cases e:j=k
    · subst e; rw [hj]; trivial
    · rw [List.getElem?_set_ne e]; exact I.slot k
  · have nk:j ≠ k:=fun z=>by rw [← z,hj] at g1; cases g1
    have nl:j ≠ l:=fun z=>by rw [← z,hj] at g2; cases g2
    rw [List.getElem?_set_ne nk] at g3
    rw [List.getElem?_set_ne nl] at g4
    exact I.dist k l a hkl g1 g2 g3 g4
  · obtain ⟨⟨d,g1⟩,g2,g3⟩:=I.lent y hy
    have ny:j ≠ y.1:=fun z=>by rw [← z,hj] at g1; cases g1
    exact ⟨⟨d,g1⟩,by rw [List.getElem?_set_ne ny]; exact g2,g3⟩
  · obtain ⟨a,bs,s1,s2,s3,s4,s5⟩:=I.tabs k T h
    have nk:j ≠ k:=fun z=>by rw [← z,hj] at h; cases h
    refine ⟨a,bs,by rw [List.getElem?_set_ne nk]; exact s1,s2,s3,fun l b hl ho hs=>?_,fun l T' hl hT=>?_⟩
    · have nl:j ≠ l:=fun z=>by rw [← z,hj] at ho; cases ho
      rw [List.getElem?_set_ne nl] at hs
      exact s4 l b hl ho hs
    · have nl:j ≠ l:=fun z=>by rw [← z,hj] at hT; cases hT
      obtain ⟨a',bs',u1,u2,u3⟩:=s5 l T' hl hT
      exact ⟨a',bs',by rw [List.getElem?_set_ne nl]; exact u1,u2,u3⟩
end
end PM
namespace L2
open PySem PySem.Spec PyProof.Rows
section
variable {prog:Program} {w:World} {A:Around} {E:Value→Shared→Prop} {s:Shared}
end
section
variable {X:Cx}
end
end L2
namespace PM
open PySem L2
section
variable {K:Kx} {XO:XOT} {E:L2.St→XK}
end
end PM
namespace L2
open PySem PySem.Spec PyProof.Rows
section
variable {X:Cx} {x:Str} {C:Addr} {p pos:Pos}
end
end L2
namespace PM
open PySem L2
section
variable {K:Kx} {XO:XOT} {E:L2.St→XK} {F0 H0 F H F1 H1 F' H':Hp}
end
end PM
namespace PM
open PySem L2
section
variable {K:Kx} {XO:XOT} {E:L2.St→XK} {Λ:List (Nat × Addr × HO)} {F0 H0 F H:Hp} {σ:L2.St} {δ:En}
def asDt:Tr→Option D
  | .d x=>some x
  | _=>none
theorem zhb {t:Tr} {x:D} (h:asDt t=some x):t = .d x:=by
  cases t with
  | d y=>cases h; rfl
  | _=>cases h
def prT (p:D × List D):Tr:=.t [.d p.1,.l (p.2.map .d)]
def asPr:Tr→Option (D × List D)
  | .t [.d x,.l us]=>(zbO asDt us).map fun l=>(x,l)
  | _=>none
theorem zgW {t:Tr} {p:D × List D} (h:asPr t=some p):t=prT p:=by
  unfold asPr at h
  split at h
  · rename_i x us
    cases q:zbO asDt us with
    | none=>rw [q] at h; cases h
    | some l =>
      rw [q] at h
      cases h
      rw [zbA (fun _ _=>zhb) q]
      rfl
  · cases h
@[simp] theorem zis (p:D × List D):asPr (prT p)=some p:=by
  unfold prT asPr
  dsimp only
  rw [zbM (f:=asDt) (g:=Tr.d) (fun _=>rfl)]
  rfl
variable (K) in
def RowB (tb:TS) (k:Nat) (op:List D→List D) (ok:List D→Bool):Prop:=∀ (Dn:Ends) (σ:L2.St) (F H:Hp) (r:Addr) (zs:List V) (l:List D),σ[k]?=some (some (.ref r))→H r=some (.lst zs)→RepL K F l zs→ok l=true→(∀ zs',RepL K F (op l) zs'→Dn.nx σ (upd H r (.lst zs')))→tb Dn σ H
def zh2 (i j k:Nat) (op:List D→List D) (ok:List D→Bool) (δ:En):O:=match δ[i]?,δ[j]?,δ[k]? with
  | some (.p (.l ts)),some .no,some .no=>match zbO asPr ts with
    | some ps=>if (ps.all fun p=>ok p.2)=true∧j ≠ k then .nx (δ.set i (.p (.l (ps.map fun p=>prT (p.1,op p.2))))) else .no
    | none=>.no
  | _,_,_=>.no
theorem zja {i j k:Nat} {op:List D→List D} {ok:List D→Bool} {tb:TS} (hb:RowB K tb k op ok):SS K XO E (tFor (zig K.f (tVar i)) (gTup K.f 2 (zgR (zcT j) (zgR (zcT k) gNil))) tb) (zh2 i j k op ok):=by
  intro Λ F0 H0 F H σ δ Dn I a
  unfold zh2 at a
  split at a
  · rename_i ts q1 q2 q3
    cases qp:zbO asPr ts with
    | none=>rw [qp] at a; exact a.elim
    | some ps =>
    rw [qp] at a
    dsimp only at a
    split at a
    · rename_i hc
      obtain ⟨hall,hjk⟩:=hc
      have ets:ts=ps.map prT:=zbA (fun _ _=>zgW) qp
      subst ets
      have hij:i ≠ j:=fun z=>by rw [z,q2] at q1; cases q1
      have hik:i ≠ k:=fun z=>by rw [z,q3] at q1; cases q1
      have li:i < δ.length:=(List.getElem?_eq_some_iff.mp q1).1
      obtain ⟨p,bs,tt⟩:=I.tabAt q1
      have root:∀ {F H:Hp} {σ:L2.St} {ts':List Tr},EnvOk K Λ F0 H0 F H σ (δ.set i (.p (.l ts')))→σ[i]?=some (some (.ref p))→∃ bs',TabAt K H0 F H σ (δ.set i (.p (.l ts'))) i p bs' (.l ts'):=fun {F H σ ts'} J hs=>by
        obtain ⟨p',bs',t'⟩:=J.tabAt (List.getElem?_set_self li)
        have:=t'.at'
        rw [hs] at this
        cases this
        exact ⟨bs',t'⟩
      have top:∀ {H:Hp} {F:Hp} {bs':List Addr} {ts':List Tr},Tab K F H p bs' (.l ts')→∃ vs,H p=some (.lst vs)∧vs.length=ts'.length:=fun {H F bs' ts'} t=>by
        have ok:=t.ok
        simp only [TrOk] at ok
        obtain ⟨a',vs,fs,ea,_,h3,h4⟩:=ok
        cases ea
        exact ⟨vs,h3,h4.length⟩
      have sj:∀ (ts':List Tr),(δ.set i (.p (.l ts')))[j]?=some .no:=fun ts'=>by rw [List.getElem?_set_ne hij]; exact q2
      have sk:∀ (ts':List Tr),(δ.set i (.p (.l ts')))[k]?=some .no:=fun ts'=>by rw [List.getElem?_set_ne hik]; exact q3
      have I0:EnvOk K Λ F0 H0 F H σ (δ.set i (.p (.l (ps.map prT)))):=by
        have e:δ.set i (.p (.l (ps.map prT)))=δ:=by
          refine List.ext_getElem? fun m=>?_
          by_cases z:i=m
          · subst z
            rw [List.getElem?_set_self li,q1]
          · rw [List.getElem?_set_ne z]
        rw [e]; exact I
      obtain ⟨vs0,hp0,_⟩:=top tt.tab
      refine ⟨_,tt.at',p,rfl,⟨vs0,.inl (.inl hp0)⟩,?_⟩
      refine ⟨fun c m σ H=>m=ps.length - c∧c ≤ ps.length∧∃ F ts',EnvOk K Λ F0 H0 F H σ (δ.set i (.p (.l ts')))∧σ[i]?=some (some (.ref p))∧ts'.length=ps.length∧(∀ c',c' < c→ts'[c']?=(ps[c']?).map fun p=>prT (p.1,op p.2))∧∀ c',c ≤ c'→ts'[c']?=(ps[c']?).map prT,⟨_,rfl,Nat.zero_le _,F,ps.map prT,I0,tt.at',by simp,fun c' h=>absurd h (Nat.not_lt_zero _),fun c' _=>by simp⟩,?_⟩
      rintro c m σ H ⟨rfl,hcl,F,ts',J,hs,hlen,hdone,hleft⟩
      obtain ⟨bs',t'⟩:=root J hs
      obtain ⟨vs,hp,hvl⟩:=top t'.tab
      by_cases hlt:c < ps.length
      · have hcv:c < vs.length:=by omega
        refine .inr ⟨⟨vs,vs[c],.inl (.inl hp),List.getElem?_eq_getElem hcv⟩,fun σ' H'=>∃ F ts',EnvOk K Λ F0 H0 F H' σ' (δ.set i (.p (.l ts')))∧σ'[i]?=some (some (.ref p))∧ts'.length=ps.length∧(∀ c',c' < c + 1→ts'[c']?=(ps[c']?).map fun p=>prT (p.1,op p.2))∧∀ c',c + 1 ≤ c'→ts'[c']?=(ps[c']?).map prT,fun σ' H' w=>⟨_,by omega,rfl,by omega,w⟩,fun x H' y=>?_⟩
        obtain ⟨rfl,hy⟩:=y
        have hx:vs[c]?=some x:=hy vs (.inl (.inl hp))
        have hU:ts'[c]?=some (prT ps[c]):=by rw [hleft c (Nat.le_refl _),List.getElem?_eq_getElem hlt]; rfl
        obtain ⟨vs',v,f,g1,g2,g3,g4,g5,g6,g7⟩:=t'.tab.edit hU
        rw [hp] at g1
        cases g1
        rw [hx] at g3
        cases g3
        have g4':=g4
        unfold prT at g4'
        simp only [TrOk,TrOkL] at g4'
        obtain ⟨tA,ws,rfl,hA,v1,r1,fa,fb,rfl,rfl,⟨rfl,rv1⟩,v2,r2,fc,fd,rfl,rfl,⟨r,zs,fe,rfl,rfl,hr,hL⟩,rfl,rfl⟩:=g4'
        obtain ⟨rl,rfl⟩:=leaf_iff.mp hL
        have J1:=(J.blur (j:=j) (x:=some v1) (sj ts')).blur (j:=k) (x:=some (.ref r)) (sk ts')
        have hs1:((σ.set j (some v1)).set k (some (V.ref r)))[i]?=some (some (.ref p)):=by rw [List.getElem?_set_ne (Ne.symm hik),List.getElem?_set_ne (Ne.symm hij)]; exact hs
        have hk1:((σ.set j (some v1)).set k (some (V.ref r)))[k]?=some (some (.ref r)):=List.getElem?_set_self (by rw [List.length_set,J.len,List.length_set]; exact (List.getElem?_eq_some_iff.mp q3).1)
        refine ⟨tA,_,rfl,.inl (.inl (J.ext.fh _ _ hA)),rfl,v1,_,rfl,.ref r,[],rfl,rfl,?_⟩
        refine hb _ _ F H' r zs ps[c].2 hk1 hr rl (List.all_eq_true.mp hall _ (List.getElem_mem hlt)) fun zs' rz=>?_
        obtain ⟨bs1,t1⟩:=root J1 hs1
        have ebs:bs1=bs':=zfl t1.tab t'.tab
        subst ebs
        obtain ⟨bs2,t2,sb⟩:=g7 (upd H' r (.lst zs')) (prT (ps[c].1,op ps[c].2)) ([] ++ ([r] ++ [])) (fun x hx=>zag fun z=>hx (by rw [z]; simp)) (by
          unfold prT
          simp only [TrOk,TrOkL]
          exact ⟨tA,[v1,.ref r],rfl,hA,v1,_,[],[r],rfl,rfl,⟨rfl,rv1⟩,.ref r,[],[r],[],rfl,rfl,⟨r,zs',[],rfl,rfl,zam,leaf_iff.mpr ⟨rz,rfl⟩⟩,rfl,rfl⟩) (List.Sublist.refl _)
        have J4:=J1.chgT (b:=r) (u:=.lst zs') t1 (List.mem_cons_of_mem _ (g6 r (by simp))) t2 fun x hx=>sb.subset hx
        rw [List.set_set] at J4
        refine ⟨F,_,J4,hs1,by rw [List.length_set]; exact hlen,fun c' hc'=>?_,fun c' hc'=>?_⟩
        · by_cases z:c'=c
          · subst z
            rw [List.getElem?_set_self (by omega),List.getElem?_eq_getElem hlt]; rfl
          · rw [List.getElem?_set_ne (fun w=>z w.symm)]; exact hdone c' (by omega)
        · rw [List.getElem?_set_ne (by omega)]; exact hleft c' (by omega)
      · have hce:c=ps.length:=by omega
        subst hce
        refine .inl ⟨⟨vs,.inl (.inl hp),by omega⟩,a σ F H ?_⟩
        have e:ts'=ps.map fun p=>prT (p.1,op p.2):=by
          refine List.ext_getElem? fun c'=>?_
          rw [List.getElem?_map]
          by_cases z:c' < ps.length
          · exact hdone c' z
          · rw [List.getElem?_eq_none (by omega),List.getElem?_eq_none (by omega)]; rfl
        rw [← e]; exact J
    · exact a.elim
  · exact a.elim
end
end PM
namespace PM
open PySem L2
section
variable {K:Kx} {XO:XOT} {E:L2.St→XK} {F0 H0 F H F1 H1 F' H':Hp} {α:Type} {An:α→V→Hp→Hp→Hp→Prop}
def SGr (K:Kx) (_:XOT) (_:L2.St→XK) (An:α→V→Hp→Hp→Hp→Prop) (t:TS) (m:En→R α):Prop:=∀ F0 H0 F H σ δ Dn,EnvOk K [] F0 H0 F H σ δ→(∃ x,m δ = .ok x∧∀ v F' H',Ext F0 H0 F' H'→An x v F' H' H0→Dn.rt v H')→t Dn σ H
def zdx (m:En→O) (n:En→R α) (δ:En):R α:=match m δ with | .nx δ'=>n δ' | _=>.no
theorem zdv {t u:TS} {m:En→O} {n:En→R α} (h:SS K XO E t m) (h':SGr K XO E An u n):SGr K XO E An (tSeq t u) (zdx m n):=by
  intro F0 H0 F H σ δ Dn I a
  refine h [] F0 H0 F H σ δ _ I ?_
  obtain ⟨x,hx,a⟩:=a
  unfold zdx at hx
  cases q:m δ with
  | nx δ'=>rw [q] at hx; exact fun σ' F' H' I'=>h' F0 H0 F' H' σ' δ' Dn I' ⟨x,hx,a⟩
  | _=>rw [q] at hx; cases hx
def spG (K:Kx) (_:XOT) (An:α→V→Hp→Hp→Hp→Prop) (f:List D→R α):Sp:=fun vs H Q _=>∃ F ds,Same F H∧RepL K F ds vs∧∃ x,f ds = .ok x∧∀ v F' H',Ext F H F' H'→An x v F' H' H→Q v H'
def runG (np nv:Nat) (m:En→R α) (ds:List D):R α:=if ds.length=np then m (zbi nv ds) else .no
theorem zhU {np nv:Nat} {m:En→R α} {vs:List V} {Q:VK} {E:XK} (sp:spG K XO An (runG np nv m) vs H Q E):vs.length=np:=by
  obtain ⟨F,ds,s,r,x,hx,_⟩:=sp
  unfold runG at hx
  split at hx
  · rename_i hl; rw [r.length]; exact hl
  · cases hx
theorem ziS {np nv:Nat} {N:List Str} {vs:List V} {Q:VK} {E:XK} {t:TS} {m:En→R α} (h:SGr K XO (fun _=>E) An t m) (hn:N.length=np + nv) (sp:spG K XO An (runG np nv m) vs H Q E):t { nx:=fun _ H'=>Q .non H',rt:=Q } (L2.start N vs) H:=by
  obtain ⟨F,ds,s,r,x,hx,a⟩:=sp
  unfold runG at hx
  split at hx
  · rename_i hl
    exact h F H F H _ _ _ (zeh s r hn hl) ⟨x,hx,a⟩
  · cases hx
def AnP (x:List Int × List Int) (v:V) (F H H0:Hp):Prop:=∃ t a b,v = .ref t∧F t=some (.tup [.ref a,.ref b])∧(H a=some (.lst (x.1.map .int))∧F a=none∧H0 a=none)∧H b=some (.lst (x.2.map .int))∧F b=none∧H0 b=none
def zjp (l r:D):R (List Int × List Int):=match asIl l,asIl r with
  | some l,some r=>.ok (l,r)
  | _,_=>.no
def mTwo (i j:Nat) (δ:En):R (List Int × List Int):=match δ[i]?,δ[j]? with
  | some (.o l),some (.o r)=>zjp l r
  | _,_=>.no
theorem zgo {l:List Int} {p:Addr} (o:Own K F H (iL l) p):H p=some (.lst (l.map .int)):=by
  obtain ⟨vs,h1,h2⟩:=o
  rw [zce h2] at h1
  exact h1
theorem zfS {l:List Int} {p:Addr} (h:H p=some (.lst (l.map .int))):Own K F H (iL l) p:=⟨_,h,RepL.ints⟩
theorem zjn {i j:Nat}:SGr K XO E AnP (tRet (tTup (zb7 (tVar i) (zb7 (tVar j) tNil)))) (mTwo i j):=by
  intro F0 H0 F H σ δ Dn I a
  obtain ⟨x,hx,a⟩:=a
  unfold mTwo at hx
  split at hx
  · rename_i l r q1 q2
    unfold zjp at hx
    split at hx
    · rename_i l' r' z1 z2
      cases hx
      have e1:=zdt z1
      have e2:=zdt z2
      subst e1 e2
      have s1:=I.slot i
      have s2:=I.slot j
      rw [q1] at s1
      rw [q2] at s2
      obtain ⟨p,g1,g2,g3,g4⟩:=s1
      obtain ⟨r,k1,k2,k3,k4⟩:=s2
      have g5:=zgo g4
      have k5:=zgo k4
      refine ⟨_,g1,_,k1,by simp [sizeLine],fun c hc=>?_⟩
      have pc:p ≠ c:=zaj g5 hc
      have rc:r ≠ c:=zaj k5 hc
      refine a _ (upd F c (.tup [.ref p,.ref r])) _ (I.ext.trans (.new I.same hc)) ⟨c,p,r,rfl,zam,⟨?_,?_,g2⟩,?_,?_,k2⟩
      · rw [zag pc]; exact g5
      · rw [zag pc]; exact g3
      · rw [zag rc]; exact k5
      · rw [zag rc]; exact k3
    · cases hx
  · cases hx
def zfM (c:List Int × List Int→List Int) (f:List D→R (List Int × List Int)) (ml:En→R (List D)) (δ:En):R D:=(ml δ).bind fun ds=>(f ds).nev.bind fun x=>.ok (iL (c x))
theorem zhL {f:List D→R (List Int × List Int)} {tl:TA} {ml:En→R (List D)} {E':XK} (h:SA K XO E tl ml):SEo K XO E (tOp (rIxT K.f) (ze5 (spG K XO AnP f) [] E' tl) (tC (.int 0))) (zfM Prod.fst f ml):=by
  intro Λ F0 H0 F H σ δ Q I a
  refine h Λ F0 H0 F H σ δ _ I (a.bind.imp fun ds F1 H1 e1 a1 vs r=>⟨F1,ds,e1.fh,by rw [List.append_nil]; exact r,?_⟩)
  cases q:f ds with
  | ok x =>
    rw [q] at a1
    refine ⟨x,rfl,fun v F2 H2 e2 w=>?_⟩
    obtain ⟨t,b,c,rfl,h1,⟨h2,h3,h4⟩,h5,h6,h7⟩:=w
    exact ⟨t,_,0,.ref b,rfl,rfl,.inl (.inl (e2.fh _ _ h1)),rfl,a1 F2 H2 e2 b h3 (e1.hh.free h4) (zfS h2)⟩
  | _=>rw [q] at a1; exact a1.elim
theorem zg6 {f:List D→R (List Int × List Int)} {tl:TA} {ml:En→R (List D)} {E':XK} (h:SA K XO E tl ml):SEo K XO E (tOp (rIxT K.f) (ze5 (spG K XO AnP f) [] E' tl) (tC (.int 1))) (zfM Prod.snd f ml):=by
  intro Λ F0 H0 F H σ δ Q I a
  refine h Λ F0 H0 F H σ δ _ I (a.bind.imp fun ds F1 H1 e1 a1 vs r=>⟨F1,ds,e1.fh,by rw [List.append_nil]; exact r,?_⟩)
  cases q:f ds with
  | ok x =>
    rw [q] at a1
    refine ⟨x,rfl,fun v F2 H2 e2 w=>?_⟩
    obtain ⟨t,b,c,rfl,h1,⟨h2,h3,h4⟩,h5,h6,h7⟩:=w
    exact ⟨t,_,1,.ref c,rfl,rfl,.inl (.inl (e2.fh _ _ h1)),rfl,a1 F2 H2 e2 c h6 (e1.hh.free h7) (zfS h5)⟩
  | _=>rw [q] at a1; exact a1.elim
def prI (p:Int × List Int):Tr:=.t [.d (.int p.1),rowT p.2]
def AnQ (K:Kx) (x:List (Int × List Int)) (v:V) (F H H0:Hp):Prop:=∃ a bs,v = .ref a∧Tab K F H a bs (.l (x.map prI))∧∀ b ∈ a :: bs,F b=none∧H0 b=none
def asIP:D→Option (Int × Int)
  | .tup [.int j,.int x]=>some (j,x)
  | _=>none
theorem zhf {d:D} {j x:Int} (h:asIP d=some (j,x)):d = .tup [.int j,.int x]:=by
  unfold asIP at h
  split at h
  · cases h; rfl
  · cases h
def prs:Nat→List D→List (List Int)→Option (List (Int × List Int))
  | _,[],[]=>some []
  | k,d :: ds,r :: ll=>match asIP d with
    | some (j,x)=>if j=(k:Int) then (prs (k + 1) ds ll).map ((x,r) :: ·) else none
    | none=>none
  | _,_,_=>none
theorem ziA {k:Nat} {d:D} {ds:List D} {ll:List (List Int)} {o:List (Int × List Int)} (h:prs k (d :: ds) ll=some o):∃ x r ll' o',d = .tup [.int (k:Int),.int x]∧ll=r :: ll'∧prs (k + 1) ds ll'=some o'∧o=(x,r) :: o':=by
  cases ll with
  | nil=>cases h
  | cons r ll' =>
    simp only [prs] at h
    cases q:asIP d with
    | none=>rw [q] at h; cases h
    | some jx =>
      obtain ⟨j,x⟩:=jx
      rw [q] at h
      dsimp only at h
      split at h
      · rename_i hj
        subst hj
        cases q2:prs (k + 1) ds ll' with
        | none=>rw [q2] at h; cases h
        | some o'=>rw [q2] at h; cases h; exact ⟨x,r,ll',o',zhf q,rfl,q2,rfl⟩
      · cases h
theorem zi9 {k:Nat} {ll:List (List Int)} {o:List (Int × List Int)} (h:prs k [] ll=some o):ll = []∧o = []:=by
  cases ll with
  | nil=>cases h; exact ⟨rfl,rfl⟩
  | cons r ll=>cases h
def mPrs (mi:En→R (List D)) (i:Nat) (δ:En):R (List (Int × List Int)):=match tabOf δ[i]? with
  | some ll=>(mi δ).nev.bind fun ds=>ifC (ds.length ≤ sizeLine) (R.of (prs 0 ds ll)) .no
  | none=>.no
theorem zjs {i:Nat} {wi:TI} {mi:En→R (List D)} (hi:SIc K XO E wi mi):SGr K XO E (AnQ K) (tRet (zh1 wi [i] 2 (gTup K.f 2 (zgR (zcT 1) (zgR (zcT 2) gNil))) none (tTup (zb7 (tVar 2) (zb7 (tOp (rIxL K.f) (tVar 0) (tVar 1)) tNil))))) (mPrs mi i):=by
  intro F0 H0 F H σ δ Dn I a
  obtain ⟨l,hx,a⟩:=a
  unfold mPrs at hx
  split at hx
  case h_2=>cases hx
  rename_i ll q'
  have q:=zgD q'
  obtain ⟨p0,bs,ta⟩:=I.tabAt q
  refine hi [] F0 H0 F H σ δ _ I ?_
  cases qm:mi δ with
  | no=>rw [qm] at hx; cases hx
  | ex x=>rw [qm] at hx; cases hx
  | ok ds =>
  rw [qm] at hx
  simp only [R.nev_ok,R.bind_ok] at hx
  by_cases hsz:ds.length ≤ sizeLine
  case neg=>rw [zhy hsz] at hx; cases hx
  rw [za0 hsz] at hx
  have qp:prs 0 ds ll=some l:=by
    cases z:prs 0 ds ll with
    | none=>rw [z] at hx; cases hx
    | some l'=>rw [z] at hx; cases hx; rfl
  intro F1 H1 e1 J hJ p hp
  have t1:=ta.grow e1
  have tO:=tab_iff.mp t1.tab
  have f1:F1 p=none:=e1.fh.free hp
  have pb:∀ b ∈ p0 :: bs,b ≠ p:=fun b hb z=>by
    obtain ⟨o,ho⟩:=t1.tab.obj b hb
    rw [z,hp] at ho; cases ho
  refine ⟨fun c m ys σ2 H2=>∃ F2 l1 l2,Ext F1 H1 F2 H2∧F2 p=none∧H2 p=some (.lst ys)∧σ2[0]?=some (some (.ref p0))∧σ2.length=3∧TrOkL K F2 H2 (l1.map prI) ys (bs.take c)∧prs c (ds.drop c) (ll.drop c)=some l2∧l=l1 ++ l2∧m=ds.length - c∧c ≤ ds.length∧ys.length=c,
    ⟨_,F1,[],l,.newO e1.fh hp,f1,zam,?_,rfl,by simp [TrOkL],qp,rfl,rfl,Nat.zero_le _,rfl⟩,?_⟩
  · show some ((σ[i]?).getD none)=_
    rw [ta.at']; rfl
  rintro c m ys σ2 H2 ⟨F2,l1,l2,x2,fp2,hp2,hs,hs3,tb,qd,rfl,rfl,hcl,hys⟩
  refine ⟨hp2,?_⟩
  by_cases hlt:c < ds.length
  · have e:ds.drop c=ds[c] :: ds.drop (c + 1):=List.drop_eq_getElem_cons hlt
    rw [e] at qd
    obtain ⟨x,r,ll',l3,hd,hll,q3,rfl⟩:=ziA qd
    obtain ⟨h1,h2⟩:=(hJ F2 H2 x2 c).1 ds[c] (by simp [hlt])
    have hcl2:c < ll.length:=by
      have:=congrArg List.length hll
      simp at this; omega
    have er:ll[c]?=some r:=by
      have:=List.drop_eq_getElem_cons hcl2
      rw [this] at hll
      cases hll
      exact List.getElem?_eq_getElem hcl2
    have el:ll.drop (c + 1)=ll':=by
      have:=List.drop_eq_getElem_cons hcl2
      rw [this] at hll
      cases hll; rfl
    have hcb:c < bs.length:=by rw [tO.len]; exact hcl2
    have gb:bs[c]?=some bs[c]:=List.getElem?_eq_getElem hcb
    refine .inr ⟨h1,fun ys' σ' H'=>∃ F' l1',Ext F1 H1 F' H'∧F' p=none∧H' p=some (.lst ys')∧σ'[0]?=some (some (.ref p0))∧σ'.length=3∧TrOkL K F' H' (l1'.map prI) ys' (bs.take (c + 1))∧l1'=l1 ++ [(x,r)]∧ys'.length=c + 1,
      fun ys' σ' H' ⟨F',l1',w1,w2,w3,w4,w5,w6,w7,w8⟩=>⟨_,by omega,F',l1',l3,w1,w2,w3,w4,w5,w6,by rw [el]; exact q3,by rw [w7]; simp,rfl,hlt,w8⟩,fun x0 H' y=>?_⟩
    obtain ⟨F3,e3,rx⟩:=h2 x0 H' y
    rw [hd] at rx
    simp only [Rep,RepL] at rx
    obtain ⟨tA,_,rfl,hA,v1,r1,rfl,rfl,v2,r2,rfl,rfl,rfl⟩:=rx
    have x3:=x2.trans e3
    have tO3:=tO.mono x3.hh
    have row:=tO3.row c _ r gb er
    refine ⟨tA,_,rfl,.inl (.inl (e3.fh _ _ hA)),rfl,_,_,rfl,_,[],rfl,rfl,?_⟩
    unfold zf4
    simp only [if_true]
    have g0:((σ2.set 1 (some (V.int (c:Int)))).set 2 (some (V.int x)))[0]?=some (some (.ref p0)):=by rw [List.getElem?_set_ne (by omega),List.getElem?_set_ne (by omega)]; exact hs
    have g1:((σ2.set 1 (some (V.int (c:Int)))).set 2 (some (V.int x)))[1]?=some (some (.int (c:Int))):=by rw [List.getElem?_set_ne (by omega)]; exact List.getElem?_set_self (by omega)
    have g2:((σ2.set 1 (some (V.int (c:Int)))).set 2 (some (V.int x)))[2]?=some (some (.int x)):=List.getElem?_set_self (by rw [List.length_set]; omega)
    refine ⟨_,g2,_,g0,_,g1,p0,bs.map .ref,(c:Int),.ref bs[c],rfl,rfl,.inl (.inl tO3.top),?_,by simp [sizeLine],fun d hd0=>?_⟩
    · unfold atI
      have:ixN (bs.map V.ref).length (c:Int)=some c:=by unfold ixN; simp; omega
      rw [this]
      show (bs.map V.ref)[c]?=_
      rw [List.getElem?_map,gb]; rfl
    have hp3:H' p=some (.lst ys):=e3.hh _ _ hp2
    have dp:d ≠ p:=fun z=>by rw [z,hp3] at hd0; cases hd0
    have f3p:F3 p=none:=e3.nw _ _ fp2 hp2
    have x4:Ext F3 H' (upd F3 d (.tup [.int x,.ref bs[c]])) (upd H' d (.tup [.int x,.ref bs[c]])):=.new e3.fh hd0
    have x5:=x3.trans x4
    have fp5:upd F3 d (.tup [.int x,.ref bs[c]]) p=none:=by rw [zag (Ne.symm dp)]; exact f3p
    have tb5:=TrOkL.mono (e3.trans x4).ff (e3.trans x4).hh _ tb
    have row5:=x4.hh _ _ row
    have bp:bs[c] ≠ p:=pb _ (List.mem_cons_of_mem _ (List.getElem_mem hcb))
    refine ⟨by rw [zag (Ne.symm dp)]; exact hp3,by omega,_,_,⟨x5.ff,fun b o h=>?_,fun b o h=>?_,x5.nw⟩,fp5,zam,g0,by rw [List.length_set,List.length_set]; exact hs3,?_,rfl,by simp [hys]⟩
    · rw [zag (zaj h hp)]; exact x5.hh b o h
    · rw [zag (zaj h fp5)]; exact x5.fh b o h
    · rw [List.take_succ,gb,List.map_append]
      refine TrOkL.append (TrOkL.at' _ tb5 fun b hb=>zag (pb b (List.mem_cons_of_mem _ (List.mem_of_mem_take hb)))) ?_
      show TrOkL K _ _ [prI (x,r)] [.ref d] [bs[c]]
      unfold prI
      simp only [TrOkL,TrOk,Rep]
      exact ⟨_,[],[bs[c]],[],rfl,rfl,⟨d,_,rfl,zam,_,_,[],[bs[c]],rfl,rfl,⟨rfl,rfl⟩,_,[],[bs[c]],[],rfl,rfl,row_iff.mpr ⟨_,rfl,rfl,by rw [zag bp]; exact row5⟩,rfl,rfl⟩,rfl,rfl⟩
  · have e:c=ds.length:=by omega
    subst e
    rw [List.drop_length] at qd
    obtain ⟨z1,rfl⟩:=zi9 qd
    have lb:bs.take ds.length=bs:=by
      apply List.take_of_length_le
      rw [tO.len]
      exact List.drop_eq_nil_iff.mp z1
    rw [lb] at tb
    refine .inl ⟨(hJ F2 H2 x2 _).2 (by simp),a _ F2 H2 (I.ext.trans (e1.trans x2)) ⟨p,bs,rfl,⟨?_,?_⟩,fun b hb=>?_⟩⟩
    · rw [List.append_nil]
      simp only [TrOk]
      exact ⟨p,ys,bs,rfl,rfl,hp2,tb⟩
    · exact List.nodup_cons.mpr ⟨fun z=>pb p (List.mem_cons_of_mem _ z) rfl,(List.nodup_cons.mp tO.nd).2⟩
    · rcases List.mem_cons.mp hb with rfl | hb
      · exact ⟨fp2,I.ext.hh.free (e1.hh.free hp)⟩
      · have w:=t1.free b (List.mem_cons_of_mem _ hb)
        obtain ⟨o,ho⟩:=t1.tab.obj b (List.mem_cons_of_mem _ hb)
        exact ⟨x2.nw _ _ w.2 ho,w.1⟩
theorem zhp (e:Ext (za2 F H) H F' H'):∀ {ps:List (Int × List Int)} {vs:List V} {fs:List Addr},TrOkL K F' H' (ps.map prI) vs fs→TrOkL K (minH F H F') H' (ps.map prI) vs fs
  | [],vs,fs,h=>by simpa only [List.map_nil,TrOkL] using h
  | p :: ps,vs,fs,h=>by
    simp only [List.map_cons,TrOkL] at h ⊢
    obtain ⟨v,r,f1,f2,rfl,rfl,h1,h2⟩:=h
    refine ⟨v,r,f1,f2,rfl,rfl,?_,zhp e h2⟩
    unfold prI at h1 ⊢
    simp only [TrOk,TrOkL,Rep] at h1 ⊢
    obtain ⟨a,ws,rfl,hA,v1,r1,g1,g2,rfl,rfl,⟨rfl,rfl⟩,v2,r2,g3,g4,rfl,rfl,h3,rfl,rfl⟩:=h1
    exact ⟨a,_,rfl,ziI e hA (fun _ z=>by cases z) (fun _ z=>by cases z) (fun _ _ z=>by cases z) (fun _ _ _ z=>by cases z),_,_,[],_,rfl,rfl,⟨rfl,rfl⟩,_,_,_,[],rfl,rfl,row_iff.mpr (row_iff.mp h3),rfl,rfl⟩
def zdL (f:List D→R (List (Int × List Int))) (ml:En→R (List D)) (δ:En):R Tr:=match ml (peek δ) with
  | .ok ds=>(f ds).nev.bind fun ps=>.ok (.l (ps.map prI))
  | _=>.no
theorem zgI {f:List D→R (List (Int × List Int))} {tl:TA} {ml:En→R (List D)} {E':XK} (h:SA K XO E tl ml):SEt K XO E (ze5 (spG K XO (AnQ K) f) [] E' tl) (zdL f ml):=by
  intro Λ F0 H0 F H σ δ Q I a
  refine h [] (za2 F H) H (za2 F H) H σ (peek δ) _ (zfA I) ?_
  unfold zdL at a
  cases q:ml (peek δ) with
  | no=>rw [q] at a; exact a.elim
  | ex x=>rw [q] at a; exact a.elim
  | ok ds =>
    rw [q] at a
    intro F1 H1 e1 vs r
    refine ⟨F1,ds,e1.fh,by rw [List.append_nil]; exact r,?_⟩
    cases q2:f ds with
    | ok x =>
      simp only [q2,R.nev_ok,R.bind_ok] at a
      refine ⟨x,rfl,fun v F2 H2 e2 w=>?_⟩
      obtain ⟨p,bs,rfl,tb,fr⟩:=w
      have e3:=e1.trans e2
      refine a _ H2 (zeo e3) p bs ⟨?_,tb.nd⟩ fun b hb=>⟨?_,e1.hh.free (fr b hb).2⟩
      · have ok:=tb.ok
        simp only [TrOk] at ok ⊢
        obtain ⟨a',vs,fs,g1,g2,g3,g4⟩:=ok
        exact ⟨a',vs,fs,g1,g2,g3,zhp e3 g4⟩
      · unfold minH
        split
        · rfl
        · exact (fr b hb).1
    | _=>simp only [q2] at a; exact a.elim
def zgJ (m:En→R D) (δ:En):R Tr:=(m δ).bind fun d=>match d with | .lst l=>.ok (.l (l.map .d)) | _=>.no
theorem zhN {t:TE} {m:En→R D} (h:SEo K XO E t m):SEt K XO E t (zgJ m):=by
  intro Λ F0 H0 F H σ δ Q I a
  refine h Λ F0 H0 F H σ δ _ I (a.bind.imp fun d F1 H1 e1 a1 p p0 p1 po=>?_)
  cases d with
  | lst l =>
    obtain ⟨vs,g1,g2⟩:=po
    refine a1 F1 H1 (.refl e1.fh) p [] ⟨?_,by simp⟩ fun b hb=>?_
    · simp only [TrOk]
      exact ⟨p,vs,[],rfl,rfl,g1,leaf_iff.mpr ⟨g2,rfl⟩⟩
    · rw [List.mem_singleton.mp hb]; exact ⟨p0,p1⟩
  | _=>exact a1.elim
def zhx (i:Nat) (mk me:En→R D) (δ:En):O:=match δ[i]? with
  | some (.p (.l ts))=>(mk δ).toO δ fun k=>(match k with
    | .int k=>(match ixN ts.length k with
      | some k'=>(match ts[k']? with
        | some (.l us)=>(me δ).toO δ fun d=>ifC (us.length < sizeLine) (.nx (δ.set i (.p (.l (ts.set k' (.l (us ++ [.d d]))))))) .no
        | _=>.no)
      | none=>.no)
    | _=>.no)
  | _=>.no
theorem zji {i:Nat} {tk te:TE} {mk me:En→R D} (h1:SE K XO E tk mk) (h:SE K XO E te me):SS K XO E (zhg (tBM K.f "list" zep (tOp (rIxL K.f) (tVar i) tk) (zb7 te tNil))) (zhx i mk me):=by
  intro Λ F0 H0 F H σ δ Dn I a
  unfold zhx at a
  split at a
  case h_2=>exact a.elim
  rename_i ts q
  obtain ⟨p,bs,tt⟩:=I.tabAt q
  refine ⟨_,tt.at',h1 Λ F0 H0 F H σ δ _ I ((AftS.of I a).imp fun k G1 K1 x1 c1 y ry=>?_)⟩
  split at c1
  case h_2=>exact c1.elim
  rename_i k
  simp only [Rep] at ry
  subst ry
  cases z:ixN ts.length k with
  | none=>rw [z] at c1; exact c1.elim
  | some k' =>
  rw [z] at c1
  dsimp only at c1
  split at c1
  case h_2=>exact c1.elim
  rename_i us zt
  have t1:=tt.grow x1
  obtain ⟨vs,v,f,g1,g2,g3,g4,_⟩:=t1.tab.edit zt
  have g4':=g4
  simp only [TrOk] at g4'
  obtain ⟨r,zs,fs,rfl,rfl,hr,_⟩:=g4'
  refine ⟨p,vs,k,.ref r,rfl,rfl,.inl (.inl g1),?_,.inl ⟨rfl,zs,.inl (.inl hr)⟩,?_⟩
  · unfold atI
    rw [g2,z]
    exact g3
  have I1:=I.grow x1
  refine h Λ F0 H0 G1 K1 σ δ _ I1 ((AftS.of I1 c1).imp fun d G2 K2 x2 c2 w rw'=>?_)
  unfold ifC at c2
  split at c2
  case isFalse=>exact c2.elim
  rename_i hl
  have t2:=t1.grow x2
  obtain ⟨vs2,v2,f2,k1,k2,k3,k4,k5,k6,k7⟩:=t2.tab.edit zt
  have e1:=x2.hh _ _ g1
  rw [e1] at k1
  cases k1
  rw [g3] at k3
  cases k3
  have k4':=k4
  simp only [TrOk] at k4'
  obtain ⟨r2,zs2,fs2,er,rfl,hr2,hL⟩:=k4'
  cases er
  have hr3:=x2.hh _ _ hr
  rw [hr2] at hr3
  have nr:r ∉ fs2:=(List.nodup_cons.mp k5).1
  obtain ⟨bs',tb',sb⟩:=k7 (upd K2 r (.lst (zs2 ++ [w]))) (.l (us ++ [.d d])) (r :: fs2) (fun x hx=>zag fun z=>hx (by rw [z]; simp)) (by
    simp only [TrOk]
    refine ⟨r,_,fs2,rfl,rfl,zam,?_⟩
    have:=TrOkL.append (TrOkL.at' (H':=upd K2 r (.lst (zs2 ++ [w]))) us hL fun b hb=>zag fun z=>nr (z ▸ hb)) (us:=[.d d]) (ws:=[w]) (f2:=[]) (by simp only [TrOkL,TrOk]; exact ⟨_,_,[],[],rfl,rfl,⟨rfl,rw'⟩,rfl,rfl⟩)
    rw [List.append_nil] at this
    exact this) (List.Sublist.refl _)
  exact ⟨r,zs2,w,rfl,rfl,hr2,by rw [hL.length]; exact hl,c2 σ G2 _ ((I1.grow x2).chgT (b:=r) (u:=.lst (zs2 ++ [w])) t2 (List.mem_cons_of_mem _ (k6 r (by simp))) tb' fun x hx=>sb.subset hx)⟩
def zhd (i:Nat) (mk:En→R D) (δ:En):O:=match δ[i]? with
  | some (.p (.l ts))=>(mk δ).toO δ fun k=>(match k with
    | .int k=>(match ixN ts.length k with
      | some k'=>(match ts[k']? with
        | some (.l _)=>.nx (δ.set i (.p (.l (ts.set k' (.l [])))))
        | _=>.no)
      | none=>.no)
    | _=>.no)
  | _=>.no
theorem zjB {i:Nat} {tk:TE} {mk:En→R D} (h1:SE K XO E tk mk):SS K XO E (zhg (tBM0 K.f "list" ziU (tOp (rIxL K.f) (tVar i) tk))) (zhd i mk):=by
  intro Λ F0 H0 F H σ δ Dn I a
  unfold zhd at a
  split at a
  case h_2=>exact a.elim
  rename_i ts q
  obtain ⟨p,bs,tt⟩:=I.tabAt q
  refine ⟨_,tt.at',h1 Λ F0 H0 F H σ δ _ I ((AftS.of I a).imp fun k G1 K1 x1 c1 y ry=>?_)⟩
  split at c1
  case h_2=>exact c1.elim
  rename_i k
  simp only [Rep] at ry
  subst ry
  cases z:ixN ts.length k with
  | none=>rw [z] at c1; exact c1.elim
  | some k' =>
  rw [z] at c1
  dsimp only at c1
  split at c1
  case h_2=>exact c1.elim
  rename_i us zt
  have t1:=tt.grow x1
  obtain ⟨vs,v,f,g1,g2,g3,g4,g5,g6,g7⟩:=t1.tab.edit zt
  have g4':=g4
  simp only [TrOk] at g4'
  obtain ⟨r,zs,fs,rfl,rfl,hr,_⟩:=g4'
  obtain ⟨bs',tb',sb⟩:=g7 (upd K1 r (.lst [])) (.l []) [r] (fun x hx=>zag fun z=>hx (by rw [z]; simp)) zh4 (List.Sublist.cons₂ r (List.nil_sublist _))
  refine ⟨p,vs,k,.ref r,rfl,rfl,.inl (.inl g1),?_,.inl ⟨rfl,zs,.inl (.inl hr)⟩,r,zs,rfl,rfl,hr,c1 σ G1 _ ((I.grow x1).chgT (b:=r) (u:=.lst []) t1 (List.mem_cons_of_mem _ (g6 r (by simp))) tb' fun x hx=>sb.subset hx)⟩
  unfold atI
  rw [g2,z]
  exact g3
theorem zgM {k:Nat} {c:Int}:RowB K (zhg (tBM K.f "list" zep (tVar k) (zb7 (tC (.int c)) tNil))) k (fun l=>l ++ [.int c]) (fun l=>decide (l.length < 1000)):=by
  intro Dn σ F H r zs l hk hr rl hl q
  have hl':l.length < 1000:=of_decide_eq_true hl
  exact ⟨_,hk,.inl ⟨rfl,zs,.inl (.inl hr)⟩,r,zs,_,rfl,rfl,hr,by rw [rl.length]; simp [sizeLine]; omega,q _ (rl.append (.cons (by simp only [Rep]) .nil))⟩
end
end PM
namespace My
open PySem L2 PM
def zbs:En→O:=(mSeq (mIfS (zas (m2 oLt (mRd 1) (mCB fLen (zaa (mRd 0) mNil))))
  (mRet (m2 oIxL (mRd 0) (mRd 1)))
  zaO)
  (mRet (mC (.int 0))))
def zaE:List D→R D:=runF 2 0 zbs
def zch:En→O:=(mRet (m2 oMod (m2 oMul (m2 oAdd (m2 oAdd (m2 oMod (mRd 0) (m2 oPow (mC (.int 10)) (mC (.int 20)))) (m2 oMul (mRd 1) (mRd 1))) (mC (.int 3))) (m2 oAdd (mC (.int 39373)) (m2 oMul (mC (.int 2)) (mRd 1)))) (mC (.int 2147483647))))
def zaK:List D→R D:=runF 2 0 zch
def za8:En→O:=(mSeq (mAsg (m2 oMod (mRd 1) (mC (.int 5))) (zav 2))
  (mSeq (mAsg (m2 oDiv (mRd 1) (mC (.int 5))) (zav 3))
  (mSeq (mIfS (zas (m2 oEq (mRd 2) (mC (.int 0))))
  (mRet (m2 oMod (mRd 3) (mC (.int 4))))
  zaO)
  (mSeq (mIfS (zas (m2 oEq (mRd 2) (mC (.int 1))))
  (mRet (m2 oMod (mRd 0) (m2 oAdd (m2 oPow (mC (.int 10)) (mC (.int 18))) (mC (.int 1)))))
  zaO)
  (mSeq (mIfS (zas (m2 oEq (mRd 2) (mC (.int 2))))
  (mRet (m2 oSub (m2 oPow (mC (.int 10)) (mC (.int 18))) (m2 oMod (mRd 3) (mC (.int 3)))))
  zaO)
  (mRet (m2 oMod (mRd 3) (mC (.int 30)))))))))
def zaH:List D→R D:=runF 2 2 za8
def zcP:En→R D:=zex (mRng (zaa (mVar 2) mNil)) [0,1] 1 (za5 2) none (zao zaH (zaa (zao zaE (zaa (mVar 0) (zaa (m2 oAdd (mC (.int 2)) (m2 oMod (mRd 2) (mC (.int 60)))) mNil))) (zaa (m2 oDiv (zao zaK (zaa (m2 oDiv (mRd 1) (mC (.int 7))) (zaa (mVar 2) mNil))) (mC (.int 16))) mNil)))
def zc7:En→O:=(mSeq (mAsg (zao zaE (zaa (mVar 0) (zaa (mC (.int 0)) mNil))) (zav 1))
  (mSeq (mAsg (m2 oAdd (mC (.int 2)) (m2 oMod (mRd 1) (mC (.int 9)))) (zav 2))
  (mSeq (mIfS (zas (m2 oEq (m2 oMod (m2 oDiv (mRd 1) (mC (.int 9))) (mC (.int 8))) (mC (.int 1))))
  (mAsg (m2 oAdd (mC (.int 2)) (m2 oMod (m2 oDiv (mRd 1) (mC (.int 72))) (mC (.int 39)))) (zav 2))
  zaO)
  (zeA zcP))))
def za6:List D→R D:=runO 1 2 zc7
def zbX:En→O:=(mSeq (mAsg (zao zaK (zaa (mVar 4) (zaa (mVar 3) mNil))) (zav 5))
  (mSeq (mAsg (m2 oMod (m2 oDiv (mRd 5) (mC (.int 8))) (mRd 1)) (zav 6))
  (mSeq (mAsg (m2 oMod (m2 oAdd (m2 oAdd (mRd 6) (mC (.int 1))) (m2 oMod (m2 oDiv (mRd 5) (mC (.int 512))) (m2 oSub (mRd 1) (mC (.int 1))))) (mRd 1)) (zav 7))
  (mSeq (mIfS (mAnd (zas (m2 oEq (m2 oMod (mRd 5) (mC (.int 8))) (mC (.int 1)))) (zas (m2 oGt (mCB fLen (zaa (mRd 2) mNil)) (mC (.int 0)))))
  (mAsg (m2 oIxL (mRd 2) (m2 oMod (m2 oDiv (mRd 5) (mC (.int 8))) (mCB fLen (zaa (mRd 2) mNil)))) (bTup 2 (zaR (zav 6) (zaR (zav 7) bNil))))
  zaO)
  (zbk 2 (mTup (zaa (mVar 6) (zaa (mVar 7) mNil))))))))
def zc8:En→O:=mFor (zcS (zaa (mVar 0) mNil)) (bTup 2 (zaR (zav 3) (zaR (zav 4) bNil))) zbX
def zds:En→O:=(mSeq (mAsg (mLst mNil) (bNew 2))
  (mSeq zc8
  (zjo 2)))
def zbg:List D→R D:=runO 2 6 zds
def zcW:En→O:=(mSeq (mAsg (mCB zeS (zaa (m2 oIxL (mRd 2) (mRd 4)) (zaa (m2 oIxL (mRd 2) (mRd 5)) mNil))) (zav 6))
  (mSeq (zgr (fun i j=>i - j) 2 (mVar 4) (mVar 6))
  (mSeq (zgr (fun i j=>i - j) 2 (mVar 5) (mVar 6))
  (zbk 3 (mVar 6)))))
def ze4:En→O:=mFor (mItL (mVar 1)) (bTup 2 (zaR (zav 4) (zaR (zav 5) bNil))) zcW
def zgd:En→R (List Int × List Int):=(zdx (mAsg (mCB zdb (zaa (mRd 0) mNil)) (bNew 2))
  (zdx (mAsg (mLst mNil) (bNew 3))
  (zdx ze4
  (mTwo 3 2))))
def zbF:List D→R (List Int × List Int):=runG 2 5 zgd
def zcA:En→O:=(zeA (zfM Prod.fst zbF (zaa (mVar 0) (zaa (mVar 1) mNil))))
def zax:List D→R D:=runO 2 0 zcA
def zby:En→O:=(mIfS (mOr (mNot (zas (m1 (oIsi "int") (mRd 2)))) (mOr (zas (m1 (oIsi "bool") (mRd 2))) (zas (m2 oNe (mRd 2) (mRd 3)))))
  (mRet (mC (.bl false)))
  zaO)
def zcq:En→O:=mFor (mZip (zaa (mVar 0) (zaa (mVar 1) mNil))) (bTup 2 (zaR (zav 2) (zaR (zav 3) bNil))) zby
def zcB:En→O:=(mSeq (mIfS (mOr (mNot (zas (m1 (oIsi "list") (mRd 0)))) (zas (m2 oNe (mCB fLen (zaa (mRd 0) mNil)) (mCB fLen (zaa (mRd 1) mNil)))))
  (mRet (mC (.bl false)))
  zaO)
  (mSeq zcq
  (mRet (mC (.bl true)))))
def zah:List D→R D:=runF 2 2 zcB
def zcg:En→O:=(mSeq (zgP 3 (mVar 4) (mC (.bl true)))
  (zgP 3 (mVar 5) (mC (.bl true))))
def zdn:En→O:=mFor (mItL (mVar 1)) (bTup 2 (zaR (zav 4) (zaR (zav 5) bNil))) zcg
def zdC:En→R D:=zex (mRng (zaa (mCB fLen (zaa (mRd 0) mNil)) mNil)) [3,2] 1 (za5 2) (some (mAnd (zas (m2 dIn (mVar 2) (mRd 0))) (zas (m2 oEq (m2 oIxL (mRd 1) (mRd 2)) (mC (.int 0)))))) (mVar 2)
def zd3:En→O:=(mSeq (mAsg (zfM Prod.snd zbF (zaa (mVar 0) (zaa (mVar 1) mNil))) (zav 2))
  (mSeq (mAsg (mC (.dct [] [])) (bNew 3))
  (mSeq zdn
  (zeA zdC))))
def zaV:List D→R D:=runO 2 4 zd3
def zdH:En→O:=(zhx 2 (mVar 5) (mVar 3))
def zd2:En→O:=mFor (mItT (mVar 4)) (zav 5) zdH
def zcv:En→O:=zd2
def zdY:En→O:=mFor (zcS (zaa (mVar 1) mNil)) (bTup 2 (zaR (zav 3) (zaR (zav 4) bNil))) zcv
def zcn:En→R (List (List Int)):=zhX (mItL (mRd 0)) [] 1 (za5 0) (mLst mNil)
def zfh:En→R (List (Int × List Int)):=(zdx (zib zcn 2)
  (zdx zdY
  (mPrs (zcS (zaa (mRd 0) mNil)) 2)))
def zbN:List D→R (List (Int × List Int)):=runG 2 4 zfh
def zct:En→R D:=zex (zcS (zaa (mRd 2) mNil)) [3] 2 (bTup 2 (zaR (za5 1) (zaR (za5 2) bNil))) (some (mOr (zas (m2 oEq (m2 oIxT (mRd 2) (mC (.int 0))) (mRd 0))) (zas (m2 oEq (m2 oIxT (mRd 2) (mC (.int 1))) (mRd 0))))) (mVar 1)
def zb9:En→O:=(mSeq (mIfS (mOr (mNot (zas (m1 (oIsi "tuple") (mRd 4)))) (mOr (zas (m2 oNe (mCB fLen (zaa (mRd 4) mNil)) (mC (.int 2)))) (mNot (zas (zao zah (zaa (mLst (zaa (m2 oIxT (mRd 4) (mC (.int 0))) mNil)) (zaa (mLst (zaa (m2 oIxL (mRd 1) (mRd 3)) mNil)) mNil)))))))
  (mRet (mC (.bl false)))
  zaO)
  (mSeq (mAsg zct (zav 5))
  (mIfS (mNot (zas (zao zah (zaa (m2 oIxT (mRd 4) (mC (.int 1))) (zaa (mVar 5) mNil)))))
  (mRet (mC (.bl false)))
  zaO)))
def zdK:En→O:=mFor (zcS (zaa (mVar 0) mNil)) (bTup 2 (zaR (zav 3) (zaR (zav 4) bNil))) zb9
def zdZ:En→O:=(mSeq (mIfS (mOr (mNot (zas (m1 (oIsi "list") (mRd 0)))) (zas (m2 oNe (mCB fLen (zaa (mRd 0) mNil)) (mCB fLen (zaa (mRd 1) mNil)))))
  (mRet (mC (.bl false)))
  zaO)
  (mSeq zdK
  (mRet (mC (.bl true)))))
def zaW:List D→R D:=runF 3 3 zdZ
def zfL:En→O:=(mSeq (zbk 4 (mCB zeS (zaa (m2 oIxL (mRd 3) (mRd 5)) (zaa (m2 oIxL (mRd 3) (mRd 6)) mNil))))
  (mSeq (zgE 3 (mVar 5) (m2 oSub (m2 oIxL (mRd 3) (mRd 5)) (m2 oIxL (mRd 4) (m1 oNeg (mC (.int 1))))))
  (zgE 3 (mVar 6) (m2 oSub (m2 oIxL (mRd 3) (mRd 6)) (m2 oIxL (mRd 4) (m1 oNeg (mC (.int 1))))))))
def zhj:En→O:=mFor (mItL (mVar 2)) (bTup 2 (zaR (zav 5) (zaR (zav 6) bNil))) zfL
def ziV:En→R D:=zex (mItL (mRd 1)) [2] 1 (za5 1) (some (zas (m2 oIn (mRd 0) (mRd 1)))) (mVar 1)
def ziL:En→R D:=zex (mRng (zaa (mCB fLen (zaa (mRd 1) mNil)) mNil)) [3,2] 1 (za5 2) (some (mAnd (zas (m2 oEq (m2 oIxL (mRd 0) (mRd 2)) (mC (.int 0)))) (zas (m2 oGt (mCB fLen (zaa ziV mNil)) (mC (.int 0)))))) (mVar 2)
def zgm:En→R D:=zex (mItL (mRd 10)) [] 2 (bTup 2 (zaR (za5 0) (zaR (za5 1) bNil))) none (mTup (zaa (mVar 0) (zaa (mSl (mRd 1) mNoP (zdc (m1 oNeg (mC (.int 1))))) mNil)))
def zjR:En→O:=(mSeq (mAsg (zao za6 (zaa (mVar 0) mNil)) (zav 1))
  (mSeq (mAsg (zao zbg (zaa (mSl (mRd 0) (zdc (mC (.int 2))) (zdc (mC (.int 62)))) (zaa (mCB fLen (zaa (mRd 1) mNil)) mNil))) (zav 2))
  (mSeq (mAsg (mCB zdb (zaa (mRd 1) mNil)) (bNew 3))
  (mSeq (mAsg (mLst mNil) (bNew 4))
  (mSeq zhj
  (mSeq (mAsg ziL (zav 7))
  (mSeq (zdD (mTr2 (zgJ (mCB zdb (zaa (mRd 1) mNil))) (zgJ (mCB zdb (zaa (mRd 2) mNil)))) 8)
  (mSeq (mAsg (zd4 (zao zax (zaa (m2 oIxL (mRd 8) (mC (.int 0))) (zaa (m2 oIxL (mRd 8) (mC (.int 1))) mNil)))) (bNew 9))
  (mSeq (mIfS (mOr (mNot (zas (zdz zah (zaa (mRd 9) (zaa (mRd 4) mNil))))) (mNot (zas (zco (zao zah (zaa (zao zaV (zaa (m2 oIxL (mRd 8) (mC (.int 0))) (zaa (m2 oIxL (mRd 8) (mC (.int 1))) mNil))) (zaa (mVar 7) mNil)))))))
  (mRet (mC (.bl false)))
  zaO)
  (mSeq (zdD (zdL zbN (zaa (m2 oIxL (mRd 8) (mC (.int 0))) (zaa (m2 oIxL (mRd 8) (mC (.int 1))) mNil))) 10)
  (mSeq (mIfS (mOr (mNot (zas (zco (zao zaW (zaa (mVar 10) (zaa (mVar 1) (zaa (mVar 2) mNil))))))) (zas (zco (m2 oNeD (mRd 8) (mLst (zaa (mVar 1) (zaa (mVar 2) mNil)))))))
  (mRet (mC (.bl false)))
  zaO)
  (mSeq (zh2 10 11 12 (fun l=>l ++ [.int 0]) (fun l=>decide (l.length < 1000)))
  (mSeq (mIfS (mNot (zas (zco (zao zaW (zaa zgm (zaa (mVar 1) (zaa (mVar 2) mNil)))))))
  (mRet (mC (.bl false)))
  zaO)
  (mSeq (mIfS (mOr (mNot (zas (zao zah (zaa (zao zax (zaa (mLst (zaa (mC (.int 3)) (zaa (mC (.int 2)) mNil))) (zaa (mLst (zaa (mTup (zaa (mC (.int 0)) (zaa (mC (.int 1)) mNil))) (zaa (mTup (zaa (mC (.int 1)) (zaa (mC (.int 0)) mNil))) mNil))) mNil))) (zaa (mLst (zaa (mC (.int 2)) (zaa (mC (.int 0)) mNil))) mNil))))) (zas (m2 oNeD (mRd 9) (mRd 4))))
  (mRet (mC (.bl false)))
  zaO)
  (mSeq (zhd 8 (mC (.int 1)))
  (mSeq (zbk 9 (mC (.int 1)))
  (mRet (zh9 (zao zah (zaa (zao zaV (zaa (mVar 1) (zaa (mLst mNil) mNil))) (zaa (mLst mNil) mNil))) (zdz zah (zaa (zao zax (zaa (mVar 1) (zaa (mVar 2) mNil))) (zaa (mRd 4) mNil)))))))))))))))))))))
def zj5:List D→R D:=runF 1 12 zjR
end My
namespace My
open PySem L2 PM
abbrev Ln:=Int × Int
def encN (l:Ln):D:=.tup [.int l.1,.int l.2]
def zad (l:List Ln):D:=.lst (l.map encN)
def upt (n:Nat):List Int:=(List.range n).map fun (k:Nat)=>(k:Int)
theorem mem_upt {n:Nat} {t:Int}:t ∈ upt n ↔ 0 ≤ t∧t < (n:Int):=by
  unfold upt
  rw [List.mem_map]
  constructor
  · rintro ⟨a,h,rfl⟩
    have:=List.mem_range.mp h
    omega
  · rintro ⟨h0,h1⟩
    exact ⟨t.toNat,List.mem_range.mpr (by omega),by omega⟩
theorem zcU {n:Nat}:(upt n).length=n:=by simp [upt]
theorem rngT {n:Nat} (h:n ≤ 1000):rng [.int (n:Int)]=some ((upt n).map .int):=by
  rw [rng1 (by omega) (by omega),Int.toNat_natCast,zjt,upt,List.map_map]; rfl
def gA (L:List Int) (i:Int):Int:=L.getD i.toNat 0
theorem zdI {L:List Int} {i:Int} {x:Int} (h:i.toNat < L.length):gA (L.set i.toNat x) i=x:=by simp [gA,List.getD_eq_getElem?_getD,h]
theorem zb8 {L:List Int} {i j:Int} {x:Int} (h:i.toNat ≠ j.toNat):gA (L.set i.toNat x) j=gA L j:=by simp [gA,List.getD_eq_getElem?_getD,List.getElem?_set_ne h]
theorem zgn {L:List Int} {i:Int} (h:i.toNat < L.length):L[i.toNat]?=some (gA L i):=by simp [gA,List.getD_eq_getElem?_getD,h]
def pay1 (L:List Int) (l:Ln):Int:=if gA L l.2 < gA L l.1 then gA L l.2 else gA L l.1
def low1 (L:List Int) (l:Ln):List Int:=(L.set l.1.toNat (gA L l.1 - pay1 L l)).set l.2.toNat (gA L l.2 - pay1 L l)
def stp (s:List Int × List Int) (l:Ln):List Int × List Int:=(low1 s.1 l,s.2 ++ [pay1 s.1 l])
def runY (ps:List Int) (ls:List Ln):List Int × List Int:=ls.foldl stp (ps,[])
theorem zfR (ps:List Int) (ls:List Ln) (l:Ln):runY ps (ls ++ [l])=stp (runY ps ls) l:=by simp [runY]
def atP (p:Int) (z:List (Int × Ln)):Int:=(z.map fun x=>if p=x.2.1∨p=x.2.2 then x.1 else 0).sum
structure LnOk (n:Nat) (l:Ln):Prop where
  a0:0 ≤ l.1
  a1:l.1 < n
  b0:0 ≤ l.2
  b1:l.2 < n
  ne:l.1 ≠ l.2
structure PInv (ps:List Int) (pre:List Ln) (s:List Int × List Int):Prop where
  len:s.1.length=ps.length
  plen:s.2.length=pre.length
  nn:∀ i:Int,0 ≤ i→i < ps.length→0 ≤ gA s.1 i∧gA s.1 i ≤ gA ps i
  pnn:∀ x ∈ s.2,0 ≤ x
  left:∀ i:Int,0 ≤ i→i < ps.length→gA s.1 i + atP i (s.2.zip pre)=gA ps i
  done:∀ l ∈ pre,gA s.1 l.1=0∨gA s.1 l.2=0
  ok:∀ l ∈ pre,LnOk ps.length l
theorem zi2 (p:Int) (z y:List (Int × Ln)):atP p (z ++ y)=atP p z + atP p y:=by simp [atP,List.sum_append]
theorem zhe {ps:List Int} {pre:List Ln} {s:List Int × List Int} {l:Ln} (I:PInv ps pre s) (h:LnOk ps.length l):PInv ps (pre ++ [l]) (stp s l):=by
  have hok:=h
  obtain ⟨L,P⟩:=s
  obtain ⟨a,b⟩:=l
  obtain ⟨a0,a1,b0,b1,ne⟩:=h
  have il:=I.len
  dsimp only at a0 a1 b0 b1 ne il
  have ha:a.toNat < L.length:=by omega
  have hb:b.toNat < L.length:=by omega
  have nab:a.toNat ≠ b.toNat:=by omega
  obtain ⟨p,ep⟩:∃ p,p=pay1 L (a,b):=⟨_,rfl⟩
  have na:=I.nn a a0 a1
  have nb:=I.nn b b0 b1
  dsimp only at na nb
  have hp:p=gA L a∧gA L a ≤ gA L b∨p=gA L b∧gA L b ≤ gA L a:=by
    rw [ep]; unfold pay1; dsimp only; split <;> omega
  have ga:gA (low1 L (a,b)) a=gA L a - p:=by
    unfold low1; dsimp only; rw [zb8 (Ne.symm nab),zdI ha,ep]
  have gb:gA (low1 L (a,b)) b=gA L b - p:=by
    unfold low1; dsimp only; rw [zdI (by simpa using hb),ep]
  have gn:∀ i:Int,0 ≤ i→i ≠ a→i ≠ b→gA (low1 L (a,b)) i=gA L i:=fun i h0 h1 h2=>by
    unfold low1; dsimp only; rw [zb8 (by omega),zb8 (by omega)]
  have low:∀ i:Int,0 ≤ i→i < ps.length→0 ≤ gA (low1 L (a,b)) i∧gA (low1 L (a,b)) i ≤ gA L i:=fun i h0 h1=>by
    have ni:=I.nn i h0 h1
    dsimp only at ni
    by_cases e1:i=a
    · subst e1; rw [ga]; omega
    · by_cases e2:i=b
      · subst e2; rw [gb]; omega
      · rw [gn i h0 e1 e2]; omega
  refine ⟨by simp [stp,low1,il],by simp [stp,I.plen],fun i h0 h1=>?_,fun x hx=>?_,fun i h0 h1=>?_,fun l hl=>?_,fun l hl=>(List.mem_append.mp hl).elim (I.ok l) fun h=>by rw [List.mem_singleton.mp h]; exact hok⟩
  · have:=low i h0 h1
    have:=(I.nn i h0 h1).2
    show 0 ≤ gA (low1 L (a,b)) i∧gA (low1 L (a,b)) i ≤ _
    dsimp only at this
    omega
  · rcases List.mem_append.mp hx with h | h
    · exact I.pnn x h
    · rw [List.mem_singleton.mp h]; show 0 ≤ pay1 L (a,b); rw [← ep]; omega
  · have t:gA L i + atP i (P.zip pre)=gA ps i:=I.left i h0 h1
    show gA (low1 L (a,b)) i + atP i ((P ++ [pay1 L (a,b)]).zip (pre ++ [(a,b)]))=_
    have pl:P.length=pre.length:=I.plen
    rw [List.zip_append pl,zi2,← ep]
    have e:atP i ([p].zip [(a,b)])=if i=a∨i=b then p else 0:=by simp [atP]
    rw [e]
    by_cases e1:i=a
    · subst e1; rw [ga,if_pos (.inl rfl)]; omega
    · by_cases e2:i=b
      · subst e2; rw [gb,if_pos (.inr rfl)]; omega
      · rw [gn i h0 e1 e2,if_neg (by omega)]; omega
  · show gA (low1 L (a,b)) l.1=0∨gA (low1 L (a,b)) l.2=0
    rcases List.mem_append.mp hl with h | h
    · have dn:=I.done l h
      dsimp only at dn
      have k:=I.ok l h
      have l1:=low l.1 k.a0 k.a1
      have l2:=low l.2 k.b0 k.b1
      omega
    · rw [List.mem_singleton.mp h]
      show gA (low1 L (a,b)) a=0∨gA (low1 L (a,b)) b=0
      rw [ga,gb]; omega
theorem zdi {ps:List Int} (hps:∀ i:Int,0 ≤ i→i < ps.length→0 ≤ gA ps i):∀ (ls:List Ln),(∀ l ∈ ls,LnOk ps.length l)→PInv ps ls (runY ps ls):=by
  have key:∀ (ls pre:List Ln) (s:List Int × List Int),PInv ps pre s→(∀ l ∈ ls,LnOk ps.length l)→PInv ps (pre ++ ls) (ls.foldl stp s):=by
    intro ls
    induction ls with
    | nil=>intro pre s I _; simpa using I
    | cons l ls ih =>
      intro pre s I h
      have:=ih (pre ++ [l]) (stp s l) (zhe I (h l (by simp))) fun x hx=>h x (by simp [hx])
      simpa using this
  intro ls h
  have:=key ls [] (ps,[]) ⟨rfl,rfl,fun i h0 h1=>⟨hps i h0 h1,Int.le_refl _⟩,fun x hx=>(by cases hx),fun i h0 h1=>(by simp [atP]),fun l hl=>(by cases hl),fun l hl=>(by cases hl)⟩ h
  simpa [runY] using this
theorem zhO {α:Type} {f:D→R (Option D)} (enc:α→D) (p:α→Bool) (g:α→D) (l:List α) (h:∀ x ∈ l,f (enc x) = .ok (if p x=true then some (g x) else none)):zbn f (l.map enc) = .ok ((l.filter p).map g):=by
  induction l with
  | nil=>rfl
  | cons a l ih =>
    have h1:=h a (by simp)
    have h2:=ih fun x hx=>h x (by simp [hx])
    rw [List.map_cons,zbn,h1,R.bind_ok,h2,R.bind_ok]
    by_cases e:p a=true
    · simp [e]
    · simp [e]
end My
namespace My
open PySem L2 PM
theorem zbW {L:List Int} {k:Int} (h0:0 ≤ k) (h1:k.toNat < L.length):oIxL (iL L) (.int k)=some (.int (gA L k)) :=
  ziN h0 (by simp [zgn h1])
theorem zf9 {f:Int→Int→Int} {i:Nat} {mi me:En→R D} {δ:En} {L:List Int} {k y:Int} (h:δ[i]?=some (.o (iL L))) (hk:mi δ = .ok (.int k)) (h0:0 ≤ k) (h1:k.toNat < L.length) (hy:me δ = .ok (.int y)) :
    zgr f i mi me δ = .nx (δ.set i (.o (iL (L.set k.toNat (f (gA L k) y))))):=by
  have e1:ixN (L.map D.int).length k=some k.toNat:=by unfold ixN; rw [if_pos h0,if_pos (by rw [List.length_map]; omega)]
  have e2:(L.map D.int)[k.toNat]?=some (.int (gA L k)):=by simp [zgn h1]
  unfold zgr
  rw [h]
  simp only [iL,hk,R.toO_ok,e1,e2,hy]
  rw [← List.map_set]
theorem zcX {i:Nat} {me:En→R D} {δ:En} {L:List Int} {y:Int} (h:δ[i]?=some (.o (iL L))) (hy:me δ = .ok (.int y)) (hl:L.length ≤ 100000):zbk i me δ = .nx (δ.set i (.o (iL (L ++ [y])))):=by
  unfold zbk
  rw [h]
  simp only [iL,hy,R.toO_ok]
  rw [za0 (by rw [List.length_map]; exact Nat.lt_of_le_of_lt hl (by decide))]
  simp
theorem zcE {α:Type} {m:En→O} {n:En→R α} {δ δ':En} (h:m δ = .nx δ'):zdx m n δ=n δ':=by unfold zdx; rw [h]
theorem zhZ {α:Type} {np nv:Nat} {m:En→R α} {ds:List D} {x:α} (h:m (zbi nv ds) = .ok x) (hl:ds.length=np:=by rfl):runG np nv m ds = .ok x:=by unfold runG; rw [if_pos hl,h]
theorem ze8 {ps:List Int} {ls:List Ln} (hps:∀ i:Int,0 ≤ i→i < ps.length→0 ≤ gA ps i) (hl:∀ l ∈ ls,LnOk ps.length l) (hn:ls.length ≤ 100):zbF [iL ps,zad ls] = .ok ((runY ps ls).2,(runY ps ls).1):=by
  obtain ⟨δ,h1,o4,o5,o6,rfl⟩:=zbS (b:=bTup 2 (zaR (zav 4) (zaR (zav 5) bNil))) (m:=zcW) encN (fun pre δ=>∃ o4 o5 o6,δ = [.v (iL ps),.v (zad ls),.o (iL (runY ps pre).1),.o (iL (runY ps pre).2),sv o4,sv o5,sv o6]) ls
    (by
      rintro pre l post δ hall ⟨o4,o5,o6,rfl⟩
      have ok:=hl l (by rw [hall]; simp)
      have I:=zdi hps pre (fun x hx=>hl x (by rw [hall]; simp [hx]))
      obtain ⟨L,P,e⟩:∃ L P,runY ps pre=(L,P):=⟨_,_,rfl⟩
      rw [e] at I
      rw [e]
      dsimp only
      have il:L.length=ps.length:=I.len
      have pl:P.length=pre.length:=I.plen
      have pn:pre.length ≤ 100:=by rw [hall] at hn; simp at hn; omega
      obtain ⟨a,b⟩:=l
      obtain ⟨a0,a1,b0,b1,ne⟩:=ok
      dsimp only at a0 a1 b0 b1 ne
      refine ⟨[.v (iL ps),.v (zad ls),.o (iL L),.o (iL P),.v (.int a),.v (.int b),sv o6],[.v (iL ps),.v (zad ls),.o (iL (low1 L (a,b))),.o (iL (P ++ [pay1 L (a,b)])),.v (.int a),.v (.int b),.v (.int (pay1 L (a,b)))],?_,.inl ?_,some _,some _,some _,by rw [zfR,e]; rfl⟩
      · rcases o4 with _ | o4 <;> rcases o5 with _ | o5 <;> rfl
      · have ha:a.toNat < L.length:=by omega
        have hb:b.toNat < L.length:=by omega
        have q1:mAsg (mCB zeS (zaa (m2 oIxL (mRd 2) (mRd 4)) (zaa (m2 oIxL (mRd 2) (mRd 5)) mNil))) (zav 6) [.v (iL ps),.v (zad ls),.o (iL L),.o (iL P),.v (.int a),.v (.int b),sv o6] = .nx [.v (iL ps),.v (zad ls),.o (iL L),.o (iL P),.v (.int a),.v (.int b),.v (.int (pay1 L (a,b)))]:=by
          refine zaQ (d:=.int (pay1 L (a,b))) ?_ (by rcases o6 with _ | o6 <;> rfl)
          simp [mCB,zaa,mNil,mRd,zbW a0 ha,zbW b0 hb,zeS,pay1]
        have q2:=zf9 (f:=fun i j=>i - j) (i:=2) (mi:=mVar 4) (me:=mVar 6) (δ:=[.v (iL ps),.v (zad ls),.o (iL L),.o (iL P),.v (.int a),.v (.int b),.v (.int (pay1 L (a,b)))]) rfl rfl a0 ha rfl
        have q3:=zf9 (f:=fun i j=>i - j) (i:=2) (mi:=mVar 5) (me:=mVar 6) (δ:=[.v (iL ps),.v (zad ls),.o (iL (L.set a.toNat (gA L a - pay1 L (a,b)))),.o (iL P),.v (.int a),.v (.int b),.v (.int (pay1 L (a,b)))]) rfl rfl b0 (by simpa using hb) rfl
        rw [zb8 (by omega)] at q3
        have q4:=zcX (i:=3) (me:=mVar 6) (δ:=[.v (iL ps),.v (zad ls),.o (iL (low1 L (a,b))),.o (iL P),.v (.int a),.v (.int b),.v (.int (pay1 L (a,b)))]) rfl rfl (by omega)
        unfold zcW
        exact (zap q1).trans ((zap q2).trans ((zap q3).trans q4)))
    [.v (iL ps),.v (zad ls),.o (iL ps),.o (iL []),.no,.no,.no] ⟨none,none,none,rfl⟩
  refine zhZ ?_
  show zdx _ _ [.v (iL ps),.v (zad ls),.no,.no,.no,.no,.no]=_
  have q1:mAsg (mCB zdb (zaa (mRd 0) mNil)) (bNew 2) [.v (iL ps),.v (zad ls),.no,.no,.no,.no,.no] = .nx [.v (iL ps),.v (zad ls),.o (iL ps),.no,.no,.no,.no]:=zaQ (d:=iL ps) rfl rfl
  have q2:mAsg (mLst mNil) (bNew 3) [.v (iL ps),.v (zad ls),.o (iL ps),.no,.no,.no,.no] = .nx [.v (iL ps),.v (zad ls),.o (iL ps),.o (iL []),.no,.no,.no]:=zaQ (d:=iL []) (by simp [mLst,mNil,iL,sizeLine]) rfl
  have q3:ze4 [.v (iL ps),.v (zad ls),.o (iL ps),.o (iL []),.no,.no,.no] = .nx [.v (iL ps),.v (zad ls),.o (iL (runY ps ls).1),.o (iL (runY ps ls).2),sv o4,sv o5,sv o6]:=(zcf (by simp [mItL,mVar,zad])).trans h1
  refine (zcE q1).trans ((zcE q2).trans ((zcE q3).trans ?_))
  simp [mTwo,zjp,asIl,iL,zh5]
def insE (E:List Int) (a:Int):List Int:=if a ∈ E then E else E ++ [a]
def za7 (ls:List Ln):List Int:=ls.foldl (fun E l=>insE (insE E l.1) l.2) []
theorem zgj {E:List Int} {a x:Int}:x ∈ insE E a ↔ x ∈ E∨x=a:=by
  unfold insE; split
  · exact ⟨.inl,fun h=>h.elim id fun e=>by rw [e]; assumption⟩
  · simp
theorem zgs (ls:List Ln) (l:Ln):za7 (ls ++ [l])=insE (insE (za7 ls) l.1) l.2:=by simp [za7]
theorem zek {E:List Int} {a:Int}:(insE E a).length ≤ E.length + 1:=by unfold insE; split <;> simp
theorem zgK (ls:List Ln):(za7 ls).length ≤ 2 * ls.length:=by
  have key:∀ (ls:List Ln) (E:List Int),(ls.foldl (fun E l=>insE (insE E l.1) l.2) E).length ≤ E.length + 2 * ls.length:=by
    intro ls
    induction ls with
    | nil=>intro E; simp
    | cons l ls ih =>
      intro E
      have h1:=ih (insE (insE E l.1) l.2)
      have h2:=zek (E:=E) (a:=l.1)
      have h3:=zek (E:=insE E l.1) (a:=l.2)
      simp only [List.foldl_cons,List.length_cons]; omega
  have:=key ls []
  simpa [za7] using this
theorem zgu {ls:List Ln} {x:Int}:x ∈ za7 ls ↔ ∃ l ∈ ls,x=l.1∨x=l.2:=by
  have key:∀ (ls:List Ln) (E:List Int),x ∈ ls.foldl (fun E l=>insE (insE E l.1) l.2) E ↔ x ∈ E∨∃ l ∈ ls,x=l.1∨x=l.2:=by
    intro ls
    induction ls with
    | nil=>intro E; simp
    | cons l ls ih =>
      intro E
      rw [List.foldl_cons,ih,zgj,zgj]
      simp only [List.mem_cons,exists_eq_or_imp]
      constructor
      · rintro (((h | h) | h) | h)
        · exact .inl h
        · exact .inr (.inl (.inl h))
        · exact .inr (.inl (.inr h))
        · exact .inr (.inr h)
      · rintro (h | (h | h) | h)
        · exact .inl (.inl (.inl h))
        · exact .inl (.inl (.inr h))
        · exact .inl (.inr h)
        · exact .inr h
  have:=key ls []
  simpa [za7] using this
def tch (ps:List Int) (ls:List Ln):List Int:=(upt ps.length).filter fun p=>decide (p ∈ za7 ls∧gA (runY ps ls).1 p=0)
theorem zdy {ps:List Int} {ls:List Ln} (hps:∀ i:Int,0 ≤ i→i < ps.length→0 ≤ gA ps i) (hl:∀ l ∈ ls,LnOk ps.length l) (hn:ls.length ≤ 100) (hm:ps.length ≤ 100):zaV [iL ps,zad ls] = .ok (iL (tch ps ls)):=by
  have I:=zdi hps ls hl
  obtain ⟨L,eL⟩:∃ L,L=(runY ps ls).1:=⟨_,rfl⟩
  have il:L.length=ps.length:=by rw [eL]; exact I.len
  obtain ⟨δ,h1,o4,o5,rfl⟩:=zbS (b:=bTup 2 (zaR (zav 4) (zaR (zav 5) bNil))) (m:=zcg) encN (fun pre δ=>∃ o4 o5,δ = [.v (iL ps),.v (zad ls),.v (iL L),.o (dk (za7 pre)),sv o4,sv o5]) ls
    (by
      rintro pre l post δ hall ⟨o4,o5,rfl⟩
      have pn:pre.length ≤ 100:=by rw [hall] at hn; simp at hn; omega
      have en:=zgK pre
      have e1:=zek (E:=za7 pre) (a:=l.1)
      refine ⟨[.v (iL ps),.v (zad ls),.v (iL L),.o (dk (za7 pre)),.v (.int l.1),.v (.int l.2)],[.v (iL ps),.v (zad ls),.v (iL L),.o (dk (insE (insE (za7 pre) l.1) l.2)),.v (.int l.1),.v (.int l.2)],?_,.inl ?_,some _,some _,by rw [zgs]; rfl⟩
      · rcases o4 with _ | o4 <;> rcases o5 with _ | o5 <;> rfl
      · have q1:=zf3 (i:=3) (mk:=mVar 4) (me:=mC (.bl true)) (δ:=[.v (iL ps),.v (zad ls),.v (iL L),.o (dk (za7 pre)),.v (.int l.1),.v (.int l.2)]) (t:=l.1) rfl rfl rfl (by omega)
        have q2:=zf3 (i:=3) (mk:=mVar 5) (me:=mC (.bl true)) (δ:=[.v (iL ps),.v (zad ls),.v (iL L),.o (dk (insE (za7 pre) l.1)),.v (.int l.1),.v (.int l.2)]) (t:=l.2) rfl rfl rfl (by omega)
        unfold zcg
        exact (zap q1).trans q2)
    [.v (iL ps),.v (zad ls),.v (iL L),.o (dk []),.no,.no] ⟨none,none,rfl⟩
  refine zeF ?_
  show mSeq _ _ [.v (iL ps),.v (zad ls),.no,.no,.no,.no]=_
  have q1:mAsg (zfM Prod.snd zbF (zaa (mVar 0) (zaa (mVar 1) mNil))) (zav 2) [.v (iL ps),.v (zad ls),.no,.no,.no,.no] = .nx [.v (iL ps),.v (zad ls),.v (iL L),.no,.no,.no]:=by
    refine zaQ (d:=iL L) ?_ rfl
    simp [zfM,zaa,mNil,mVar,ze8 hps hl hn,eL]
  have q2:mAsg (mC (.dct [] [])) (bNew 3) [.v (iL ps),.v (zad ls),.v (iL L),.no,.no,.no] = .nx [.v (iL ps),.v (zad ls),.v (iL L),.o (dk []),.no,.no]:=rfl
  have q3:zdn [.v (iL ps),.v (zad ls),.v (iL L),.o (dk []),.no,.no] = .nx [.v (iL ps),.v (zad ls),.v (iL L),.o (dk (za7 ls)),sv o4,sv o5]:=(zcf (by simp [mItL,mVar,zad])).trans h1
  have q4:zdC [.v (iL ps),.v (zad ls),.v (iL L),.o (dk (za7 ls)),sv o4,sv o5] = .ok (iL (tch ps ls)):=by
    refine zcm (l:=(upt ps.length).map .int) (by simp [mRng,zaa,mNil,mCB,mRd,rngT (show ps.length ≤ 1000 by omega)]) (by rw [List.length_map,zcU]; omega) ?_
    refine zbT .int _ _ fun t ht=>?_
    have ht':=mem_upt.mp ht
    have ix:=zbW (L:=L) (k:=t) ht'.1 (by omega)
    simp [zdg,zaB,ze9,za5,zas,mVar,mRd,mC,mAnd,ix]
    by_cases z1:t ∈ za7 ls <;> by_cases z2:gA L t=0 <;> simp [z1,z2,← eL]
  refine (zap q1).trans ((zap q2).trans ((zap q3).trans ?_))
  simp [zeA,q4]
theorem zcp {ps:List Int} {ls:List Ln} (hps:∀ i:Int,0 ≤ i→i < ps.length→0 ≤ gA ps i) (hl:∀ l ∈ ls,LnOk ps.length l) (hn:ls.length ≤ 100):zax [iL ps,zad ls] = .ok (iL (runY ps ls).2):=by
  refine zeF ?_
  show zeA _ [.v (iL ps),.v (zad ls)]=_
  simp [zeA,zfM,zaa,mNil,mVar,ze8 hps hl hn]
end My
namespace My
open PySem L2 PM
theorem p20:oPow (.int 10) (.int 20)=some (.int 100000000000000000000):=ziX ⟨by decide,by decide,by decide⟩
theorem p18:oPow (.int 10) (.int 18)=some (.int 1000000000000000000):=ziX ⟨by decide,by decide,by decide⟩
theorem zd0 (ns:List Int) (k:Nat):zaE [.scr ns,.int k] = .ok (.int (ns.getD k 0)):=by
  by_cases h:k < ns.length
  · have e:oIxL (.scr ns) (.int (k:Int))=some (.int (ns.getD k 0)):=by
      show (atI ns (k:Int)).map D.int=_
      rw [atI_nat (d:=ns.getD k 0) (by simp [h,List.getD_eq_getElem?_getD])]; rfl
    simp [zaE,runF,zbi,zbs,mSeq,mIfS,zas,mRet,mRd,mC,mCB,zaa,mNil,fLen,h,e]
  · have e:ns.getD k 0=0:=by simp [List.getD_eq_getElem?_getD,List.getElem?_eq_none_iff.mpr (Nat.le_of_not_lt h)]
    rw [e]
    simp [zaE,runF,zbi,zbs,mSeq,mIfS,zas,mRet,mRd,mC,mCB,zaa,mNil,fLen,h,zaO]
theorem zhw (ns:List Int) {k:Int} (h:0 ≤ k):zaE [.scr ns,.int k] = .ok (.int (ns.getD k.toNat 0)):=by
  have:=zd0 ns k.toNat
  rwa [show ((k.toNat:Nat):Int)=k by omega] at this
theorem zfo {i:Nat} {me:En→R D} {δ:En} {l:List D} {d:D} (h:δ[i]?=some (.o (.lst l))) (hy:me δ = .ok d) (hl:l.length ≤ 100000):zbk i me δ = .nx (δ.set i (.o (.lst (l ++ [d])))):=by
  unfold zbk
  rw [h]
  simp only [hy,R.toO_ok]
  rw [za0 (Nat.lt_of_le_of_lt hl (by decide))]
theorem zb2 (a:Int) {b:Int} (h:0 < b):0 ≤ a % b:=Int.emod_nonneg _ (by omega)
theorem zcb (a:Int) {b:Int} (h:0 < b):a % b < b:=Int.emod_lt_of_pos _ h
end My
namespace My
open PySem L2 PM
def num (c k:Int):Int:=(c % 100000000000000000000 + k * k + 3) * (39373 + 2 * k) % 2147483647
theorem zfj (c k:Int) (h0:0 ≤ k) (h1:k ≤ 1000):zaK [.int c,.int k] = .ok (.int (num c k)):=by
  have e1:=zb2 c (show (0:Int) < 100000000000000000000 by decide)
  have e2:=zcb c (show (0:Int) < 100000000000000000000 by decide)
  have e3:0 ≤ k * k:=Int.mul_nonneg h0 h0
  have e4:k * k ≤ 1000 * 1000:=Int.mul_le_mul h1 h1 h0 (by decide)
  have f1:Fit k:=fitN 1000 (by omega)
  have f2:Fit 2:=fitN 1000 (by decide)
  have f3:Fit (c % 100000000000000000000 + k * k + 3):=fitN (10 ^ 21) (by omega)
  have f4:Fit (39373 + 2 * k):=fitN (10 ^ 21) (by omega)
  simp [zaK,runF,zbi,zch,mRet,mRd,mC,p20,zbp,zkf,f1,f2,f3,f4,num]
theorem zhm (c n:Int):∃ p:Int,(0 ≤ p∧p ≤ 1000000000000000000)∧zaH [.int c,.int n] = .ok (.int p):=by
  have f5:Fit 5:=fitN 1000 (by decide)
  have a1:=zb2 (n / 5) (show (0:Int) < 4 by decide)
  have a2:=zcb (n / 5) (show (0:Int) < 4 by decide)
  have a3:=zb2 c (show (0:Int) < 1000000000000000001 by decide)
  have a4:=zcb c (show (0:Int) < 1000000000000000001 by decide)
  have a5:=zb2 (n / 5) (show (0:Int) < 3 by decide)
  have a6:=zcb (n / 5) (show (0:Int) < 3 by decide)
  have a7:=zb2 (n / 5) (show (0:Int) < 30 by decide)
  have a8:=zcb (n / 5) (show (0:Int) < 30 by decide)
  by_cases h0:n % 5=0
  · exact ⟨n / 5 % 4,by omega,by simp [zaH,runF,zbi,za8,mSeq,mIfS,zas,mRet,mRd,mC,zaO,mAsg,zav,zbp,zca,f5,p18,h0]⟩
  · by_cases h1:n % 5=1
    · exact ⟨c % 1000000000000000001,by omega,by simp [zaH,runF,zbi,za8,mSeq,mIfS,zas,mRet,mRd,mC,zaO,mAsg,zav,zbp,zca,f5,p18,h1]⟩
    · by_cases h2:n % 5=2
      · exact ⟨1000000000000000000 - n / 5 % 3,by omega,by simp [zaH,runF,zbi,za8,mSeq,mIfS,zas,mRet,mRd,mC,zaO,mAsg,zav,zbp,zca,f5,p18,h2]⟩
      · exact ⟨n / 5 % 30,by omega,by simp [zaH,runF,zbi,za8,mSeq,mIfS,zas,mRet,mRd,mC,zaO,mAsg,zav,zbp,zca,f5,p18,h0,h1,h2]⟩
theorem zg3 (ns:List Int):∃ ps:List Int,za6 [.scr ns] = .ok (iL ps)∧2 ≤ ps.length∧ps.length ≤ 40∧∀ p ∈ ps,0 ≤ p∧p ≤ 1000000000000000000:=by
  obtain ⟨c,ec⟩:∃ c,c=ns.getD 0 0:=⟨_,rfl⟩
  have c0:=zd0 ns 0
  obtain ⟨F,hF⟩:=Classical.axiomOfChoice (r:=fun (k:Int) (p:Int)=>(0 ≤ p∧p ≤ 1000000000000000000)∧zaH [.int (ns.getD (2 + k % 60).toNat 0),.int (num (c / 7) k / 16)] = .ok (.int p)) fun k=>zhm _ _
  obtain ⟨n,hn1,hn2,hn⟩:∃ n:Nat,2 ≤ n∧n ≤ 40∧(n:Int)=if c / 9 % 8=1 then 2 + c / 72 % 39 else 2 + c % 9:=by
    have a1:=zb2 (c / 72) (show (0:Int) < 39 by decide)
    have a2:=zcb (c / 72) (show (0:Int) < 39 by decide)
    have a3:=zb2 c (show (0:Int) < 9 by decide)
    have a4:=zcb c (show (0:Int) < 9 by decide)
    by_cases h:c / 9 % 8=1
    · exact ⟨(2 + c / 72 % 39).toNat,by omega,by omega,by rw [if_pos h]; omega⟩
    · exact ⟨(2 + c % 9).toNat,by omega,by omega,by rw [if_neg h]; omega⟩
  have k1:zcP [.v (.scr ns),.v (.int c),.v (.int n)] = .ok (iL ((upt n).map F)):=by
    refine Eq.trans (zcm (l:=(upt n).map .int) (r:=(upt n).map fun k=>.int (F k)) (by simp [mRng,zaa,mNil,mVar,rngT (show n ≤ 1000 by omega)]) (by rw [List.length_map,zcU]; omega) ?_) (by simp [iL])
    refine zea .int (fun k=>.int (F k)) _ fun k hk=>?_
    obtain ⟨h0,h1⟩:=mem_upt.mp hk
    have a1:=zb2 k (show (0:Int) < 60 by decide)
    have f7:Fit 7:=fitN 1000 (by decide)
    have f16:Fit 16:=fitN 1000 (by decide)
    have hk2:=(hF k).2
    simp only [List.getD_eq_getElem?_getD] at hk2
    simp [zdg,zaB,ze9,za5,zao,zaa,mNil,mVar,mRd,mC,zbp,zca,f7,f16,zhw ns (show 0 ≤ 2 + k % 60 by omega),zfj (c / 7) k h0 (by omega),hk2]
  have f9:Fit 9:=fitN 1000 (by decide)
  have f72:Fit 72:=fitN 1000 (by decide)
  refine ⟨(upt n).map F,zeF ?_,by simpa [zcU] using hn1,by simpa [zcU] using hn2,fun p hp=>by obtain ⟨k,_,rfl⟩:=List.mem_map.mp hp; exact (hF k).1⟩
  show mSeq _ _ [.v (.scr ns),.no,.no]=_
  have q1:mAsg (zao zaE (zaa (mVar 0) (zaa (mC (.int 0)) mNil))) (zav 1) [.v (.scr ns),.no,.no] = .nx [.v (.scr ns),.v (.int c),.no]:=by
    refine zaQ (d:=.int c) ?_ rfl
    have:=c0
    simp [zao,zaa,mNil,mVar,mC] at this ⊢
    rw [this,ec]; simp
  have q2:mAsg (m2 oAdd (mC (.int 2)) (m2 oMod (mRd 1) (mC (.int 9)))) (zav 2) [.v (.scr ns),.v (.int c),.no] = .nx [.v (.scr ns),.v (.int c),.v (.int (2 + c % 9))]:=by
    refine zaQ (d:=.int (2 + c % 9)) ?_ rfl
    simp [mC,mRd,zbp]
  refine (zap q1).trans ((zap q2).trans ?_)
  by_cases h:c / 9 % 8=1
  · rw [if_pos h] at hn
    have q3:mIfS (zas (m2 oEq (m2 oMod (m2 oDiv (mRd 1) (mC (.int 9))) (mC (.int 8))) (mC (.int 1)))) (mAsg (m2 oAdd (mC (.int 2)) (m2 oMod (m2 oDiv (mRd 1) (mC (.int 72))) (mC (.int 39)))) (zav 2)) zaO [.v (.scr ns),.v (.int c),.v (.int (2 + c % 9))] = .nx [.v (.scr ns),.v (.int c),.v (.int n)]:=by
      rw [zi0 (by simp [zas,mRd,mC,zbp,zca,f9,h])]
      refine zaQ (d:=.int n) ?_ rfl
      simp [mC,mRd,zbp,zca,f72,hn]
    refine (zap q3).trans ?_
    simp [zeA,k1]
  · rw [if_neg h] at hn
    have q3:mIfS (zas (m2 oEq (m2 oMod (m2 oDiv (mRd 1) (mC (.int 9))) (mC (.int 8))) (mC (.int 1)))) (mAsg (m2 oAdd (mC (.int 2)) (m2 oMod (m2 oDiv (mRd 1) (mC (.int 72))) (mC (.int 39)))) (zav 2)) zaO [.v (.scr ns),.v (.int c),.v (.int (2 + c % 9))] = .nx [.v (.scr ns),.v (.int c),.v (.int n)]:=by
      rw [ziO (by simp [zas,mRd,mC,zbp,zca,f9,h]),hn]; rfl
    refine (zap q3).trans ?_
    simp [zeA,k1]
theorem zix (cs:List Int) (n:Nat) (h2:2 ≤ n) (h40:n ≤ 40) (hcs:cs.length ≤ 63):∃ ls:List Ln,zbg [iL cs,.int n] = .ok (zad ls)∧ls.length ≤ 63∧∀ l ∈ ls,LnOk n l:=by
  obtain ⟨δ,h1,ls,o3,o4,o5,o6,o7,rfl,hl,hok⟩:=zbS (b:=bTup 2 (zaR (zav 3) (zaR (zav 4) bNil))) (m:=zbX) (fun p:Int × Nat=>D.tup [.int (p.2:Int),.int p.1]) (fun pre δ=>∃ (ls:List Ln) (o3 o4 o5 o6 o7:Option D),δ = [.v (iL cs),.v (.int n),.o (zad ls),sv o3,sv o4,sv o5,sv o6,sv o7]∧ls.length=pre.length∧∀ l ∈ ls,LnOk n l) cs.zipIdx
    (by
      rintro pre ⟨c,k⟩ post δ hall ⟨ls,o3,o4,o5,o6,o7,rfl,hl,hok⟩
      obtain ⟨z1,z2,z3⟩:=zcc hall
      dsimp only at z1 z2 z3
      have hk:k < cs.length:=(List.getElem?_eq_some_iff.mp z2).1
      have nm:=zfj c (k:Int) (by omega) (by omega)
      obtain ⟨x,ex⟩:∃ x,x=num c k:=⟨_,rfl⟩
      rw [← ex] at nm
      have f8:Fit 8:=fitN 1000 (by decide)
      have f512:Fit 512:=fitN 1000 (by decide)
      have np:(0:Int) < n:=by omega
      have np':(0:Int) < (n:Int) - 1:=by omega
      obtain ⟨a,ea⟩:∃ a,a=x / 8 % (n:Int):=⟨_,rfl⟩
      obtain ⟨g,eg⟩:∃ g,g=x / 512 % ((n:Int) - 1):=⟨_,rfl⟩
      obtain ⟨b,eb⟩:∃ b,b=(a + 1 + g) % (n:Int):=⟨_,rfl⟩
      have a0:=zb2 (x / 8) np
      have a1:=zcb (x / 8) np
      have g0:=zb2 (x / 512) np'
      have g1:=zcb (x / 512) np'
      have b0:=zb2 (a + 1 + g) np
      have b1:=zcb (a + 1 + g) np
      rw [← ea] at a0 a1
      rw [← eg] at g0 g1
      rw [← eb] at b0 b1
      have ab:a ≠ b:=by
        by_cases hh:a + 1 + g < n
        · rw [eb,Int.emod_eq_of_lt (by omega) hh]; omega
        · have:(a + 1 + g) % (n:Int)=a + 1 + g - n:=by
            rw [← Int.sub_emod_right,Int.emod_eq_of_lt (by omega) (by omega)]
          rw [eb,this]; omega
      have q1:mAsg (zao zaK (zaa (mVar 4) (zaa (mVar 3) mNil))) (zav 5) [.v (iL cs),.v (.int n),.o (zad ls),.v (.int k),.v (.int c),sv o5,sv o6,sv o7] = .nx [.v (iL cs),.v (.int n),.o (zad ls),.v (.int k),.v (.int c),.v (.int x),sv o6,sv o7]:=by
        refine zaQ (d:=.int x) ?_ (zcO rfl)
        simp [zao,zaa,mNil,mVar,nm]
      have q2:mAsg (m2 oMod (m2 oDiv (mRd 5) (mC (.int 8))) (mRd 1)) (zav 6) [.v (iL cs),.v (.int n),.o (zad ls),.v (.int k),.v (.int c),.v (.int x),sv o6,sv o7] = .nx [.v (iL cs),.v (.int n),.o (zad ls),.v (.int k),.v (.int c),.v (.int x),.v (.int a),sv o7]:=by
        refine zaQ (d:=.int a) ?_ (zcO rfl)
        simp [mRd,mC,zca,f8,zbp np,ea]
      have q3:mAsg (m2 oMod (m2 oAdd (m2 oAdd (mRd 6) (mC (.int 1))) (m2 oMod (m2 oDiv (mRd 5) (mC (.int 512))) (m2 oSub (mRd 1) (mC (.int 1))))) (mRd 1)) (zav 7) [.v (iL cs),.v (.int n),.o (zad ls),.v (.int k),.v (.int c),.v (.int x),.v (.int a),sv o7] = .nx [.v (iL cs),.v (.int n),.o (zad ls),.v (.int k),.v (.int c),.v (.int x),.v (.int a),.v (.int b)]:=by
        refine zaQ (d:=.int b) ?_ (zcO rfl)
        simp [mRd,mC,zca,f512,zbp np,zbp np',eb,eg]
      obtain ⟨l,hlk,q4⟩:∃ l:Ln,LnOk n l∧mIfS (mAnd (zas (m2 oEq (m2 oMod (mRd 5) (mC (.int 8))) (mC (.int 1)))) (zas (m2 oGt (mCB fLen (zaa (mRd 2) mNil)) (mC (.int 0))))) (mAsg (m2 oIxL (mRd 2) (m2 oMod (m2 oDiv (mRd 5) (mC (.int 8))) (mCB fLen (zaa (mRd 2) mNil)))) (bTup 2 (zaR (zav 6) (zaR (zav 7) bNil)))) zaO [.v (iL cs),.v (.int n),.o (zad ls),.v (.int k),.v (.int c),.v (.int x),.v (.int a),.v (.int b)] = .nx [.v (iL cs),.v (.int n),.o (zad ls),.v (.int k),.v (.int c),.v (.int x),.v (.int l.1),.v (.int l.2)]:=by
        by_cases hh:x % 8=1∧0 < ls.length
        · have lp:(0:Int) < ls.length:=by omega
          have i0:=zb2 (x / 8) lp
          have i1:=zcb (x / 8) lp
          obtain ⟨j,ej⟩:∃ j,j=x / 8 % (ls.length:Int):=⟨_,rfl⟩
          rw [← ej] at i0 i1
          have jl:j.toNat < ls.length:=by omega
          refine ⟨ls[j.toNat],hok _ (List.getElem_mem jl),?_⟩
          have ix:oIxL (zad ls) (.int j)=some (encN ls[j.toNat]):=ziN i0 (by simp [jl])
          rw [zi0 (by simp [mAnd,zas,mRd,mC,mCB,zaa,mNil,zbp,zad,hh.1,hh.2])]
          refine zaQ (d:=encN ls[j.toNat]) ?_ rfl
          simp only [zjv,mRd,mC,mCB,zaa,mNil,List.getElem?_cons_succ,List.getElem?_cons_zero,R.bind_ok,zca (show (0:Int) < 8 by decide) f8,R.of_some]
          rw [show fLen [zad ls]=some (.int ls.length) by simp [zad]]
          simp only [R.of_some,R.bind_ok,zbp lp,← ej,ix]
        · refine ⟨(a,b),⟨a0,a1,b0,b1,ab⟩,?_⟩
          rw [ziO]
          · rfl
          · simp only [mAnd,zas,mRd,mC,mCB,zaa,mNil,zjv,List.getElem?_cons_succ,List.getElem?_cons_zero,R.bind_ok,zbp (show (0:Int) < 8 by decide),R.of_some,zkF,zkC]
            rw [show fLen [zad ls]=some (.int ls.length) by simp [zad]]
            by_cases h8:x % 8=1
            · have:ls.length=0:=by omega
              simp [h8,this]
            · simp [h8]
      have q5:zbk 2 (mTup (zaa (mVar 6) (zaa (mVar 7) mNil))) [.v (iL cs),.v (.int n),.o (zad ls),.v (.int k),.v (.int c),.v (.int x),.v (.int l.1),.v (.int l.2)] = .nx [.v (iL cs),.v (.int n),.o (zad (ls ++ [l])),.v (.int k),.v (.int c),.v (.int x),.v (.int l.1),.v (.int l.2)]:=by
        refine (zfo (l:=ls.map encN) (d:=encN l) rfl (by simp [mTup,zaa,mNil,mVar,encN,sizeLine]) (by rw [List.length_map]; omega)).trans ?_
        simp [zad]
      refine ⟨[.v (iL cs),.v (.int n),.o (zad ls),.v (.int k),.v (.int c),sv o5,sv o6,sv o7],[.v (iL cs),.v (.int n),.o (zad (ls ++ [l])),.v (.int k),.v (.int c),.v (.int x),.v (.int l.1),.v (.int l.2)],?_,.inl ?_,ls ++ [l],some _,some _,some _,some _,some _,rfl,by simp [hl],fun y hy=>?_⟩
      · rcases o3 with _ | o3 <;> rcases o4 with _ | o4 <;> rfl
      · unfold zbX
        exact (zap q1).trans ((zap q2).trans ((zap q3).trans ((zap q4).trans q5)))
      · rcases List.mem_append.mp hy with z | z
        · exact hok y z
        · rw [List.mem_singleton.mp z]; exact hlk)
    [.v (iL cs),.v (.int n),.o (zad []),.no,.no,.no,.no,.no] ⟨[],none,none,none,none,none,rfl,rfl,fun l hl=>by cases hl⟩
  have hl':ls.length ≤ 63:=by rw [hl]; simpa using hcs
  refine ⟨ls,zeF ?_,hl',hok⟩
  show mSeq _ _ [.v (iL cs),.v (.int n),.no,.no,.no,.no,.no,.no]=_
  have q1:mAsg (mLst mNil) (bNew 2) [.v (iL cs),.v (.int n),.no,.no,.no,.no,.no,.no] = .nx [.v (iL cs),.v (.int n),.o (zad []),.no,.no,.no,.no,.no]:=zaQ (d:=zad []) (by simp [mLst,mNil,zad,sizeLine]) rfl
  have q2:zc8 [.v (iL cs),.v (.int n),.o (zad []),.no,.no,.no,.no,.no] = .nx [.v (iL cs),.v (.int n),.o (zad ls),sv o3,sv o4,sv o5,sv o6,sv o7]:=(zcf (by simp [zcS,zaa,mNil,mVar,iL,zeE,asL',zcD,List.zipIdx_map])).trans h1
  exact (zap q1).trans ((zap q2).trans rfl)
end My
namespace My
open PySem L2 PM
theorem zbf (l:List Int):zah [iL l,iL l] = .ok (.bl true):=by
  have z:zipD (l.map D.int) (l.map D.int)=l.map fun x=>D.tup [.int x,.int x]:=by
    unfold zipD
    induction l with
    | nil=>rfl
    | cons a l ih=>simp only [List.map_cons,List.zipWith_cons_cons,ih]
  obtain ⟨δ,h1,o2,o3,rfl⟩:=zbS (b:=bTup 2 (zaR (zav 2) (zaR (zav 3) bNil))) (m:=zby) (fun x:Int=>D.tup [.int x,.int x]) (fun _ δ=>∃ o2 o3,δ = [.v (iL l),.v (iL l),sv o2,sv o3]) l
    (by
      rintro pre x post δ hall ⟨o2,o3,rfl⟩
      refine ⟨[.v (iL l),.v (iL l),.v (.int x),.v (.int x)],[.v (iL l),.v (iL l),.v (.int x),.v (.int x)],?_,.inl ?_,some _,some _,rfl⟩
      · rcases o2 with _ | o2 <;> rcases o3 with _ | o3 <;> rfl
      · have i1:oIsi "int" (.int x)=some (.bl true):=rfl
        have i2:oIsi "bool" (.int x)=some (.bl false):=rfl
        simp [zby,mIfS,mOr,mNot,zas,mRd,i1,i2,zaO])
    [.v (iL l),.v (iL l),.no,.no] ⟨none,none,rfl⟩
  refine zfJ ?_
  show mSeq _ _ [.v (iL l),.v (iL l),.no,.no]=_
  have il:oIsi "list" (iL l)=some (.bl true):=rfl
  have q1:mIfS (mOr (mNot (zas (m1 (oIsi "list") (mRd 0)))) (zas (m2 oNe (mCB fLen (zaa (mRd 0) mNil)) (mCB fLen (zaa (mRd 1) mNil))))) (mRet (mC (.bl false))) zaO [.v (iL l),.v (iL l),.no,.no] = .nx [.v (iL l),.v (iL l),.no,.no]:=by simp [mIfS,mOr,mNot,zas,mRd,mCB,zaa,mNil,il,zaO]
  have q2:zcq [.v (iL l),.v (iL l),.no,.no] = .nx [.v (iL l),.v (iL l),sv o2,sv o3]:=by
    refine (zcf ?_).trans h1
    simp only [mZip,zaa,mNil,mVar,List.getElem?_cons_succ,List.getElem?_cons_zero,R.bind_ok]
    show R.of (some (zipD (l.map D.int) (l.map D.int)))=_
    rw [z]; rfl
  exact (zap q1).trans ((zap q2).trans rfl)
def dueP (z:List (Ln × Nat)) (p:Int):List Int:=(z.filter fun x=>decide (x.1.1=p∨x.1.2=p)).map fun x=>(x.2:Int)
def zbb (n:Nat) (z:List (Ln × Nat)):List (List Int):=(upt n).map (dueP z)
theorem zjf {n i:Nat} (h:i < n):(upt n)[i]?=some (i:Int):=by simp [upt,h]
theorem zbx {n:Nat} {z:List (Ln × Nat)}:(zbb n z).length=n:=by simp [zbb,zcU]
theorem zbJ {n:Nat} {z:List (Ln × Nat)} {i:Nat} (h:i < n):(zbb n z)[i]?=some (dueP z i):=by
  unfold zbb
  rw [List.getElem?_map,zjf h]; rfl
theorem zeq {z:List (Ln × Nat)} {p:Int}:(dueP z p).length ≤ z.length:=by
  unfold dueP
  rw [List.length_map]; exact List.length_filter_le _ _
theorem zih {z:List (Ln × Nat)} {l:Ln} {k:Nat} {p:Int}:dueP (z ++ [(l,k)]) p=if l.1=p∨l.2=p then dueP z p ++ [(k:Int)] else dueP z p:=by
  unfold dueP
  rw [List.filter_append]
  split
  · rename_i h
    rw [List.filter_cons_of_pos (by simpa using h)]; simp
  · rename_i h
    rw [List.filter_cons_of_neg (by simpa using h)]; simp
theorem zhS {n:Nat} {z:List (Ln × Nat)} {a b:Int} {k:Nat} (h:LnOk n (a,b)):((zbb n z).set a.toNat (dueP z a ++ [(k:Int)])).set b.toNat (dueP z b ++ [(k:Int)])=zbb n (z ++ [((a,b),k)]):=by
  obtain ⟨a0,a1,b0,b1,ne⟩:=h
  dsimp only at a0 a1 b0 b1 ne
  refine List.ext_getElem? fun i=>?_
  by_cases hi:i < n
  · rw [zbJ hi,zih]
    dsimp only
    by_cases e1:b.toNat=i
    · have:b=(i:Int):=by omega
      subst e1
      rw [List.getElem?_set_self (by rw [List.length_set,zbx]; omega),if_pos (.inr this),this]; rfl
    · rw [List.getElem?_set_ne e1]
      by_cases e2:a.toNat=i
      · have:a=(i:Int):=by omega
        subst e2
        rw [List.getElem?_set_self (by rw [zbx]; omega),if_pos (.inl this),this]; rfl
      · rw [List.getElem?_set_ne e2,zbJ hi,if_neg (by omega)]
  · rw [List.getElem?_eq_none (by simp [zbx]; omega),List.getElem?_eq_none (by rw [zbx]; omega)]
theorem zfk {i:Nat} {mk me:En→R D} {δ:En} {ll:List (List Int)} {r:List Int} {k y:Int} (h:δ[i]?=some (.p (tabT ll))) (hk:mk δ = .ok (.int k)) (h0:0 ≤ k) (hr:ll[k.toNat]?=some r) (hy:me δ = .ok (.int y)) (hl:r.length ≤ 100000) :
    zhx i mk me δ = .nx (δ.set i (.p (tabT (ll.set k.toNat (r ++ [y]))))):=by
  have kl:k.toNat < ll.length:=(List.getElem?_eq_some_iff.mp hr).1
  have e1:ixN (ll.map rowT).length k=some k.toNat:=by unfold ixN; rw [if_pos h0,if_pos (by rw [List.length_map]; omega)]
  have e2:(ll.map rowT)[k.toNat]?=some (.l (r.map fun i=>.d (.int i))):=by rw [List.getElem?_map,hr]; rfl
  unfold zhx
  rw [h]
  unfold tabT
  simp only [hk,R.toO_ok,e1,e2,hy]
  rw [za0 (by rw [List.length_map]; exact Nat.lt_of_le_of_lt hl (by decide)),List.map_set]
  unfold rowT
  simp
theorem zii {b:D→En→Option En} {m:En→O} {d1 d2:D} {δ δ1 δ2 δ3 δ4:En} (h1:b d1 δ=some δ1) (h2:m δ1 = .nx δ2) (h3:b d2 δ2=some δ3) (h4:m δ3 = .nx δ4):zdf b m [d1,d2] δ = .nx δ4:=by simp [zdf,h1,h2,h3,h4]
theorem zhC:∀ {ps:List Int} {ll:List (List Int)} {k:Nat},ps.length=ll.length→prs k ((ps.zipIdx k).map fun p=>D.tup [.int (p.2:Int),.int p.1]) ll=some (ps.zip ll)
  | [],[],_,_=>rfl
  | [],_ :: _,_,h=>by simp at h
  | _ :: _,[],_,h=>by simp at h
  | p :: ps,r :: ll,k,h=>by
    simp only [List.zipIdx_cons,List.map_cons,prs,asIP,if_true]
    rw [zhC (by simpa using h)]; rfl
theorem zgG {ps:List Int} {ls:List Ln} (hl:∀ l ∈ ls,LnOk ps.length l) (hn:ls.length ≤ 100) (hm:ps.length ≤ 100):zbN [iL ps,zad ls] = .ok (ps.zip (zbb ps.length ls.zipIdx)):=by
  obtain ⟨δ,h1,o3,o4,o5,rfl⟩:=zbS (b:=bTup 2 (zaR (zav 3) (zaR (zav 4) bNil))) (m:=zcv) (fun p:Ln × Nat=>D.tup [.int (p.2:Int),encN p.1]) (fun pre δ=>∃ o3 o4 o5,δ = [.v (iL ps),.v (zad ls),.p (tabT (zbb ps.length pre)),sv o3,sv o4,sv o5]) ls.zipIdx
    (by
      rintro pre ⟨⟨a,b⟩,k⟩ post δ hall ⟨o3,o4,o5,rfl⟩
      obtain ⟨z1,z2,z3⟩:=zcc hall
      dsimp only at z1 z2 z3
      have hk:k < ls.length:=(List.getElem?_eq_some_iff.mp z2).1
      have lk:=hl _ (List.mem_of_getElem? z2)
      have lk':=lk
      obtain ⟨a0,a1,b0,b1,ne⟩:=lk'
      dsimp only at a0 a1 b0 b1 ne
      have pl:pre.length ≤ 100:=by omega
      refine ⟨[.v (iL ps),.v (zad ls),.p (tabT (zbb ps.length pre)),.v (.int k),.v (encN (a,b)),sv o5],[.v (iL ps),.v (zad ls),.p (tabT (zbb ps.length (pre ++ [((a,b),k)]))),.v (.int k),.v (encN (a,b)),.v (.int b)],?_,.inl ?_,some _,some _,some _,rfl⟩
      · rcases o3 with _ | o3 <;> rcases o4 with _ | o4 <;> rfl
      · have ga:(zbb ps.length pre)[a.toNat]?=some (dueP pre a):=by rw [zbJ (by omega)]; rw [show ((a.toNat:Nat):Int)=a by omega]
        have gb:((zbb ps.length pre).set a.toNat (dueP pre a ++ [(k:Int)]))[b.toNat]?=some (dueP pre b):=by rw [List.getElem?_set_ne (by omega),zbJ (by omega)]; rw [show ((b.toNat:Nat):Int)=b by omega]
        have da:=zeq (z:=pre) (p:=a)
        have db:=zeq (z:=pre) (p:=b)
        have q1:=zfk (i:=2) (mk:=mVar 5) (me:=mVar 3) (δ:=[.v (iL ps),.v (zad ls),.p (tabT (zbb ps.length pre)),.v (.int k),.v (encN (a,b)),.v (.int a)]) rfl rfl a0 ga rfl (by omega)
        have q2:=zfk (i:=2) (mk:=mVar 5) (me:=mVar 3) (δ:=[.v (iL ps),.v (zad ls),.p (tabT ((zbb ps.length pre).set a.toNat (dueP pre a ++ [(k:Int)]))),.v (.int k),.v (encN (a,b)),.v (.int b)]) rfl rfl b0 gb rfl (by omega)
        rw [zhS lk] at q2
        have b1:zav 5 (.int a) [.v (iL ps),.v (zad ls),.p (tabT (zbb ps.length pre)),.v (.int k),.v (encN (a,b)),sv o5]=some [.v (iL ps),.v (zad ls),.p (tabT (zbb ps.length pre)),.v (.int k),.v (encN (a,b)),.v (.int a)]:=zcO rfl
        unfold zcv zd2
        exact (zcf (l:=[.int a,.int b]) rfl).trans (zii (m:=zdH) b1 q1 rfl q2))
    [.v (iL ps),.v (zad ls),.p (tabT (zbb ps.length [])),.no,.no,.no] ⟨none,none,none,rfl⟩
  refine zhZ ?_
  show zdx _ _ [.v (iL ps),.v (zad ls),.no,.no,.no,.no]=_
  have k1:zcn [.v (iL ps),.v (zad ls),.no,.no,.no,.no] = .ok (zbb ps.length []):=by
    unfold zcn zhX
    have g:∀ l:List Int,zbC (zfy (za5 0) (mLst mNil) (zaB [.v (iL ps),.v (zad ls),.no,.no,.no,.no] [] 1)) (l.map .int) = .ok (l.map fun _=>[]):=by
      intro l
      induction l with
      | nil=>rfl
      | cons x l ih =>
        rw [List.map_cons,zbC,ih]
        simp [zfy,zaB,za5,mLst,mNil,sizeLine,asIl,asIs]
    have e:zbb ps.length []=ps.map fun _=>[]:=by
      refine List.ext_getElem? fun i=>?_
      by_cases hi:i < ps.length
      · rw [zbJ hi,List.getElem?_map,List.getElem?_eq_getElem hi]; rfl
      · rw [List.getElem?_eq_none (by rw [zbx]; omega),List.getElem?_eq_none (by simp; omega)]
    rw [show mItL (mRd 0) [.v (iL ps),.v (zad ls),.no,.no,.no,.no] = .ok (ps.map .int) from rfl,R.bind_ok,za0 (by rw [List.length_map]; simp [sizeLine]; omega),g,e]; rfl
  have q1:zib zcn 2 [.v (iL ps),.v (zad ls),.no,.no,.no,.no] = .nx [.v (iL ps),.v (zad ls),.p (tabT (zbb ps.length [])),.no,.no,.no]:=by
    unfold zib
    rw [k1]; rfl
  have q2:zdY [.v (iL ps),.v (zad ls),.p (tabT (zbb ps.length [])),.no,.no,.no] = .nx [.v (iL ps),.v (zad ls),.p (tabT (zbb ps.length ls.zipIdx)),sv o3,sv o4,sv o5]:=(zcf (by simp [zcS,zaa,mNil,mVar,zad,zeE,asL',zcD,List.zipIdx_map])).trans h1
  refine (zcE q1).trans ((zcE q2).trans ?_)
  unfold mPrs
  rw [show PM.tabOf ([.v (iL ps),.v (zad ls),.p (tabT (zbb ps.length ls.zipIdx)),sv o3,sv o4,sv o5]:En)[2]?=some (zbb ps.length ls.zipIdx) from zd7 _]
  have e:zcS (zaa (mRd 0) mNil) [.v (iL ps),.v (zad ls),.p (tabT (zbb ps.length ls.zipIdx)),sv o3,sv o4,sv o5] = .ok (ps.zipIdx.map fun p=>D.tup [.int (p.2:Int),.int p.1]):=by simp [zcS,zaa,mNil,mRd,iL,zeE,asL',zcD,List.zipIdx_map]
  dsimp only
  rw [e]
  simp only [R.nev_ok,R.bind_ok]
  rw [za0 (by rw [List.length_map,List.length_zipIdx]; simp [sizeLine]; omega),zhC (by rw [zbx])]; rfl
def encR (p:Int × List Int):D:=.tup [.int p.1,iL p.2]
def za9 (l:List (Int × List Int)):D:=.lst (l.map encR)
theorem zft {ps:List Int} {ls:List Ln} (hn:ls.length ≤ 100) (hm:ps.length ≤ 100):zaW [za9 (ps.zip (zbb ps.length ls.zipIdx)),iL ps,zad ls] = .ok (.bl true):=by
  obtain ⟨X,eX⟩:∃ X,X=ps.zip (zbb ps.length ls.zipIdx):=⟨_,rfl⟩
  have Xl:X.length=ps.length:=by rw [eX]; simp [zbx]
  rw [← eX]
  obtain ⟨δ,h1,o3,o4,o5,rfl⟩:=zbS (b:=bTup 2 (zaR (zav 3) (zaR (zav 4) bNil))) (m:=zb9) (fun p:(Int × List Int) × Nat=>D.tup [.int (p.2:Int),encR p.1]) (fun pre δ=>∃ o3 o4 o5,δ = [.v (za9 X),.v (iL ps),.v (zad ls),sv o3,sv o4,sv o5]) X.zipIdx
    (by
      rintro pre ⟨⟨x,r⟩,k⟩ post δ hall ⟨o3,o4,o5,rfl⟩
      obtain ⟨z1,z2,z3⟩:=zcc hall
      dsimp only at z1 z2 z3
      have hk:k < ps.length:=by rw [← Xl]; exact (List.getElem?_eq_some_iff.mp z2).1
      obtain ⟨y1,y2⟩:gA ps k=x∧dueP ls.zipIdx k=r:=by
        rw [eX,List.getElem?_zip_eq_some] at z2
        obtain ⟨w1,w2⟩:=z2
        rw [zbJ hk] at w2
        have w3:=zgn (L:=ps) (i:=(k:Int)) (by simpa using hk)
        rw [Int.toNat_natCast,w1] at w3
        exact ⟨(Option.some.inj w3).symm,Option.some.inj w2⟩
      refine ⟨[.v (za9 X),.v (iL ps),.v (zad ls),.v (.int k),.v (encR (x,r)),sv o5],[.v (za9 X),.v (iL ps),.v (zad ls),.v (.int k),.v (encR (x,r)),.v (iL r)],?_,.inl ?_,some _,some _,some _,rfl⟩
      · rcases o3 with _ | o3 <;> rcases o4 with _ | o4 <;> rfl
      · have i1:oIsi "tuple" (encR (x,r))=some (.bl true):=rfl
        have i2:fLen [encR (x,r)]=some (.int 2):=rfl
        have i3:oIxT (encR (x,r)) (.int 0)=some (.int x):=rfl
        have i4:oIxT (encR (x,r)) (.int 1)=some (iL r):=rfl
        have i5:=zbW (L:=ps) (k:=(k:Int)) (by omega) (by simpa using hk)
        rw [y1] at i5
        have nm:zah [.lst [.int x],.lst [.int x]] = .ok (.bl true):=zbf [x]
        have q1:mIfS (mOr (mNot (zas (m1 (oIsi "tuple") (mRd 4)))) (mOr (zas (m2 oNe (mCB fLen (zaa (mRd 4) mNil)) (mC (.int 2)))) (mNot (zas (zao zah (zaa (mLst (zaa (m2 oIxT (mRd 4) (mC (.int 0))) mNil)) (zaa (mLst (zaa (m2 oIxL (mRd 1) (mRd 3)) mNil)) mNil))))))) (mRet (mC (.bl false))) zaO [.v (za9 X),.v (iL ps),.v (zad ls),.v (.int k),.v (encR (x,r)),sv o5] = .nx [.v (za9 X),.v (iL ps),.v (zad ls),.v (.int k),.v (encR (x,r)),sv o5]:=by
          simp [mIfS,mOr,mNot,zas,mRd,mC,mCB,zaa,mNil,zao,mLst,i1,i2,i3,i5,nm,zaO,sizeLine]
        have kk:zct [.v (za9 X),.v (iL ps),.v (zad ls),.v (.int k),.v (encR (x,r)),sv o5] = .ok (iL r):=by
          refine Eq.trans (zcm (l:=ls.zipIdx.map fun p=>D.tup [.int (p.2:Int),encN p.1]) (r:=(dueP ls.zipIdx k).map .int) ?_ ?_ ?_) (by rw [y2]; rfl)
          · simp [zcS,zaa,mNil,mRd,zad,zeE,asL',zcD,List.zipIdx_map]
          · simp; omega
          · unfold dueP
            rw [List.map_map]
            refine zhO (fun p:Ln × Nat=>D.tup [.int (p.2:Int),encN p.1]) _ (fun p:Ln × Nat=>D.int (p.2:Int)) _ fun p hp=>?_
            by_cases c1:p.1.1=(k:Int) <;> by_cases c2:p.1.2=(k:Int) <;> simp [zdg,zaB,ze9,bTup,zaR,bNil,za5,mOr,zas,mRd,mVar,mC,encN,c1,c2]
        have q2:mAsg zct (zav 5) [.v (za9 X),.v (iL ps),.v (zad ls),.v (.int k),.v (encR (x,r)),sv o5] = .nx [.v (za9 X),.v (iL ps),.v (zad ls),.v (.int k),.v (encR (x,r)),.v (iL r)]:=zaQ kk (zcO rfl)
        have q3:mIfS (mNot (zas (zao zah (zaa (m2 oIxT (mRd 4) (mC (.int 1))) (zaa (mVar 5) mNil))))) (mRet (mC (.bl false))) zaO [.v (za9 X),.v (iL ps),.v (zad ls),.v (.int k),.v (encR (x,r)),.v (iL r)] = .nx [.v (za9 X),.v (iL ps),.v (zad ls),.v (.int k),.v (encR (x,r)),.v (iL r)]:=by
          simp [mIfS,mNot,zas,zao,zaa,mNil,mRd,mVar,mC,i4,zbf,zaO]
        unfold zb9
        exact (zap q1).trans ((zap q2).trans q3))
    [.v (za9 X),.v (iL ps),.v (zad ls),.no,.no,.no] ⟨none,none,none,rfl⟩
  refine zfJ ?_
  show mSeq _ _ [.v (za9 X),.v (iL ps),.v (zad ls),.no,.no,.no]=_
  have il:oIsi "list" (za9 X)=some (.bl true):=rfl
  have le:fLen [za9 X]=some (.int ps.length):=by simp [za9,Xl]
  have q1:mIfS (mOr (mNot (zas (m1 (oIsi "list") (mRd 0)))) (zas (m2 oNe (mCB fLen (zaa (mRd 0) mNil)) (mCB fLen (zaa (mRd 1) mNil))))) (mRet (mC (.bl false))) zaO [.v (za9 X),.v (iL ps),.v (zad ls),.no,.no,.no] = .nx [.v (za9 X),.v (iL ps),.v (zad ls),.no,.no,.no]:=by simp [mIfS,mOr,mNot,zas,mRd,mCB,zaa,mNil,il,le,zaO]
  have q2:zdK [.v (za9 X),.v (iL ps),.v (zad ls),.no,.no,.no] = .nx [.v (za9 X),.v (iL ps),.v (zad ls),sv o3,sv o4,sv o5]:=(zcf (by simp [zcS,zaa,mNil,mVar,za9,zeE,asL',zcD,List.zipIdx_map])).trans h1
  exact (zap q1).trans ((zap q2).trans rfl)
end My
namespace My
open PySem L2 PM
theorem zfT {i:Nat} {mi me:En→R D} {δ:En} {L:List Int} {k y:Int} (h:δ[i]?=some (.o (iL L))) (hk:mi δ = .ok (.int k)) (h0:0 ≤ k) (h1:k.toNat < L.length) (hy:me δ = .ok (.int y)):zgE i mi me δ = .nx (δ.set i (.o (iL (L.set k.toNat y)))):=by
  have e1:ixN (L.map D.int).length k=some k.toNat:=by unfold ixN; rw [if_pos h0,if_pos (by rw [List.length_map]; omega)]
  unfold zgE
  rw [h]
  simp only [iL,hk,R.toO_ok,e1,hy]
  rw [← List.map_set]
theorem zhP {P:List Int} {x:Int}:oIxL (iL (P ++ [x])) (.int (-1))=some (.int x):=by
  have e:ixN ((P ++ [x]).map D.int).length (-1)=some P.length:=by unfold ixN; rw [if_neg (by omega),if_pos (by simp; omega)]; simp; omega
  show (ixN ((P ++ [x]).map D.int).length (-1)).bind (fun j=>((P ++ [x]).map D.int)[j]?)=_
  rw [e]; simp
theorem zef {m:En→R D} {δ δ':En} {b:Bool} (hp:peek δ=δ') (h:m δ' = .ok (.bl b)):zco m δ = .ok (.bl b):=by unfold zco; rw [hp,h]; rfl
theorem zgv (l:List Int):ziM (iL l)=true:=by
  show zc3 (l.map .int)=true
  induction l with
  | nil=>rfl
  | cons a l ih=>simp only [List.map_cons,zc3,zcI,ih,Bool.and_self]
theorem zjy {m:En→R D} {δ δ':En} {l:List Int} (hp:peek δ=δ') (h:m δ' = .ok (iL l)):zd4 m δ = .ok (iL l):=by
  unfold zd4
  rw [hp,h]
  dsimp only
  rw [if_pos (zgv l)]
theorem zi4 (p:Int × List Int):trD (prI p)=encR p:=by
  unfold prI encR rowT iL
  simp only [trD,trDL,zdj,List.map_map]; rfl
theorem zjI (l:List (Int × List Int)):trD (.l (l.map prI))=za9 l:=by
  unfold za9
  simp only [trD,zdj,List.map_map]
  congr 1
  exact List.map_congr_left fun p _=>zi4 p
theorem zhD (p:Int × List Int):prI p=prT (.int p.1,p.2.map .int):=by unfold prI prT rowT; rw [List.map_map]; rfl
theorem zjT (l:List (Int × List Int)):zbO asPr (l.map prI)=some (l.map fun p=>(.int p.1,p.2.map .int)):=by
  have:l.map prI=(l.map fun p=>(D.int p.1,p.2.map D.int)).map prT:=by rw [List.map_map]; exact List.map_congr_left fun p _=>zhD p
  rw [this,zbM (fun _=>zis _)]
def more (l:List (Int × List Int)):List (Int × List Int):=l.map fun p=>(p.1,p.2 ++ [0])
theorem ziB {l:List Int} {x:Int}:cutD ((l ++ [x]).map D.int) none (some (-1))=l.map D.int:=by
  have e:=zik (l:=(l ++ [x]).map D.int) (k:=l.length) (by simp)
  rw [show ((l ++ [x]).map D.int).take l.length=l.map D.int by rw [List.map_append,List.take_left' (by simp)]] at e
  rw [← e]
  unfold cutD
  have:HT.sIx ((l ++ [x]).map D.int).length ((l ++ [x]).map D.int).length (some (-1))=HT.sIx ((l ++ [x]).map D.int).length ((l ++ [x]).map D.int).length (some (l.length:Int)):=by
    show (if (-1:Int) < 0 then ((-1:Int) + (((l ++ [x]).map D.int).length:Int)).toNat else min (-1:Int).toNat ((l ++ [x]).map D.int).length)=(if (l.length:Int) < 0 then ((l.length:Int) + (((l ++ [x]).map D.int).length:Int)).toNat else min (l.length:Int).toNat ((l ++ [x]).map D.int).length)
    rw [if_pos (by decide),if_neg (by omega)]
    simp; omega
  rw [this]
theorem ziw (ns:List Int) {ps:List Int} {ls:List Ln} (hps:∀ i:Int,0 ≤ i→i < ps.length→0 ≤ gA ps i) (hl:∀ l ∈ ls,LnOk ps.length l) (hn:ls.length ≤ 100):∃ o5 o6,zhj [.v (.scr ns),.v (iL ps),.v (zad ls),.o (iL ps),.o (iL []),.no,.no,.no,.no,.no,.no,.no,.no] = .nx [.v (.scr ns),.v (iL ps),.v (zad ls),.o (iL (runY ps ls).1),.o (iL (runY ps ls).2),sv o5,sv o6,.no,.no,.no,.no,.no,.no]:=by
  obtain ⟨δ,h1,o5,o6,rfl⟩:=zbS (b:=bTup 2 (zaR (zav 5) (zaR (zav 6) bNil))) (m:=zfL) encN (fun pre δ=>∃ o5 o6,δ = [.v (.scr ns),.v (iL ps),.v (zad ls),.o (iL (runY ps pre).1),.o (iL (runY ps pre).2),sv o5,sv o6,.no,.no,.no,.no,.no,.no]) ls
    (by
      rintro pre l post δ hall ⟨o5,o6,rfl⟩
      have ok:=hl l (by rw [hall]; simp)
      have I:=zdi hps pre (fun x hx=>hl x (by rw [hall]; simp [hx]))
      obtain ⟨L,P,e⟩:∃ L P,runY ps pre=(L,P):=⟨_,_,rfl⟩
      rw [e] at I
      rw [e]
      dsimp only
      have il:L.length=ps.length:=I.len
      have pl:P.length=pre.length:=I.plen
      have pn:pre.length ≤ 100:=by rw [hall] at hn; simp at hn; omega
      obtain ⟨a,b⟩:=l
      obtain ⟨a0,a1,b0,b1,ne⟩:=ok
      dsimp only at a0 a1 b0 b1 ne
      obtain ⟨y,ey⟩:∃ y,y=pay1 L (a,b):=⟨_,rfl⟩
      refine ⟨[.v (.scr ns),.v (iL ps),.v (zad ls),.o (iL L),.o (iL P),.v (.int a),.v (.int b),.no,.no,.no,.no,.no,.no],[.v (.scr ns),.v (iL ps),.v (zad ls),.o (iL (low1 L (a,b))),.o (iL (P ++ [y])),.v (.int a),.v (.int b),.no,.no,.no,.no,.no,.no],?_,.inl ?_,some _,some _,by rw [zfR,e,ey]; rfl⟩
      · rcases o5 with _ | o5 <;> rcases o6 with _ | o6 <;> rfl
      · have ha:a.toNat < L.length:=by omega
        have hb:b.toNat < L.length:=by omega
        have ng:m1 oNeg (mC (.int 1))=mC (.int (-1)):=rfl
        have q1:=zcX (i:=4) (me:=mCB zeS (zaa (m2 oIxL (mRd 3) (mRd 5)) (zaa (m2 oIxL (mRd 3) (mRd 6)) mNil))) (δ:=[.v (.scr ns),.v (iL ps),.v (zad ls),.o (iL L),.o (iL P),.v (.int a),.v (.int b),.no,.no,.no,.no,.no,.no]) (y:=y) rfl (by simp [mCB,zaa,mNil,mRd,zbW a0 ha,zbW b0 hb,zeS,ey,pay1]) (by omega)
        have q2:=zfT (i:=3) (mi:=mVar 5) (me:=m2 oSub (m2 oIxL (mRd 3) (mRd 5)) (m2 oIxL (mRd 4) (m1 oNeg (mC (.int 1))))) (δ:=[.v (.scr ns),.v (iL ps),.v (zad ls),.o (iL L),.o (iL (P ++ [y])),.v (.int a),.v (.int b),.no,.no,.no,.no,.no,.no]) (y:=gA L a - y) rfl rfl a0 ha (by rw [ng]; simp [mRd,mC,zbW a0 ha,zhP])
        have ix:=zbW (L:=L.set a.toNat (gA L a - y)) b0 (by simpa using hb)
        rw [zb8 (by omega)] at ix
        have q3:=zfT (i:=3) (mi:=mVar 6) (me:=m2 oSub (m2 oIxL (mRd 3) (mRd 6)) (m2 oIxL (mRd 4) (m1 oNeg (mC (.int 1))))) (δ:=[.v (.scr ns),.v (iL ps),.v (zad ls),.o (iL (L.set a.toNat (gA L a - y))),.o (iL (P ++ [y])),.v (.int a),.v (.int b),.no,.no,.no,.no,.no,.no]) (y:=gA L b - y) rfl rfl b0 (by simpa using hb) (by rw [ng]; simp [mRd,mC,ix,zhP])
        unfold zfL low1
        rw [← ey]
        exact (zap q1).trans ((zap q2).trans q3))
    [.v (.scr ns),.v (iL ps),.v (zad ls),.o (iL ps),.o (iL []),.no,.no,.no,.no,.no,.no,.no,.no] ⟨none,none,rfl⟩
  exact ⟨o5,o6,(zcf (by simp [mItL,mVar,zad])).trans h1⟩
theorem law_true (ns:List Int) (h:ns.length ≤ 63):zj5 [.scr ns] = .ok (.bl true):=by
  obtain ⟨ps,hpts,n2,n40,hpb⟩:=zg3 ns
  obtain ⟨cs,hcut,hcl⟩:=ziC ns (some 2) (some 62)
  obtain ⟨ls,hlines,hl63,hok⟩:=zix cs ps.length n2 n40 (by omega)
  have hps:∀ i:Int,0 ≤ i→i < ps.length→0 ≤ gA ps i:=fun i h0 h1=>(hpb _ (List.mem_of_getElem? (zgn (show i.toNat < ps.length by omega)))).1
  have I:=zdi hps ls hok
  have tq:=zdy hps hok (by omega) (by omega)
  have tn:=zdy (ls:=[]) hps (fun l hl=>by cases hl) (by simp) (by omega)
  have lq:=zcp hps hok (by omega)
  have sq:=zgG hok (by omega) (by omega)
  have wq:=zft (ps:=ps) (ls:=ls) (by omega) (by omega)
  obtain ⟨X,eX⟩:∃ X,X=ps.zip (zbb ps.length ls.zipIdx):=⟨_,rfl⟩
  obtain ⟨Y,eY⟩:∃ Y,Y=more X:=⟨_,rfl⟩
  have Xl:X.length ≤ 40:=by rw [eX]; simp; omega
  have Xr:∀ p ∈ X,p.2.length < 1000:=fun p hp=>by
    rw [eX] at hp
    have:=(List.of_mem_zip hp).2
    unfold zbb at this
    obtain ⟨i,_,e⟩:=List.mem_map.mp this
    have d:=zeq (z:=ls.zipIdx) (p:=i)
    rw [List.length_zipIdx] at d
    rw [← e]; omega
  rw [← eX] at sq wq
  obtain ⟨o5,o6,dl⟩:=ziw ns hps hok (by omega)
  have il:(runY ps ls).1.length=ps.length:=I.len
  have pl:(runY ps ls).2.length=ls.length:=I.plen
  obtain ⟨L,eL⟩:∃ L,L=(runY ps ls).1:=⟨_,rfl⟩
  obtain ⟨pd,epd⟩:∃ pd,pd=(runY ps ls).2:=⟨_,rfl⟩
  obtain ⟨fd,efd⟩:∃ fd,fd=tch ps ls:=⟨_,rfl⟩
  obtain ⟨T,eT⟩:∃ T:Tr,T = .l [.l ((ps.map D.int).map .d),.l ((ls.map encN).map .d)]:=⟨_,rfl⟩
  have dT:trD T = .lst [iL ps,zad ls]:=by
    rw [eT]
    have d1:∀ l:List D,trDL (l.map .d)=l:=fun l=>by
      rw [zdj,List.map_map]
      exact (List.map_congr_left fun x _=>(by simp only [Function.comp,trD,id]:(trD ∘ Tr.d) x=id x)).trans (List.map_id l)
    simp only [trD,trDL,d1]; rfl
  rw [← epd] at lq pl
  rw [← epd,← eL] at dl
  rw [← efd] at tq
  rw [← eL] at il
  have pln:zaU 8 (.lst [iL ps,zad ls])=true:=by
    have a1:zaU 7 (iL ps)=true:=by unfold iL; simp [zaU]
    have a2:zaU 7 (zad ls)=true:=by unfold zad encN; simp [zaU]
    show [iL ps,zad ls].all (zaU 7)=true
    simp [a1,a2]
  refine zfJ ?_
  show mSeq _ _ [.v (.scr ns),.no,.no,.no,.no,.no,.no,.no,.no,.no,.no,.no,.no]=_
  have q1:(mAsg (zao za6 (zaa (mVar 0) mNil)) (zav 1)) [.v (.scr ns),.no,.no,.no,.no,.no,.no,.no,.no,.no,.no,.no,.no] = .nx [.v (.scr ns),.v (iL ps),.no,.no,.no,.no,.no,.no,.no,.no,.no,.no,.no]:=by
    refine zaQ (d:=iL ps) ?_ rfl
    simp [zao,zaa,mNil,mVar,hpts]
  have q2:(mAsg (zao zbg (zaa (mSl (mRd 0) (zdc (mC (.int 2))) (zdc (mC (.int 62)))) (zaa (mCB fLen (zaa (mRd 1) mNil)) mNil))) (zav 2)) [.v (.scr ns),.v (iL ps),.no,.no,.no,.no,.no,.no,.no,.no,.no,.no,.no] = .nx [.v (.scr ns),.v (iL ps),.v (zad ls),.no,.no,.no,.no,.no,.no,.no,.no,.no,.no]:=by
    refine zaQ (d:=zad ls) ?_ rfl
    have sl:mSl (mRd 0) (zdc (mC (.int 2))) (zdc (mC (.int 62))) [.v (.scr ns),.v (iL ps),.no,.no,.no,.no,.no,.no,.no,.no,.no,.no,.no] = .ok (iL cs):=by
      simp only [mSl,mRd,zdc,mC,List.getElem?_cons_zero,R.bind_ok,zjG,R.of_some,asL,hcut]
      rfl
    simp [zao,zaa,mNil,sl,mCB,mRd,hlines]
  have q3:(mAsg (mCB zdb (zaa (mRd 1) mNil)) (bNew 3)) [.v (.scr ns),.v (iL ps),.v (zad ls),.no,.no,.no,.no,.no,.no,.no,.no,.no,.no] = .nx [.v (.scr ns),.v (iL ps),.v (zad ls),.o (iL ps),.no,.no,.no,.no,.no,.no,.no,.no,.no]:=by
    exact zaQ (d:=iL ps) rfl rfl
  have q4:(mAsg (mLst mNil) (bNew 4)) [.v (.scr ns),.v (iL ps),.v (zad ls),.o (iL ps),.no,.no,.no,.no,.no,.no,.no,.no,.no] = .nx [.v (.scr ns),.v (iL ps),.v (zad ls),.o (iL ps),.o (iL []),.no,.no,.no,.no,.no,.no,.no,.no]:=by
    exact zaQ (d:=iL []) (by simp [mLst,mNil,iL,sizeLine]) rfl
  have q5:zhj [.v (.scr ns),.v (iL ps),.v (zad ls),.o (iL ps),.o (iL []),.no,.no,.no,.no,.no,.no,.no,.no] = .nx [.v (.scr ns),.v (iL ps),.v (zad ls),.o (iL L),.o (iL pd),sv o5,sv o6,.no,.no,.no,.no,.no,.no]:=by
    exact dl
  have q6:(mAsg ziL (zav 7)) [.v (.scr ns),.v (iL ps),.v (zad ls),.o (iL L),.o (iL pd),sv o5,sv o6,.no,.no,.no,.no,.no,.no] = .nx [.v (.scr ns),.v (iL ps),.v (zad ls),.o (iL L),.o (iL pd),sv o5,sv o6,.v (iL fd),.no,.no,.no,.no,.no]:=by
    refine zaQ (d:=iL fd) ?_ rfl
    rw [efd]
    refine zcm (l:=(upt ps.length).map .int) (by simp [mRng,zaa,mNil,mCB,mRd,rngT (show ps.length ≤ 1000 by omega)]) (by rw [List.length_map,zcU]; omega) ?_
    refine zbT .int _ _ fun t ht=>?_
    have ht':=mem_upt.mp ht
    have ix:=zbW (L:=L) (k:=t) ht'.1 (by omega)
    have kk:ziV [.l (iL L),.v (zad ls),.v (.int t)] = .ok (.lst ((ls.filter fun l=>decide (t=l.1∨t=l.2)).map encN)):=by
      refine zcm (l:=ls.map encN) (by simp [mItL,mRd,zad]) (by rw [List.length_map]; omega) ?_
      refine zbT encN _ _ fun l hl=>?_
      by_cases c:t=l.1∨t=l.2 <;> simp [zdg,zaB,ze9,za5,zas,mRd,mVar,oIn,encN,asIs,c]
    have sd:zaB [.v (.scr ns),.v (iL ps),.v (zad ls),.o (iL L),.o (iL pd),sv o5,sv o6,.no,.no,.no,.no,.no,.no] [3,2] 1 = [.l (iL L),.v (zad ls),.no]:=rfl
    rw [sd]
    simp [zdg,za5,zas,mVar,mRd,mC,mAnd,ix,mCB,zaa,mNil,kk]
    have em:(0 < (ls.filter fun l=>decide (t=l.1) || decide (t=l.2)).length) ↔ t ∈ za7 ls:=by
      rw [zgu,List.length_pos_iff_exists_mem]
      simp [List.mem_filter]
    rw [← eL]
    by_cases z1:t ∈ za7 ls <;> by_cases z2:gA L t=0 <;> simp [z1,z2,em]
  have q7:(zdD (mTr2 (zgJ (mCB zdb (zaa (mRd 1) mNil))) (zgJ (mCB zdb (zaa (mRd 2) mNil)))) 8) [.v (.scr ns),.v (iL ps),.v (zad ls),.o (iL L),.o (iL pd),sv o5,sv o6,.v (iL fd),.no,.no,.no,.no,.no] = .nx [.v (.scr ns),.v (iL ps),.v (zad ls),.o (iL L),.o (iL pd),sv o5,sv o6,.v (iL fd),.p T,.no,.no,.no,.no]:=by
    rw [eT]
    simp [zdD,mTr2,zgJ,mCB,zaa,mNil,mRd,iL,zad,zdb]
  have q8:(mAsg (zd4 (zao zax (zaa (m2 oIxL (mRd 8) (mC (.int 0))) (zaa (m2 oIxL (mRd 8) (mC (.int 1))) mNil)))) (bNew 9)) [.v (.scr ns),.v (iL ps),.v (zad ls),.o (iL L),.o (iL pd),sv o5,sv o6,.v (iL fd),.p T,.no,.no,.no,.no] = .nx [.v (.scr ns),.v (iL ps),.v (zad ls),.o (iL L),.o (iL pd),sv o5,sv o6,.v (iL fd),.p T,.o (iL pd),.no,.no,.no]:=by
    have hp:peek [.v (.scr ns),.v (iL ps),.v (zad ls),.o (iL L),.o (iL pd),sv o5,sv o6,.v (iL fd),.p T,.no,.no,.no,.no] = [.v (.scr ns),.v (iL ps),.v (zad ls),.v (iL L),.v (iL pd),sv o5,sv o6,.v (iL fd),.v (.lst [iL ps,zad ls]),.no,.no,.no,.no]:=by
      rcases o5 with _ | o5 <;> rcases o6 with _ | o6 <;> simp only [peek,List.map_cons,List.map_nil,zfp,sv,dT]
    refine zaQ (d:=iL pd) (zjy hp ?_) rfl
    have i1:oIxL (.lst [iL ps,zad ls]) (.int 0)=some (iL ps):=rfl
    have i2:oIxL (.lst [iL ps,zad ls]) (.int 1)=some (zad ls):=rfl
    simp [zao,zaa,mNil,mRd,mC,i1,i2,lq]
  have q9:(mIfS (mOr (mNot (zas (zdz zah (zaa (mRd 9) (zaa (mRd 4) mNil))))) (mNot (zas (zco (zao zah (zaa (zao zaV (zaa (m2 oIxL (mRd 8) (mC (.int 0))) (zaa (m2 oIxL (mRd 8) (mC (.int 1))) mNil))) (zaa (mVar 7) mNil)))))))
  (mRet (mC (.bl false)))
  zaO) [.v (.scr ns),.v (iL ps),.v (zad ls),.o (iL L),.o (iL pd),sv o5,sv o6,.v (iL fd),.p T,.o (iL pd),.no,.no,.no] = .nx [.v (.scr ns),.v (iL ps),.v (zad ls),.o (iL L),.o (iL pd),sv o5,sv o6,.v (iL fd),.p T,.o (iL pd),.no,.no,.no]:=by
    have hp:peek [.v (.scr ns),.v (iL ps),.v (zad ls),.o (iL L),.o (iL pd),sv o5,sv o6,.v (iL fd),.p T,.o (iL pd),.no,.no,.no] = [.v (.scr ns),.v (iL ps),.v (zad ls),.v (iL L),.v (iL pd),sv o5,sv o6,.v (iL fd),.v (.lst [iL ps,zad ls]),.v (iL pd),.no,.no,.no]:=by
      rcases o5 with _ | o5 <;> rcases o6 with _ | o6 <;> simp only [peek,List.map_cons,List.map_nil,zfp,sv,dT]
    have i1:oIxL (.lst [iL ps,zad ls]) (.int 0)=some (iL ps):=rfl
    have i2:oIxL (.lst [iL ps,zad ls]) (.int 1)=some (zad ls):=rfl
    have t2:zco (zao zah (zaa (zao zaV (zaa (m2 oIxL (mRd 8) (mC (.int 0))) (zaa (m2 oIxL (mRd 8) (mC (.int 1))) mNil))) (zaa (mVar 7) mNil))) [.v (.scr ns),.v (iL ps),.v (zad ls),.o (iL L),.o (iL pd),sv o5,sv o6,.v (iL fd),.p T,.o (iL pd),.no,.no,.no] = .ok (.bl true):=by
      refine zef hp ?_
      simp [zao,zaa,mNil,mRd,mVar,mC,i1,i2,tq,zbf]
    simp [mIfS,mOr,mNot,zas,t2,zdz,zaa,mNil,mRd,zbf,zcI,zaO]
  have q10:(zdD (zdL zbN (zaa (m2 oIxL (mRd 8) (mC (.int 0))) (zaa (m2 oIxL (mRd 8) (mC (.int 1))) mNil))) 10) [.v (.scr ns),.v (iL ps),.v (zad ls),.o (iL L),.o (iL pd),sv o5,sv o6,.v (iL fd),.p T,.o (iL pd),.no,.no,.no] = .nx [.v (.scr ns),.v (iL ps),.v (zad ls),.o (iL L),.o (iL pd),sv o5,sv o6,.v (iL fd),.p T,.o (iL pd),.p (.l (X.map prI)),.no,.no]:=by
    have hp:peek [.v (.scr ns),.v (iL ps),.v (zad ls),.o (iL L),.o (iL pd),sv o5,sv o6,.v (iL fd),.p T,.o (iL pd),.no,.no,.no] = [.v (.scr ns),.v (iL ps),.v (zad ls),.v (iL L),.v (iL pd),sv o5,sv o6,.v (iL fd),.v (.lst [iL ps,zad ls]),.v (iL pd),.no,.no,.no]:=by
      rcases o5 with _ | o5 <;> rcases o6 with _ | o6 <;> simp only [peek,List.map_cons,List.map_nil,zfp,sv,dT]
    have i1:oIxL (.lst [iL ps,zad ls]) (.int 0)=some (iL ps):=rfl
    have i2:oIxL (.lst [iL ps,zad ls]) (.int 1)=some (zad ls):=rfl
    unfold zdD zdL
    rw [hp]
    simp [zaa,mNil,mRd,mC,i1,i2,sq]
  have q11:(mIfS (mOr (mNot (zas (zco (zao zaW (zaa (mVar 10) (zaa (mVar 1) (zaa (mVar 2) mNil))))))) (zas (zco (m2 oNeD (mRd 8) (mLst (zaa (mVar 1) (zaa (mVar 2) mNil)))))))
  (mRet (mC (.bl false)))
  zaO) [.v (.scr ns),.v (iL ps),.v (zad ls),.o (iL L),.o (iL pd),sv o5,sv o6,.v (iL fd),.p T,.o (iL pd),.p (.l (X.map prI)),.no,.no] = .nx [.v (.scr ns),.v (iL ps),.v (zad ls),.o (iL L),.o (iL pd),sv o5,sv o6,.v (iL fd),.p T,.o (iL pd),.p (.l (X.map prI)),.no,.no]:=by
    have hp:peek [.v (.scr ns),.v (iL ps),.v (zad ls),.o (iL L),.o (iL pd),sv o5,sv o6,.v (iL fd),.p T,.o (iL pd),.p (.l (X.map prI)),.no,.no] = [.v (.scr ns),.v (iL ps),.v (zad ls),.v (iL L),.v (iL pd),sv o5,sv o6,.v (iL fd),.v (.lst [iL ps,zad ls]),.v (iL pd),.v (za9 X),.no,.no]:=by
      rcases o5 with _ | o5 <;> rcases o6 with _ | o6 <;> simp only [peek,List.map_cons,List.map_nil,zfp,sv,dT,zjI]
    have t1:zco (zao zaW (zaa (mVar 10) (zaa (mVar 1) (zaa (mVar 2) mNil)))) [.v (.scr ns),.v (iL ps),.v (zad ls),.o (iL L),.o (iL pd),sv o5,sv o6,.v (iL fd),.p T,.o (iL pd),.p (.l (X.map prI)),.no,.no] = .ok (.bl true):=by
      refine zef hp ?_
      simp [zao,zaa,mNil,mVar,wq]
    have t2:zco (m2 oNeD (mRd 8) (mLst (zaa (mVar 1) (zaa (mVar 2) mNil)))) [.v (.scr ns),.v (iL ps),.v (zad ls),.o (iL L),.o (iL pd),sv o5,sv o6,.v (iL fd),.p T,.o (iL pd),.p (.l (X.map prI)),.no,.no] = .ok (.bl false):=by
      refine zef hp ?_
      have l:mLst (zaa (mVar 1) (zaa (mVar 2) mNil)) [.v (.scr ns),.v (iL ps),.v (zad ls),.v (iL L),.v (iL pd),sv o5,sv o6,.v (iL fd),.v (.lst [iL ps,zad ls]),.v (iL pd),.v (za9 X),.no,.no] = .ok (.lst [iL ps,zad ls]):=by
        unfold mLst
        exact za0 (show 2 ≤ sizeLine by decide)
      rw [zjv,l]
      show (((R.ok (D.lst [iL ps,zad ls])).bind _))=_
      rw [R.bind_ok,R.bind_ok,zg2 pln pln rfl]; rfl
    simp [mIfS,mOr,mNot,zas,t1,t2,zaO]
  have q12:(zh2 10 11 12 (fun l=>l ++ [.int 0]) (fun l=>decide (l.length < 1000))) [.v (.scr ns),.v (iL ps),.v (zad ls),.o (iL L),.o (iL pd),sv o5,sv o6,.v (iL fd),.p T,.o (iL pd),.p (.l (X.map prI)),.no,.no] = .nx [.v (.scr ns),.v (iL ps),.v (zad ls),.o (iL L),.o (iL pd),sv o5,sv o6,.v (iL fd),.p T,.o (iL pd),.p (.l (Y.map prI)),.no,.no]:=by
    unfold zh2
    dsimp only [List.getElem?_cons_succ,List.getElem?_cons_zero]
    rw [zjT]
    dsimp only
    rw [if_pos ⟨by
      rw [List.all_map,List.all_eq_true]
      intro p hp
      have:=Xr p hp
      simpa using this,by decide⟩]
    rw [List.map_map,eY,more,List.map_map]
    have:(X.map ((fun p:D × List D=>prT (p.1,p.2 ++ [D.int 0])) ∘ fun p:Int × List Int=>(D.int p.1,p.2.map D.int)))=X.map (prI ∘ fun p:Int × List Int=>(p.1,p.2 ++ [0])):=List.map_congr_left fun p _=>by
      simp only [Function.comp,zhD,List.map_append,List.map_cons,List.map_nil]
    rw [this]; rfl
  have q13:(mIfS (mNot (zas (zco (zao zaW (zaa zgm (zaa (mVar 1) (zaa (mVar 2) mNil)))))))
  (mRet (mC (.bl false)))
  zaO) [.v (.scr ns),.v (iL ps),.v (zad ls),.o (iL L),.o (iL pd),sv o5,sv o6,.v (iL fd),.p T,.o (iL pd),.p (.l (Y.map prI)),.no,.no] = .nx [.v (.scr ns),.v (iL ps),.v (zad ls),.o (iL L),.o (iL pd),sv o5,sv o6,.v (iL fd),.p T,.o (iL pd),.p (.l (Y.map prI)),.no,.no]:=by
    have hp:peek [.v (.scr ns),.v (iL ps),.v (zad ls),.o (iL L),.o (iL pd),sv o5,sv o6,.v (iL fd),.p T,.o (iL pd),.p (.l (Y.map prI)),.no,.no] = [.v (.scr ns),.v (iL ps),.v (zad ls),.v (iL L),.v (iL pd),sv o5,sv o6,.v (iL fd),.v (.lst [iL ps,zad ls]),.v (iL pd),.v (za9 Y),.no,.no]:=by
      rcases o5 with _ | o5 <;> rcases o6 with _ | o6 <;> simp only [peek,List.map_cons,List.map_nil,zfp,sv,dT,zjI]
    have kk:zgm [.v (.scr ns),.v (iL ps),.v (zad ls),.v (iL L),.v (iL pd),sv o5,sv o6,.v (iL fd),.v (.lst [iL ps,zad ls]),.v (iL pd),.v (za9 Y),.no,.no] = .ok (za9 X):=by
      refine zcm (l:=Y.map encR) (r:=X.map encR) (by simp [mItL,mRd,za9]) (by rw [List.length_map,eY,more,List.length_map]; omega) ?_
      rw [eY,more,List.map_map]
      refine zea (encR ∘ fun p:Int × List Int=>(p.1,p.2 ++ [0])) encR _ fun p hp=>?_
      have c:=ziB (l:=p.2) (x:=0)
      have ng:oNeg (.int 1)=some (.int (-1)):=rfl
      have sl:mSl (mRd 1) mNoP (zdc (m1 oNeg (mC (.int 1)))) [.v (.int p.1),.v (iL (p.2 ++ [0]))] = .ok (iL p.2):=by
        have as:asL (iL (p.2 ++ [0]))=some ((p.2 ++ [0]).map D.int):=rfl
        simp only [mSl,mRd,mNoP,zdc,zkK,mC,List.getElem?_cons_succ,List.getElem?_cons_zero,R.bind_ok,ng,R.of_some,zjG,as,c]
        rfl
      simp only [zdg,zaB,List.map_nil,List.nil_append]
      show ((mTup (zaa (mVar 0) (zaa (mSl (mRd 1) mNoP (zdc (m1 oNeg (mC (.int 1))))) mNil)) [.v (.int p.1),.v (iL (p.2 ++ [0]))]).nev.bind _)=_
      simp [mTup,zaa,mNil,mVar,sl,sizeLine,encR]
    have t1:zco (zao zaW (zaa zgm (zaa (mVar 1) (zaa (mVar 2) mNil)))) [.v (.scr ns),.v (iL ps),.v (zad ls),.o (iL L),.o (iL pd),sv o5,sv o6,.v (iL fd),.p T,.o (iL pd),.p (.l (Y.map prI)),.no,.no] = .ok (.bl true):=by
      refine zef hp ?_
      simp only [zao,zaa,mNil,mVar,kk,R.bind_ok,List.getElem?_cons_succ,List.getElem?_cons_zero,wq,R.nev_ok]
    simp [mIfS,mNot,zas,t1,zaO]
  have q14:(mIfS (mOr (mNot (zas (zao zah (zaa (zao zax (zaa (mLst (zaa (mC (.int 3)) (zaa (mC (.int 2)) mNil))) (zaa (mLst (zaa (mTup (zaa (mC (.int 0)) (zaa (mC (.int 1)) mNil))) (zaa (mTup (zaa (mC (.int 1)) (zaa (mC (.int 0)) mNil))) mNil))) mNil))) (zaa (mLst (zaa (mC (.int 2)) (zaa (mC (.int 0)) mNil))) mNil))))) (zas (m2 oNeD (mRd 9) (mRd 4))))
  (mRet (mC (.bl false)))
  zaO) [.v (.scr ns),.v (iL ps),.v (zad ls),.o (iL L),.o (iL pd),sv o5,sv o6,.v (iL fd),.p T,.o (iL pd),.p (.l (Y.map prI)),.no,.no] = .nx [.v (.scr ns),.v (iL ps),.v (zad ls),.o (iL L),.o (iL pd),sv o5,sv o6,.v (iL fd),.p T,.o (iL pd),.p (.l (Y.map prI)),.no,.no]:=by
    have hps2:∀ i:Int,0 ≤ i→i < ([3,2]:List Int).length→0 ≤ gA [3,2] i:=fun i h0 h1=>by
      rcases (show i=0∨i=1 by simp at h1; omega) with z | z <;> subst z <;> decide
    have hok2:∀ l ∈ ([(0,1),(1,0)]:List Ln),LnOk ([3,2]:List Int).length l:=fun l hl=>by
      simp at hl
      rcases hl with z | z <;> subst z <;> exact ⟨by decide,by decide,by decide,by decide,by decide⟩
    have lq2:zax [.lst [.int 3,.int 2],.lst [.tup [.int 0,.int 1],.tup [.int 1,.int 0]]] = .ok (iL [2,0]):=zcp hps2 hok2 (by decide)
    have nm:zah [iL [2,0],.lst [.int 2,.int 0]] = .ok (.bl true):=zbf [2,0]
    have t1:zao zah (zaa (zao zax (zaa (mLst (zaa (mC (.int 3)) (zaa (mC (.int 2)) mNil))) (zaa (mLst (zaa (mTup (zaa (mC (.int 0)) (zaa (mC (.int 1)) mNil))) (zaa (mTup (zaa (mC (.int 1)) (zaa (mC (.int 0)) mNil))) mNil))) mNil))) (zaa (mLst (zaa (mC (.int 2)) (zaa (mC (.int 0)) mNil))) mNil)) [.v (.scr ns),.v (iL ps),.v (zad ls),.o (iL L),.o (iL pd),sv o5,sv o6,.v (iL fd),.p T,.o (iL pd),.p (.l (Y.map prI)),.no,.no] = .ok (.bl true):=by
      simp [zao,zaa,mNil,mLst,mTup,mC,sizeLine,lq2,nm]
    have ne:oNeD (iL pd) (iL pd)=some (.bl false):=zg2 (zge _) (zge _) rfl
    simp [mIfS,mOr,mNot,zas,t1,mRd,ne,zaO]
  have q15:(zhd 8 (mC (.int 1))) [.v (.scr ns),.v (iL ps),.v (zad ls),.o (iL L),.o (iL pd),sv o5,sv o6,.v (iL fd),.p T,.o (iL pd),.p (.l (Y.map prI)),.no,.no] = .nx [.v (.scr ns),.v (iL ps),.v (zad ls),.o (iL L),.o (iL pd),sv o5,sv o6,.v (iL fd),.p (.l [.l ((ps.map D.int).map .d),.l []]),.o (iL pd),.p (.l (Y.map prI)),.no,.no]:=by
    rw [eT]
    unfold zhd
    rfl
  have q16:(zbk 9 (mC (.int 1))) [.v (.scr ns),.v (iL ps),.v (zad ls),.o (iL L),.o (iL pd),sv o5,sv o6,.v (iL fd),.p (.l [.l ((ps.map D.int).map .d),.l []]),.o (iL pd),.p (.l (Y.map prI)),.no,.no] = .nx [.v (.scr ns),.v (iL ps),.v (zad ls),.o (iL L),.o (iL pd),sv o5,sv o6,.v (iL fd),.p (.l [.l ((ps.map D.int).map .d),.l []]),.o (iL (pd ++ [1])),.p (.l (Y.map prI)),.no,.no]:=by
    exact zcX (L:=pd) (y:=1) rfl rfl (by omega)
  have q17:(mRet (zh9 (zao zah (zaa (zao zaV (zaa (mVar 1) (zaa (mLst mNil) mNil))) (zaa (mLst mNil) mNil))) (zdz zah (zaa (zao zax (zaa (mVar 1) (zaa (mVar 2) mNil))) (zaa (mRd 4) mNil))))) [.v (.scr ns),.v (iL ps),.v (zad ls),.o (iL L),.o (iL pd),sv o5,sv o6,.v (iL fd),.p (.l [.l ((ps.map D.int).map .d),.l []]),.o (iL (pd ++ [1])),.p (.l (Y.map prI)),.no,.no] = .rt (.bl true):=by
    have t0:tch ps [] = []:=by
      unfold tch
      rw [List.filter_eq_nil_iff]
      intro p _
      simp [za7]
    rw [t0] at tn
    have n0:zah [iL [],.lst []] = .ok (.bl true):=zbf []
    have tn':zaV [iL ps,.lst []] = .ok (iL []):=tn
    simp [mRet,zh9,zao,zdz,zaa,mNil,mVar,mRd,mLst,sizeLine,tn',n0,lq,zbf,zcI]
  exact (zap q1).trans ((zap q2).trans ((zap q3).trans ((zap q4).trans ((zap q5).trans ((zap q6).trans ((zap q7).trans ((zap q8).trans ((zap q9).trans ((zap q10).trans ((zap q11).trans ((zap q12).trans ((zap q13).trans ((zap q14).trans ((zap q15).trans ((zap q16).trans (q17))))))))))))))))
end My
namespace My
open PySem L2 PM PyProof.Rows
def top (i:Nat):Stmt:=PySem.Challenge.pw_goodenough_k11_lines_pay.main.body.getD i (.Pass ⟨0,0,0,0⟩)
abbrev XO0:XOT:=fun _ _ _ _ _=>False
abbrev KX (K:PySem.W.Frag):Kx:=⟨K,fun _=>0,fun _=>Str.empty⟩
def zgb (K:PySem.W.Frag):Sp:=fun vs H Q _=>∃ (a:Addr) (ns:List Int),vs = [.ref a]∧SqL K H a (ns.map V.int)∧ns.length ≤ 63∧∀ H',Q (.bl true) H'
structure Txt (K:PySem.W.Frag) (mg:Str→Option Value):Prop where
  len:mg "len"=none
  isinstance:mg "isinstance"=none
  list:mg "list"=none
  int:mg "int"=none
  bool:mg "bool"=none
  tuple:mg "tuple"=none
  range:mg "range"=none
  enumerate:mg "enumerate"=none
  min:mg "min"=none
  zip:mg "zip"=none
section
variable {P:Program} {w:World} {K:PySem.W.Frag} {mg:Str→Option Value} {base:Heap}
abbrev zbR:Stmt:=top 6
theorem zdN:FnScope ["_law_script","_law_k"] ["_law_script","_law_k"] (zar zbR):=⟨rfl,rfl,rfl,by decide +kernel,rfl,by decide +kernel,by decide +kernel⟩
theorem zdX {f:Addr} {fd:FuncData} (F:Fun K "_law_cell_at" "_law_cell_at" zbR f fd) (T:Txt K mg)  : FnOk P w K mg base CX0 1 f fd ["_law_script","_law_k"] (spM (KX K) XO0 zaE):=by
  refine F.ok zdN (fun vs H Q E h=>zdG h) (fun cdv A outer s H vs Q E hr h=>?_)
  have hu:=zde hr
  exact ⟨_,(zaf (zcy (zaS zkv (pv 1) (zaG zaC (by rfl) T.len PySem.boot_len (zab (pv 0) zai)) (zbe _))
      (zat (zaT (zbd zaJ (pv 0) (pv 1) (fun _ _=>rfl))))
      za4)
      (zat (zaT zak))),zgB (K:=(KX K)) (XO:=XO0) (E:=E) (np:=2) (nv:=0) (m:=zbs)
      (zau (zcs (zaN (zan zkE zac ((zcC zbZ (zaD zac zaM))).r))
      (zbc (zan zba zac zac))
      za3)
      (zbc zal)) rfl h⟩
abbrev zb4:Stmt:=top 7
theorem zet:FnScope ["_law_cell","_law_k"] ["_law_cell","_law_k"] (zar zb4):=⟨rfl,rfl,rfl,by decide +kernel,rfl,by decide +kernel,by decide +kernel⟩
theorem zeN {f:Addr} {fd:FuncData} (F:Fun K "_law_number" "_law_number" zb4 f fd) (T:Txt K mg)  : FnOk P w K mg base CX0 1 f fd ["_law_cell","_law_k"] (spM (KX K) XO0 zaK):=by
  refine F.ok zet (fun vs H Q E h=>zdG h) (fun cdv A outer s H vs Q E hr h=>?_)
  have hu:=zde hr
  exact ⟨_,(zat (zaT (zaL zbo (zaL zfv (zaL zcF (zaL zcF (zaL zbo (pv 0) (zaL zhA zak zak)) (zaL zfv (pv 1) (pv 1))) zak) (zaL zcF zak (zaL zfv zak (pv 1)))) zak))),zgB (K:=(KX K)) (XO:=XO0) (E:=E) (np:=2) (nv:=0) (m:=zch)
      (zbc (zan zbm ((zan zh0 ((zan zcK ((zan zcK ((zan zbm zac ((zan zgZ (zal).r (zal).r)).r)).r ((zan zh0 zac zac)).r)).r (zal).r)).r ((zan zcK (zal).r ((zan zh0 (zal).r zac)).r)).r)).r (zal).r)) rfl h⟩
abbrev zcd:Stmt:=top 8
theorem sc_law_amount:FnScope ["_law_cell","_law_number_here","_law_way","_law_part"] ["_law_cell","_law_number_here"] (zar zcd):=⟨rfl,rfl,rfl,by decide +kernel,rfl,by decide +kernel,by decide +kernel⟩
theorem zen {f:Addr} {fd:FuncData} (F:Fun K "_law_amount" "_law_amount" zcd f fd) (T:Txt K mg)  : FnOk P w K mg base CX0 1 f fd ["_law_cell","_law_number_here"] (spM (KX K) XO0 zaH):=by
  refine F.ok sc_law_amount (fun vs H Q E h=>zdG h) (fun cdv A outer s H vs Q E hr h=>?_)
  have hu:=zde hr
  exact ⟨_,(zaf (zaZ (i:=2) sc_law_amount.nd rfl (by first | exact Or.inl rfl | exact Or.inr rfl) (zaL zbo (pv 1) zak))
      (zaf (zaZ (i:=3) sc_law_amount.nd rfl (by first | exact Or.inl rfl | exact Or.inr rfl) (zaL zbG (pv 1) zak))
      (zaf (zcy (zaS zee (pv 2) zak (zbe _))
      (zat (zaT (zaL zbo (pv 3) zak)))
      za4)
      (zaf (zcy (zaS zee (pv 2) zak (zbe _))
      (zat (zaT (zaL zbo (pv 0) (zaL zcF (zaL zhA zak zak) zak))))
      za4)
      (zaf (zcy (zaS zee (pv 2) zak (zbe _))
      (zat (zaT (zaL zgp (zaL zhA zak zak) (zaL zbo (pv 3) zak))))
      za4)
      (zat (zaT (zaL zbo (pv 3) zak)))))))),zgB (K:=(KX K)) (XO:=XO0) (E:=E) (np:=2) (nv:=2) (m:=za8)
      (zau (zbu (zan zbm zac (zal).r) zay)
      (zau (zbu (zan zc5 zac (zal).r) zay)
      (zau (zcs (zaN (zan zeJ zac (zal).r))
      (zbc (zan zbm zac (zal).r))
      za3)
      (zau (zcs (zaN (zan zeJ zac (zal).r))
      (zbc (zan zbm zac ((zan zcK ((zan zgZ (zal).r (zal).r)).r (zal).r)).r))
      za3)
      (zau (zcs (zaN (zan zeJ zac (zal).r))
      (zbc (zan zf1 ((zan zgZ (zal).r (zal).r)).r ((zan zbm zac (zal).r)).r))
      za3)
      (zbc (zan zbm zac (zal).r))))))) rfl h⟩
abbrev zbD:Stmt:=top 9
theorem sc_law_points:FnScope ["_law_script","_law_cell","_law_many"] ["_law_script"] (zar zbD):=⟨rfl,rfl,rfl,by decide +kernel,rfl,by decide +kernel,by decide +kernel⟩
theorem zeG {f:Addr} {fd:FuncData} (F:Fun K "_law_points" "_law_points" zbD f fd) (T:Txt K mg) (G_law_cell_at:Has P w K mg base CX0 1 "_law_cell_at" ["_law_script","_law_k"] (spM (KX K) XO0 zaE)) (G_law_number:Has P w K mg base CX0 1 "_law_number" ["_law_cell","_law_k"] (spM (KX K) XO0 zaK)) (G_law_amount:Has P w K mg base CX0 1 "_law_amount" ["_law_cell","_law_number_here"] (spM (KX K) XO0 zaH)):FnOk P w K mg base CX0 2 f fd ["_law_script"] (spO (KX K) XO0 za6):=by
  refine F.ok sc_law_points (fun vs H Q E h=>zer h) (fun cdv A outer s H vs Q E hr h=>?_)
  have hu:=zde hr
  exact ⟨_,(zaf (zaZ (i:=1) sc_law_points.nd rfl (by first | exact Or.inl rfl | exact Or.inr rfl) (zaX G_law_cell_at (hr.mono (by decide)) (by rfl) zbt (zab (pv 0) (zab zak zai))))
      (zaf (zaZ (i:=2) sc_law_points.nd rfl (by first | exact Or.inl rfl | exact Or.inr rfl) (zaL zcF zak (zaL zbo (pv 1) zak)))
      (zaf (zcy (zaS zee (zaL zbo (zaL zbG (pv 1) zak) zak) zak (zbe _))
      (zat (zaZ (i:=2) sc_law_points.nd rfl (by first | exact Or.inl rfl | exact Or.inr rfl) (zaL zcF zak (zaL zbo (zaL zbG (pv 1) zak) zak))))
      za4)
      (zat (zaT (zcY rfl (zdu rfl T.range (zab (pv 2) zai)) (zc9 (zar zbD) ["_law_script","_law_cell","_law_many"] ["_law_script","_law_cell","_law_k"] [0,1] 1 rfl rfl rfl (by decide +kernel) (by decide +kernel) (by decide +kernel) rfl (by decide +kernel) (fun cl C s H fp pins=>(zaA (i:=2) (show List.Nodup (["_law_script","_law_cell","_law_k"]:List Str) by decide +kernel) rfl (Or.inl rfl))) (fun cl C s H fp pins=>(zaX G_law_amount (hr.mono (by decide)) (by rfl) zbt (zab (zaX G_law_cell_at (hr.mono (by decide)) (by rfl) zbt (zab (pv 0) (zab (zaL zcF zak (zaL zbo (pv 2) zak)) zai))) (zab (zaL zbG (zaX G_law_number (hr.mono (by decide)) (by rfl) zbt (zab (zaL zbG (pv 1) zak) (zab (pv 2) zai))) zak) zai)))) (Or.inl ⟨rfl,rfl⟩)))))))),zfV (K:=(KX K)) (XO:=XO0) (E:=E) (np:=1) (nv:=2) (m:=zc7)
      (zau (zbu (za1 (zae zaq (zae zal zaw))) zay)
      (zau (zbu (zan zcK (zal).r ((zan zbm zac (zal).r)).r) zay)
      (zau (zcs (zaN (zan zeJ ((zan zbm ((zan zc5 zac (zal).r)).r (zal).r)).r (zal).r))
      (zbu (zan zcK (zal).r ((zan zbm ((zan zc5 zac (zal).r)).r (zal).r)).r) zay)
      za3)
      (zfq (zcj (zdA len1 (zae zaq zaw)).c (by decide) zbq zbP (Or.inl ⟨rfl,rfl⟩) (za1 (zae (za1 (zae zaq (zae (zan zcK (zal).r ((zan zbm zac (zal).r)).r) zaw))) (zae (zan zc5 ((za1 (zae (zan zc5 zac (zal).r) (zae zaq zaw)))).r (zal).r) zaw)))))))) rfl h⟩
abbrev zcw:Stmt:=top 10
theorem sc_law_lines:FnScope ["_law_cells","_law_many","_law_lines_here","_law_k","_law_cell","_law_number_here","_law_one","_law_other"] ["_law_cells","_law_many"] (zar zcw):=⟨rfl,rfl,rfl,by decide +kernel,rfl,by decide +kernel,by decide +kernel⟩
theorem zeO {f:Addr} {fd:FuncData} (F:Fun K "_law_lines" "_law_lines" zcw f fd) (T:Txt K mg) (G_law_number:Has P w K mg base CX0 1 "_law_number" ["_law_cell","_law_k"] (spM (KX K) XO0 zaK)):FnOk P w K mg base CX0 2 f fd ["_law_cells","_law_many"] (spO (KX K) XO0 zbg):=by
  refine F.ok sc_law_lines (fun vs H Q E h=>zer h) (fun cdv A outer s H vs Q E hr h=>?_)
  have hu:=zde hr
  exact ⟨_,(zaf (zaZ (i:=2) sc_law_lines.nd rfl (by first | exact Or.inl rfl | exact Or.inr rfl) (zbL zai))
      (zaf (zcN PassesOwn.never rfl (zdq rfl T.enumerate (zab (pv 0) zai)) (zb1 rfl (zaz (zaA (i:=3) sc_law_lines.nd rfl (by first | exact Or.inl rfl | exact Or.inr rfl)) (zaz (zaA (i:=4) sc_law_lines.nd rfl (by first | exact Or.inl rfl | exact Or.inr rfl)) zbl)))
      (zaf (zaZ (i:=5) sc_law_lines.nd rfl (by first | exact Or.inl rfl | exact Or.inr rfl) (zaX G_law_number (hr.mono (by decide)) (by rfl) zbt (zab (pv 4) (zab (pv 3) zai))))
      (zaf (zaZ (i:=6) sc_law_lines.nd rfl (by first | exact Or.inl rfl | exact Or.inr rfl) (zaL zbo (zaL zbG (pv 5) zak) (pv 1)))
      (zaf (zaZ (i:=7) sc_law_lines.nd rfl (by first | exact Or.inl rfl | exact Or.inr rfl) (zaL zbo (zaL zcF (zaL zcF (pv 6) zak) (zaL zbo (zaL zbG (pv 5) zak) (zaL zgp (pv 1) zak))) (pv 1)))
      (zaf (zcy ((zhz (zaS zee (zaL zbo (pv 5) zak) zak (zbe _)) (zfK (zaS zjY (zaG zaC (by rfl) T.len PySem.boot_len (zab (pv 2) zai)) zak (zbe _))))).pt
      (zat (zhB (zbd zaJ (pv 2) (zaL zbo (zaL zbG (pv 5) zak) (zaG zaC (by rfl) T.len PySem.boot_len (zab (pv 2) zai))) (fun _ _=>rfl)) (zb1 rfl (zaz (zaA (i:=6) sc_law_lines.nd rfl (by first | exact Or.inl rfl | exact Or.inr rfl)) (zaz (zaA (i:=7) sc_law_lines.nd rfl (by first | exact Or.inl rfl | exact Or.inr rfl)) zbl)))))
      za4)
      (zat (zcx (zgC PySem.F.plainAttrs_list PySem.F.slot_list_append PySem.F.type_list_append zbv (pv 2) (zab (zd9 (zab (pv 6) (zab (pv 7) zai))) zai)))))))))
      (zat (zaT (pv 2))))),zfV (K:=(KX K)) (XO:=XO0) (E:=E) (np:=2) (nv:=6) (m:=zds)
      (zau (zdB (zbj zaw))
      (zau (zc4 (zfE (zae zaq zaw)) (zcr (zaF zay (zaF zay zbI)))
      (zau (zbu (za1 (zae zaq (zae zaq zaw))) zay)
      (zau (zbu (zan zbm ((zan zc5 zac (zal).r)).r zac) zay)
      (zau (zbu (zan zbm ((zan zcK ((zan zcK zac (zal).r)).r ((zan zbm ((zan zc5 zac (zal).r)).r ((zan zf1 zac (zal).r)).r)).r)).r zac) zay)
      (zau (zcs (zhI (zaN (zan zeJ ((zan zbm zac (zal).r)).r (zal).r)) (zaN (zan zj1 ((zcC zbZ (zaD zac zaM))).r (zal).r)))
      (zbu (zan zba zac ((zan zbm ((zan zc5 zac (zal).r)).r ((zcC zbZ (zaD zac zaM))).r)).r) (zcr (zaF zay (zaF zay zbI))))
      za3)
      (zcL (zf0 (zae zaq (zae zaq zaw)))))))))
      zjc)) rfl h⟩
abbrev zey:Stmt:=top 1
theorem sc_paying:FnScope ["prices","lines","left","paid","a","b","pay"] ["prices","lines"] (zar zey):=⟨rfl,rfl,rfl,by decide +kernel,rfl,by decide +kernel,by decide +kernel⟩
theorem zg4 {f:Addr} {fd:FuncData} (F:Fun K "paying" "paying" zey f fd) (T:Txt K mg)  : FnOk P w K mg base CX0 1 f fd ["prices","lines"] (spG (KX K) XO0 AnP zbF):=by
  refine F.ok sc_paying (fun vs H Q E h=>zhU h) (fun cdv A outer s H vs Q E hr h=>?_)
  have hu:=zde hr
  exact ⟨_,(zaf (zaZ (i:=2) sc_paying.nd rfl (by first | exact Or.inl rfl | exact Or.inr rfl) (zcJ zbE (by rfl) T.list boot_list (zab (pv 0) zai)))
      (zaf (zaZ (i:=3) sc_paying.nd rfl (by first | exact Or.inl rfl | exact Or.inr rfl) (zbL zai))
      (zaf (zcN PassesOwn.never rfl (zcu (pv 1)) (zb1 rfl (zaz (zaA (i:=4) sc_paying.nd rfl (by first | exact Or.inl rfl | exact Or.inr rfl)) (zaz (zaA (i:=5) sc_paying.nd rfl (by first | exact Or.inl rfl | exact Or.inr rfl)) zbl)))
      (zaf (zaZ (i:=6) sc_paying.nd rfl (by first | exact Or.inl rfl | exact Or.inr rfl) (zaG (zfe rfl) (by rfl) T.min boot_min (zab (zbd zaJ (pv 2) (pv 4) (fun _ _=>rfl)) (zab (zbd zaJ (pv 2) (pv 5) (fun _ _=>rfl)) zai))))
      (zaf (zhQ (pv 2) (pv 4) zfY (pv 6) ziH zdk)
      (zaf (zhQ (pv 2) (pv 5) zfY (pv 6) ziH zdk)
      (zat (zcx (zgC PySem.F.plainAttrs_list PySem.F.slot_list_append PySem.F.type_list_append zbv (pv 3) (zab (pv 6) zai))))))))
      (zat (zaT (zd9 (zab (pv 3) (zab (pv 2) zai)))))))),ziS (K:=(KX K)) (XO:=XO0) (E:=E) (np:=2) (nv:=5) (m:=zgd)
      (zdv (zdB (zfU zez (zaD zac zaM)))
      (zdv (zdB (zbj zaw))
      (zdv (zc4 (zfu zaq) (zcr (zaF zay (zaF zay zbI)))
      (zau (zbu (zcC zhc (zaD ((zan zba zac zac)).r (zaD ((zan zba zac zac)).r zaM))) zay)
      (zau (zhu zaq zaq)
      (zau (zhu zaq zaq)
      (zcL zaq)))))
      zjn))) rfl h⟩
abbrev zbQ:Stmt:=top 2
theorem zdS:FnScope ["prices","lines"] ["prices","lines"] (zar zbQ):=⟨rfl,rfl,rfl,by decide +kernel,rfl,by decide +kernel,by decide +kernel⟩
theorem zdR {f:Addr} {fd:FuncData} (F:Fun K "line_prices" "line_prices" zbQ f fd) (T:Txt K mg) (G_paying:Has P w K mg base CX0 1 "paying" ["prices","lines"] (spG (KX K) XO0 AnP zbF)):FnOk P w K mg base CX0 2 f fd ["prices","lines"] (spO (KX K) XO0 zax):=by
  refine F.ok zdS (fun vs H Q E h=>zer h) (fun cdv A outer s H vs Q E hr h=>?_)
  have hu:=zde hr
  exact ⟨_,(zat (zaT (zbd zeb (zaX G_paying (hr.mono (by decide)) (by rfl) zbt (zab (pv 0) (zab (pv 1) zai))) zak (fun _ _=>rfl)))),zfV (K:=(KX K)) (XO:=XO0) (E:=E) (np:=2) (nv:=0) (m:=zcA)
      (zfq (zhL (zae zaq (zae zaq zaw)))) rfl h⟩
abbrev zbY:Stmt:=top 11
theorem sc_law_numbers:FnScope ["_law_found","_law_due","_law_one","_law_other"] ["_law_found","_law_due"] (zar zbY):=⟨rfl,rfl,rfl,by decide +kernel,rfl,by decide +kernel,by decide +kernel⟩
theorem zdO {f:Addr} {fd:FuncData} (F:Fun K "_law_numbers" "_law_numbers" zbY f fd) (T:Txt K mg)  : FnOk P w K mg base CX0 1 f fd ["_law_found","_law_due"] (spM (KX K) XO0 zah):=by
  refine F.ok sc_law_numbers (fun vs H Q E h=>zdG h) (fun cdv A outer s H vs Q E hr h=>?_)
  have hu:=zde hr
  exact ⟨_,(zaf (zcy ((zdM (zb6 (zb0 (zaG zaY (by rfl) T.isinstance boot_isinstance (zab (pv 0) (zab (zdr (v:=.ty "list") (by rfl) T.list boot_list rfl) zai))))) (zda (zaS zid (zaG zaC (by rfl) T.len PySem.boot_len (zab (pv 0) zai)) (zaG zaC (by rfl) T.len PySem.boot_len (zab (pv 1) zai)) (zbe _))))).pt
      (zat (zaT zc1))
      za4)
      (zaf (zcN PassesOwn.never rfl (zkb rfl T.zip (zab (pv 0) (zab (pv 1) zai))) (zb1 rfl (zaz (zaA (i:=2) sc_law_numbers.nd rfl (by first | exact Or.inl rfl | exact Or.inr rfl)) (zaz (zaA (i:=3) sc_law_numbers.nd rfl (by first | exact Or.inl rfl | exact Or.inr rfl)) zbl)))
      (zat (zcy ((zdM (zb6 (zb0 (zaG zaY (by rfl) T.isinstance boot_isinstance (zab (pv 2) (zab (zdr (v:=.ty "int") (by rfl) T.int boot_int rfl) zai))))) (zdM (zb0 (zaG zaY (by rfl) T.isinstance boot_isinstance (zab (pv 2) (zab (zdr (v:=.ty "bool") (by rfl) T.bool boot_bool rfl) zai)))) (zda (zaS zid (pv 2) (pv 3) (zbe _)))))).pt
      (zat (zaT zc1))
      za4)))
      (zat (zaT zc1)))),zgB (K:=(KX K)) (XO:=XO0) (E:=E) (np:=2) (nv:=2) (m:=zcB)
      (zau (zcs (zdQ (zb5 (st_b (zeW zfb zac))) (zaN (zan zif ((zcC zbZ (zaD zac zaM))).r ((zcC zbZ (zaD zac zaM))).r)))
      (zbc zc2)
      za3)
      (zau (zc4 (zjE (zae zaq (zae zaq zaw))) (zcr (zaF zay (zaF zay zbI)))
      (zcs (zdQ (zb5 (st_b (zeW zia zac))) (zdQ (st_b (zeW zgX zac)) (zaN (zan zif zac zac))))
      (zbc zc2)
      za3))
      (zbc zc2))) rfl h⟩
abbrev zcl:Stmt:=top 3
theorem sc_touching:FnScope ["prices","lines","left","ends","a","b"] ["prices","lines"] (zar zcl):=⟨rfl,rfl,rfl,by decide +kernel,rfl,by decide +kernel,by decide +kernel⟩
theorem zfF {f:Addr} {fd:FuncData} (F:Fun K "touching" "touching" zcl f fd) (T:Txt K mg) (G_paying:Has P w K mg base CX0 1 "paying" ["prices","lines"] (spG (KX K) XO0 AnP zbF)):FnOk P w K mg base CX0 2 f fd ["prices","lines"] (spO (KX K) XO0 zaV):=by
  refine F.ok sc_touching (fun vs H Q E h=>zer h) (fun cdv A outer s H vs Q E hr h=>?_)
  have hu:=zde hr
  exact ⟨_,(zaf (zaZ (i:=2) sc_touching.nd rfl (by first | exact Or.inl rfl | exact Or.inr rfl) (zbd zeb (zaX G_paying (hr.mono (by decide)) (by rfl) zbt (zab (pv 0) (zab (pv 1) zai))) zak (fun _ _=>rfl)))
      (zaf (zaZ (i:=3) sc_touching.nd rfl (by first | exact Or.inl rfl | exact Or.inr rfl) ziq)
      (zaf (zcN PassesOwn.never rfl (zcu (pv 1)) (zb1 rfl (zaz (zaA (i:=4) sc_touching.nd rfl (by first | exact Or.inl rfl | exact Or.inr rfl)) (zaz (zaA (i:=5) sc_touching.nd rfl (by first | exact Or.inl rfl | exact Or.inr rfl)) zbl)))
      (zaf (zhE hu (pv 3) (pv 4) zc1 rfl)
      (zat (zhE hu (pv 3) (pv 5) zc1 rfl))))
      (zat (zaT (zcY rfl (zdu rfl T.range (zab (zaG zaC (by rfl) T.len PySem.boot_len (zab (pv 0) zai)) zai)) (zc9 (zar zcl) ["prices","lines","left","ends","a","b"] ["ends","left","point"] [3,2] 1 rfl rfl rfl (by decide +kernel) (by decide +kernel) (by decide +kernel) rfl (by decide +kernel) (fun cl C s H fp pins=>(zaA (i:=2) (show List.Nodup (["ends","left","point"]:List Str) by decide +kernel) rfl (Or.inl rfl))) (fun cl C s H fp pins=>(pv 2)) (Or.inr ⟨_,_,rfl,rfl,fun cl C s H fp pins=>((zhz (zj3 (zjO hu (pv 2) (pv 0))) (zfK (zaS zee (zbd zaJ (pv 1) (pv 2) (fun _ _=>rfl)) zak (zbe _))))).pt⟩)))))))),zfV (K:=(KX K)) (XO:=XO0) (E:=E) (np:=2) (nv:=4) (m:=zd3)
      (zau (zbu ((zg6 (zae zaq (zae zaq zaw)))).e zay)
      (zau (zdB ziD)
      (zau (zc4 (zfu zaq) (zcr (zaF zay (zaF zay zbI)))
      (zau (zgV zaq zc2)
      (zgV zaq zc2)))
      (zfq (zcj (zdA len1 (zae (zcC zbZ (zaD zac zaM)) zaw)).c (by decide) zbq zbP (Or.inr ⟨_,_,rfl,rfl,(zhI (st_b (zj4 zaq zac)) (zaN (zan zeJ ((zan zba zac zac)).r (zal).r)))⟩) zaq))))) rfl h⟩
abbrev zb3:Stmt:=top 4
theorem sc_as_sets:FnScope ["prices","lines","things","number","line","point"] ["prices","lines"] (zar zb3):=⟨rfl,rfl,rfl,by decide +kernel,rfl,by decide +kernel,by decide +kernel⟩
theorem zgw {f:Addr} {fd:FuncData} (F:Fun K "as_sets" "as_sets" zb3 f fd) (T:Txt K mg)  : FnOk P w K mg base CX0 1 f fd ["prices","lines"] (spG (KX K) XO0 (AnQ (KX K)) zbN):=by
  refine F.ok sc_as_sets (fun vs H Q E h=>zhU h) (fun cdv A outer s H vs Q E hr h=>?_)
  have hu:=zde hr
  exact ⟨_,(zaf (zaZ (i:=2) sc_as_sets.nd rfl (by first | exact Or.inl rfl | exact Or.inr rfl) (zcY rfl (zcu (pv 0)) (zc9 (zar zb3) ["prices","lines","things","number","line","point"] ["price"] [] 1 rfl rfl rfl (by decide +kernel) (by decide +kernel) (by decide +kernel) rfl (by decide +kernel) (fun cl C s H fp pins=>(zaA (i:=0) (show List.Nodup (["price"]:List Str) by decide +kernel) rfl (Or.inl rfl))) (fun cl C s H fp pins=>(zbL zai)) (Or.inl ⟨rfl,rfl⟩))))
      (zaf (zcN PassesOwn.never rfl (zdq rfl T.enumerate (zab (pv 1) zai)) (zb1 rfl (zaz (zaA (i:=3) sc_as_sets.nd rfl (by first | exact Or.inl rfl | exact Or.inr rfl)) (zaz (zaA (i:=4) sc_as_sets.nd rfl (by first | exact Or.inl rfl | exact Or.inr rfl)) zbl)))
      (zat (zcN PassesOwn.never rfl (zkc (pv 4)) (zaA (i:=5) sc_as_sets.nd rfl (by first | exact Or.inl rfl | exact Or.inr rfl))
      (zat (zcx (zgC PySem.F.plainAttrs_list PySem.F.slot_list_append PySem.F.type_list_append zbv (zbd zaJ (pv 2) (pv 5) (fun _ _=>rfl)) (zab (pv 3) zai)))))))
      (zat (zaT (zcY rfl (zdq rfl T.enumerate (zab (pv 0) zai)) (zc9 (zar zb3) ["prices","lines","things","number","line","point"] ["things","point","price"] [2] 2 rfl rfl rfl (by decide +kernel) (by decide +kernel) (by decide +kernel) rfl (by decide +kernel) (fun cl C s H fp pins=>(zb1 rfl (zaz (zaA (i:=1) (show List.Nodup (["things","point","price"]:List Str) by decide +kernel) rfl (Or.inl rfl)) (zaz (zaA (i:=2) (show List.Nodup (["things","point","price"]:List Str) by decide +kernel) rfl (Or.inl rfl)) zbl)))) (fun cl C s H fp pins=>(zd9 (zab (pv 2) (zab (zbd zaJ (pv 0) (pv 1) (fun _ _=>rfl)) zai)))) (Or.inl ⟨rfl,rfl⟩))))))),ziS (K:=(KX K)) (XO:=XO0) (E:=E) (np:=2) (nv:=4) (m:=zfh)
      (zdv (zjq (zil (zeK zac) (by decide) zbq zbP (zbj zaw)))
      (zdv (zc4 (zfE (zae zaq zaw)) (zcr (zaF zay (zaF zay zbI)))
      (zc4 (zki zaq) zay
      (zji zaq zaq)))
      (zjs (zfW (zaD zac zaM))))) rfl h⟩
abbrev zck:Stmt:=top 12
theorem sc_law_sets:FnScope ["_law_found","_law_prices","_law_lines_here","_law_point","_law_one","_law_due"] ["_law_found","_law_prices","_law_lines_here"] (zar zck):=⟨rfl,rfl,rfl,by decide +kernel,rfl,by decide +kernel,by decide +kernel⟩
theorem zfz {f:Addr} {fd:FuncData} (F:Fun K "_law_sets" "_law_sets" zck f fd) (T:Txt K mg) (G_law_numbers:Has P w K mg base CX0 1 "_law_numbers" ["_law_found","_law_due"] (spM (KX K) XO0 zah)):FnOk P w K mg base CX0 2 f fd ["_law_found","_law_prices","_law_lines_here"] (spM (KX K) XO0 zaW):=by
  refine F.ok sc_law_sets (fun vs H Q E h=>zdG h) (fun cdv A outer s H vs Q E hr h=>?_)
  have hu:=zde hr
  exact ⟨_,(zaf (zcy ((zdM (zb6 (zb0 (zaG zaY (by rfl) T.isinstance boot_isinstance (zab (pv 0) (zab (zdr (v:=.ty "list") (by rfl) T.list boot_list rfl) zai))))) (zda (zaS zid (zaG zaC (by rfl) T.len PySem.boot_len (zab (pv 0) zai)) (zaG zaC (by rfl) T.len PySem.boot_len (zab (pv 1) zai)) (zbe _))))).pt
      (zat (zaT zc1))
      za4)
      (zaf (zcN PassesOwn.never rfl (zdq rfl T.enumerate (zab (pv 0) zai)) (zb1 rfl (zaz (zaA (i:=3) sc_law_sets.nd rfl (by first | exact Or.inl rfl | exact Or.inr rfl)) (zaz (zaA (i:=4) sc_law_sets.nd rfl (by first | exact Or.inl rfl | exact Or.inr rfl)) zbl)))
      (zaf (zcy ((zdM (zb6 (zb0 (zaG zaY (by rfl) T.isinstance boot_isinstance (zab (pv 4) (zab (zdr (v:=.ty "tuple") (by rfl) T.tuple boot_tuple rfl) zai))))) (zdM (zaS zid (zaG zaC (by rfl) T.len PySem.boot_len (zab (pv 4) zai)) zak (zbe _)) (zda (zb6 (zb0 (zaX G_law_numbers (hr.mono (by decide)) (by rfl) zbt (zab (zbL (zab (zbd zeb (pv 4) zak (fun _ _=>rfl)) zai)) (zab (zbL (zab (zbd zaJ (pv 1) (pv 3) (fun _ _=>rfl)) zai)) zai))))))))).pt
      (zat (zaT zc1))
      za4)
      (zaf (zhW (i:=5) sc_law_sets.nd rfl (by first | exact Or.inl rfl | exact Or.inr rfl) rfl (zdq rfl T.enumerate (zab (pv 2) zai)) (zc9 (zar zck) ["_law_found","_law_prices","_law_lines_here","_law_point","_law_one","_law_due"] ["_law_point","_law_k","_law_line"] [3] 2 rfl rfl rfl (by decide +kernel) (by decide +kernel) (by decide +kernel) rfl (by decide +kernel) (fun cl C s H fp pins=>(zb1 rfl (zaz (zaA (i:=1) (show List.Nodup (["_law_point","_law_k","_law_line"]:List Str) by decide +kernel) rfl (Or.inl rfl)) (zaz (zaA (i:=2) (show List.Nodup (["_law_point","_law_k","_law_line"]:List Str) by decide +kernel) rfl (Or.inl rfl)) zbl)))) (fun cl C s H fp pins=>(pv 1)) (Or.inr ⟨_,_,rfl,rfl,fun cl C s H fp pins=>((zdM (zaS zee (zbd zeb (pv 2) zak (fun _ _=>rfl)) (pv 0) (zbe _)) (zda (zaS zee (zbd zeb (pv 2) zak (fun _ _=>rfl)) (pv 0) (zbe _))))).pt⟩)) rfl)
      (zat (zcy (zb6 (zb0 (zaX G_law_numbers (hr.mono (by decide)) (by rfl) zbt (zab (zbd zeb (pv 4) zak (fun _ _=>rfl)) (zab (pv 5) zai)))))
      (zat (zaT zc1))
      za4)))))
      (zat (zaT zc1)))),zgB (K:=(KX K)) (XO:=XO0) (E:=E) (np:=3) (nv:=3) (m:=zdZ)
      (zau (zcs (zdQ (zb5 (st_b (zeW zfb zac))) (zaN (zan zif ((zcC zbZ (zaD zac zaM))).r ((zcC zbZ (zaD zac zaM))).r)))
      (zbc zc2)
      za3)
      (zau (zc4 (zfE (zae zaq zaw)) (zcr (zaF zay (zaF zay zbI)))
      (zau (zcs (zdQ (zb5 (st_b (zeW zgO zac))) (zdQ (zaN (zan zif ((zcC zbZ (zaD zac zaM))).r (zal).r)) (zb5 (st_b (za1 (zae ((zbj (zae (zan zgf zac (zal).r) zaw))).e (zae ((zbj (zae (zan zba zac zac) zaw))).e zaw)))))))
      (zbc zc2)
      za3)
      (zau (zbu ((zcj (zfW (zaD zac zaM)) (by decide) (zcr (zaF zbq (zaF zbq zbI))) (ziK (zdl zbP (zdl zbP zhT))) (Or.inr ⟨_,_,rfl,rfl,(zdQ (zaN (zan zeJ ((zan zgf zac (zal).r)).r zac)) (zaN (zan zeJ ((zan zgf zac (zal).r)).r zac)))⟩) zaq)).e zay)
      (zcs (zb5 (st_b (za1 (zae (zan zgf zac (zal).r) (zae zaq zaw)))))
      (zbc zc2)
      za3))))
      (zbc zc2))) rfl h⟩
abbrev zdd:Stmt:=top 13
theorem sc_law:FnScope ["_law_script","_law_prices","_law_lines_here","_law_left","_law_due","_law_one","_law_other","_law_points_here","_law_handed","_law_found","_law_told","_law_price","_law_numbers_here"] ["_law_script"] (zar zdd):=⟨rfl,rfl,rfl,by decide +kernel,rfl,by decide +kernel,by decide +kernel⟩
theorem zkd {f:Addr} {fd:FuncData} (F:Fun K "law" "law" zdd f fd) (T:Txt K mg) (G_law_points:Has P w K mg base CX0 2 "_law_points" ["_law_script"] (spO (KX K) XO0 za6)) (G_law_lines:Has P w K mg base CX0 2 "_law_lines" ["_law_cells","_law_many"] (spO (KX K) XO0 zbg)) (G_line_prices:Has P w K mg base CX0 2 "line_prices" ["prices","lines"] (spO (KX K) XO0 zax)) (G_law_numbers:Has P w K mg base CX0 1 "_law_numbers" ["_law_found","_law_due"] (spM (KX K) XO0 zah)) (G_touching:Has P w K mg base CX0 2 "touching" ["prices","lines"] (spO (KX K) XO0 zaV)) (G_as_sets:Has P w K mg base CX0 1 "as_sets" ["prices","lines"] (spG (KX K) XO0 (AnQ (KX K)) zbN)) (G_law_sets:Has P w K mg base CX0 2 "_law_sets" ["_law_found","_law_prices","_law_lines_here"] (spM (KX K) XO0 zaW)):FnOk P w K mg base CX0 3 f fd ["_law_script"] (zgb K):=by
  refine F.ok sc_law (fun vs H Q E h=>?_) (fun cdv A outer s H vs Q E hr h=>?_)
  · obtain ⟨a,ns,rfl,_⟩:=h
    rfl
  · obtain ⟨a,ns,rfl,hS,hlen,hq⟩:=h
    have hu:=zde hr
    exact ⟨_,(zaf (zaZ (i:=1) sc_law.nd rfl (by first | exact Or.inl rfl | exact Or.inr rfl) (zaX G_law_points (hr.mono (by decide)) (by rfl) zbt (zab (pv 0) zai)))
      (zaf (zaZ (i:=2) sc_law.nd rfl (by first | exact Or.inl rfl | exact Or.inr rfl) (zaX G_law_lines (hr.mono (by decide)) (by rfl) zbt (zab (zgk zhY (pv 0) (zfQ zak) (zfQ zak)) (zab (zaG zaC (by rfl) T.len PySem.boot_len (zab (pv 1) zai)) zai))))
      (zaf (zaZ (i:=3) sc_law.nd rfl (by first | exact Or.inl rfl | exact Or.inr rfl) (zcJ zbE (by rfl) T.list boot_list (zab (pv 1) zai)))
      (zaf (zaZ (i:=4) sc_law.nd rfl (by first | exact Or.inl rfl | exact Or.inr rfl) (zbL zai))
      (zaf (zcN PassesOwn.never rfl (zcu (pv 2)) (zb1 rfl (zaz (zaA (i:=5) sc_law.nd rfl (by first | exact Or.inl rfl | exact Or.inr rfl)) (zaz (zaA (i:=6) sc_law.nd rfl (by first | exact Or.inl rfl | exact Or.inr rfl)) zbl)))
      (zaf (zcx (zgC PySem.F.plainAttrs_list PySem.F.slot_list_append PySem.F.type_list_append zbv (pv 4) (zab (zaG (zfe rfl) (by rfl) T.min boot_min (zab (zbd zaJ (pv 3) (pv 5) (fun _ _=>rfl)) (zab (zbd zaJ (pv 3) (pv 6) (fun _ _=>rfl)) zai))) zai)))
      (zaf (zhB (zaL zgp (zbd zaJ (pv 3) (pv 5) (fun _ _=>rfl)) (zbd zaJ (pv 4) (zjr zhi zak) (fun _ _=>rfl))) (ziJ (pv 3) (pv 5) zdk))
      (zat (zhB (zaL zgp (zbd zaJ (pv 3) (pv 6) (fun _ _=>rfl)) (zbd zaJ (pv 4) (zjr zhi zak) (fun _ _=>rfl))) (ziJ (pv 3) (pv 6) zdk))))))
      (zaf (zhW (i:=7) sc_law.nd rfl (by first | exact Or.inl rfl | exact Or.inr rfl) rfl (zdu rfl T.range (zab (zaG zaC (by rfl) T.len PySem.boot_len (zab (pv 1) zai)) zai)) (zc9 (zar zdd) ["_law_script","_law_prices","_law_lines_here","_law_left","_law_due","_law_one","_law_other","_law_points_here","_law_handed","_law_found","_law_told","_law_price","_law_numbers_here"] ["_law_left","_law_lines_here","_law_p"] [3,2] 1 rfl rfl rfl (by decide +kernel) (by decide +kernel) (by decide +kernel) rfl (by decide +kernel) (fun cl C s H fp pins=>(zaA (i:=2) (show List.Nodup (["_law_left","_law_lines_here","_law_p"]:List Str) by decide +kernel) rfl (by first | exact Or.inl rfl | exact Or.inr rfl))) (fun cl C s H fp pins=>(pv 2)) (Or.inr ⟨_,_,rfl,rfl,fun cl C s H fp pins=>((zhz (zaS zee (zbd zaJ (pv 0) (pv 2) (fun _ _=>rfl)) zak (zbe _)) (zfK (zaS zjY (zaG zaC (by rfl) (by exact T.len) PySem.boot_len (zab (zcY rfl (zcu (pv 1)) (zc9 (zit _ (zar zdd)) ["_law_left","_law_lines_here","_law_p"] ["_law_p","_law_x"] [2] 1 rfl rfl rfl (by decide +kernel) (by decide +kernel) (by decide +kernel) rfl (by decide +kernel) (fun cl C s H fp pins=>(zaA (i:=1) (show List.Nodup (["_law_p","_law_x"]:List Str) by decide +kernel) rfl (Or.inl rfl))) (fun cl C s H fp pins=>(pv 1)) (Or.inr ⟨_,_,rfl,rfl,fun cl C s H fp pins=>(zaS zg8 (pv 0) (pv 1) (by with_unfolding_all rfl))⟩))) zai)) zak (zbe _))))).pt⟩)) rfl)
      (zaf (zaZ (i:=8) sc_law.nd rfl (by first | exact Or.inl rfl | exact Or.inr rfl) (zbL (zab (zcJ zbE (by rfl) T.list boot_list (zab (pv 1) zai)) (zab (zcJ zbE (by rfl) T.list boot_list (zab (pv 2) zai)) zai))))
      (zaf (zaZ (i:=9) sc_law.nd rfl (by first | exact Or.inl rfl | exact Or.inr rfl) (zaX G_line_prices (hr.mono (by decide)) (by rfl) zbt (zab (zbd zaJ (pv 8) zak (fun _ _=>rfl)) (zab (zbd zaJ (pv 8) zak (fun _ _=>rfl)) zai))))
      (zaf (zcy ((zdM (zb6 (zb0 (zaX G_law_numbers (hr.mono (by decide)) (by rfl) zbt (zab (pv 9) (zab (pv 4) zai))))) (zda (zb6 (zb0 (zaX G_law_numbers (hr.mono (by decide)) (by rfl) zbt (zab (zaX G_touching (hr.mono (by decide)) (by rfl) zbt (zab (zbd zaJ (pv 8) zak (fun _ _=>rfl)) (zab (zbd zaJ (pv 8) zak (fun _ _=>rfl)) zai))) (zab (pv 7) zai)))))))).pt
      (zat (zaT zc1))
      za4)
      (zaf (zaZ (i:=10) sc_law.nd rfl (by first | exact Or.inl rfl | exact Or.inr rfl) (zaX G_as_sets (hr.mono (by decide)) (by rfl) zbt (zab (zbd zaJ (pv 8) zak (fun _ _=>rfl)) (zab (zbd zaJ (pv 8) zak (fun _ _=>rfl)) zai))))
      (zaf (zcy ((zdM (zb6 (zb0 (zaX G_law_sets (hr.mono (by decide)) (by rfl) zbt (zab (pv 10) (zab (pv 1) (zab (pv 2) zai)))))) (zda (zaS (ziQ hr.units) (pv 8) (zbL (zab (pv 1) (zab (pv 2) zai))) (zbe _))))).pt
      (zat (zaT zc1))
      za4)
      (zaf (zcN PassesOwn.never rfl (zcu (pv 10)) (zb1 rfl (zaz (zaA (i:=11) sc_law.nd rfl (by first | exact Or.inl rfl | exact Or.inr rfl)) (zaz (zaA (i:=12) sc_law.nd rfl (by first | exact Or.inl rfl | exact Or.inr rfl)) zbl)))
      (zat (zcx (zgC PySem.F.plainAttrs_list PySem.F.slot_list_append PySem.F.type_list_append zbv (pv 12) (zab zak zai)))))
      (zaf (zcy (zb6 (zb0 (zaX G_law_sets (hr.mono (by decide)) (by rfl) zbt (zab (zcY rfl (zcu (pv 10)) (zc9 (zar zdd) ["_law_script","_law_prices","_law_lines_here","_law_left","_law_due","_law_one","_law_other","_law_points_here","_law_handed","_law_found","_law_told","_law_price","_law_numbers_here"] ["_law_price","_law_numbers_here"] [] 2 rfl rfl rfl (by decide +kernel) (by decide +kernel) (by decide +kernel) rfl (by decide +kernel) (fun cl C s H fp pins=>(zb1 rfl (zaz (zaA (i:=0) (show List.Nodup (["_law_price","_law_numbers_here"]:List Str) by decide +kernel) rfl (Or.inl rfl)) (zaz (zaA (i:=1) (show List.Nodup (["_law_price","_law_numbers_here"]:List Str) by decide +kernel) rfl (Or.inl rfl)) zbl)))) (fun cl C s H fp pins=>(zd9 (zab (pv 0) (zab (zgk zhY (pv 1) zjd (zfQ (zjr zhi zak))) zai)))) (Or.inl ⟨rfl,rfl⟩))) (zab (pv 1) (zab (pv 2) zai))))))
      (zat (zaT zc1))
      za4)
      (zaf (zcy ((zdM (zb6 (zb0 (zaX G_law_numbers (hr.mono (by decide)) (by rfl) zbt (zab (zaX G_line_prices (hr.mono (by decide)) (by rfl) zbt (zab (zbL (zab zak (zab zak zai))) (zab (zbL (zab (zd9 (zab zak (zab zak zai))) (zab (zd9 (zab zak (zab zak zai))) zai))) zai))) (zab (zbL (zab zak (zab zak zai))) zai))))) (zda (zaS (ziQ hr.units) (pv 9) (pv 4) (zbe _))))).pt
      (zat (zaT zc1))
      za4)
      (zaf (zcx (zkn PySem.F.plainAttrs_list PySem.F.slot_list_clear PySem.F.type_list_clear ziF (zbd zaJ (pv 8) zak (fun _ _=>rfl))))
      (zaf (zcx (zgC PySem.F.plainAttrs_list PySem.F.slot_list_append PySem.F.type_list_append zbv (pv 9) (zab zak zai)))
      (zat (zaT (zkk (zaX G_law_numbers (hr.mono (by decide)) (by rfl) zbt (zab (zaX G_touching (hr.mono (by decide)) (by rfl) zbt (zab (pv 1) (zab (zbL zai) zai))) (zab (zbL zai) zai))) (zjS (zaX G_law_numbers (hr.mono (by decide)) (by rfl) zbt (zab (zaX G_line_prices (hr.mono (by decide)) (by rfl) zbt (zab (pv 1) (zab (pv 2) zai))) (zab (pv 4) zai))))))))))))))))))))))),zgB (K:=(KX K)) (XO:=XO0) (E:=E) (np:=1) (nv:=12) (m:=zjR)
      (zau (zbu ((zbB (zae zaq zaw))).e zay)
      (zau (zbu ((zbB (zae ((ze6 zac (zfO zal) (zfO zal))).e (zae (zcC zbZ (zaD zac zaM)) zaw)))).e zay)
      (zau (zdB (zfU zez (zaD zac zaM)))
      (zau (zdB (zbj zaw))
      (zau (zc4 (zfu zaq) (zcr (zaF zay (zaF zay zbI)))
      (zau (zcL (zcC zhc (zaD ((zan zba zac zac)).r (zaD ((zan zba zac zac)).r zaM))))
      (zau (zg5 zaq (zan zf1 ((zan zba zac zac)).r ((zan zba zac ((zi1 zhh (zal).r)).r)).r))
      (zg5 zaq (zan zf1 ((zan zba zac zac)).r ((zan zba zac ((zi1 zhh (zal).r)).r)).r)))))
      (zau (zbu ((zcj (zdA len1 (zae (zcC zbZ (zaD zac zaM)) zaw)).c (by decide) zbq zbP (Or.inr ⟨_,_,rfl,rfl,(zhI (zaN (zan zeJ ((zan zba zac zac)).r (zal).r)) (zaN (zan zj1 ((zcC zbZ (zaD ((zcj (zeK zac) (by decide) zbq zbP (Or.inr ⟨_,_,rfl,rfl,(zaN (zan zkp zac zac))⟩) zaq)).e.r zaM))).r (zal).r)))⟩) zaq)).e zay)
      (zau (zgh (zic (zhN (zfU zez (zaD zac zaM))) (zhN (zfU zez (zaD zac zaM)))))
      (zau (zdB (zio (zbB (zae (zan zba zac (zal).r) (zae (zan zba zac (zal).r) zaw)))))
      (zau (zcs (zdQ (zb5 (st_b (zfZ (zfr (zfr zhl))))) (zb5 (st_b (zeH (za1 (zae ((zbB (zae (zan zba zac (zal).r) (zae (zan zba zac (zal).r) zaw)))).e (zae zaq zaw)))))))
      (zbc zc2)
      za3)
      (zau (zgh (zgI (zae (zan zba zac (zal).r) (zae (zan zba zac (zal).r) zaw))))
      (zau (zcs (zdQ (zb5 (st_b (zeH (za1 (zae zaq (zae zaq (zae zaq zaw))))))) (zaN (zeH (zan ziZ zac ((zbj (zae zaq (zae zaq zaw)))).e.r))))
      (zbc zc2)
      za3)
      (zau (zja zgM)
      (zau (zcs (zb5 (st_b (zeH (za1 (zae ((zcj (zeK zac) (by decide) (zcr (zaF zbq (zaF zbq zbI))) (ziK (zdl zbP (zdl zbP zhT))) (Or.inl ⟨rfl,rfl⟩) (zf0 (zae zaq (zae ((ze6 zac zks (zfO (zi1 zhh (zal).r)))).e zaw))))).e (zae zaq (zae zaq zaw)))))))
      (zbc zc2)
      za3)
      (zau (zcs (zdQ (zb5 (st_b (za1 (zae ((zbB (zae ((zbj (zae zal (zae zal zaw)))).e (zae ((zbj (zae (zf0 (zae zal (zae zal zaw))) (zae (zf0 (zae zal (zae zal zaw))) zaw)))).e zaw)))).e (zae ((zbj (zae zal (zae zal zaw)))).e zaw))))) (zaN (zan ziZ zac zac)))
      (zbc zc2)
      za3)
      (zau (zjB zal)
      (zau (zcL zal)
      (zbc (zko (za1 (zae ((zbB (zae zaq (zae ((zbj zaw)).e zaw)))).e (zae ((zbj zaw)).e zaw))) (zfZ (zie ((zbB (zae zaq (zae zaq zaw)))).e (zfr zhl))))))))))))))))))))) rfl (zjK (f:=zj5) (law_true ns hlen) hS hq)⟩
end
theorem all_mk {l:PySem.W.OpenLaw} {w:World} {K:PySem.W.Frag} {h:Heap} {mg:Str→Option Value} {fa:Addr} (X:K.In h) (G:h.Ns mainGlobals mg) (hfa:mg "law"=some (.ref fa))
    (d0:∃ f fd,DefAt K "_law_cell_at" zbR f fd)
    (d1:∃ f fd,DefAt K "_law_number" zb4 f fd)
    (d2:∃ f fd,DefAt K "_law_amount" zcd f fd)
    (d3:∃ f fd,DefAt K "_law_points" zbD f fd)
    (d4:∃ f fd,DefAt K "_law_lines" zcw f fd)
    (d5:∃ f fd,DefAt K "paying" zey f fd)
    (d6:∃ f fd,DefAt K "line_prices" zbQ f fd)
    (d7:∃ f fd,DefAt K "_law_numbers" zbY f fd)
    (d8:∃ f fd,DefAt K "touching" zcl f fd)
    (d9:∃ f fd,DefAt K "as_sets" zb3 f fd)
    (d10:∃ f fd,DefAt K "_law_sets" zck f fd)
    {fL:Addr} {oc:Value} {od an:Option Addr} {osl:Array (Option Value)} {kV doc pm cdv ct:Value} (aL:PySem.W.nsIn K mainGlobals "law"=some (some (.ref fL)))
    (lL:K.lookup fL=some ⟨oc,od,.func (PySem.W.fnOf "law" "law" (zcz zdd) (zci zdd) (zar zdd) .none kV doc pm an cdv ct),osl⟩) (cL:PySem.W.codeIn K cdv "law"=true) (kL:PySem.W.keepIn K (.ref fL)=true)
    (z0:PySem.W.nsIn K mainGlobals "len"=some none)
    (z1:PySem.W.nsIn K mainGlobals "isinstance"=some none)
    (z2:PySem.W.nsIn K mainGlobals "list"=some none)
    (z3:PySem.W.nsIn K mainGlobals "int"=some none)
    (z4:PySem.W.nsIn K mainGlobals "bool"=some none)
    (z5:PySem.W.nsIn K mainGlobals "tuple"=some none)
    (z6:PySem.W.nsIn K mainGlobals "range"=some none)
    (z7:PySem.W.nsIn K mainGlobals "enumerate"=some none)
    (z8:PySem.W.nsIn K mainGlobals "min"=some none)
    (z9:PySem.W.nsIn K mainGlobals "zip"=some none)
    : ∃ fd:FuncData,(∀ (s:Shared) (v:Value),BindsTo s fd ⟨[v],[]⟩ [("_law_script",v)])∧∀ base:Heap,K.In base→base.Ns mainGlobals mg→FnOk l.prog w K mg base CX0 3 fa fd ["_law_script"] (zgb K):=by
  have e:=hfa.symm.trans (PySem.W.mg_of X G aL)
  cases e
  have T:Txt K mg:=⟨PySem.W.mg_none_of X G z0,PySem.W.mg_none_of X G z1,PySem.W.mg_none_of X G z2,PySem.W.mg_none_of X G z3,PySem.W.mg_none_of X G z4,PySem.W.mg_none_of X G z5,PySem.W.mg_none_of X G z6,PySem.W.mg_none_of X G z7,PySem.W.mg_none_of X G z8,PySem.W.mg_none_of X G z9⟩
  obtain ⟨f0,g0,D0⟩:=d0
  obtain ⟨f1,g1,D1⟩:=d1
  obtain ⟨f2,g2,D2⟩:=d2
  obtain ⟨f3,g3,D3⟩:=d3
  obtain ⟨f4,g4,D4⟩:=d4
  obtain ⟨f5,g5,D5⟩:=d5
  obtain ⟨f6,g6,D6⟩:=d6
  obtain ⟨f7,g7,D7⟩:=d7
  obtain ⟨f8,g8,D8⟩:=d8
  obtain ⟨f9,g9,D9⟩:=d9
  obtain ⟨f10,g10,D10⟩:=d10
  have FL:=ziW (st:=zdd) lL cL kL
  refine ⟨PySem.W.fnOf "law" "law" (zcz zdd) (zci zdd) (zar zdd) .none kV doc pm an cdv ct,fun s v=>.of_eq rfl,fun base _ _=>?_⟩
  have G_law_cell_at:Has l.prog w K mg base CX0 1 "_law_cell_at" ["_law_script","_law_k"] (spM (KX K) XO0 zaE):=D0.has X G (zdX D0.fn T  ) (D0.fn.binds fun _ _ _ _ _ _ us hl=>match us,hl with | [_,_],_=>rfl)
  have G_law_number:Has l.prog w K mg base CX0 1 "_law_number" ["_law_cell","_law_k"] (spM (KX K) XO0 zaK):=D1.has X G (zeN D1.fn T  ) (D1.fn.binds fun _ _ _ _ _ _ us hl=>match us,hl with | [_,_],_=>rfl)
  have G_law_amount:Has l.prog w K mg base CX0 1 "_law_amount" ["_law_cell","_law_number_here"] (spM (KX K) XO0 zaH):=D2.has X G (zen D2.fn T  ) (D2.fn.binds fun _ _ _ _ _ _ us hl=>match us,hl with | [_,_],_=>rfl)
  have G_law_points:Has l.prog w K mg base CX0 2 "_law_points" ["_law_script"] (spO (KX K) XO0 za6):=D3.has X G (zeG D3.fn T  G_law_cell_at G_law_number G_law_amount) (D3.fn.binds fun _ _ _ _ _ _ us hl=>match us,hl with | [_],_=>rfl)
  have G_law_lines:Has l.prog w K mg base CX0 2 "_law_lines" ["_law_cells","_law_many"] (spO (KX K) XO0 zbg):=D4.has X G (zeO D4.fn T  G_law_number) (D4.fn.binds fun _ _ _ _ _ _ us hl=>match us,hl with | [_,_],_=>rfl)
  have G_paying:Has l.prog w K mg base CX0 1 "paying" ["prices","lines"] (spG (KX K) XO0 AnP zbF):=D5.has X G (zg4 D5.fn T  ) (D5.fn.binds fun _ _ _ _ _ _ us hl=>match us,hl with | [_,_],_=>rfl)
  have G_line_prices:Has l.prog w K mg base CX0 2 "line_prices" ["prices","lines"] (spO (KX K) XO0 zax):=D6.has X G (zdR D6.fn T  G_paying) (D6.fn.binds fun _ _ _ _ _ _ us hl=>match us,hl with | [_,_],_=>rfl)
  have G_law_numbers:Has l.prog w K mg base CX0 1 "_law_numbers" ["_law_found","_law_due"] (spM (KX K) XO0 zah):=D7.has X G (zdO D7.fn T  ) (D7.fn.binds fun _ _ _ _ _ _ us hl=>match us,hl with | [_,_],_=>rfl)
  have G_touching:Has l.prog w K mg base CX0 2 "touching" ["prices","lines"] (spO (KX K) XO0 zaV):=D8.has X G (zfF D8.fn T  G_paying) (D8.fn.binds fun _ _ _ _ _ _ us hl=>match us,hl with | [_,_],_=>rfl)
  have G_as_sets:Has l.prog w K mg base CX0 1 "as_sets" ["prices","lines"] (spG (KX K) XO0 (AnQ (KX K)) zbN):=D9.has X G (zgw D9.fn T  ) (D9.fn.binds fun _ _ _ _ _ _ us hl=>match us,hl with | [_,_],_=>rfl)
  have G_law_sets:Has l.prog w K mg base CX0 2 "_law_sets" ["_law_found","_law_prices","_law_lines_here"] (spM (KX K) XO0 zaW):=D10.has X G (zfz D10.fn T  G_law_numbers) (D10.fn.binds fun _ _ _ _ _ _ us hl=>match us,hl with | [_,_,_],_=>rfl)
  exact zkd FL T G_law_points G_law_lines G_line_prices G_law_numbers G_touching G_as_sets G_law_sets
theorem walk {l:PySem.W.OpenLaw} {q:Program} {loose:List Str} {XP:(Str→Option Value)→Heap→Prop} {YP:World→Heap→Prop} {d:DefRec} {K:Params→PySem.W.Frag} (hn:l.most=some 63) (hdf:d.params.defaults = [])
    (hY:∀ (w:World) (h:Heap),YP w h→(K w.params).In h) (hT:∀ w:World,tabOf (K w.params)=none)
    (F:∀ (w:World) (mg:Str→Option Value) (fa:Addr) (h:Heap),(K w.params).In h→h.Ns mainGlobals mg→mg d.name=some (.ref fa) →
      ∃ fd:FuncData,(∀ (s:Shared) (u:Value),BindsTo s fd ⟨[u],[]⟩ [("_law_script",u)])∧∀ base:Heap,(K w.params).In base→base.Ns mainGlobals mg→FnOk l.prog w (K w.params) mg base CX0 3 fa fd ["_law_script"] (zgb (K w.params))) :
    PySem.W.WalkO q loose XP YP l.row.toRowW d [] (fun f vs=>PySem.call f vs) :=
  L2.walk_of (n:=63) (k:=3) (x:="_law_script") (CX:=fun _=>CX0) (sp:=fun w=>zgb (K w.params)) hn (by decide) hdf ⟨rfl,by decide,by decide⟩ hY hT F (fun _ _ a ns hl _ hS=>⟨a,ns,rfl,hS,hl,fun _=>rfl⟩) fun _ _ _ _ _ z=>z
end My
def PySem.W.Fast.tw9760427994485191088:Nat:=0
def PySem.W.Fast.tw966867161253720921:Nat:=0
def PySem.W.Fast.tw142759993386261145:Nat:=0
def PySem.W.Fast.tw1754604473613207125:Nat:=0
def PySem.W.Fast.tw5618129650041150287:Nat:=0
def PySem.W.Fast.tw18064068450492624285:Nat:=0
def PySem.W.Fast.tw12630842908723838447:Nat:=0
def PySem.W.Fast.tw15413189223099536701:Nat:=0
open PySem PySem.W PyProof.Rows
set_option maxRecDepth 100000 in
set_option maxHeartbeats 0 in
theorem PySem.Challenge.cw_goodenough_k11_lines_pay_holds : PySem.Challenge.rw_goodenough_k11_lines_pay.Holds := by
  w_on; o_law; k_head; (case hw=>w_witness2)
  k_fill
  refine My.walk (l:=PySem.Challenge.rw_goodenough_k11_lines_pay) rfl rfl (fun w h Y=>by first | exact PySem.W.kIn_of Y | exact PySem.W.km_in_of Y) ?tab ?F
  (case tab=>intro w; kernel_rfl)
  case F =>
    intro w mg fa h KX G hmg
    refine' My.all_mk KX G hmg (L2.defAt_mk ?a0 ?l0 ?c0 ?k0) (L2.defAt_mk ?a1 ?l1 ?c1 ?k1) (L2.defAt_mk ?a2 ?l2 ?c2 ?k2) (L2.defAt_mk ?a3 ?l3 ?c3 ?k3) (L2.defAt_mk ?a4 ?l4 ?c4 ?k4) (L2.defAt_mk ?a5 ?l5 ?c5 ?k5) (L2.defAt_mk ?a6 ?l6 ?c6 ?k6) (L2.defAt_mk ?a7 ?l7 ?c7 ?k7) (L2.defAt_mk ?a8 ?l8 ?c8 ?k8) (L2.defAt_mk ?a9 ?l9 ?c9 ?k9) (L2.defAt_mk ?a10 ?l10 ?c10 ?k10) ?aL ?lL ?cL ?kL ?z0 ?z1 ?z2 ?z3 ?z4 ?z5 ?z6 ?z7 ?z8 ?z9
    (case a0=>k_is); (case l0=>k_is); (case c0=>k_is); (case k0=>k_is)
    (case a1=>k_is); (case l1=>k_is); (case c1=>k_is); (case k1=>k_is)
    (case a2=>k_is); (case l2=>k_is); (case c2=>k_is); (case k2=>k_is)
    (case a3=>k_is); (case l3=>k_is); (case c3=>k_is); (case k3=>k_is)
    (case a4=>k_is); (case l4=>k_is); (case c4=>k_is); (case k4=>k_is)
    (case a5=>k_is); (case l5=>k_is); (case c5=>k_is); (case k5=>k_is)
    (case a6=>k_is); (case l6=>k_is); (case c6=>k_is); (case k6=>k_is)
    (case a7=>k_is); (case l7=>k_is); (case c7=>k_is); (case k7=>k_is)
    (case a8=>k_is); (case l8=>k_is); (case c8=>k_is); (case k8=>k_is)
    (case a9=>k_is); (case l9=>k_is); (case c9=>k_is); (case k9=>k_is)
    (case a10=>k_is); (case l10=>k_is); (case c10=>k_is); (case k10=>k_is)
    (case aL=>k_is); (case lL=>k_is); (case cL=>k_is); (case kL=>k_is)
    (case z0=>k_is)
    (case z1=>k_is)
    (case z2=>k_is)
    (case z3=>k_is)
    (case z4=>k_is)
    (case z5=>k_is)
    (case z6=>k_is)
    (case z7=>k_is)
    (case z8=>k_is)
    (case z9=>k_is)
#print axioms PySem.Challenge.cw_goodenough_k11_lines_pay_holds
