import PyProof.Rows.All
import Wide.All
import OpenK.AllK
import Wide.FinOn
import Lean
import PyProof.EqAt
import PyProof.EqKinds
import PyProof.TupleCall
import PySem.Challenge.RW_goodenough_k52_texts_read
set_option Elab.async false
set_option linter.all false
set_option maxRecDepth 100000
set_option maxHeartbeats 4000000
noncomputable section
namespace L2
open PySem PySem.Spec PyProof.Rows
abbrev Key:=Sum Int Str
def zm7:Key→Value→Bool
 | .inl k,v=>Value.isInt k v
 | .inr x,v=>Value.isStrOf x v
def keyH (w:World):Key→Int
 | .inl k=>hashInt k
 | .inr x=>hashStr w x
theorem zcC:∀ {k:Key} {v:Value},zm7 k v=true→(∃i t,k=Sum.inl i∧v=Value.int i t)∨(∃x t,k=Sum.inr x∧v=Value.str x t)
 | .inl i,v,h=>by
  obtain⟨t,e⟩:=Value.isInt_shape (k:=i) (v:=v) h
  exact .inl ⟨i,t,rfl,e⟩
 | .inr x,v,h=>by
  obtain⟨t,e⟩:=Value.isStrOf_shape (x:=x) (v:=v) h
  exact .inr ⟨x,t,rfl,e⟩
theorem zoa (i:Int) (t:Tok):zm7 (.inl i) (.int i t)=true:=by simp[zm7,Value.isInt]
theorem zoG (x:Str) (t:Tok):zm7 (.inr x) (.str x t)=true:=by simp[zm7,Value.isStrOf]
theorem zry (a b:Int):decide ((Sum.inl a:Key)=Sum.inl b)=(a == b):=by
 by_cases e:a=b
 ·subst e;simp
 ·have h:¬ (Sum.inl a:Key)=Sum.inl b:=fun q=>e (Sum.inl.inj q)
  rw[decide_eq_false h]
  exact (beq_eq_false_iff_ne.mpr e).symm
theorem zrT (a b:Str):decide ((Sum.inr a:Key)=Sum.inr b)=decide (a=b):=by
 by_cases e:a=b
 ·subst e;simp
 ·have h:¬ (Sum.inr a:Key)=Sum.inr b:=fun q=>e (Sum.inr.inj q)
  rw[decide_eq_false h,decide_eq_false e]
theorem zrs (a:Int) (b:Str):decide ((Sum.inl a:Key)=Sum.inr b)=false:=decide_eq_false (fun q=>nomatch q)
theorem zq2 (a:Str) (b:Int):decide ((Sum.inr a:Key)=Sum.inl b)=false:=decide_eq_false (fun q=>nomatch q)
def zdC (prog:Program) (w:World):PySem.KeyKind prog w Key where
 is:=zm7
 hash:=keyH w
 inj:=fun v a b ha hb=>by
  rcases zcC ha with ⟨i,t,rfl,rfl⟩|⟨x,t,rfl,rfl⟩
  ·rcases zcC hb with ⟨j,u,rfl,e⟩|⟨y,u,rfl,e⟩
   ·injection e with e1 _;rw[e1]
   ·exact nomatch e
  ·rcases zcC hb with ⟨j,u,rfl,e⟩|⟨y,u,rfl,e⟩
   ·exact nomatch e
   ·injection e with e1 _;rw[e1]
 byValue:=fun k v h=>by
  rcases zcC h with ⟨i,t,rfl,rfl⟩|⟨x,t,rfl,rfl⟩ <;> rfl
 pyHash:=fun hv h=>by
  rcases zcC hv with ⟨i,t,rfl,rfl⟩|⟨x,t,rfl,rfl⟩
  ·exact wpAny_pyHash_int h
  ·exact wpAny_pyHash_str h
 eqBool:=fun hu hv h=>by
  rcases zcC hu with ⟨i,t,rfl,rfl⟩|⟨x,t,rfl,rfl⟩
  ·rcases zcC hv with ⟨j,u,rfl,rfl⟩|⟨y,u,rfl,rfl⟩
   ·rw[zry] at h;exact wpAny_eqBool_int h
   ·rw[zrs] at h;exact SeqAt.EqAt.int_str i t y u _ _ _ _ h
  ·rcases zcC hv with ⟨j,u,rfl,rfl⟩|⟨y,u,rfl,rfl⟩
   ·rw[zq2] at h;exact SeqAt.EqAt.str_int x t j u _ _ _ _ h
   ·rw[zrT] at h;exact wpAny_eqBool_str h
 «strs»:=fun k x t v h=>by
  rcases zcC h with ⟨i,u,rfl,e⟩|⟨y,u,rfl,e⟩
  ·exact nomatch e
  ·injection e with e1 _
   subst e1
   cases v <;> rfl
theorem zlj (prog:Program) (w:World) (i:Int) (t:Tok):(zdC prog w).is (.inl i) (.int i t)=true:=zoa i t
theorem zly (prog:Program) (w:World) (x:Str) (t:Tok):(zdC prog w).is (.inr x) (.str x t)=true:=zoG x t
end L2
namespace L2
open PySem PySem.Spec PyProof.Rows
inductive V where
 | non|bl (b:Bool)|int (i:Int)|str (x:Str)|byt (b:Array UInt8)|flt (b:UInt64)|ref (a:Addr)|ty (n:String)
 deriving DecidableEq
def RelV:V→Value→Prop
 | .non,u=>u=Value.none
 | .bl b,u=>u=Value.bool b
 | .int i,u=>∃t,u=Value.int i t
 | .str x,u=>∃t,u=Value.str x t
 | .byt b,u=>∃t,u=Value.bytes b t
 | .flt b,u=>∃t,u=Value.float b t
 | .ref a,u=>u=Value.ref a
 | .ty n,u=>u=Value.type n
abbrev Vals:List V→List Value→Prop:=Paired RelV
theorem Vals.length {xs:List V} {us:List Value} (r:Vals xs us):xs.length=us.length:=Paired.length r
theorem Vals.get:∀ {xs:List V} {us:List Value} {i:Nat} {x:V},Vals xs us→xs[i]?=some x→∃u,us[i]?=some u∧RelV x u
 | _,_,_,_,.nil,e=>by simp at e
 | _,_,0,_,.cons r _,e=>by simp at e;subst e;exact⟨_,rfl,r⟩
 | _,_,i+1,x,.cons _ t,e=>by
  obtain⟨u,h1,h2⟩:=Vals.get (i:=i) (x:=x) t (by simpa using e)
  exact⟨u,by simpa using h1,h2⟩
theorem Vals.set {x:V} {u:Value} (r:RelV x u):∀ {xs:List V} {us:List Value} (i:Nat),Vals xs us→Vals (xs.set i x) (us.set i u)
 | _,_,_,.nil=>.nil
 | _,_,0,.cons _ t=>.cons r t
 | _,_,i+1,.cons q t=>.cons q (Vals.set r i t)
theorem Vals.append:∀ {xs ys:List V} {us ws:List Value},Vals xs us→Vals ys ws→Vals (xs++ys) (us++ws)
 | _,_,_,_,.nil,s=>s
 | _,_,_,_,.cons r t,s=>.cons r (Vals.append t s)
theorem Vals.take:∀ {xs:List V} {us:List Value} (n:Nat),Vals xs us→Vals (xs.take n) (us.take n)
 | _,_,0,_=>.nil
 | _,_,_+1,.nil=>.nil
 | _,_,n+1,.cons r t=>.cons r (Vals.take n t)
theorem Vals.drop:∀ {xs:List V} {us:List Value} (n:Nat),Vals xs us→Vals (xs.drop n) (us.drop n)
 | _,_,0,r=>r
 | _,_,_+1,.nil=>.nil
 | _,_,n+1,.cons _ t=>Vals.drop n t
def RelO:Option V→Option Value→Prop
 | some v,some u=>RelV v u
 | none,none=>True
 | _,_=>False
def KV {κ:Type}:List (κ×V)→List (κ×Value)→Prop:=Paired fun (p:κ×V) (q:κ×Value)=>p.1=q.1∧RelV p.2 q.2
def kV:Key→V
 | .inl i=>.int i
 | .inr x=>.str x
inductive HO where
 | lst (xs:List V)
 | tup (xs:List V)
 | dK (kvs:List (Key×V))|dT (kvs:List (List Key×V))
 | set (S:Int→Bool) (n:Nat)
 | ins (C dx:Addr) (fs:List (Str×V))
 | own (x:Addr)
 | xd (fs:List (Str×V))
 | met (f x:Addr)
 | rng (lo hi:Int)
 | frz (o:Obj) (u:HO)
 | tbl (ps:Array Value)
 | ext (φ:Heap→Prop)
abbrev Hp:=Addr→Option HO
def upd (H:Hp) (a:Addr) (o:HO):Hp:=fun b=>if b=a then some o else H b
theorem zaX {H:Hp} {a:Addr} {o:HO}:upd H a o a=some o:=by unfold upd;rw[if_pos rfl]
theorem zaz {H:Hp} {a b:Addr} {o:HO} (h:b≠a):upd H a o b=H b:=by unfold upd;rw[if_neg h]
theorem zsg {H:Hp} {a b:Addr} {o u:HO} (h:H a=some o) (h':H b=some u) (d:o≠u):a≠b:=by
 intro e;subst e;rw[h] at h';exact d (Option.some.inj h')
theorem zaG {H:Hp} {a b:Addr} {o:HO} (h:H a=some o) (h':H b=none):a≠b:=by
 intro e;subst e;rw[h] at h';cases h'
def zq9 (fd:FuncData):Option Pos:=
 match fd.body with
 | .stmts [.Return (some (.Call _ _ [⟨_,.Lambda _ _ _ pos,_⟩] _)) _]=>some pos
 | _=>none
def tabAt (K:PySem.W.Frag) (v:Value):Option Addr:=
 match v with
 | .ref c=>match K.lookup c with
  | some o=>match o.data with
   | .fields vs=>match (vs[11]?:Option Value) with
    | some (.ref P)=>some P
    | _=>none
   | _=>none
  | _=>none
 | _=>none
def zoc (K:PySem.W.Frag):Option (Addr×Array Value):=
 K.findSome? fun p=>match p.2.data with
  | .func fd=>match zq9 fd with
   | some pos=>(tabAt K fd.code).map fun P=>(P,#[.str (fd.qualname++".<locals>."++"<lambda>") 0,rawInt pos.line,rawInt pos.col])
   | none=>none
  | _=>none
def TblOk (H:Hp) (h:Heap) (a:Addr) (ps:Array Value):Prop:=
 ∃(q:Str) (t:Tok) (ln cl:Int) (more:List Value) (real:Array Value),ps.toList=.str q t::rawInt ln::rawInt cl::more∧h.get? a=some { cls:=.none,data:=.fields real } ∧
  (real = #[]∨∃(c:Addr) (o:Obj) (vs:Array Value) (u:Tok),real = #[rawInt ln,rawInt cl,.ref c]∧H c=some (.own a)∧h.get? c=some o∧o.data=.fields vs∧vs[1]?=some (.str q u))
theorem TblOk.lt {H:Hp} {h:Heap} {a:Addr} {ps:Array Value} (x:TblOk H h a ps):a<h.objs.size:=by
 obtain⟨_,_,_,_,_,_,_,e,_⟩:=x
 exact Heap.lt_size e
theorem TblOk.stay {H H':Hp} {h h':Heap} {a:Addr} {ps:Array Value} (x:TblOk H h a ps) (k:∀b u,(b=a∨H b=some (.own a))→h.get? b=some u→h'.get? b=some u)
  (ho:∀b,H b=some (.own a)→H' b=some (.own a)):TblOk H' h' a ps:=by
 obtain⟨q,t,ln,cl,more,real,e1,e2,e3⟩:=x
 refine⟨q,t,ln,cl,more,real,e1,k _ _ (.inl rfl) e2,?_⟩
 rcases e3 with e3|⟨c,o,vs,u,r1,r2,r3,r4⟩
 ·exact .inl e3
 ·exact .inr ⟨c,o,vs,u,r1,ho _ r2,k _ _ (.inr r2) r3,r4⟩
def TbAt (K:PySem.W.Frag) (H:Hp):Prop:=∀t,zoc K=some t→∃more,H t.1=some (.tbl (t.2++more))
theorem TbAt.none {K:PySem.W.Frag} {H:Hp} (h:zoc K=.none):TbAt K H:=fun t e=>by rw[h] at e;cases e
theorem TbAt.grown {K:PySem.W.Frag} {H H':Hp} (x:TbAt K H) (g:∀b ps,H b=some (.tbl ps)→∃more,H' b=some (.tbl (ps++more))):TbAt K H':=fun t e=>by
 obtain⟨m1,e1⟩:=x t e
 obtain⟨m2,e2⟩:=g _ _ e1
 exact⟨m1++m2,by rw[e2,Array.append_assoc]⟩
section
variable (P:Program) (w:World)
def ObjOk (H:Hp) (h:Heap) (a:Addr):HO→Prop
 | .lst xs=>xs.length≤sizeLine∧∃(its:List Value) (n:Nat),Vals xs its∧h.get? a=some { cls:=.type "list",data:=.seq its.toArray n }
 | .tup xs=>xs.length≤sizeLine∧∃its:List Value,Vals xs its∧IsTup h a its.toArray
 | .dK kvs=>kvs.length≤sizeLine∧(a == sysModules)=false∧∃vs,KV kvs vs∧h.DictOf (zdC P w) a vs
 | .dT kvs=>kvs.length≤sizeLine∧(a == sysModules)=false∧∃xs:List (List Key×Addr×Value),
   Paired (fun (p:List Key×V) (q:List Key×Addr×Value)=>p.1=q.1∧H q.2.1=some (.tup (p.1.map kV))∧RelV p.2 q.2.2) kvs xs ∧
   ∃o es ep,h.get? a=some o∧o.ExactDict∧o.data=.dict es ep∧es.toList=xs.map (entryOfKey (tupleKind (zdC P w)))∧(xs.map (·.1)).Nodup
 | .set S n=>h.SetOf (intKind P w) a S n
 | .ins C dx fs=>H dx=some (.own a)∧fs.length≤1000∧dx≠a∧h.get? a=some (PySem.W.instObj C dx) ∧
   ∃mA,h.Ns1 dx mA∧(∀f,RelO (fs.lookup f) (mA f))∧PySem.Within mA (fs.map (·.1))
 | .own _=>∃o,h.get? a=some o
 | .xd fs=>∃mA,h.Ns1 a mA∧∀f,RelO (fs.lookup f) (mA f)
 | .rng lo hi=>∃t u v,h.get? a=some { cls:=.type "range",data:=.fields #[.int lo t,.int hi u,.int 1 v] }
 | .frz o u=>h.get? a=some o∧ObjOk H h a u
 | .tbl ps=>TblOk H h a ps
 | .met f x=>h.get? a=some (PySem.W.methodObj (.ref f) (.ref x))
 | .ext φ=>φ h∧(∃o,h.get? a=some o)∧∀h1 h2:Heap,φ h1→(∀o,h1.get? a=some o→h2.get? a=some o)→φ h2
def HOk (H:Hp) (h:Heap):Prop:=∀a o,H a=some o→ObjOk P w H h a o
end
section
variable {P:Program} {w:World} {H H':Hp} {h h':Heap} {a:Addr} {o:HO}
theorem ObjOk.lt (x:ObjOk P w H h a o):a<h.objs.size:=by
 cases o with
 | lst xs=>obtain⟨_,_,_,_,e⟩:=x;exact Heap.lt_size e
 | tup xs=>obtain⟨_,_,_,p⟩:=x;exact p.lt
 | dK kvs=>obtain⟨_,_,_,_,o,_,_,e,_⟩:=x;exact Heap.lt_size e
 | dT kvs=>obtain⟨_,_,_,_,o,_,_,e,_⟩:=x;exact Heap.lt_size e
 | set S n=>obtain⟨o,_,_,_,e,_⟩:=x;exact Heap.lt_size e
 | ins C dx fs=>obtain⟨_,_,_,e,_⟩:=x;exact Heap.lt_size e
 | own y=>obtain⟨_,e⟩:=x;exact Heap.lt_size e
 | xd fs=>obtain⟨_,⟨_,_,_,e,_⟩,_⟩:=x;exact Heap.lt_size e
 | rng lo hi=>obtain⟨_,_,_,e⟩:=x;exact Heap.lt_size e
 | frz ob u=>obtain⟨e,_⟩:=x;exact Heap.lt_size e
 | tbl ps=>exact TblOk.lt x
 | met f y=>exact Heap.lt_size (show h.get? a=some _ from x)
 | ext φ=>obtain⟨_,⟨_,e⟩,_⟩:=x;exact Heap.lt_size e
theorem Paired.mapP {α β:Type} {F G:α→β→Prop}:∀ {l₁:List α} {l₂:List β},Paired F l₁ l₂→(∀a b,F a b→G a b)→Paired G l₁ l₂
 | _,_,.nil,_=>.nil
 | _,_,.cons r t,f=>.cons (f _ _ r) (Paired.mapP t f)
theorem ObjOk.stay (x:ObjOk P w H h a o) (k:∀b u,(b=a∨H b=some (.own a))→h.get? b=some u→h'.get? b=some u)
  (ho:∀b,H b=some (.own a)→H' b=some (.own a)) (ht:∀b xs,H b=some (.tup xs)→H' b=some (.tup xs)):ObjOk P w H' h' a o:=by
 induction o with
 | lst xs=>obtain⟨z,its,n,r,e⟩:=x;exact⟨z,its,n,r,k _ _ (.inl rfl) e⟩
 | tup xs=>obtain⟨z,its,r,ob,e,c⟩:=x;exact⟨z,its,r,ob,k _ _ (.inl rfl) e,c⟩
 | dK kvs=>obtain⟨z,y,vs,r,ob,es,ep,e,c⟩:=x;exact⟨z,y,vs,r,ob,es,ep,k _ _ (.inl rfl) e,c⟩
 | dT kvs=>
  obtain⟨z,y,xs,r,ob,es,ep,e,c⟩:=x
  exact⟨z,y,xs,Paired.mapP r fun p q z=>⟨z.1,ht _ _ z.2.1,z.2.2⟩,ob,es,ep,k _ _ (.inl rfl) e,c⟩
 | set S n=>obtain⟨ob,es,ep,t,e,c⟩:=x;exact⟨ob,es,ep,t,k _ _ (.inl rfl) e,c⟩
 | ins C dx fs=>
  obtain⟨d,z,ne,e,mA,⟨od,es,ep,e2,c⟩,r⟩:=x
  exact⟨ho _ d,z,ne,k _ _ (.inl rfl) e,mA,⟨od,es,ep,k _ _ (.inr d) e2,c⟩,r⟩
 | own y=>obtain⟨ob,e⟩:=x;exact⟨ob,k _ _ (.inl rfl) e⟩
 | xd fs=>obtain⟨mA,⟨od,es,ep,e,c⟩,r⟩:=x;exact⟨mA,⟨od,es,ep,k _ _ (.inl rfl) e,c⟩,r⟩
 | rng lo hi=>obtain⟨t,u,v,e⟩:=x;exact⟨t,u,v,k _ _ (.inl rfl) e⟩
 | frz ob u ih=>obtain⟨e,q⟩:=x;exact⟨k _ _ (.inl rfl) e,ih q⟩
 | tbl ps=>exact TblOk.stay x k ho
 | met f y=>
  have e:h.get? a=some (PySem.W.methodObj (.ref f) (.ref y)):=x
  show h'.get? a=some (PySem.W.methodObj (.ref f) (.ref y))
  exact k a _ (.inl rfl) e
 | ext φ=>obtain⟨p,⟨o,e⟩,st⟩:=x;exact⟨st _ _ p fun o q=>k _ _ (.inl rfl) q,⟨o,k _ _ (.inl rfl) e⟩,st⟩
theorem HOk.lt (x:HOk P w H h) (e:H a=some o):a<h.objs.size:=(x a o e).lt
theorem HOk.fresh (x:HOk P w H h) (e:h.objs.size≤a):H a=none:=by
 cases q:H a with
 | none=>rfl
 | some u=>exact absurd (Nat.lt_of_lt_of_le (x.lt q) e) (Nat.lt_irrefl _)
theorem HOk.kept (x:HOk P w H h) (k:∀b u,h.get? b=some u→h'.get? b=some u):HOk P w H h':=fun a o e=>
 (x a o e).stay (fun b u _ q=>k b u q) (fun _ q=>q) fun _ _ q=>q
theorem HOk.laid (x:HOk P w H h) (k:∀b u,h.get? b=some u→h'.get? b=some u) (hp:h.objs.size≤a) (new:ObjOk P w (upd H a o) h' a o):HOk P w (upd H a o) h':=fun b u e=>by
 have hn:=x.fresh hp
 by_cases hb:b=a
 ·subst hb;rw[zaX] at e;cases e;exact new
 ·rw[zaz hb] at e
  exact (x b u e).stay (fun c v _ q=>k c v q) (fun c q=>by rw[zaz (zaG q hn)];exact q) fun c xs q=>by rw[zaz (zaG q hn)];exact q
end
def Rd (H:Hp) (a:Addr) (u:HO):Prop:=H a=some u∨∃o,H a=some (.frz o u)
theorem Rd.ok {P:Program} {w:World} {H:Hp} {h:Heap} {a:Addr} {u:HO} (r:Rd H a u) (x:HOk P w H h):ObjOk P w H h a u:=by
 rcases r with r|⟨o,r⟩
 ·exact x a u r
 ·obtain⟨_,q⟩:=x a _ r
  exact q
def Mut:Option HO→Prop
 | some (.lst _)=>True
 | some (.dK _)=>True
 | some (.dT _)=>True
 | some (.set _ _)=>True
 | some (.ins _ _ _)=>True
 | some (.ext _)=>True
 | _=>False
section
variable {P:Program} {w:World} {H:Hp} {h h':Heap} {x e:Addr} {o':HO}
theorem HOk.write (ok:HOk P w H h) (mu:Mut (H x)) (he:e=x∨H e=some (.own x)) (k:∀b u,b≠e→h.get? b=some u→h'.get? b=some u) (heo:∃u,h'.get? e=some u)
  (new:ObjOk P w (upd H x o') h' x o'):HOk P w (upd H x o') h':=fun b u q=>by
 have nown:∀c y,H c=some (.own y)→c≠x:=fun c y r z=>by subst z;rw[r] at mu;exact mu
 have ntup:∀c xs,H c=some (.tup xs)→c≠x:=fun c xs r z=>by subst z;rw[r] at mu;exact mu
 by_cases hb:b=x
 ·subst hb;rw[zaX] at q;cases q;exact new
 ·rw[zaz hb] at q
  by_cases hbe:b=e
  ·have q':H b=some (.own x):=by
    rcases he with z|z
    ·exact absurd (hbe.trans z) hb
    ·rw[hbe];exact z
   rw[q] at q';cases q'
   obtain⟨v,hv⟩:=heo
   exact⟨v,by rw[hbe];exact hv⟩
  ·refine (ok b u q).stay (fun c v hc r=>k c v ?_ r) (fun c r=>by rw[zaz (nown c b r)];exact r) fun c xs r=>by rw[zaz (ntup c xs r)];exact r
   rcases hc with rfl|hc
   ·exact hbe
   ·rintro rfl
    rcases he with z|z
    ·exact nown c b hc z
    ·rw[hc] at z;cases z;exact hb rfl
end
structure Un (fs ex:List Addr) (H H':Hp) (h h':Heap):Prop where
 keep:∀b o,h.get? b=some o→H b=none→b∉fs→b∉ex→h'.get? b=some o
 slot:∀b o,h.get? b=some o→H b=none→b∈fs→b∉ex→∃sl,h'.get? b=some { o with slots:=sl }
 free:∀b o,h.get? b=some o→H b=none→b∉ex→H' b=none
 there:∀b o,h.get? b=some o→b∉ex→∃o',h'.get? b=some o'
 tups:∀b xs,H b=some (.tup xs)→H' b=some (.tup xs)
 frzs:∀b o u,H b=some (.frz o u)→H' b=some (.frz o u)
 tbls:∀b ps,H b=some (.tbl ps)→∃more,H' b=some (.tbl (ps++more))
section
variable {fs fs' ex ex':List Addr} {H H1 H2:Hp} {h h1 h2 h':Heap} {a x e:Addr} {o:HO}
theorem Un.any (u:Un fs ex H H1 h h1) {b:Addr} {ob:Obj} (q:h.get? b=some ob) (n:H b=none) (hx:b∉ex):∃sl,h1.get? b=some { ob with slots:=sl }:=by
 by_cases hb:b∈fs
 ·exact u.slot b ob q n hb hx
 ·exact⟨ob.slots,u.keep b ob q n hb hx⟩
theorem Un.kept (k:∀b u,h.get? b=some u→h'.get? b=some u):Un fs ex H H h h':=
 ⟨fun b ob q _ _ _=>k b ob q,fun b ob q _ _ _=>⟨ob.slots,k b ob q⟩,fun _ _ _ n _=>n,fun b ob q _=>⟨ob,k b ob q⟩,fun _ _ q=>q,fun _ _ _ q=>q,fun _ ps q=>⟨#[],by rw[q];simp⟩⟩
theorem Un.refl:Un fs ex H H h h:=Un.kept fun _ _ q=>q
theorem Un.laid (k:∀b u,h.get? b=some u→h'.get? b=some u) (hp:h.objs.size≤a) (hn:H a=none):Un fs ex H (upd H a o) h h' where
 keep:=fun b u q _ _ _=>k b u q
 slot:=fun b u q _ _ _=>⟨u.slots,k b u q⟩
 free:=fun b u q n _=>by rw[zaz (Nat.ne_of_lt (Nat.lt_of_lt_of_le (Heap.lt_size q) hp))];exact n
 there:=fun b u q _=>⟨u,k b u q⟩
 tups:=fun b xs q=>by rw[zaz (zaG q hn)];exact q
 frzs:=fun b u xs q=>by rw[zaz (zaG q hn)];exact q
 tbls:=fun b ps q=>⟨#[],by rw[zaz (zaG q hn),q];simp⟩
theorem Un.write (mu:Mut (H x)) (he:e=x∨H e=some (.own x)) (k:∀b u,b≠e→h.get? b=some u→h'.get? b=some u) (heo:∃u,h'.get? e=some u):Un fs ex H (upd H x o) h h':=by
 have hx:∀b,H b=none→b≠x:=fun b n z=>by subst z;rw[n] at mu;exact mu
 have hb:∀b,H b=none→b≠e:=fun b n z=>by
  subst z
  rcases he with r|r
  ·exact hx b n r
  ·rw[n] at r;cases r
 have hm:∀b u,H b=some u→¬ Mut (some u)→b≠x:=fun b u q nm z=>by subst z;rw[q] at mu;exact nm mu
 refine⟨fun b u q n _ _=>k b u (hb b n) q,fun b u q n _ _=>⟨u.slots,k b u (hb b n) q⟩,fun b u q n _=>by rw[zaz (hx b n)];exact n,fun b u q _=>?_,
  fun b xs q=>by rw[zaz (hm b _ q fun z=>z)];exact q,fun b u xs q=>by rw[zaz (hm b _ q fun z=>z)];exact q,fun b ps q=>⟨#[],by rw[zaz (hm b _ q fun z=>z),q];simp⟩⟩
 by_cases hbe:b=e
 ·subst hbe;exact heo
 ·exact⟨u,k b u hbe q⟩
end
def trk (h:Heap) (H:Hp):List Addr:=(List.range h.objs.size).filter fun a=>(H a).isSome
def hidT (h:Heap) (H:Hp):Heap:=PySem.W.hideAll h (trk h H)
theorem znI (h:Heap) (H:Hp):(hidT h H).objs.size=h.objs.size:=PySem.W.hideAll_size _ _
theorem zpm {h:Heap} {H:Hp} {b:Addr} {o:Obj} (e:h.get? b=some o) (n:H b=none):(hidT h H).get? b=some o:=
 PySem.W.hideAll_get _ e fun hm=>by
  have q:(H b).isSome=true:=(List.mem_filter.mp hm).2
  rw[n] at q;simp at q
theorem zqn {h:Heap} {H:Hp} {b:Addr} {o:Obj} (e:(hidT h H).get? b=some o):h.get? b=some o∧H b=none:=by
 have e':h.get? b=some o:=PySem.W.of_hideAll (trk h H) e
 refine⟨e',?_⟩
 cases q:H b with
 | none=>rfl
 | some x=>
  have hm:b∈trk h H:=List.mem_filter.mpr ⟨List.mem_range.mpr (Heap.lt_size e'),by simp[q]⟩
  have z:(hidT h H).get? b=none:=PySem.W.hideAll_none (trk h H) hm
  rw[z] at e;cases e
def zse (g h:Heap) (L:Addr):List (Addr×Obj):=(List.range h.objs.size).filterMap fun a=>if a=L∨(g.get? a).isSome=true then none else (h.get? a).map fun o=>(a,o)
end L2
namespace L2
open PySem PySem.Spec PyProof.Rows
structure Mod (K:PySem.W.Frag) (mg:Str→Option Value) (base:Heap):Prop where
 kin:K.In base
 glob:base.Ns mainGlobals mg
 blt:∃mb,base.Ns builtinsNs mb∧∀x:Str,x≠"__name__"→mb x=bootBuiltins x
 nolimit:base.NoLimit
structure Cx where
 prog:Program
 w:World
 K:PySem.W.Frag
 mg:Str→Option Value
 base:Heap
 A:Around
 N:List Str
 s₀:Shared
 H₀:Hp
 env:Env
 outer:List Env
 stack:List Env
 ex:List Addr
 fn:Str→Bool
 calm:Bool
 pn:List (Addr×Obj)
 xe:Value→Shared→Prop
def frs (l:List Env):List Addr:=l.filterMap (·.frame)
abbrev Cx.fs (X:Cx):List Addr:=frs X.outer
def Vis (sc:Scope) (x:Str):Prop:=sc.names.lookup x=some .local∨sc.names.lookup x=some .cell∨sc.names.lookup x=some .free
def Loc (sc:Scope) (x:Str):Prop:=sc.names.lookup x=some .local∨sc.names.lookup x=some .cell
def Look (env:Env) (h:Heap) (m:Str→Option Value) (x:Str) (u:Value):Prop:=
 (env.kindOf x=some .local∧m x=some u)∨((env.kindOf x=some .cell∨env.kindOf x=some .free)∧∃c,env.cells.lookup x=some c∧h.IsCell c (some u))
structure Cx.Ok (X:Cx):Prop where
 mod:Mod X.K X.mg X.base
 kind:X.env.scope.kind=.function
 glob:X.env.globals=mainGlobals
 blt:X.env.builtins=builtinsNs
 above:X.s₀.heap.objs.size≤X.env.locals
 inj:∀x y c,X.env.cells.lookup x=some c→X.env.cells.lookup y=some c→x=y
 has:∀x,(X.env.kindOf x=some .cell∨X.env.kindOf x=some .free)→∃c,X.env.cells.lookup x=some c
 cab:∀x c,X.fn x=true→X.env.cells.lookup x=some c→X.s₀.heap.objs.size≤c
 hd:X.calm=true→X.A.handled=none
 frames:X.A.frames=some X.stack
 stk:X.stack=X.outer∨(X.stack=X.env::X.outer∧X.env.frame=some X.env.locals)
 exf:∀b∈X.ex,b≠X.env.locals∧∀x c,X.env.cells.lookup x=some c→c≠b
 bs:∀b o,X.base.get? b=some o→X.s₀.heap.get? b=some o∧X.H₀ b=none
 bsz:X.base.objs.size≤X.s₀.heap.objs.size
 noex:∀b o,X.base.get? b=some o→b∉X.ex
 exfs:∀b∈X.ex,b∉X.fs
 funs:X.s₀.heap.FunFrames X.base X.outer
 frf:∀b∈X.fs,X.H₀ b=none
 tb:TbAt X.K X.H₀
structure Inv (X:Cx) (pins:List (Addr×Obj)) (σ:List (Option V)) (H:Hp) (s:Shared):Prop where
 ok:X.Ok
 os:s.os=X.s₀.os
 bare:AllBare s.gens
 base:Un X.fs X.ex X.H₀ H X.s₀.heap s.heap
 loc:∃m,s.heap.Ns X.env.locals m∧∀(i:Nat) (x:Str) (v:V),X.N[i]?=some x→σ[i]?=some (some v)→Vis X.env.scope x→∃u,RelV v u∧Look X.env s.heap m x u
 cell:∀x c,X.env.cells.lookup x=some c→∃v,s.heap.IsCell c v
 free:H X.env.locals=none
 freeC:∀x c,X.env.cells.lookup x=some c→H c=none
 pin:∀p∈X.pn++pins,s.heap.get? p.1=some p.2∧H p.1=none∧p.1≠X.env.locals∧p.1∉X.fs∧∀v,p.2.data≠.cell v
 hok:HOk X.prog X.w H s.heap
 len:σ.length=X.N.length
section
variable {X:Cx} {pins:List (Addr×Obj)} {σ:List (Option V)} {H H':Hp} {s:Shared} {h':Heap}
theorem Cx.Ok.nofr (ok:X.Ok) {b:Addr} {o:Obj} (e:X.base.get? b=some o):b∉X.fs:=fun hb=>by
 have:=(ok.funs.mem hb).1
 rw[e] at this;cases this
theorem Inv.bs (I:Inv X pins σ H s):∀b o,X.base.get? b=some o→s.heap.get? b=some o∧H b=none:=fun b o e=>
 ⟨I.base.keep b o (I.ok.bs b o e).1 (I.ok.bs b o e).2 (I.ok.nofr e) (I.ok.noex b o e),I.base.free b o (I.ok.bs b o e).1 (I.ok.bs b o e).2 (I.ok.noex b o e)⟩
theorem Inv.bk (I:Inv X pins σ H s):∀b o,X.base.get? b=some o→s.heap.get? b=some o:=fun b o e=>(I.bs b o e).1
theorem Inv.mod (I:Inv X pins σ H s):Mod X.K X.mg X.base:=I.ok.mod
theorem Inv.kIn (I:Inv X pins σ H s):X.K.In s.heap:=I.ok.mod.kin.keeps I.bk
theorem Inv.lt (I:Inv X pins σ H s):X.env.locals<s.heap.objs.size:=let ⟨_,hn,_⟩:=I.loc;hn.lt
theorem Inv.sz (I:Inv X pins σ H s):X.s₀.heap.objs.size≤s.heap.objs.size:=Nat.le_trans I.ok.above (Nat.le_of_lt I.lt)
theorem Inv.nofs (I:Inv X pins σ H s) {a:Addr} (h:s.heap.objs.size≤a):a∉X.fs:=fun hb=>by
 obtain⟨_,o,ho,_⟩:=I.ok.funs.mem hb
 exact absurd (Nat.lt_of_lt_of_le (Heap.lt_size ho) (Nat.le_trans I.sz h)) (Nat.lt_irrefl _)
theorem Inv.cne (I:Inv X pins σ H s):∀x c,X.env.cells.lookup x=some c→c≠X.env.locals:=fun x c e z=>by
 obtain⟨v,o,ho,hd⟩:=I.cell x c e
 obtain⟨m,⟨o',es,ep,ho',hd',_⟩,_⟩:=I.loc
 rw[z,ho'] at ho;cases ho;rw[hd'] at hd;cases hd
theorem Inv.funs (I:Inv X pins σ H s):s.heap.FunFrames X.base X.outer:=by
 have all:∀(l:List Env),(∀b∈frs l,b∈X.fs)→X.s₀.heap.FunFrames X.base l→s.heap.FunFrames X.base l:=by
  intro l
  induction l with
  | nil=>intro _ _;trivial
  | cons env r ih=>
   intro hs hl
   obtain⟨hk,⟨L,o,hf,hn,ho,hd⟩,hr⟩:=hl
   have hL:L∈X.fs:=hs L (by unfold frs;rw[List.filterMap_cons,hf];exact List.mem_cons_self)
   obtain⟨sl,e⟩:=I.base.slot L o ho (I.ok.frf L hL) hL fun z=>I.ok.exfs L z hL
   exact⟨hk,⟨L,_,hf,hn,e,hd⟩,ih (fun b hb=>hs b (by unfold frs;rw[List.filterMap_cons,hf];exact List.mem_cons_of_mem _ hb)) hr⟩
 exact all X.outer (fun _ hb=>hb) I.ok.funs
theorem Inv.stack (I:Inv X pins σ H s):s.heap.FunFrames X.base X.stack:=by
 rcases I.ok.stk with e|⟨e,hf⟩
 ·rw[e];exact I.funs
 ·rw[e]
  obtain⟨m,hn,_⟩:=I.loc
  refine .cons (by rw[I.ok.kind];decide) hf hn ?_ I.funs
  exact Heap.get?_none_of_le (Nat.le_trans I.ok.bsz I.ok.above)
theorem Inv.stkSub (I:Inv X pins σ H s):∀b∈frs X.stack,b∈X.env.locals::X.fs:=fun b hb=>by
 rcases I.ok.stk with e|⟨e,hf⟩
 ·rw[e] at hb;exact List.mem_cons_of_mem _ hb
 ·rw[e] at hb
  unfold frs at hb
  rw[List.filterMap_cons,hf] at hb
  exact hb
theorem Inv.stkFree (I:Inv X pins σ H s):∀b∈frs X.stack,H b=none:=fun b hb=>by
 rcases List.mem_cons.mp (I.stkSub b hb) with e|hb
 ·rw[e];exact I.free
 ·obtain⟨_,o,ho,_⟩:=I.ok.funs.mem hb
  exact I.base.free b o ho (I.ok.frf b hb) fun z=>I.ok.exfs b z hb
theorem Inv.step {g':Array GenState} {t':Nat} {d':Drawn} {ch:List Addr} (I:Inv X pins σ H s)
  (hch:∀b∈ch,(b∈X.ex∨X.s₀.heap.objs.size≤b)∧b≠X.env.locals∧(∀x c,X.env.cells.lookup x=some c→c≠b)∧∀p∈X.pn++pins,p.1≠b)
  (keep:∀b o,b≠X.env.locals→b∉X.fs→b∉ch→s.heap.get? b=some o→H b=none→h'.get? b=some o)
  (slot:∀b o,b≠X.env.locals→b∈X.fs→b∉ch→s.heap.get? b=some o→H b=none→∃sl,h'.get? b=some { o with slots:=sl }) (free:∀b o,b∉ch→s.heap.get? b=some o→H b=none→H' b=none)
  (there:∀b o,b∉ch→s.heap.get? b=some o→∃o',h'.get? b=some o')
  (tups:∀b xs,H b=some (.tup xs)→H' b=some (.tup xs)) (frzs:∀b o u,H b=some (.frz o u)→H' b=some (.frz o u)) (tbls:∀b ps,H b=some (.tbl ps)→∃more,H' b=some (.tbl (ps++more)))
  (ns:∀m,s.heap.Ns X.env.locals m→h'.Ns X.env.locals m) (hok:HOk X.prog X.w H' h') (hg:AllBare g') :
  Inv X pins σ H' { s with heap:=h',gens:=g',drawn:=d',toks:=t' }:=by
 have neL:∀b o,X.s₀.heap.get? b=some o→b≠X.env.locals:=fun b o e=>Nat.ne_of_lt (Nat.lt_of_lt_of_le (Heap.lt_size e) I.ok.above)
 have neC:∀b o,X.s₀.heap.get? b=some o→b∉X.ex→b∉ch:=fun b o e hx hb=>by
  rcases (hch b hb).1 with z|z
  ·exact hx z
  ·exact absurd (Nat.lt_of_lt_of_le (Heap.lt_size e) z) (Nat.lt_irrefl _)
 have cellK:∀x c,X.env.cells.lookup x=some c→∀v,s.heap.IsCell c v→h'.IsCell c v:=fun x c e v ⟨o,ho,hd⟩=>by
  have nch:c∉ch:=fun z=>(hch c z).2.2.1 x c e rfl
  by_cases hc:c∈X.fs
  ·obtain⟨sl,q⟩:=slot c o (I.cne x c e) hc nch ho (I.freeC x c e)
   exact⟨_,q,hd⟩
  ·exact⟨o,keep c o (I.cne x c e) hc nch ho (I.freeC x c e),hd⟩
 refine⟨I.ok,I.os,hg,⟨fun b o e n hb hx=>?_,fun b o e n hb hx=>?_,fun b o e n hx=>?_,fun b o e hx=>?_,fun b xs e=>tups b xs (I.base.tups b xs e),fun b o xs e=>frzs b o xs (I.base.frzs b o xs e),fun b ps e=>?_⟩,?_,fun x c e=>?_,?_,fun x c e=>?_,fun p hp=>?_,hok,I.len⟩
 ·exact keep b o (neL b o e) hb (neC b o e hx) (I.base.keep b o e n hb hx) (I.base.free b o e n hx)
 ·obtain⟨sl,e1⟩:=I.base.slot b o e n hb hx
  obtain⟨sl',e2⟩:=slot b _ (neL b o e) hb (neC b o e hx) e1 (I.base.free b o e n hx)
  exact⟨sl',e2⟩
 ·obtain⟨o',e1⟩:=I.base.there b o e hx
  exact free b o' (neC b o e hx) e1 (I.base.free b o e n hx)
 ·obtain⟨o',e1⟩:=I.base.there b o e hx
  exact there b o' (neC b o e hx) e1
 ·obtain⟨m1,e1⟩:=I.base.tbls b ps e
  obtain⟨m2,e2⟩:=tbls b _ e1
  exact⟨m1++m2,by rw[e2,Array.append_assoc]⟩
 ·obtain⟨m,hn,hl⟩:=I.loc
  refine⟨m,ns m hn,fun i x v e1 e2 e3=>?_⟩
  obtain⟨u,r,l⟩:=hl i x v e1 e2 e3
  refine⟨u,r,?_⟩
  rcases l with l|⟨k,c,e,z⟩
  ·exact .inl l
  ·exact .inr ⟨k,c,e,cellK x c e _ z⟩
 ·obtain⟨v,z⟩:=I.cell x c e
  exact⟨v,cellK x c e v z⟩
 ·obtain⟨m,⟨o,_,_,ho,_⟩,_⟩:=I.loc
  exact free _ o (fun z=>(hch _ z).2.1 rfl) ho I.free
 ·obtain⟨v,o,ho,hd⟩:=I.cell x c e
  exact free c o (fun z=>(hch c z).2.2.1 x c e rfl) ho (I.freeC x c e)
 ·obtain⟨e,n,ne,nf,d⟩:=I.pin p hp
  have nch:p.1∉ch:=fun z=>(hch p.1 z).2.2.2 p hp rfl
  exact⟨keep p.1 p.2 ne nf nch e n,free p.1 p.2 nch e n,ne,nf,d⟩
theorem Inv.un {t':Nat} (I:Inv X pins σ H s) (u:Un X.fs [] H H' s.heap h') (hok:HOk X.prog X.w H' h'):Inv X pins σ H' { s with heap:=h',toks:=t' }:=by
 obtain⟨m,⟨o,es,ep,ho,r⟩,_⟩:=id I.loc
 obtain⟨sl,hL⟩:=u.any ho I.free (by simp)
 exact I.step (g':=s.gens) (d':=s.drawn) (ch:=[]) (fun _ z=>nomatch z) (fun b o _ hb _ e n=>u.keep b o e n hb (by simp)) (fun b o _ hb _ e n=>u.slot b o e n hb (by simp)) (fun b o _ e n=>u.free b o e n (by simp)) (fun b o _ e=>u.there b o e (by simp)) u.tups u.frzs u.tbls (fun m' hm=>by
  obtain⟨o',es',ep',ho',r'⟩:=hm
  rw[ho] at ho';cases ho'
  exact⟨_,es',ep',hL,r'⟩) hok I.bare
theorem Inv.call {g':Array GenState} {t':Nat} {d':Drawn} {ch:List Addr} (I:Inv X pins σ H s) (u:Un (frs X.stack) ch H H' s.heap h') (hok:HOk X.prog X.w H' h') (hg:AllBare g')
  (hch:∀b∈ch,(b∈X.ex∨X.s₀.heap.objs.size≤b)∧b≠X.env.locals∧(∀x c,X.env.cells.lookup x=some c→c≠b)∧∀p∈X.pn++pins,p.1≠b) :
  Inv X pins σ H' { s with heap:=h',gens:=g',drawn:=d',toks:=t' }:=by
 obtain⟨m,⟨o,es,ep,ho,r⟩,_⟩:=id I.loc
 obtain⟨sl,hL⟩:=u.any ho I.free fun z=>(hch _ z).2.1 rfl
 exact I.step (ch:=ch) hch (fun b o hL hb hc e n=>u.keep b o e n (fun z=>(List.mem_cons.mp (I.stkSub b z)).elim hL hb) hc) (fun b o _ _ hc e n=>u.any e n hc) (fun b o hc e n=>u.free b o e n hc) (fun b o hc e=>u.there b o e hc) u.tups u.frzs u.tbls (fun m' hm=>by
  obtain⟨o',es',ep',ho',r'⟩:=hm
  rw[ho] at ho';cases ho'
  exact⟨_,es',ep',hL,r'⟩) hok hg
theorem Inv.turned {t':Nat} {it:Addr} (I:Inv X pins σ H s) (k:∀b o,b≠it→s.heap.get? b=some o→h'.get? b=some o) (hn:H it=none) (hL:it≠X.env.locals)
  (h1:it∈X.ex∨X.s₀.heap.objs.size≤it) (h2:∀x c,X.env.cells.lookup x=some c→c≠it) (h3:∀p∈X.pn++pins,p.1≠it):Inv X pins σ H { s with heap:=h',toks:=t' }:=by
 have nit:∀b u,H b=some u→b≠it:=fun b u e z=>by rw[z,hn] at e;cases e
 refine I.step (g':=s.gens) (d':=s.drawn) (ch:=[it]) (fun b hb=>?_) (fun b o _ _ hc e _=>k b o (fun z=>hc (by simp[z])) e) (fun b o _ _ hc e _=>⟨o.slots,k b o (fun z=>hc (by simp[z])) e⟩) (fun _ _ _ _ n=>n)
  (fun b o hc e=>⟨o,k b o (fun z=>hc (by simp[z])) e⟩) (fun _ _ e=>e) (fun _ _ _ e=>e) (fun b ps e=>⟨#[],by rw[e];simp⟩) (fun m hm=>?_) (fun b u e=>?_) I.bare
 ·have e:b=it:=by simpa using hb
  subst e
  exact⟨h1,hL,h2,h3⟩
 ·obtain⟨o,es,ep,ho,r⟩:=hm
  exact⟨o,es,ep,k _ o (Ne.symm hL) ho,r⟩
 ·refine (I.hok b u e).stay (fun c v hc q=>k c v ?_ q) (fun _ q=>q) fun _ _ q=>q
  rcases hc with z|z
  ·rw[z];exact nit b u e
  ·exact nit c _ z
theorem Inv.tok (I:Inv X pins σ H s) (t:Nat):Inv X pins σ H { s with toks:=t }:=I.un (h':=s.heap) (t':=t) Un.refl I.hok
theorem Inv.kept {t':Nat} (I:Inv X pins σ H s) (k:∀b u,s.heap.get? b=some u→h'.get? b=some u):Inv X pins σ H { s with heap:=h',toks:=t' }:=I.un (Un.kept k) (I.hok.kept k)
theorem Inv.laid {a:Addr} {o:HO} {t':Nat} (I:Inv X pins σ H s) (k:∀b u,s.heap.get? b=some u→h'.get? b=some u) (hp:s.heap.objs.size≤a) (new:ObjOk X.prog X.w (upd H a o) h' a o) :
  Inv X pins σ (upd H a o) { s with heap:=h',toks:=t' }:=I.un (Un.laid k hp (I.hok.fresh hp)) (I.hok.laid k hp new)
theorem Inv.write {x e:Addr} {o:HO} {t':Nat} (I:Inv X pins σ H s) (mu:Mut (H x)) (he:e=x∨H e=some (.own x)) (k:∀b u,b≠e→s.heap.get? b=some u→h'.get? b=some u) (heo:∃u,h'.get? e=some u)
  (new:ObjOk X.prog X.w (upd H x o) h' x o):Inv X pins σ (upd H x o) { s with heap:=h',toks:=t' }:=I.un (Un.write mu he k heo) (I.hok.write mu he k heo new)
theorem Inv.pins_of {pins':List (Addr×Obj)} (I:Inv X pins σ H s) (h:∀p∈pins',s.heap.get? p.1=some p.2∧H p.1=none∧p.1≠X.env.locals∧p.1∉X.fs∧∀v,p.2.data≠.cell v):Inv X pins' σ H s:=
 ⟨I.ok,I.os,I.bare,I.base,I.loc,I.cell,I.free,I.freeC,fun p hp=>(List.mem_append.mp hp).elim (fun z=>I.pin p (List.mem_append_left _ z)) (h p),I.hok,I.len⟩
theorem zl5 {N:List Str} (hN:N.Nodup) {i j:Nat} {x:Str} (a:N[i]?=some x) (b:N[j]?=some x):i=j:=by
 obtain⟨h1,e1⟩:=List.getElem?_eq_some_iff.mp a
 obtain⟨h2,e2⟩:=List.getElem?_eq_some_iff.mp b
 exact (List.getElem_inj hN).mp (e1.trans e2.symm)
theorem zno {M:Model} {A:Around} {E:Value→Shared→Prop} {i:Nat} {x:Str} {v:V} {u:Value} {Q:Unit→Shared→Prop} (I:Inv X pins σ H s) (hN:X.N.Nodup) (hi:X.N[i]?=some x) (hx:Loc X.env.scope x) (r:RelV v u)
  (h:∀s',Inv X pins (σ.set i (some v)) H s'→(∃a,Heap.SameBut a s.heap s'.heap∧(a=X.env.locals∨X.env.cells.lookup x=some a))→Q () s') (hf:X.fn x=true∨X.env.scope.names.lookup x=some .local:=by first|exact .inl rfl|exact .inr rfl|assumption):wpAny M A (storeName X.env x u) Q E s:=by
 obtain⟨m,hn,hl⟩:=id I.loc
 have hcls:(X.env.scope.kind == .class || (X.env.scope.kind == .module && X.env.locals != X.env.globals))=false:=by rw[I.ok.kind];rfl
 have hiσ:i<σ.length:=by rw[I.len];exact (List.getElem?_eq_some_iff.mp hi).1
 have cne:=I.cne
 have tracked:∀ {a:Addr} {h':Heap},(∃o,s.heap.get? a=some o∧H a=none)→Heap.SameBut a s.heap h'→HOk X.prog X.w H h':=fun {a h'} ha hs b ob e=>by
  obtain⟨_,_,hfree⟩:=ha
  refine (I.hok b ob e).stay (fun c w' hc q=>(hs.2 c ?_).trans q) (fun _ q=>q) fun _ _ q=>q
  rintro rfl
  rcases hc with rfl|hc
  ·rw[hfree] at e;cases e
  ·rw[hfree] at hc;cases hc
 rcases hx with hk|hk
 ·refine wpAny_storeName_local hk hn (fun h' hn' hs=>?_) hcls
  obtain⟨oL,_,_,hoL,_⟩:=id hn
  refine h _ ⟨I.ok,I.os,I.bare,⟨fun b o e n hb hx=>?_,fun b o e n hb hx=>?_,I.base.free,fun b o e hx=>?_,I.base.tups,I.base.frzs,I.base.tbls⟩,⟨_,hn',fun j y v' e1 e2 e3=>?_⟩,fun y c e=>?_,I.free,I.freeC,fun p hp=>?_,tracked ⟨oL,hoL,I.free⟩ hs,by simpa using I.len⟩ ⟨_,hs,.inl rfl⟩
  ·exact (hs.2 b (Nat.ne_of_lt (Nat.lt_of_lt_of_le (Heap.lt_size e) I.ok.above))).trans (I.base.keep b o e n hb hx)
  ·obtain⟨sl,e1⟩:=I.base.slot b o e n hb hx
   exact⟨sl,(hs.2 b (Nat.ne_of_lt (Nat.lt_of_lt_of_le (Heap.lt_size e) I.ok.above))).trans e1⟩
  ·obtain⟨o',e1⟩:=I.base.there b o e hx
   exact⟨o',(hs.2 b (Nat.ne_of_lt (Nat.lt_of_lt_of_le (Heap.lt_size e) I.ok.above))).trans e1⟩
  ·by_cases hj:j=i
   ·subst hj
    rw[hi] at e1;cases e1
    rw[List.getElem?_set_self hiσ] at e2
    cases e2
    exact⟨u,r,.inl ⟨hk,by simp⟩⟩
   ·rw[List.getElem?_set_ne (Ne.symm hj)] at e2
    obtain⟨u',r',q⟩:=hl j y v' e1 e2 e3
    refine⟨u',r',?_⟩
    rcases q with ⟨k,e⟩|⟨k,c,e,z⟩
    ·refine .inl ⟨k,?_⟩
     have:y≠x:=fun e=>hj (zl5 hN e1 (e ▸ hi))
     simp[this,e]
    ·exact .inr ⟨k,c,e,z.sameBut hs (cne y c e)⟩
  ·obtain⟨w',z⟩:=I.cell y c e
   exact⟨w',z.sameBut hs (cne y c e)⟩
  ·obtain⟨e,n,ne,nf,d⟩:=I.pin p hp
   exact⟨(hs.2 p.1 ne).trans e,n,ne,nf,d⟩
 ·have hfn:X.fn x=true:=by
   rcases hf with z|z
   ·exact z
   ·rw[z] at hk;cases hk
  obtain⟨c,hc⟩:=I.ok.has x (.inl hk)
  obtain⟨w',z⟩:=I.cell x c hc
  refine wpAny_storeName_cell I.ok.kind hk hc z (fun h' hc' hs=>?_)
  obtain⟨oc,hoc,hocd⟩:=id z
  refine h { s with heap:=h' } ⟨I.ok,I.os,I.bare,⟨fun b o e n hb hx=>?_,fun b o e n hb hx=>?_,I.base.free,fun b o e hx=>?_,I.base.tups,I.base.frzs,I.base.tbls⟩,⟨m,hn.sameBut hs (Ne.symm (cne x c hc)),fun j y v' e1 e2 e3=>?_⟩,fun y c' e=>?_,I.free,I.freeC,fun p hp=>?_,tracked ⟨oc,hoc,I.freeC x c hc⟩ hs,by simpa using I.len⟩ ⟨c,hs,.inr hc⟩
  ·exact (hs.2 b (Nat.ne_of_lt (Nat.lt_of_lt_of_le (Heap.lt_size e) (I.ok.cab x c hfn hc)))).trans (I.base.keep b o e n hb hx)
  ·obtain⟨sl,e1⟩:=I.base.slot b o e n hb hx
   exact⟨sl,(hs.2 b (Nat.ne_of_lt (Nat.lt_of_lt_of_le (Heap.lt_size e) (I.ok.cab x c hfn hc)))).trans e1⟩
  ·obtain⟨o',e1⟩:=I.base.there b o e hx
   exact⟨o',(hs.2 b (Nat.ne_of_lt (Nat.lt_of_lt_of_le (Heap.lt_size e) (I.ok.cab x c hfn hc)))).trans e1⟩
  ·by_cases hj:j=i
   ·subst hj
    rw[hi] at e1;cases e1
    rw[List.getElem?_set_self hiσ] at e2
    cases e2
    exact⟨u,r,.inr ⟨.inl hk,c,hc,hc'⟩⟩
   ·rw[List.getElem?_set_ne (Ne.symm hj)] at e2
    obtain⟨u',r',q⟩:=hl j y v' e1 e2 e3
    refine⟨u',r',?_⟩
    rcases q with q|⟨k,c',e,z'⟩
    ·exact .inl q
    ·refine .inr ⟨k,c',e,z'.sameBut hs ?_⟩
     rintro rfl
     exact hj (zl5 hN e1 (I.ok.inj _ _ _ e hc ▸ hi))
  ·by_cases hcc:c'=c
   ·subst hcc;exact⟨_,hc'⟩
   ·obtain⟨w2,z2⟩:=I.cell y c' e
    exact⟨w2,z2.sameBut hs hcc⟩
  ·obtain⟨e,n,ne,nf,d⟩:=I.pin p hp
   refine⟨(hs.2 p.1 ?_).trans e,n,ne,nf,d⟩
   intro q
   rw[q,hoc] at e
   have q':oc=p.2:=Option.some.inj e
   exact d w' (by rw[← q'];exact hocd)
theorem zgC {M:Model} {A:Around} {E:Value→Shared→Prop} {i:Nat} {x:Str} {v:V} {u:Value} {Q:Unit→Shared→Prop} (I:Inv X pins σ H s) (hN:X.N.Nodup) (hi:X.N[i]?=some x) (hx:Loc X.env.scope x) (r:RelV v u)
  (h:∀s',Inv X pins (σ.set i (some v)) H s'→Q () s') (hf:X.fn x=true∨X.env.scope.names.lookup x=some .local:=by first|exact .inl rfl|exact .inr rfl|assumption):wpAny M A (storeName X.env x u) Q E s:=
 zno I hN hi hx r (fun s' I' _=>h s' I') hf
end
abbrev XK:=Value→Option Addr→Hp→Prop
abbrev St:=List (Option V)
abbrev VK:=V→Hp→Prop
abbrev TE:=St→Hp→VK→Prop
abbrev TT:=St→Hp→(Bool→Hp→Prop)→Prop
abbrev TA:=St→Hp→(List V→Hp→Prop)→Prop
structure Ends where
 nx:St→Hp→Prop
 rt:VK
 bk:St→Hp→Prop:=fun _ _=>False
 ct:St→Hp→Prop:=fun _ _=>False
abbrev TS:=Ends→St→Hp→Prop
def EP (X:Cx) (pins:List (Addr×Obj)) (σ:St) (Q:VK) (u:Value) (s':Shared):Prop:=∃v H',Inv X pins σ H' s'∧RelV v u∧Q v H'
def TP (X:Cx) (pins:List (Addr×Obj)) (σ:St) (Q:Bool→Hp→Prop) (b:Bool) (s':Shared):Prop:=∃H',Inv X pins σ H' s'∧Q b H'
def AP (X:Cx) (pins:List (Addr×Obj)) (σ:St) (Q:List V→Hp→Prop) (us:List Value) (s':Shared):Prop:=∃vs H',Inv X pins σ H' s'∧Vals vs us∧Q vs H'
def SP (X:Cx) (pins:List (Addr×Obj)) (D:Ends) (f:Flow) (s':Shared):Prop:=
 match f with
 | .next=>∃σ' H',Inv X pins σ' H' s'∧D.nx σ' H'
 | .brk=>∃σ' H',Inv X pins σ' H' s'∧D.bk σ' H'
 | .cont=>∃σ' H',Inv X pins σ' H' s'∧D.ct σ' H'
 | .ret u=>∃v σ' H',Inv X pins σ' H' s'∧RelV v u∧D.rt v H'
def PE (X:Cx) (e:Expr) (t:TE):Prop:=
 ∀(pins:List (Addr×Obj)) (s:Shared) (σ:St) (H:Hp) (Q:VK),Inv X pins σ H s→t σ H Q→wpAny (model X.prog X.w) X.A (eval e X.env) (EP X pins σ Q) X.xe s
def PT (X:Cx) (e:Expr) (t:TT):Prop:=
 ∀(pins:List (Addr×Obj)) (s:Shared) (σ:St) (H:Hp) (Q:Bool→Hp→Prop),Inv X pins σ H s→t σ H Q→wpAny (model X.prog X.w) X.A (isTrue e X.env (eval e X.env)) (TP X pins σ Q) X.xe s
def PW (X:Cx) (e:Expr) (t:TT):Prop:=
 ∀(whole:Sem Value) (pins:List (Addr×Obj)) (s:Shared) (σ:St) (H:Hp) (Q:Bool→Hp→Prop),Inv X pins σ H s→t σ H Q→wpAny (model X.prog X.w) X.A (isTrue e X.env whole) (TP X pins σ Q) X.xe s
theorem PW.pt {X:Cx} {e:Expr} {t:TT} (h:PW X e t):PT X e t:=h _
def PA (X:Cx) (es:List Expr) (t:TA):Prop:=
 ∀(pos:Pos) (pins:List (Addr×Obj)) (s:Shared) (σ:St) (H:Hp) (Q:List V→Hp→Prop),Inv X pins σ H s→t σ H Q→wpAny (model X.prog X.w) X.A (spliced (backTo pos (starEach es X.env))) (AP X pins σ Q) X.xe s
def PS (X:Cx) (st:Stmt) (t:TS):Prop:=
 ∀(pins:List (Addr×Obj)) (s:Shared) (σ:St) (H:Hp) (D:Ends),Inv X pins σ H s→t D σ H→wpAny (model X.prog X.w) X.A (exec st X.env) (SP X pins D) X.xe s
def PSs (X:Cx) (st:List Stmt) (t:TS):Prop:=
 ∀(pins:List (Addr×Obj)) (s:Shared) (σ:St) (H:Hp) (D:Ends),Inv X pins σ H s→t D σ H→wpAny (model X.prog X.w) X.A (execs st X.env) (SP X pins D) X.xe s
theorem thn {α:Type} {t:Sem α} {Q Q':α→Shared→Prop} {M:Model} {A:Around} {E:Value→Shared→Prop} {s:Shared} (h:wpAny M A t Q E s) (hQ:∀a s,Q a s→Q' a s):wpAny M A t Q' E s:=wpAny_mono h hQ fun _ _ x=>x
end L2
namespace L2
open PySem PySem.Spec PyProof.Rows
section
variable {X:Cx}
def tVar (i:Nat):TE:=fun σ H Q=>∃v,σ[i]?=some (some v)∧Q v H
def tC (v:V):TE:=fun _ H Q=>Q v H
theorem zrO {i:Nat} {x:Str} {pos:Pos} (hN:X.N[i]?=some x) (hv:Vis X.env.scope x) (hd:(x == ("__debug__" : Str))=false:=by decide) (hcd:(x == ("__classdict__" : Str))=false:=by decide):PE X (.Name x pos) (tVar i):=by
 intro pins s σ H Q I h
 obtain⟨v,e,h⟩:=h
 obtain⟨m,hn,hl⟩:=I.loc
 obtain⟨u,r,l⟩:=hl i x v hN e hv
 have fin:EP X pins σ Q u s:=⟨v,H,I,r,h⟩
 rcases l with ⟨hk,hm⟩|⟨hk,c,hc,hcell⟩
 ·exact wpAny_Name (wpAny_loadName_local I.ok.kind hk hn hm fin) hd
 ·rcases hk with hk|hk
  ·exact wpAny_Name (wpAny_loadName_cell I.ok.kind hk hc hcell fin) hd
  ·exact wpAny_Name (wpAny_loadName_free I.ok.kind hk hc hcell fin hcd) hd
theorem zaj {i j pos}:PE X (.Constant (.int i) j pos) (tC (.int i)):=fun _ _ _ H _ I h=>wpAny_Constant_int ⟨.int i,H,I.tok _,⟨_,rfl⟩,h⟩
theorem zjR {b j pos}:PE X (.Constant (.bool b) j pos) (tC (.bl b)):=fun _ _ _ H _ I h=>Constant_bool ⟨.bl b,H,I,rfl,h⟩
theorem zbs {x j pos}:PE X (.Constant (.str x) j pos) (tC (.str x)):=fun _ _ _ H _ I h=>Calls.Constant_str ⟨.str x,H,I.tok _,⟨_,rfl⟩,h⟩
def Gl (X:Cx) (x:Str):Prop:=X.env.kindOf x=some .globalImplicit
theorem zot {E:Value→Shared→Prop} {pins:List (Addr×Obj)} {s:Shared} {σ:St} {H:Hp} {x:Str} {u:Value} {pos:Pos} {Q:Value→Shared→Prop} (I:Inv X pins σ H s) (hg:Gl X x) (hm:X.mg x=some u) (h:Q u s)
  (hd:(x == ("__debug__" : Str))=false:=by decide):wpAny (model X.prog X.w) X.A (eval (.Name x pos) X.env) Q E s:=
 Calls.Name_function_global I.ok.kind hg (Calls.loadGlobal_global (by rw[I.ok.glob];exact I.mod.glob.keeps I.bk) hm h) hd
theorem zhp {E:Value→Shared→Prop} {pins:List (Addr×Obj)} {s:Shared} {σ:St} {H:Hp} {x:Str} {u:Value} {pos:Pos} {Q:Value→Shared→Prop} (I:Inv X pins σ H s) (hg:Gl X x) (hm:X.mg x=none) (hv:bootBuiltins x=some u) (h:Q u s)
  (hn:x≠"__name__":=by decide) (hd:(x == ("__debug__" : Str))=false:=by decide):wpAny (model X.prog X.w) X.A (eval (.Name x pos) X.env) Q E s:=by
 obtain⟨mb,h1,h2⟩:=I.mod.blt
 exact Calls.Name_function_global I.ok.kind hg (Calls.loadGlobal_builtin (by rw[I.ok.glob];exact I.mod.glob.keeps I.bk) hm (by rw[I.ok.blt];exact h1.keeps I.bk) ((h2 x hn).trans hv) h) hd
theorem znf {x:Str} {v:V} {u:Value} {pos:Pos} (hg:Gl X x) (hm:X.mg x=some u) (r:RelV v u) (hd:(x == ("__debug__" : Str))=false:=by decide):PE X (.Name x pos) (tC v):=
 fun _ _ _ H _ I h=>zot I hg hm ⟨v,H,I,r,h⟩ hd
theorem ze6 {x:Str} {v:V} {u:Value} {pos:Pos} (hg:Gl X x) (hm:X.mg x=none) (hv:bootBuiltins x=some u) (r:RelV v u) (hn:x≠"__name__":=by decide) (hd:(x == ("__debug__" : Str))=false:=by decide):PE X (.Name x pos) (tC v):=
 fun _ _ _ H _ I h=>zhp I hg hm hv ⟨v,H,I,r,h⟩ hn hd
variable {a b:Expr} {ta tb:TE} {pos:Pos}
def PC (X:Cx) (op:CmpOp) (a b:Expr) (t:TE):Prop:=
 ∀(pins:List (Addr×Obj)) (s:Shared) (σ:St) (H:Hp) (Q:VK),Inv X pins σ H s→t σ H Q →
  wpAny (model X.prog X.w) X.A (eval a X.env) (fun v s₁=>wpAny (model X.prog X.w) X.A (eval b X.env) (fun u s₂=>wpAny (model X.prog X.w) X.A (compareOp op v u) (EP X pins σ Q) X.xe s₂) X.xe s₁) X.xe s
def tB (t:TE):TT:=fun σ H Q=>t σ H fun x H1=>∃c,x=.bl c∧Q c H1
theorem zr2 {op:CmpOp} {t:TE} (h:PC X op a b t) (h1:behindInMarks op b=false:=by first|exact nobehind _ (by decide) (by decide)|rfl):PT X (.Compare a [op] [b] pos) (tB t):=by
 intro pins s σ H Q I hw
 refine wpAny_isTrue_Compare1 (thn (h pins s σ H _ I hw) fun v s1 h1=>thn h1 fun u s2 h2=>thn h2 fun c s3 ⟨x,H1,I1,r1,q1⟩=>?_) h1
 obtain⟨d,rfl,q⟩:=q1
 cases r1
 exact wpAny_truthy_bool ⟨H1,I1,q⟩
theorem zfA {e:Expr} {t:TE} (h:PE X e t) (he:∀whole,isTrue e X.env whole=(do let v ← whole;standAt e.pos;holding [v] (truthy v)):=by intro _;rfl):PT X e (tB t):=by
 intro pins s σ H Q I hw
 refine isTrue_plain (thn (h pins s σ H _ I hw) fun v s1 ⟨x,H1,I1,r1,q1⟩=>?_) (he _)
 obtain⟨d,rfl,q⟩:=q1
 cases r1
 exact wpAny_truthy_bool ⟨H1,I1,q⟩
variable {tA tB':TT} {rest:List Expr}
def tOr (t u:TT):TT:=fun σ H Q=>t σ H fun c H1=>if c=true then Q true H1 else u σ H1 Q
def tNot (t:TT):TT:=fun σ H Q=>t σ H fun c H1=>Q (!c) H1
theorem zpQ (ha:PT X a tA):PW X (.BoolOp .Or [a] pos) tA:=by
 intro wh pins s σ H Q I h
 refine isTrue_or (thn (ha pins s σ H Q I h) fun c s1 e=>?_)
 cases c with
 | false=>exact isTrue_or_nil e
 | true=>exact e
theorem zq5 (ha:PT X a tA) (hb:PW X (.BoolOp .Or (b::rest) pos) tB'):PW X (.BoolOp .Or (a::b::rest) pos) (tOr tA tB'):=by
 intro wh pins s σ H Q I h
 refine isTrue_or (thn (ha pins s σ H _ I h) fun c s1 ⟨H1,I1,q1⟩=>?_)
 cases c with
 | true=>exact⟨H1,I1,q1⟩
 | false=>exact hb wh pins s1 σ H1 Q I1 q1
theorem zmF (ha:PT X a tA):PT X (.UnaryOp .Not a pos) (tNot tA):=by
 intro pins s σ H Q I h
 exact isTrue_not (ha pins s σ H (fun c H1=>Q (!c) H1) I h)
def zq4 (ta tb:TE):TE:=fun σ H Q=>ta σ H fun x H1=>∃c,x=.bl c∧if c=true then tb σ H1 Q else Q (.bl false) H1
def tOrV (ta tb:TE):TE:=fun σ H Q=>ta σ H fun x H1=>∃c,x=.bl c∧if c=true then Q (.bl true) H1 else tb σ H1 Q
def zq8 (ta:TE):TE:=fun σ H Q=>ta σ H fun x H1=>∃c,x=.bl c∧Q (.bl (!c)) H1
theorem ziE {op} {t:TE} (h:PE X a t):PE X (.BoolOp op [a] pos) t:=fun pins s σ H Q I hw=>BoolOp_one (h pins s σ H Q I hw)
theorem zof (ha:PE X a ta) (hb:PE X (.BoolOp .And (b::rest) pos) tb):PE X (.BoolOp .And (a::b::rest) pos) (zq4 ta tb):=by
 intro pins s σ H Q I h
 refine BoolOp_and (thn (ha pins s σ H _ I h) fun v s1 ⟨x,H1,I1,r1,q1⟩=>?_)
 obtain⟨c,rfl,q1⟩:=q1
 cases r1
 refine wpAny_truthy_bool ?_
 cases c with
 | true=>exact hb pins s1 σ H1 Q I1 q1
 | false=>exact⟨.bl false,H1,I1,rfl,q1⟩
theorem zoE (ha:PE X a ta) (hb:PE X (.BoolOp .Or (b::rest) pos) tb):PE X (.BoolOp .Or (a::b::rest) pos) (tOrV ta tb):=by
 intro pins s σ H Q I h
 refine BoolOp_or (thn (ha pins s σ H _ I h) fun v s1 ⟨x,H1,I1,r1,q1⟩=>?_)
 obtain⟨c,rfl,q1⟩:=q1
 cases r1
 refine wpAny_truthy_bool ?_
 cases c with
 | false=>exact hb pins s1 σ H1 Q I1 q1
 | true=>exact⟨.bl true,H1,I1,rfl,q1⟩
theorem zn3 (ha:PE X a ta):PE X (.UnaryOp .Not a pos) (zq8 ta):=by
 intro pins s σ H Q I h
 refine UnaryOp_ (thn (ha pins s σ H _ I h) fun v s1 ⟨x,H1,I1,r1,q1⟩=>?_)
 obtain⟨c,rfl,q1⟩:=q1
 cases r1
 exact not_of (wpAny_truthy_bool ⟨.bl (!c),H1,I1,rfl,q1⟩)
end
end L2
namespace L2
open PySem PySem.Spec PyProof.Rows
def SqL (K:PySem.W.Frag) (H:Hp) (a:Addr) (xs:List V):Prop:=
 Rd H a (.lst xs) ∨
  ∃(o:Obj) (its:Array Value) (n:Nat),K.lookup a=some o∧o.cls=.type "list"∧o.dict=none∧o.data=.seq its n∧its.size≤sizeLine∧Vals xs its.toList
def SqT (K:PySem.W.Frag) (H:Hp) (a:Addr) (xs:List V):Prop:=
 Rd H a (.tup xs) ∨
  ∃(o:Obj) (its:Array Value) (n:Nat),K.lookup a=some o∧o.cls=.type "tuple"∧o.data=.seq its n∧its.size≤sizeLine∧Vals xs its.toList
def absV:Value→Option V
 | .none=>some .non
 | .bool b=>some (.bl b)
 | .int i _=>some (.int i)
 | .str x _=>some (.str x)
 | .bytes b _=>some (.byt b)
 | .float b _=>some (.flt b)
 | .ref a=>some (.ref a)
 | .type n=>some (.ty n)
 | _=>none
theorem RelV.abs {x:V} {u:Value} (r:RelV x u):absV u=some x:=by
 cases x with
 | non=>cases r;rfl
 | bl _=>cases r;rfl
 | int _=>obtain⟨t,rfl⟩:=r;rfl
 | str _=>obtain⟨t,rfl⟩:=r;rfl
 | byt _=>obtain⟨t,rfl⟩:=r;rfl
 | flt _=>obtain⟨t,rfl⟩:=r;rfl
 | ref _=>cases r;rfl
 | ty _=>cases r;rfl
theorem RelV.inj {x y:V} {u:Value} (r:RelV x u) (q:RelV y u):x=y:=Option.some.inj (r.abs.symm.trans q.abs)
theorem Vals.inj:∀ {xs ys:List V} {us:List Value},Vals xs us→Vals ys us→xs=ys
 | _,_,_,.nil,.nil=>rfl
 | _,_,_,.cons r t,.cons r' t'=>by rw[r.inj r',Vals.inj t t']
section
variable {X:Cx} {pins:List (Addr×Obj)} {σ:St} {H:Hp} {s:Shared} {a:Addr} {xs ys:List V}
theorem Inv.list (I:Inv X pins σ H s) (h:SqL X.K H a xs):∃its:List Value,Vals xs its∧PlainL s.heap a its.toArray∧xs.length≤sizeLine:=by
 rcases h with h|⟨o,its,n,hk,hc,hd,hs,hz,r⟩
 ·obtain⟨z,its,n,r,e⟩:=h.ok I.hok
  exact⟨its,r,⟨_,n,e,rfl,rfl,rfl⟩,z⟩
 ·refine⟨its.toList,r,⟨o,n,I.kIn a o hk,hc,hd,by simpa using hs⟩,?_⟩
  have e:=r.length
  simp only[Array.length_toList] at e
  omega
theorem Inv.tuple (I:Inv X pins σ H s) (h:SqT X.K H a xs):∃its:List Value,Vals xs its∧IsTup s.heap a its.toArray∧xs.length≤sizeLine:=by
 rcases h with h|⟨o,its,n,hk,hc,hs,hz,r⟩
 ·obtain⟨z,its,r,p⟩:=h.ok I.hok
  exact⟨its,r,p,z⟩
 ·refine⟨its.toList,r,⟨o,I.kIn a o hk,hc,n,by simpa using hs⟩,?_⟩
  have e:=r.length
  simp only[Array.length_toList] at e
  omega
theorem Inv.list_inj (I:Inv X pins σ H s) (h:SqL X.K H a xs) (h':SqL X.K H a ys):xs=ys:=by
 obtain⟨its,r,⟨o,n,e,_,_,d⟩,_⟩:=I.list h
 obtain⟨its',r',⟨o',n',e',_,_,d'⟩,_⟩:=I.list h'
 rw[e] at e';cases e'
 rw[d] at d'
 injection d' with d1 _
 have:its=its':=by simpa using congrArg Array.toList d1
 subst this
 exact r.inj r'
theorem Inv.tuple_inj (I:Inv X pins σ H s) (h:SqT X.K H a xs) (h':SqT X.K H a ys):xs=ys:=by
 obtain⟨its,r,⟨o,e,_,n,d⟩,_⟩:=I.tuple h
 obtain⟨its',r',⟨o',e',_,n',d'⟩,_⟩:=I.tuple h'
 rw[e] at e';cases e'
 rw[d] at d'
 injection d' with d1 _
 have:its=its':=by simpa using congrArg Array.toList d1
 subst this
 exact r.inj r'
end
abbrev Cx.wish (X:Cx) (E:Value→Shared→Prop):Cx:={ X with xe:=E }
abbrev Cx.nox (X:Cx):Cx:=X.wish fun _ _=>False
theorem Cx.Ok.wish {X:Cx} (ok:X.Ok) (E:Value→Shared→Prop):(X.wish E).Ok:=
 ⟨ok.mod,ok.kind,ok.glob,ok.blt,ok.above,ok.inj,ok.has,ok.cab,ok.hd,ok.frames,ok.stk,ok.exf,ok.bs,ok.bsz,ok.noex,ok.exfs,ok.funs,ok.frf,ok.tb⟩
theorem Cx.Ok.unwish {X:Cx} {E:Value→Shared→Prop} (ok:(X.wish E).Ok):X.Ok:=
 ⟨ok.mod,ok.kind,ok.glob,ok.blt,ok.above,ok.inj,ok.has,ok.cab,ok.hd,ok.frames,ok.stk,ok.exf,ok.bs,ok.bsz,ok.noex,ok.exfs,ok.funs,ok.frf,ok.tb⟩
section
variable {X:Cx} {pins:List (Addr×Obj)} {σ:St} {H:Hp} {s:Shared} {E:Value→Shared→Prop}
theorem Inv.wish (I:Inv X pins σ H s) (E:Value→Shared→Prop):Inv (X.wish E) pins σ H s:=⟨I.ok.wish E,I.os,I.bare,I.base,I.loc,I.cell,I.free,I.freeC,I.pin,I.hok,I.len⟩
theorem Inv.unwish (I:Inv (X.wish E) pins σ H s):Inv X pins σ H s:=⟨I.ok.unwish,I.os,I.bare,I.base,I.loc,I.cell,I.free,I.freeC,I.pin,I.hok,I.len⟩
theorem SP.unwish {D:Ends} {f:Flow} {s':Shared} (h:SP (X.wish E) pins D f s'):SP X pins D f s':=by
 cases f with
 | next=>obtain⟨σ',H',I,q⟩:=h;exact⟨σ',H',I.unwish,q⟩
 | brk=>obtain⟨σ',H',I,q⟩:=h;exact⟨σ',H',I.unwish,q⟩
 | cont=>obtain⟨σ',H',I,q⟩:=h;exact⟨σ',H',I.unwish,q⟩
 | ret u=>obtain⟨v,σ',H',I,r,q⟩:=h;exact⟨v,σ',H',I.unwish,r,q⟩
theorem PSs.nox {st:List Stmt} {t:TS} (h:PSs X.nox st t):PSs X st t:=fun pins s σ H D I hw=>
 wpAny_mono (h pins s σ H D (I.wish _) hw) (fun _ _ q=>q.unwish) fun _ _ z=>False.elim z
end
section
variable {X:Cx} {st:Stmt} {rest:List Stmt} {t u:TS} {e:Expr} {te:TE} {pos:Pos}
def zn4:TS:=fun D σ H=>D.nx σ H
def tSeq (t u:TS):TS:=fun D σ H=>t { D with nx:=u D } σ H
theorem za0:PSs X [] zn4:=fun _ _ σ H _ I h=>wpAny_execs_nil ⟨σ,H,I,h⟩
theorem zag (h1:PS X st t) (h2:PSs X rest u):PSs X (st::rest) (tSeq t u):=by
 intro pins s σ H D I h
 refine wpAny_execs_cons (thn (h1 pins s σ H { D with nx:=u D } I h) fun f s1 q=>?_)
 cases f with
 | next=>
  obtain⟨σ',H',I',q⟩:=q
  exact h2 pins s1 σ' H' D I' q
 | ret v=>exact q
 | brk=>exact q
 | cont=>exact q
theorem zao (h1:PS X st t):PSs X [st] t:=by
 intro pins s σ H D I h
 refine wpAny_execs_cons (thn (h1 pins s σ H D I h) fun f s1 q=>?_)
 cases f with
 | next=>exact wpAny_execs_nil q
 | ret v=>exact q
 | brk=>exact q
 | cont=>exact q
theorem Inv.quiet {pins:List (Addr×Obj)} {σ:St} {H:Hp} {s:Shared} (I:Inv X pins σ H s):interactive X.env=false:=by simp[interactive,I.ok.kind]
def zkv (te:TE):TS:=fun D σ H=>te σ H fun _ H1=>D.nx σ H1
theorem zaQ (he:PE X e te) (hs:swapsWith e none pos.line X.env=pure false:=by rfl):PS X (.Expr e pos) (zkv te):=by
 intro pins s σ H D I h
 exact wpAny_Expr_any (thn (he pins s σ H _ I h) fun v s1 ⟨x,H1,I1,r1,q1⟩=>⟨σ,H1,I1,q1⟩) I.quiet hs
def tRet (te:TE):TS:=fun D σ H=>te σ H D.rt
theorem zaJ (he:PE X e te):PS X (.Return (some e) pos) (tRet te):=by
 intro pins s σ H D I h
 exact wpAny_Return_some (thn (he pins s σ H _ I h) fun v s1 ⟨x,H1,I1,r1,q1⟩=>⟨x,σ,H1,I1,r1,q1⟩)
def tIfS (c:TT) (t u:TS):TS:=fun D σ H=>c σ H fun b H1=>if b=true then t D σ H1 else u D σ H1
theorem zb8 {c:Expr} {a b:List Stmt} {tc:TT} (hc:PT X c tc) (ha:PSs X a t) (hb:PSs X b u):PS X (.If c a b pos) (tIfS tc t u):=by
 intro pins s σ H D I h
 refine wpAny_If (thn (hc pins s σ H _ I h) fun d s1 ⟨H1,I1,q1⟩=>?_)
 cases d with
 | true=>exact ha pins s1 σ H1 D I1 q1
 | false=>exact hb pins s1 σ H1 D I1 q1
def zpB:TS:=fun _ _ _=>False
theorem zeW:PS X st zpB:=fun _ _ _ _ _ _ h=>h.elim
end
abbrev TG:=V→St→Hp→(St→Hp→Prop)→Prop
abbrev TGs:=List V→St→Hp→(St→Hp→Prop)→Prop
def PG (X:Cx) (target:Expr) (t:TG):Prop:=
 ∀(pins:List (Addr×Obj)) (s:Shared) (σ:St) (H:Hp) (v:V) (u:Value) (Q:St→Hp→Prop),Inv X pins σ H s→RelV v u→t v σ H Q →
  wpAny (model X.prog X.w) X.A (assign target X.env u) (fun _ s'=>∃σ' H',Inv X pins σ' H' s'∧Q σ' H') X.xe s
def PGs (X:Cx) (ts:List Expr) (t:TGs):Prop:=
 ∀(pins:List (Addr×Obj)) (s:Shared) (σ:St) (H:Hp) (vs:List V) (us:List Value) (Q:St→Hp→Prop),Inv X pins σ H s→Vals vs us→t vs σ H Q →
  wpAny (model X.prog X.w) X.A (assignInOrder ((assignEach ts X.env).map (·.2)) us) (fun _ s'=>∃σ' H',Inv X pins σ' H' s'∧Q σ' H') X.xe s
section
variable {X:Cx} {pos:Pos}
def ziP (i:Nat):TG:=fun v σ H Q=>Q (σ.set i (some v)) H
theorem zaw {i:Nat} {x:Str} (hN:X.N.Nodup) (hi:X.N[i]?=some x) (hx:Loc X.env.scope x) (hf:X.fn x=true∨X.env.scope.names.lookup x=some .local:=by first|exact .inl rfl|exact .inr rfl|assumption):PG X (.Name x pos) (ziP i):=by
 intro pins s σ H v u Q I r h
 exact wpAny_assign_Name (zgC I hN hi hx r (fun s' I'=>⟨_,H,I',h⟩) hf)
def gNil:TGs:=fun vs σ H Q=>vs=[]∧Q σ H
def zrN (t:TG) (u:TGs):TGs:=fun vs σ H Q=>∃v r,vs=v::r∧t v σ H fun σ' H'=>u r σ' H' Q
theorem zcJ:PGs X [] gNil:=by
 intro pins s σ H vs us Q I r h
 obtain⟨e,h⟩:=h
 subst e
 cases r
 exact assignInOrder_nil ⟨σ,H,I,h⟩
theorem zaY {e:Expr} {es:List Expr} {t:TG} {u:TGs} (h1:PG X e t) (h2:PGs X es u)
  (hs:(assignEach (e::es) X.env).map (·.2)=assign e X.env::(assignEach es X.env).map (·.2):=by rfl):PGs X (e::es) (zrN t u):=by
 intro pins s σ H vs us Q I r h
 obtain⟨v,vr,e1,h⟩:=h
 subst e1
 cases r with
 | cons r rr=>
  rw[hs]
  refine assignInOrder_cons (thn (h1 pins s σ H _ _ _ I r h) fun _ s1 ⟨σ1,H1,I1,q1⟩=>?_)
  exact h2 pins s1 σ1 H1 _ _ Q I1 rr q1
def gTup (K:PySem.W.Frag) (n:Nat) (t:TGs):TG:=fun v σ H Q=>∃a xs,v=.ref a∧SqT K H a xs∧xs.length=n∧t xs σ H Q
theorem zdT {es:List Expr} {k:Nat} {t:TGs} {n:Nat} (hc:X.calm=true) (h:PGs X es t)
  (hn:(assignEach es X.env).length=n:=by rfl) (hst:(assignEach es X.env).findIdx? (·.1)=none:=by rfl):PG X (.Tuple es k pos) (gTup X.K n t):=by
 intro pins s σ H v u Q I r hw
 obtain⟨a,xs,e1,hq,hl,hw⟩:=hw
 subst e1
 cases r
 obtain⟨its,rv,ht,hz⟩:=I.tuple hq
 refine assign_Tuple_tuple (I.ok.hd hc) ht (by simp[hn,← hl,rv.length]) hst fun h' hx=>?_
 have I1:Inv X pins σ H { s with heap:=h' }:=I.kept (t':=s.toks) fun b o e=>hx b o (Nat.ne_of_lt (Heap.lt_size e)) e
 exact h pins _ σ H xs _ Q I1 (by simpa using rv) hw
def tAsg (te:TE) (g:TG):TS:=fun D σ H=>te σ H fun x H1=>g x σ H1 D.nx
theorem zrM {tg e:Expr} {te:TE} {g:TG} (he:PE X e te) (hg:PG X tg g) (hs:swapsWithSole [tg] e pos.line X.env=pure false:=by rfl) (hw:swappedStores [tg] e X.env=pure none:=by rfl)
  (h1:(assignEach [tg] X.env).map (·.2)=[assign tg X.env]:=by rfl):PS X (.Assign [tg] e pos) (tAsg te g):=by
 intro pins s σ H D I h
 refine wpAny_Assign_stores (thn (he pins s σ H _ I h) fun v s1 ⟨x,H1,I1,r1,q1⟩=>?_) hs hw
 rw[h1]
 exact thn (hg pins s1 σ H1 x v _ I1 r1 q1) fun _ s2 q=>q
theorem zay {i:Nat} {x:Str} {e:Expr} {te:TE} {pos':Pos} (hN:X.N.Nodup) (hi:X.N[i]?=some x) (hx:Loc X.env.scope x) (he:PE X e te) (hs:swapsWith e (some (.Name x pos')) pos.line X.env=pure false:=by rfl) (hf:X.fn x=true∨X.env.scope.names.lookup x=some .local:=by first|exact .inl rfl|exact .inr rfl|assumption) :
  PS X (.Assign [.Name x pos'] e pos) (tAsg te (ziP i)):=by
 intro pins s σ H D I h
 refine wpAny_Assign_Name (thn (he pins s σ H _ I h) fun v s1 ⟨y,H1,I1,r1,q1⟩=>?_) hs
 exact zgC I1 hN hi hx r1 (fun s2 I2=>⟨_,H1,I2,q1⟩) hf
def tPar (i j:Nat) (ta:TA):TS:=fun D σ H=>ta σ H fun vs H1=>∃v w,vs=[v,w]∧D.nx ((σ.set i (some v)).set j (some w)) H1
theorem zqU {i j:Nat} {x y:Str} {a b:Expr} {ta:TA} {px py pt:Pos} {kt k2 pt2} (hc:X.calm=true) (hN:X.N.Nodup) (hi:X.N[i]?=some x) (hj:X.N[j]?=some y) (hij:i≠j)
  (hx:X.env.scope.names.lookup x=some .local) (hy:X.env.scope.names.lookup y=some .local) (ha:PA X [a,b] ta)
  (hw:swappedStores [.Tuple [.Name x px,.Name y py] kt pt] (.Tuple [a,b] k2 pt2) X.env=pure (some [x,y]))
  (hs:swapsWithSole [.Tuple [.Name x px,.Name y py] kt pt] (.Tuple [a,b] k2 pt2) pos.line X.env=pure false:=by rfl) :
  PS X (.Assign [.Tuple [.Name x px,.Name y py] kt pt] (.Tuple [a,b] k2 pt2) pos) (tPar i j ta):=by
 intro pins s σ H D I h
 rw[exec_Assign_arm]
 refine wpAny_bind (wpAny_standAt ?_)
 rw[hs]
 refine wpAny_bind (wpAny_pure ?_)
 rw[if_neg (by decide)]
 refine wpAny_bind (Tuple_ (thn (ha _ pins s σ H _ I h) fun us s1 ⟨vs,H1,I1,r1,q1⟩=>?_))
 obtain⟨v,w,e1,q1⟩:=q1
 subst e1
 obtain⟨u1,u2,rfl,rv,rw'⟩:∃u1 u2,us=[u1,u2]∧RelV v u1∧RelV w u2:=by
  cases r1 with
  | cons p q=>
   cases q with
   | cons p' q'=>
    cases q'
    exact⟨_,_,rfl,p,p'⟩
 refine wpAny_newObj_type ?_ (by show 2≤sizeLine;decide)
 have I2:Inv X pins σ H1 { s1 with heap:=s1.heap.push { cls:=.type "tuple",data:=.seq [u1,u2].toArray } }:=I1.kept (t':=s1.toks) fun b o e=>Heap.get?_push_of_some _ e
 rw[hw]
 refine wpAny_bind (wpAny_pure ?_)
 show wpAny (model X.prog X.w) X.A (do rule "assign.swapped-stores";let items ← unpackItems (.ref s1.heap.objs.size) 2 none;assignInOrder [fun v=>bindName X.env y v,fun v=>bindName X.env x v] items.reverse;pure Flow.next) _ _ _
 refine wpAny_bind (wpAny_rule (wpAny_bind (unpackItems_tuple (items:=#[u1,u2]) (I.ok.hd hc) (IsTup.new s1.heap _) fun h' hx'=>?_)))
 have I3:=I2.kept (h':=h') (t':=s1.toks) fun b o e=>hx' b o (Nat.ne_of_lt (Heap.lt_size e)) e
 show wpAny _ _ (assignInOrder [fun v=>bindName X.env y v,fun v=>bindName X.env x v] [u2,u1] >>= fun _=>pure Flow.next) _ _ _
 refine wpAny_bind (assignInOrder_cons (wpAny_bindName (zgC I3 hN hj (.inl hy) rw' (fun s2 I4=>?_) (.inr hy))))
 refine assignInOrder_cons (wpAny_bindName (zgC I4 hN hi (.inl hx) rv (fun s3 I5=>assignInOrder_nil (wpAny_pure ?_)) (.inr hx)))
 rw[List.set_comm _ _ (Ne.symm hij)] at I5
 exact⟨_,H1,I5,q1⟩
end
section
variable {X:Cx} {pos:Pos}
def zpC (c:TT) (tb:TS):TS:=fun D σ H=>∃W:Nat→St→Hp→Prop,(∃m,W m σ H)∧∀m σ H,W m σ H →
 c σ H fun b H1=>if b=true then ∃N:St→Hp→Prop,(∀σ' H',N σ' H'→∃m',m'<m∧W m' σ' H')∧tb { D with nx:=N,ct:=N,bk:=D.nx } σ H1 else D.nx σ H1
theorem zml {c:Expr} {body:List Stmt} {tc:TT} {tb:TS} (hp:PassesOwn (model X.prog X.w) X.A X.env X.xe) (hc:PT X c tc) (hb:PSs X body tb):PS X (.While c body [] pos) (zpC tc tb):=by
 intro pins s σ H D I h
 obtain⟨W,⟨m0,w0⟩,turn⟩:=h
 refine wpAny_While (codeAny_whileLoop (fun n s'=>∃σ' H',Inv X pins σ' H' s'∧W n σ' H') ?_ m0 ⟨σ,H,I,w0⟩)
 rintro n s1 ⟨σ1,H1,I1,w1⟩
 refine wpAny_passesOwn hp (thn (hc pins s1 σ1 H1 _ I1 (turn n σ1 H1 w1)) fun b s2 ⟨H2,I2,q2⟩=>?_)
 cases b with
 | true=>
  obtain⟨N,hN,q2⟩:=q2
  rw[if_pos rfl]
  refine wpAny_passesOwn hp (thn (hb pins s2 σ1 H2 _ I2 q2) fun f s3 q3=>?_)
  cases f with
  | next=>
   obtain⟨σ3,H3,I3,n3⟩:=q3
   obtain⟨m',hm,w3⟩:=hN σ3 H3 n3
   exact⟨m',hm,σ3,H3,I3,w3⟩
  | cont=>
   obtain⟨σ3,H3,I3,n3⟩:=q3
   obtain⟨m',hm,w3⟩:=hN σ3 H3 n3
   exact⟨m',hm,σ3,H3,I3,w3⟩
  | brk=>exact q3
  | ret v=>exact q3
 | false=>
  rw[if_neg Bool.false_ne_true]
  exact wpAny_execs_nil ⟨σ1,H2,I2,q2⟩
end
structure It where
 go:Nat→Hp→Prop
 yld:Nat→Hp→V→Hp→Prop
 stop:Nat→Hp→Prop
def FpOk (X:Cx) (pins:List (Addr×Obj)) (H:Hp) (b:Addr):Prop:=
 H b=none∧b≠X.env.locals∧b∉X.fs∧(b∈X.ex∨X.s₀.heap.objs.size≤b)∧(∀x c,X.env.cells.lookup x=some c→c≠b)∧∀p∈X.pn++pins,p.1≠b
theorem Inv.fpOk {X:Cx} {pins:List (Addr×Obj)} {σ:St} {H H':Hp} {s:Shared} {b:Addr} (I:Inv X pins σ H s) (hb:s.heap.objs.size≤b) (hn:H' b=none):FpOk X pins H' b:=by
 refine⟨hn,Nat.ne_of_gt (Nat.lt_of_lt_of_le I.lt hb),I.nofs hb,.inr (Nat.le_trans I.sz hb),fun x c e z=>?_,fun p hp z=>?_⟩
 ·obtain⟨v,q⟩:=I.cell x c e
  exact absurd (Nat.lt_of_lt_of_le q.lt (by rw[z];exact hb)) (Nat.lt_irrefl _)
 ·exact absurd (Nat.lt_of_lt_of_le (Heap.lt_size (I.pin p hp).1) (by rw[z];exact hb)) (Nat.lt_irrefl _)
structure Turn (P:Program) (w:World) (K:PySem.W.Frag) (tg:Expr) (J:It) (fp:List Addr) (it:Addr) (tn:Nat→Heap→Prop):Prop where
 mem:it∈fp
 obj:∀i h,tn i h→∀b∈fp,∃o,h.get? b=some o∧∀v,o.data≠.cell v
 keep:∀i h h',tn i h→(∀b∈fp,∀o,h.get? b=some o→h'.get? b=some o)→tn i h'
 item:∀(X:Cx),X.prog=P→X.w=w→X.K=K→X.calm=true→∀(i:Nat) (pins:List (Addr×Obj)) (s:Shared) (σ:St) (H:Hp) (E:Value→Shared→Prop),Inv X pins σ H s→(∀b∈fp,FpOk X pins H b)→tn i s.heap→J.go i H →
  wpAny (model P w) X.A (pyNext (.ref it)) (fun r s1=>∃u,r=some u ∧
   wpAny (model P w) X.A (letOwnedTupleGo tg (.ref it) u) (fun _ s2=>∃x H',Inv X pins σ H' s2∧RelV x u∧J.yld i H x H'∧tn (i+1) s2.heap∧∀b∈fp,H' b=none) E s1) E s
 done:∀(X:Cx),X.prog=P→X.w=w→X.K=K→X.calm=true→∀(i:Nat) (pins:List (Addr×Obj)) (s:Shared) (σ:St) (H:Hp) (E:Value→Shared→Prop),Inv X pins σ H s→(∀b∈fp,FpOk X pins H b)→tn i s.heap→J.stop i H →
  wpAny (model P w) X.A (pyNext (.ref it)) (fun r s1=>r=none∧Inv X pins σ H s1) E s
 self:∀(A:Around) (i:Nat) (s:Shared) (Q:Value→Shared→Prop) (E:Value→Shared→Prop),tn i s.heap→Q (.ref it) s→wpAny (model P w) A (pyIter (.ref it)) Q E s
abbrev TI:=St→Hp→(It→Hp→Prop)→Prop
def PIE (X:Cx) (pins:List (Addr×Obj)) (σ:St) (tg:Expr) (R:It→Hp→Prop) (itv:Value) (s2:Shared):Prop:=
 ∃(it:Addr) (fp:List Addr) (tn:Nat→Heap→Prop) (J:It) (H':Hp),itv=.ref it∧Inv X pins σ H' s2∧Turn X.prog X.w X.K tg J fp it tn∧tn 0 s2.heap∧(∀b∈fp,FpOk X pins H' b)∧R J H'
def PI (X:Cx) (tg iter:Expr) (wi:TI):Prop:=
 ∀(pins:List (Addr×Obj)) (s:Shared) (σ:St) (H:Hp) (R:It→Hp→Prop),Inv X pins σ H s→wi σ H R →
  wpAny (model X.prog X.w) X.A (eval iter X.env) (fun v s1=>wpAny (model X.prog X.w) X.A (pyIter v) (PIE X pins σ tg R) X.xe s1) X.xe s
theorem zpr {M:Model} {A:Around} {E:Value→Shared→Prop} {s:Shared} {tg:Expr} {it:Addr} {u:Value} {o:Obj} {n:String} {vs:Array Value} {Q:Unit→Shared→Prop} (ho:s.heap.get? it=some o) (hc:o.cls=.type n) (hd:o.data=.fields vs)
  (hn : ["enumerate","zip","dict_itemiterator","dict_reverseitemiterator","odict_iterator","itertools.zip_longest","itertools.pairwise"].contains n=false) (hQ:Q () s):wpAny M A (letOwnedTupleGo tg (.ref it) u) Q E s:=by
 unfold letOwnedTupleGo
 cases tg <;> first
  | exact wpAny_pure hQ
  | (cases u <;> first
    | exact wpAny_pure hQ
    | (refine wpAny_bind (wpAny_load ho ?_)
       rw[hc,hd]
       show wpAny M A (if (["enumerate","zip","dict_itemiterator","dict_reverseitemiterator","odict_iterator","itertools.zip_longest","itertools.pairwise"].contains n && vs[0]? == some (rawInt _))=true then _ else _) Q E s
       rw[if_neg (by intro h;rw[hn,Bool.false_and] at h;cases h)]
       exact wpAny_pure hQ))
def Itl (K:PySem.W.Frag) (a:Addr):It:=
 ⟨fun i H=>∃xs x,SqL K H a xs∧xs[i]?=some x,fun i H x H'=>H'=H∧∀xs,SqL K H a xs→xs[i]?=some x,fun i H=>∃xs,SqL K H a xs∧xs.length≤i⟩
def Itt (K:PySem.W.Frag) (a:Addr):It:=
 ⟨fun i H=>∃xs x,SqT K H a xs∧xs[i]?=some x,fun i H x H'=>H'=H∧∀xs,SqT K H a xs→xs[i]?=some x,fun i H=>∃xs,SqT K H a xs∧xs.length≤i⟩
def Itr (lo:Int) (n:Nat):It:=⟨fun i _=>i<n,fun i H x H'=>H'=H∧x=.int (lo+i),fun i _=>n≤i⟩
theorem znS {P:Program} {w:World} {K:PySem.W.Frag} {tg:Expr} (a it:Addr):Turn P w K tg (Itl K a) [it] it (fun i h=>h.IsListIter it a i) where
 mem:=by simp
 obj:=fun i h st b hb=>by
  have e:b=it:=by simpa using hb
  subst e
  obtain⟨o,e,c,d⟩:=st
  exact⟨o,e,fun v z=>by rw[d] at z;cases z⟩
 keep:=fun i h h' st k=>st.at fun o e=>k it (by simp) o e
 item:=by
  intro X hP hw hK hc i pins s σ H E I hf st hg
  subst hP hw hK
  obtain⟨xs,x,hq,hx⟩:=hg
  obtain⟨its,rv,p,hz⟩:=I.list hq
  obtain⟨u,hu,ru⟩:=rv.get hx
  obtain⟨f0,f1,f2,f3,f4,f5⟩:=hf it (by simp)
  refine wpAny_pyNext_list_item st p.isList (x:=u) (by simpa using hu) fun h' st' sb=>?_
  have I1:Inv X pins σ H { s with heap:=h' }:=I.turned (t':=s.toks) (fun b o hb e=>(sb.2 b hb).trans e) f0 f1 f3 f4 f5
  obtain⟨o,e,c,d⟩:=id st'
  exact⟨u,rfl,zpr (s:={ s with heap:=h' }) e c d (by decide) ⟨x,H,I1,ru,⟨rfl,fun ys hy=>by rw[I.list_inj hy hq];exact hx⟩,st',fun b hb=>(hf b hb).1⟩⟩
 done:=by
  intro X hP hw hK hc i pins s σ H E I hf st hg
  subst hP hw hK
  obtain⟨xs,hq,hx⟩:=hg
  obtain⟨its,rv,p,hz⟩:=I.list hq
  obtain⟨f0,f1,f2,f3,f4,f5⟩:=hf it (by simp)
  have hl:=rv.length
  exact wpAny_pyNext_list_end (I.ok.hd hc) st p.isList (by simp;omega) fun h' eb=>⟨rfl,I.turned (t':=s.toks) (fun b o hb e=>eb b o hb e) f0 f1 f3 f4 f5⟩
 self:=fun _ _ _ _ _ st h=>wpAny_pyIter_listiter st h
theorem zmY {P:Program} {w:World} {K:PySem.W.Frag} {tg:Expr} (a it:Addr):Turn P w K tg (Itt K a) [it] it (fun i h=>h.IsTupleIter it a i) where
 mem:=by simp
 obj:=fun i h st b hb=>by
  have e:b=it:=by simpa using hb
  subst e
  obtain⟨o,e,c,d⟩:=st
  exact⟨o,e,fun v z=>by rw[d] at z;cases z⟩
 keep:=fun i h h' st k=>st.at fun o e=>k it (by simp) o e
 item:=by
  intro X hP hw hK hc i pins s σ H E I hf st hg
  subst hP hw hK
  obtain⟨xs,x,hq,hx⟩:=hg
  obtain⟨its,rv,p,hz⟩:=I.tuple hq
  obtain⟨u,hu,ru⟩:=rv.get hx
  obtain⟨f0,f1,f2,f3,f4,f5⟩:=hf it (by simp)
  refine wpAny_pyNext_tuple_item st (show s.heap.IsTuple a its.toArray from p) (x:=u) (by simpa using hu) fun h' st' sb=>?_
  have I1:Inv X pins σ H { s with heap:=h' }:=I.turned (t':=s.toks) (fun b o hb e=>(sb.2 b hb).trans e) f0 f1 f3 f4 f5
  obtain⟨o,e,c,d⟩:=id st'
  exact⟨u,rfl,zpr (s:={ s with heap:=h' }) e c d (by decide) ⟨x,H,I1,ru,⟨rfl,fun ys hy=>by rw[I.tuple_inj hy hq];exact hx⟩,st',fun b hb=>(hf b hb).1⟩⟩
 done:=by
  intro X hP hw hK hc i pins s σ H E I hf st hg
  subst hP hw hK
  obtain⟨xs,hq,hx⟩:=hg
  obtain⟨its,rv,p,hz⟩:=I.tuple hq
  obtain⟨f0,f1,f2,f3,f4,f5⟩:=hf it (by simp)
  have hl:=rv.length
  exact wpAny_pyNext_tuple_end (I.ok.hd hc) st (show s.heap.IsTuple a its.toArray from p) (by simp;omega) fun h' eb=>⟨rfl,I.turned (t':=s.toks) (fun b o hb e=>eb b o hb e) f0 f1 f3 f4 f5⟩
 self:=fun _ _ _ _ _ st h=>wpAny_pyIter_tupleiter st h
theorem zm3 {P:Program} {w:World} {K:PySem.W.Frag} {tg:Expr} (it:Addr) (lo:Int) (n:Nat):Turn P w K tg (Itr lo n) [it] it (fun i h=>IsRangeIter h it (lo+(i:Nat)*1) ((n:Int) - (i:Nat)) 1) where
 mem:=by simp
 obj:=fun i h st b hb=>by
  have e:b=it:=by simpa using hb
  subst e
  exact⟨_,st,fun v z=>by
   have z':Data.fields _=Data.cell v:=z
   cases z'⟩
 keep:=fun i h h' st k=>k it (by simp) _ st
 item:=by
  intro X hP hw hK hc i pins s σ H E I hf st hg
  subst hP hw hK
  obtain⟨f0,f1,f2,f3,f4,f5⟩:=hf it (by simp)
  have W:=Walks.range (prog:=X.prog) (w:=X.w) (I.ok.hd hc) it lo 1 n
  refine W.item i s _ _ hg st fun v h' tk hv st' kk=>?_
  obtain⟨t,rfl⟩:=hv
  have I1:Inv X pins σ H { s with heap:=h',toks:=tk }:=I.turned (fun b o hb e=>kk b o (by simpa using hb) e) f0 f1 f3 f4 f5
  refine⟨_,rfl,zpr (s:={ s with heap:=h',toks:=tk }) (n:="range_iterator") st' rfl rfl (by decide) ⟨.int (lo+i),H,I1,⟨t,?_⟩,⟨rfl,rfl⟩,st',fun b hb=>(hf b hb).1⟩⟩
  rw[Int.mul_one]
 done:=by
  intro X hP hw hK hc i pins s σ H E I hf st hg
  subst hP hw hK
  obtain⟨f0,f1,f2,f3,f4,f5⟩:=hf it (by simp)
  exact wpAny_pyNext_range_end (I.ok.hd hc) st (by have:n≤i:=hg;omega) fun h' eb=>⟨rfl,I.turned (t':=s.toks) (fun b o hb e=>eb b o hb e) f0 f1 f3 f4 f5⟩
 self:=fun _ _ _ _ _ st h=>wpAny_pyIter_rangeiter st h
end L2
namespace L2
open PySem PySem.Spec PyProof.Rows
section
variable {X:Cx} {tg:Expr}
def zp1 (K:PySem.W.Frag) (tl:TE):TI:=fun σ H R=>tl σ H fun x H1=>∃a,x=.ref a∧(∃xs,SqL K H1 a xs)∧R (Itl K a) H1
def iTup (K:PySem.W.Frag) (tl:TE):TI:=fun σ H R=>tl σ H fun x H1=>∃a,x=.ref a∧(∃xs,SqT K H1 a xs)∧R (Itt K a) H1
theorem zbv {l:Expr} {tl:TE} (hl:PE X l tl):PI X tg l (zp1 X.K tl):=by
 intro pins s σ H R I h
 refine thn (hl pins s σ H _ I h) fun v s1 ⟨x,H1,I1,r1,q1⟩=>?_
 obtain⟨a,e,⟨xs,hq⟩,q⟩:=q1
 subst e
 cases r1
 obtain⟨its,rv,p,hz⟩:=I1.list hq
 refine wpAny_pyIter_list p.isList ?_
 refine⟨s1.heap.objs.size,[s1.heap.objs.size],_,_,H1,rfl,I1.kept (t':=s1.toks) fun b o e=>Heap.get?_push_of_some _ e,znS a _,⟨_,Heap.get?_push_size _ rfl,rfl,rfl⟩,fun b hb=>?_,q⟩
 have e:b=s1.heap.objs.size:=by simpa using hb
 subst e
 exact I1.fpOk (Nat.le_refl _) (I1.hok.fresh (Nat.le_refl _))
theorem zrn {l:Expr} {tl:TE} (hl:PE X l tl):PI X tg l (iTup X.K tl):=by
 intro pins s σ H R I h
 refine thn (hl pins s σ H _ I h) fun v s1 ⟨x,H1,I1,r1,q1⟩=>?_
 obtain⟨a,e,⟨xs,hq⟩,q⟩:=q1
 subst e
 cases r1
 obtain⟨its,rv,p,hz⟩:=I1.tuple hq
 refine wpAny_pyIter_tuple (show s1.heap.IsTuple a its.toArray from p) ?_
 refine⟨s1.heap.objs.size,[s1.heap.objs.size],_,_,H1,rfl,I1.kept (t':=s1.toks) fun b o e=>Heap.get?_push_of_some _ e,zmY a _,⟨_,Heap.get?_push_size _ rfl,rfl,rfl⟩,fun b hb=>?_,q⟩
 have e:b=s1.heap.objs.size:=by simpa using hb
 subst e
 exact I1.fpOk (Nat.le_refl _) (I1.hok.fresh (Nat.le_refl _))
theorem zlZ {pins:List (Addr×Obj)} {σ:St} {H:Hp} {s:Shared} {R:It→Hp→Prop} {E:Value→Shared→Prop} {lo hi:Int} {t u v:Tok} {tk:Nat} (I:Inv X pins σ H s) (h1 : -(2 ^ 62)≤lo) (h2:lo<2 ^ 62) (h3 : -(2 ^ 62)≤hi) (h4:hi<2 ^ 62)
  (q:R (Itr lo (hi - lo).toNat) H):wpAny (model X.prog X.w) X.A (pyIter (.ref s.heap.objs.size)) (PIE X pins σ tg R) E { s with heap:=s.heap.push { cls:=.type "range",data:=.fields #[.int lo t,.int hi u,.int 1 v] },toks:=tk }:=by
 refine wpAny_pyIter_range (IsRange.new ..) (small_one h1 h2 h3 h4) ?_
 have I1:Inv X pins σ H { s with heap:=s.heap.push { cls:=.type "range",data:=.fields #[.int lo t,.int hi u,.int 1 v] },toks:=tk }:=I.kept fun b o e=>Heap.get?_push_of_some _ e
 refine⟨(s.heap.push { cls:=.type "range",data:=.fields #[.int lo t,.int hi u,.int 1 v] }).objs.size,[(s.heap.push { cls:=.type "range",data:=.fields #[.int lo t,.int hi u,.int 1 v] }).objs.size],_,_,H,rfl,
  I1.kept (t':=tk) fun b o e=>Heap.get?_push_of_some _ e,zm3 _ lo (hi - lo).toNat,?_,fun b hb=>?_,q⟩
 ·have e1:lo+((0:Nat):Int)*1=lo:=by simp
  have e2:(((hi - lo).toNat:Nat):Int) - ((0:Nat):Int)=Builtin.Range.rangeSize lo hi 1:=by rw[rangeSize_one];split <;> omega
  show IsRangeIter _ _ (lo+((0:Nat):Int)*1) ((((hi - lo).toNat:Nat):Int) - ((0:Nat):Int)) 1
  rw[e1,e2]
  exact Heap.get?_push_size _ rfl
 ·have e:b=(s.heap.push { cls:=.type "range",data:=.fields #[.int lo t,.int hi u,.int 1 v] }).objs.size:=by simpa using hb
  subst e
  exact I1.fpOk (Nat.le_refl _) (I1.hok.fresh (Nat.le_refl _))
def zre (ta:TA):TI:=fun σ H R=>ta σ H fun vs H1=>∃j:Int,vs=[.int j]∧-(2 ^ 62)≤j∧j<2 ^ 62∧R (Itr 0 j.toNat) H1
def zrJ (ta:TA):TI:=fun σ H R=>ta σ H fun vs H1=>∃i j:Int,vs=[.int i,.int j]∧(-(2 ^ 62)≤i∧i<2 ^ 62∧-(2 ^ 62)≤j∧j<2 ^ 62)∧R (Itr i (j - i).toNat) H1
theorem zb6 {a:Expr} {ta:TA} {p pos:Pos} (hg:Gl X "range") (hm:X.mg "range"=none) (ha:PA X [a] ta) (hs:starEach [a] X.env=[(false,eval a X.env)]:=by rfl):PI X tg (.Call (.Name "range" p) [a] [] pos) (zre ta):=by
 intro pins s σ H R I h
 refine Call_ (zhp I hg hm boot_range (PyProof.Rows.callWith_type1 (thn (ha pos pins s σ H _ I h) fun us s1 ⟨vs,H1,I1,r1,q1⟩=>?_) hs rfl))
 obtain⟨j,e,q1,q2,q⟩:=q1
 subst e
 cases r1 with
 | cons r rr=>
  cases rr
  obtain⟨t,rfl⟩:=r
  exact call_range_1 (zlZ I1 (by omega) (by omega) q1 q2 (by simpa using q))
theorem zgs {a b:Expr} {ta:TA} {p pos:Pos} (hg:Gl X "range") (hm:X.mg "range"=none) (ha:PA X [a,b] ta) (hs:starEach [a,b] X.env=[(false,eval a X.env),(false,eval b X.env)]:=by rfl) (hs2:starEach [b] X.env=[(false,eval b X.env)]:=by rfl) :
  PI X tg (.Call (.Name "range" p) [a,b] [] pos) (zrJ ta):=by
 intro pins s σ H R I h
 refine Call_ (zhp I hg hm boot_range (PyProof.Rows.callWith_type1 (thn (ha pos pins s σ H _ I h) fun us s1 ⟨vs,H1,I1,r1,q1⟩=>?_) (by rw[hs,hs2]) (by rw[hs2];rfl)))
 obtain⟨i,j,e,⟨q1,q2,q3,q4⟩,q⟩:=q1
 subst e
 cases r1 with
 | cons r rr=>
  cases rr with
  | cons r' rr=>
   cases rr
   obtain⟨t,rfl⟩:=r
   obtain⟨t',rfl⟩:=r'
   exact call_range_2 (zlZ I1 q1 q2 q3 q4 q)
def tFor (wi:TI) (g:TG) (tb:TS):TS:=fun D σ H=>wi σ H fun J H1=>∃W:Nat→Nat→St→Hp→Prop,(∃m,W 0 m σ H1)∧∀i m σ H,W i m σ H →
 (J.stop i H∧D.nx σ H)∨(J.go i H∧∃N:St→Hp→Prop,(∀σ' H',N σ' H'→∃m',m'<m∧W (i+1) m' σ' H')∧∀x H',J.yld i H x H'→g x σ H' fun σ2 H2=>tb { D with nx:=N,ct:=N,bk:=D.nx } σ2 H2)
def zi3 (fp:List Addr) (h:Heap):List (Addr×Obj):=fp.filterMap fun b=>(h.get? b).map fun o=>(b,o)
theorem zeM {fp:List Addr} {h:Heap} {b:Addr} {o:Obj} (hb:b∈fp) (e:h.get? b=some o):(b,o)∈zi3 fp h:=List.mem_filterMap.mpr ⟨b,hb,by rw[e];rfl⟩
theorem zod {fp:List Addr} {h:Heap} {p:Addr×Obj} (hp:p∈zi3 fp h):p.1∈fp∧h.get? p.1=some p.2:=by
 obtain⟨b,hb,e⟩:=List.mem_filterMap.mp hp
 cases q:h.get? b with
 | none=>rw[q] at e;cases e
 | some o=>
  rw[q] at e
  have e':(b,o)=p:=Option.some.inj e
  subst e'
  exact⟨hb,q⟩
theorem Inv.pinned {pins:List (Addr×Obj)} {σ:St} {H:Hp} {s:Shared} {fp:List Addr} (I:Inv X pins σ H s) (hf:∀b∈fp,FpOk X pins H b) (ho:∀b∈fp,∃o,s.heap.get? b=some o∧∀v,o.data≠.cell v):Inv X (pins++zi3 fp s.heap) σ H s:=
 I.pins_of fun p hp=>(List.mem_append.mp hp).elim (fun z=>I.pin p (List.mem_append_right _ z)) fun z=>by
  obtain⟨hb,e⟩:=zod z
  obtain⟨f0,f1,f2,_⟩:=hf p.1 hb
  obtain⟨o,e',d⟩:=ho p.1 hb
  rw[e] at e';cases e'
  exact⟨e,f0,f1,f2,d⟩
theorem Inv.unpinned {pins pl:List (Addr×Obj)} {σ:St} {H:Hp} {s:Shared} (I:Inv X (pins++pl) σ H s):Inv X pins σ H s:=I.pins_of fun p hp=>I.pin p (List.mem_append_right _ (List.mem_append_left _ hp))
theorem zca {iter:Expr} {body:List Stmt} {wi:TI} {g:TG} {tb:TS} {pos:Pos} (hp:PassesOwn (model X.prog X.w) X.A X.env X.xe) (hc:X.calm=true) (hi:PI X tg iter wi) (hg:PG X tg g) (hb:PSs X body tb)
  (hs:∀x,foldedSetIterable iter X.env x=pure x:=by intro _;rfl):PS X (.For tg iter body [] pos) (tFor wi g tb):=by
 intro pins s σ H D I h
 refine wpAny_For (thn (hi pins s σ H _ I h) fun v s1 h1=>thn h1 fun itv s2 h2=>?_) hs
 obtain⟨it,fp,tn,J,H2,e,I2,T,st2,f2,W,⟨m0,w0⟩,turn⟩:=h2
 subst e
 -- what stays true of the iterator's objects through the loop
 have stat:∀ {H':Hp},(∀b∈fp,H' b=none)→∀b∈fp,FpOk X pins H' b:=fun hn b hb=>⟨hn b hb,(f2 b hb).2⟩
 refine codeAny_forLoop_any (fun n s'=>∃i σ' H',Inv X pins σ' H' s'∧tn i s'.heap∧(∀b∈fp,H' b=none)∧W i n σ' H') ?_ m0 ⟨0,σ,H2,I2,st2,fun b hb=>(f2 b hb).1,w0⟩
 rintro n s3 ⟨i,σ3,H3,I3,st3,fr3,w3⟩
 rcases turn i n σ3 H3 w3 with ⟨stop,qn⟩|⟨go,N,hN,step⟩
 ·refine wpAny_passesOwn hp (thn (T.done X rfl rfl rfl hc i pins s3 σ3 H3 X.xe I3 (stat fr3) st3 stop) fun r s4 ⟨hr,I4⟩=>?_)
  subst hr
  exact wpAny_execs_nil ⟨σ3,H3,I4,qn⟩
 ·refine wpAny_passesOwn hp (thn (T.item X rfl rfl rfl hc i pins s3 σ3 H3 X.xe I3 (stat fr3) st3 go) fun r s4 ⟨u,hr,h4⟩=>?_)
  subst hr
  refine wpAny_passesOwn hp (thn h4 fun _ s5 ⟨x,H5,I5,r5,y5,st5,fr5⟩=>?_)
  have I5':=I5.pinned (stat fr5) (T.obj _ _ st5)
  refine wpAny_passesOwn hp (thn (hg _ s5 σ3 H5 x u _ I5' r5 (step x H5 y5)) fun _ s6 ⟨σ6,H6,I6,q6⟩=>?_)
  refine wpAny_passesOwn hp (thn (hb _ s6 σ6 H6 _ I6 q6) fun f s7 q7=>?_)
  have again:∀ {σ7:St} {H7:Hp},Inv X (pins++zi3 fp s5.heap) σ7 H7 s7→N σ7 H7→∃m,m<n∧∃i σ' H',Inv X pins σ' H' s7∧tn i s7.heap∧(∀b∈fp,H' b=none)∧W i m σ' H':=fun {σ7 H7} I7 n7=>by
   obtain⟨m',hm,w7⟩:=hN σ7 H7 n7
   refine⟨m',hm,i+1,σ7,H7,I7.unpinned,T.keep _ _ _ st5 fun b hb o e=>(I7.pin (b,o) (List.mem_append_right _ (List.mem_append_right _ (zeM hb e)))).1,fun b hb=>?_,w7⟩
   obtain⟨o,e,d⟩:=T.obj _ _ st5 b hb
   exact (I7.pin (b,o) (List.mem_append_right _ (List.mem_append_right _ (zeM hb e)))).2.1
  cases f with
  | next=>obtain⟨σ7,H7,I7,n7⟩:=q7;exact again I7 n7
  | cont=>obtain⟨σ7,H7,I7,n7⟩:=q7;exact again I7 n7
  | brk=>obtain⟨σ7,H7,I7,q7⟩:=q7;exact⟨σ7,H7,I7.unpinned,q7⟩
  | ret v=>obtain⟨x7,σ7,H7,I7,r7,q7⟩:=q7;exact⟨x7,σ7,H7,I7.unpinned,r7,q7⟩
end
end L2
namespace L2
open PySem PySem.Spec PyProof.Rows
abbrev R2:=V→V→Hp→VK→Prop
def OpR (X:Cx) (f:Value→Value→Sem Value) (r:R2):Prop:=
 ∀(pins:List (Addr×Obj)) (s:Shared) (σ:St) (H:Hp) (x y:V) (v u:Value) (Q:VK),Inv X pins σ H s→RelV x v→RelV y u→r x y H Q →
  wpAny (model X.prog X.w) X.A (f v u) (EP X pins σ Q) X.xe s
def zhF (X:Cx) (f:Value) (r:List V→Hp→VK→Prop):Prop:=
 ∀(pins:List (Addr×Obj)) (s:Shared) (σ:St) (H:Hp) (xs:List V) (us:List Value) (Q:VK),Inv X pins σ H s→Vals xs us→r xs H Q →
  wpAny (model X.prog X.w) X.A (call f us) (EP X pins σ Q) X.xe s
def tOp (r:R2) (ta tb:TE):TE:=fun σ H Q=>ta σ H fun x H1=>tb σ H1 fun y H2=>r x y H2 Q
def rI (C:Int→Int→Prop) (g:Int→Int→V):R2:=fun x y H Q=>∃i j,x=.int i∧y=.int j∧C i j∧Q (g i j) H
def rI0 (g:Int→Int→V):R2:=fun x y H Q=>∃i j,x=.int i∧y=.int j∧Q (g i j) H
section
variable {X:Cx} {a b c:Expr} {ta tb tc:TE} {pos:Pos}
theorem binT (ha:PE X a ta) (hb:PE X b tb) {pins:List (Addr×Obj)} {s:Shared} {σ:St} {H:Hp} {R:V→V→Hp→Prop} (I:Inv X pins σ H s)
  (h:ta σ H fun x H1=>tb σ H1 fun y H2=>R x y H2) {Q:Value→Shared→Prop} {f:Value→Value→Sem Value}
  (hf:∀v u s2 x y H2,Inv X pins σ H2 s2→RelV x v→RelV y u→R x y H2→wpAny (model X.prog X.w) X.A (f v u) Q X.xe s2) :
  wpAny (model X.prog X.w) X.A (eval a X.env) (fun v s₁=>wpAny (model X.prog X.w) X.A (eval b X.env) (fun u s₂=>wpAny (model X.prog X.w) X.A (f v u) Q X.xe s₂) X.xe s₁) X.xe s:=by
 refine thn (ha pins s σ H _ I h) fun v s1 ⟨x,H1,I1,r1,q1⟩=>?_
 refine thn (hb pins s1 σ H1 _ I1 q1) fun u s2 ⟨y,H2,I2,r2,q2⟩=>?_
 exact hf v u s2 x y H2 I2 r1 r2 q2
theorem zaB {op:Operator} {r:R2} (ho:OpR X (binaryOp op) r) (ha:PE X a ta) (hb:PE X b tb):PE X (.BinOp a op b pos) (tOp r ta tb):=by
 intro pins s σ H Q I h
 exact wpAny_BinOp (binT ha hb I h fun v u s2 x y H2 I2 rx ry q=>ho pins s2 σ H2 x y v u Q I2 rx ry q)
theorem opI {f:Value→Value→Sem Value} {C:Int→Int→Prop} {g:Int→Int→Int}
  (rule:∀(i j:Int) (t u:Tok) (s:Shared) (Q:Value→Shared→Prop) (E:Value→Shared→Prop),C i j→Q (.int (g i j) s.toks) { s with toks:=s.toks+1 }→wpAny (model X.prog X.w) X.A (f (.int i t) (.int j u)) Q E s) :
  OpR X f (rI C fun i j=>.int (g i j)):=by
 intro pins s σ H x y v u Q I rx ry h
 obtain⟨i,j,rfl,rfl,hc,q⟩:=h
 obtain⟨t,rfl⟩:=rx
 obtain⟨t',rfl⟩:=ry
 exact rule i j t t' s _ _ hc ⟨.int (g i j),H,I.tok _,⟨_,rfl⟩,q⟩
theorem opI0 {f:Value→Value→Sem Value} {g:Int→Int→Int}
  (rule:∀(i j:Int) (t u:Tok) (s:Shared) (Q:Value→Shared→Prop) (E:Value→Shared→Prop),Q (.int (g i j) s.toks) { s with toks:=s.toks+1 }→wpAny (model X.prog X.w) X.A (f (.int i t) (.int j u)) Q E s) :
  OpR X f (rI0 fun i j=>.int (g i j)):=by
 intro pins s σ H x y v u Q I rx ry h
 obtain⟨i,j,rfl,rfl,q⟩:=h
 obtain⟨t,rfl⟩:=rx
 obtain⟨t',rfl⟩:=ry
 exact rule i j t t' s _ _ ⟨.int (g i j),H,I.tok _,⟨_,rfl⟩,q⟩
theorem opB0 {f:Value→Value→Sem Value} {g:Int→Int→Bool}
  (rule:∀(i j:Int) (t u:Tok) (s:Shared) (Q:Value→Shared→Prop) (E:Value→Shared→Prop),Q (.bool (g i j)) s→wpAny (model X.prog X.w) X.A (f (.int i t) (.int j u)) Q E s) :
  OpR X f (rI0 fun i j=>.bl (g i j)):=by
 intro pins s σ H x y v u Q I rx ry h
 obtain⟨i,j,rfl,rfl,q⟩:=h
 obtain⟨t,rfl⟩:=rx
 obtain⟨t',rfl⟩:=ry
 exact rule i j t t' s _ _ ⟨.bl (g i j),H,I,rfl,q⟩
def CPow (i j:Int):Prop:=0≤j∧j≤1000000∧i.natAbs<2 ^ 64
theorem zb1:OpR X (binaryOp .Add) (rI0 fun i j=>.int (i+j)):=opI0 fun _ _ _ _ _ _ _ q=>add_int q
theorem ziD:OpR X (binaryOp .Sub) (rI0 fun i j=>.int (i - j)):=opI0 fun _ _ _ _ _ _ _ q=>sub_int q
theorem zbE:OpR X (binaryOp .Mod) (rI (fun _ j=>0<j) fun i j=>.int (i%j)):=opI fun i j _ _ _ _ _ hc q=>by
 have h1:(0:Int)<j:=hc
 exact mod_int' (by omega) (by rw[Int.fmod_eq_emod_of_nonneg i (by omega)];exact q)
theorem zh5:OpR X (binaryOp .Pow) (rI CPow fun i j=>.int (i ^ j.toNat)):=opI fun _ _ _ _ _ _ _ hc q=>pow_int_small hc.1 hc.2.1 hc.2.2 q
end
def scal:V→V→Bool
 | .non,.non=>true|.non,.int _=>true|.int _,.non=>true|.non,.bl _=>true|.bl _,.non=>true|.non,.str _=>true|.str _,.non=>true
 | .int _,.int _=>true|.bl _,.bl _=>true|.str _,.str _=>true|.byt _,.byt _=>true
 | .int _,.str _=>true|.str _,.int _=>true|.bl _,.str _=>true|.str _,.bl _=>true
 | _,_=>false
def rEq:R2:=fun x y H Q=>scal x y=true∧Q (.bl (decide (x=y))) H
def rNe:R2:=fun x y H Q=>scal x y=true∧Q (.bl (!decide (x=y))) H
theorem znU {i j:Int}:decide (V.int i=V.int j)=(i == j):=by
 rw[Bool.eq_iff_iff]
 simp
theorem zpT {i j:Bool}:decide (V.bl i=V.bl j)=(i == j):=by
 rw[Bool.eq_iff_iff]
 simp
theorem znK {i j:Str}:decide (V.str i=V.str j)=(i == j):=by
 rw[Bool.eq_iff_iff]
 simp
theorem zoC {i j:Array UInt8}:decide (V.byt i=V.byt j)=(i.toList == j.toList):=by
 rw[Bool.eq_iff_iff]
 cases i
 cases j
 simp
section
variable {X:Cx} {a b c:Expr} {ta tb tc:TE} {pos:Pos}
theorem zcd {pins:List (Addr×Obj)} {σ:St} {H:Hp} {s:Shared} {Q:VK} {k k':Bool} (I:Inv X pins σ H s) (q:Q (.bl k) H) (e:k=k'):EP X pins σ Q (.bool k') s:=by
 subst e
 exact⟨.bl k,H,I,rfl,q⟩
theorem zcP:OpR X (compareOp .Eq) rEq:=by
 intro pins s σ H x y v u Q I rx ry h
 obtain⟨hs,q⟩:=h
 cases x with
 | non=>
  cases rx
  cases y with
  | non=>cases ry;exact PySem.EqNone.eq_none_none (zcd I q (by simp))
  | bl j=>cases ry;exact PySem.EqNone.eq_none_bool (zcd I q (by simp))
  | int j=>obtain⟨t',rfl⟩:=ry;exact PySem.EqNone.eq_none_int (zcd I q (by simp))
  | str j=>obtain⟨t',rfl⟩:=ry;exact PySem.EqNone.eq_none_str (zcd I q (by simp))
  | _=>exact absurd (show false=true from hs) Bool.false_ne_true
 | bl i=>
  cases rx
  cases y with
  | non=>cases ry;exact PySem.EqNone.eq_bool_none (zcd I q (by simp))
  | bl j=>cases ry;exact eq_bool (zcd I q zpT)
  | str j=>obtain⟨t',rfl⟩:=ry;exact PySem.EqMixed.eq_bool_str (zcd I q (by simp))
  | _=>exact absurd (show false=true from hs) Bool.false_ne_true
 | int i=>
  obtain⟨t,rfl⟩:=rx
  cases y with
  | non=>cases ry;exact PySem.EqNone.eq_int_none (zcd I q (by simp))
  | int j=>obtain⟨t',rfl⟩:=ry;exact eq_int (zcd I q znU)
  | str j=>obtain⟨t',rfl⟩:=ry;exact PySem.EqMixed.eq_int_str (zcd I q (by simp))
  | _=>exact absurd (show false=true from hs) Bool.false_ne_true
 | str i=>
  obtain⟨t,rfl⟩:=rx
  cases y with
  | non=>cases ry;exact PySem.EqNone.eq_str_none (zcd I q (by simp))
  | bl j=>cases ry;exact PySem.EqMixed.eq_str_bool (zcd I q (by simp))
  | int j=>obtain⟨t',rfl⟩:=ry;exact PySem.EqMixed.eq_str_int (zcd I q (by simp))
  | str j=>obtain⟨t',rfl⟩:=ry;exact eq_str (zcd I q znK)
  | _=>exact absurd (show false=true from hs) Bool.false_ne_true
 | byt i=>
  obtain⟨t,rfl⟩:=rx
  cases y with
  | byt j=>obtain⟨t',rfl⟩:=ry;exact PySem.W.eq_bytes (zcd I q zoC)
  | _=>exact absurd (show false=true from hs) Bool.false_ne_true
 | _=>cases y <;> exact absurd (show false=true from hs) Bool.false_ne_true
theorem zn1:OpR X (compareOp .NotEq) rNe:=by
 intro pins s σ H x y v u Q I rx ry h
 obtain⟨hs,q⟩:=h
 cases x with
 | non=>
  cases rx
  cases y with
  | non=>cases ry;exact PySem.EqNone.ne_none_none (zcd I q (by simp))
  | bl j=>cases ry;exact PySem.EqNone.ne_none_bool (zcd I q (by simp))
  | int j=>obtain⟨t',rfl⟩:=ry;exact PySem.EqNone.ne_none_int (zcd I q (by simp))
  | str j=>obtain⟨t',rfl⟩:=ry;exact PySem.EqNone.ne_none_str (zcd I q (by simp))
  | _=>exact absurd (show false=true from hs) Bool.false_ne_true
 | bl i=>
  cases rx
  cases y with
  | non=>cases ry;exact PySem.EqNone.ne_bool_none (zcd I q (by simp))
  | bl j=>cases ry;exact ne_bool (zcd I q (congrArg not zpT))
  | str j=>obtain⟨t',rfl⟩:=ry;exact PySem.EqMixed.ne_bool_str (zcd I q (by simp))
  | _=>exact absurd (show false=true from hs) Bool.false_ne_true
 | int i=>
  obtain⟨t,rfl⟩:=rx
  cases y with
  | non=>cases ry;exact PySem.EqNone.ne_int_none (zcd I q (by simp))
  | int j=>obtain⟨t',rfl⟩:=ry;exact ne_int (zcd I q (congrArg not znU))
  | str j=>obtain⟨t',rfl⟩:=ry;exact PySem.EqMixed.ne_int_str (zcd I q (by simp))
  | _=>exact absurd (show false=true from hs) Bool.false_ne_true
 | str i=>
  obtain⟨t,rfl⟩:=rx
  cases y with
  | non=>cases ry;exact PySem.EqNone.ne_str_none (zcd I q (by simp))
  | bl j=>cases ry;exact PySem.EqMixed.ne_str_bool (zcd I q (by simp))
  | int j=>obtain⟨t',rfl⟩:=ry;exact PySem.EqMixed.ne_str_int (zcd I q (by simp))
  | str j=>obtain⟨t',rfl⟩:=ry;exact ne_str (zcd I q (congrArg not znK))
  | _=>exact absurd (show false=true from hs) Bool.false_ne_true
 | byt i=>
  obtain⟨t,rfl⟩:=rx
  cases y with
  | byt j=>obtain⟨t',rfl⟩:=ry;exact PySem.W.ne_bytes (zcd I q (congrArg not zoC))
  | _=>exact absurd (show false=true from hs) Bool.false_ne_true
 | _=>cases y <;> exact absurd (show false=true from hs) Bool.false_ne_true
theorem zlU:OpR X (compareOp .Lt) (rI0 fun i j=>.bl (decide (i<j))):=opB0 fun _ _ _ _ _ _ _ q=>lt_int q
theorem zfo:OpR X (compareOp .Gt) (rI0 fun i j=>.bl (decide (j<i))):=opB0 fun _ _ _ _ _ _ _ q=>gt_int q
theorem zaS (b:Expr) {op:CmpOp} (h:op≠.In:=by decide) (h2:op≠.NotIn:=by decide):behindInMarks op b=false:=by
 have e1:(op == CmpOp.In)=false:=by cases op <;> first|rfl|exact absurd rfl h
 have e2:(op == CmpOp.NotIn)=false:=by cases op <;> first|rfl|exact absurd rfl h2
 cases b <;> simp[behindInMarks,e1,e2]
theorem zbG {op:CmpOp} {r:R2} (ho:OpR X (compareOp op) r) (ha:PE X a ta) (hb:PE X b tb) (hm:behindInMarks op b=false):PE X (.Compare a [op] [b] pos) (tOp r ta tb):=by
 intro pins s σ H Q I h
 exact wpAny_Compare1 (binT ha hb I h fun v u s2 x y H2 I2 rx ry q=>ho pins s2 σ H2 x y v u Q I2 rx ry q) hm
def zrg (t:TE):TT:=fun σ H Q=>t σ H fun x H'=>∃k,x=.bl k∧Q k H'
theorem za8 {op:CmpOp} {r:R2} (ho:OpR X (compareOp op) r) (ha:PE X a ta) (hb:PE X b tb) (hm:behindInMarks op b=false):PT X (.Compare a [op] [b] pos) (zrg (tOp r ta tb)):=by
 intro pins s σ H Q I h
 refine wpAny_isTrue_Compare1 (thn (ha pins s σ H _ I h) fun v s1 ⟨x,H1,I1,r1,q1⟩=>thn (hb pins s1 σ H1 _ I1 q1) fun u s2 ⟨y,H2,I2,r2,q2⟩=>
  thn (ho pins s2 σ H2 x y v u _ I2 r1 r2 q2) fun c s3 ⟨z,H3,I3,r3,k,e,q3⟩=>?_) hm
 subst e
 cases r3
 exact wpAny_truthy_bool ⟨H3,I3,q3⟩
theorem zkV:(sizeLine:Nat)<2 ^ 63:=by rw[sizeLine_eq];decide
theorem zcG:OpR X (binaryOp .Add) (fun x y H Q=>∃i j,x=.str i∧y=.str j∧i.length+j.length≤sizeLine∧Q (.str (i++j)) H):=by
 intro pins s σ H x y v u Q I rx ry h
 obtain⟨i,j,rfl,rfl,hz,q⟩:=h
 obtain⟨t,rfl⟩:=rx
 obtain⟨t',rfl⟩:=ry
 exact add_str (fun t' tk=>⟨.str (i++j),H,I.tok _,⟨_,rfl⟩,q⟩) hz
theorem zkx {x:V} {us:List Value} (r:Vals [x] us):∃u,us=[u]∧RelV x u:=by
 cases r with
 | cons r1 r2=>cases r2;exact⟨_,rfl,r1⟩
theorem zoJ {x y:V} {us:List Value} (r:Vals [x,y] us):∃u w',us=[u,w']∧RelV x u∧RelV y w':=by
 cases r with
 | cons r1 r2=>
  cases r2 with
  | cons r3 r4=>cases r4;exact⟨_,_,rfl,r1,r3⟩
theorem zhJ:zhF X (.builtin "abs") (fun xs H Q=>∃i,xs=[.int i]∧Q (.int (if i<0 then -i else i)) H):=by
 intro pins s σ H xs us Q I r h
 obtain⟨i,rfl,q⟩:=h
 obtain⟨u,rfl,t,rfl⟩:=zkx r
 exact call_abs_int fun u tk=>⟨.int (if i<0 then -i else i),H,I.tok _,⟨_,rfl⟩,q⟩
theorem znL (hc:X.calm=true):zhF X (.builtin "max") (fun xs H Q=>∃i j,xs=[.int i,.int j]∧Q (.int (if j > i then j else i)) H):=by
 intro pins s σ H xs us Q I r h
 obtain⟨i,j,rfl,q⟩:=h
 obtain⟨u,w',rfl,⟨t,rfl⟩,⟨t',rfl⟩⟩:=zoJ r
 refine max_two_ints (I.ok.hd hc) fun h' tk k=>⟨_,H,I.kept k,?_,q⟩
 by_cases hj:j > i
 ·rw[if_pos hj,if_pos hj];exact⟨_,rfl⟩
 ·rw[if_neg hj,if_neg hj];exact⟨_,rfl⟩
theorem znN (hc:X.calm=true):zhF X (.builtin "min") (fun xs H Q=>∃i j,xs=[.int i,.int j]∧Q (.int (if j<i then j else i)) H):=by
 intro pins s σ H xs us Q I r h
 obtain⟨i,j,rfl,q⟩:=h
 obtain⟨u,w',rfl,⟨t,rfl⟩,⟨t',rfl⟩⟩:=zoJ r
 refine min_two_ints (I.ok.hd hc) fun h' tk k=>⟨_,H,I.kept k,?_,q⟩
 by_cases hj:j<i
 ·rw[if_pos hj,if_pos hj];exact⟨_,rfl⟩
 ·rw[if_neg hj,if_neg hj];exact⟨_,rfl⟩
end
end L2
namespace L2
open PySem PySem.Spec PyProof.Rows
structure ObjM (h:Heap) (x dx C:Addr) (mA:Str→Option Value):Prop where
 obj:h.get? x=some (PySem.W.instObj C dx)
 ns:h.Ns1 dx mA
 ne:dx≠x
theorem zoK {h:Heap} {dx:Addr} {mA:Str→Option Value} (n:h.Ns1 dx mA):∃od,h.get? dx=some od∧∀name,PySem.W.lookIn name od=some (mA name):=by
 obtain⟨o,es,ep,ho,hd,hk,_,hm⟩:=n
 refine⟨o,ho,fun name=>?_⟩
 have e:=hm name
 unfold nsFind findBy at e
 rw[← Array.find?_toList] at e
 unfold PySem.W.lookIn
 rw[hd]
 dsimp only
 split
 ·rename_i y q
  rw[q] at e
  exact congrArg some e
 ·rename_i q
  rw[q] at e
  have a:es.toList.any (·.refKey)=false:=by
   rw[List.any_eq_false]
   intro y hy
   obtain⟨z,t,hkey⟩:=hk y (Array.mem_toList_iff.mp hy)
   simp[DictEntry.refKey,hkey]
  have a':¬ es.toList.any (·.refKey)=true:=by rw[a];exact Bool.false_ne_true
  rw[if_neg a']
  exact congrArg some e
theorem ObjM.look {h:Heap} {x dx C:Addr} {mA:Str→Option Value} (I:ObjM h x dx C mA):∃od,PySem.W.InstAt h x (PySem.W.instObj C dx) C (some od)∧∀name,PySem.W.lookIn name od=some (mA name):=
 let ⟨od,ho,hl⟩:=zoK I.ns
 ⟨od,⟨I.obj,rfl,rfl,ho⟩,hl⟩
section
variable {prog:Program} {w:World} {A:Around} {E:Value→Shared→Prop} {s:Shared} {K:PySem.W.Frag} {x dx C f:Addr} {mA:Str→Option Value} {name:Str} {v:Value}
end
section
variable {P:Program} {w:World} {H H':Hp} {h h':Heap} {a C dx:Addr} {fs fs':List (Str×V)}
theorem zqh (hok:HOk P w H h) (e:H a=some (.ins C dx fs)):∃mA,ObjM h a dx C mA∧(∀f,RelO (fs.lookup f) (mA f))∧PySem.Within mA (fs.map (·.1))∧fs.length≤1000∧H dx=some (.own a):=by
 obtain⟨d,z,ne,ob,mA,n,r,q⟩:=(show ObjOk P w H h a (.ins C dx fs) from hok a _ e)
 exact⟨mA,⟨ob,n,ne⟩,r,q,z,d⟩
end
structure Cls (K:PySem.W.Frag) (C:Addr):Prop where
 pg:PySem.W.plainGet K C Str.empty=true
 hd:PySem.W.hasDictIn K C=true
 po:PySem.W.plainOver K C=true
 sa:PySem.W.findIn K (.ref C) "__setattr__"=some (some (.builtin "object.__setattr__"))
theorem Cls.get {K:PySem.W.Frag} {C:Addr} (c:Cls K C) (f:Str):PySem.W.plainGet K C f=true:=c.pg
section
variable {X:Cx} {pins:List (Addr×Obj)} {σ:St} {H:Hp} {s:Shared} {a C dx:Addr} {fs:List (Str×V)} {f:Str} {v:V} {A:Around} {E:Value→Shared→Prop}
end
section
variable {X:Cx} {o e value:Expr} {f:Str} {pos pos' tpos:Pos} {ta tv:TE}
end
section
variable {X:Cx} {pins:List (Addr×Obj)} {σ:St} {H:Hp} {s:Shared} {A:Around} {E:Value→Shared→Prop} {Q:Value→Shared→Prop} {c:Value} {b:Bool}
inductive TyOf (K:PySem.W.Frag) (H:Hp):V→Value→Prop where
 | non:TyOf K H .non (.type "NoneType")
 | bl (x:Bool):TyOf K H (.bl x) (.type "bool")
 | int (i:Int):TyOf K H (.int i) (.type "int")
 | str (x:Str):TyOf K H (.str x) (.type "str")
 | flt (x:UInt64):TyOf K H (.flt x) (.type "float")
 | lst {a:Addr} {xs:List V} (e:H a=some (.lst xs)):TyOf K H (.ref a) (.type "list")
 | frz {a:Addr} {o:Obj} {xs:List V} (e:H a=some (.frz o (.lst xs))):TyOf K H (.ref a) (.type "list")
 | tup {a:Addr} {xs:List V} (e:H a=some (.tup xs)):TyOf K H (.ref a) (.type "tuple")
 | dK {a:Addr} {kvs:List (Key×V)} (e:H a=some (.dK kvs)):TyOf K H (.ref a) (.type "dict")
 | dT {a:Addr} {kvs:List (List Key×V)} (e:H a=some (.dT kvs)):TyOf K H (.ref a) (.type "dict")
 | ins {a C dx:Addr} {fs:List (Str×V)} (e:H a=some (.ins C dx fs)) (cl:Cls K C) (ha:PySem.W.findIn K (.ref C) "__class__"=some (some (.builtin "object.__class__")))
   (hn:PySem.W.specialIn K (.builtin "object.__class__") "__get__"=some (some (.builtin "getset_descriptor.__get__"))) (htk:PySem.W.takesIn K (.builtin "object.__class__")=some true)
   (hm:PySem.W.mroIn K C (.type "object")=some true):TyOf K H (.ref a) (.ref C)
theorem zoe {x:V} {u t:Value} (I:Inv X pins σ H s) (rx:RelV x u) (ty:TyOf X.K H x t) (e:PySem.W.kitOne X.K t c=some b) (h:∀tk,Q (.bool b) { s with toks:=tk }) :
  wpAny (model X.prog X.w) A (call (.builtin "isinstance") [u,c]) Q E s:=by
 cases ty with
 | non=>cases (show u=Value.none from rx);exact PySem.W.kia_one PySem.W.kitx_none I.kIn True.intro e (fun z=>nomatch z) h
 | bl y=>cases (show u=Value.bool y from rx);exact PySem.W.kia_one PySem.W.kitx_bool I.kIn True.intro e (fun z=>nomatch z) h
 | int i=>obtain⟨t,q⟩:=(show ∃t,u=Value.int i t from rx);cases q;exact PySem.W.kia_one PySem.W.kitx_int I.kIn True.intro e (fun z=>nomatch z) h
 | str y=>obtain⟨t,q⟩:=(show ∃t,u=Value.str y t from rx);cases q;exact PySem.W.kia_one PySem.W.kitx_str I.kIn True.intro e (fun z=>nomatch z) h
 | flt y=>obtain⟨t,q⟩:=(show ∃t,u=Value.float y t from rx);cases q;exact PySem.W.kia_one PySem.W.kitx_float I.kIn True.intro e (fun z=>nomatch z) h
 | @lst a xs ea=>
  cases (show u=Value.ref a from rx)
  obtain⟨_,_,n,_,h1⟩:=(show ObjOk X.prog X.w H s.heap a (.lst xs) from I.hok a _ ea)
  exact PySem.W.kia_one PySem.W.kitx_list I.kIn ⟨_,h1,rfl⟩ e (fun z=>nomatch z) h
 | @frz a ob xs ea=>
  cases (show u=Value.ref a from rx)
  obtain⟨_,_,_,n,_,h1⟩:=(show ObjOk X.prog X.w H s.heap a (.frz ob (.lst xs)) from I.hok a _ ea)
  exact PySem.W.kia_one PySem.W.kitx_list I.kIn ⟨_,h1,rfl⟩ e (fun z=>nomatch z) h
 | @tup a xs ea=>
  cases (show u=Value.ref a from rx)
  obtain⟨_,_,_,p⟩:=(show ObjOk X.prog X.w H s.heap a (.tup xs) from I.hok a _ ea)
  obtain⟨o,h1,h2,_⟩:=p
  exact PySem.W.kia_one PySem.W.kitx_tuple I.kIn ⟨o,h1,h2⟩ e (fun z=>nomatch z) h
 | @dK a kvs ea=>
  cases (show u=Value.ref a from rx)
  obtain⟨_,_,vs,_,p⟩:=(show ObjOk X.prog X.w H s.heap a (.dK kvs) from I.hok a _ ea)
  obtain⟨o,es,ep,h1,h2,_⟩:=p
  exact PySem.W.kia_one PySem.W.kitx_dict I.kIn ⟨o,h1,h2.1⟩ e (fun z=>nomatch z) h
 | @dT a kvs ea=>
  cases (show u=Value.ref a from rx)
  obtain⟨_,_,xs,_,o,es,ep,h1,h2,_⟩:=(show ObjOk X.prog X.w H s.heap a (.dT kvs) from I.hok a _ ea)
  exact PySem.W.kia_one PySem.W.kitx_dict I.kIn ⟨o,h1,h2.1⟩ e (fun z=>nomatch z) h
 | @ins a C dx fs ea cl ha hn htk hm=>
  cases (show u=Value.ref a from rx)
  obtain⟨mA,O,_⟩:=zqh I.hok ea
  obtain⟨od,J,_⟩:=O.look
  exact PySem.W.kia_one (PySem.W.kitx_own (cl.get _) cl.hd ha hn htk hm) I.kIn J e (fun z=>nomatch z) h
end
end L2
namespace L2
open PySem PySem.Spec PyProof.Rows
structure Room (k:Nat) (A:Around):Prop where
 hd:A.handled=none
 dp:A.depth+3*k+5<recursionLimit
 un:A.units+16*k+200<cLine
theorem Room.mono {j k:Nat} {A:Around} (r:Room k A) (h:j≤k):Room j A:=⟨r.hd,by have:=r.dp;omega,by have:=r.un;omega⟩
theorem Room.deeper {k:Nat} {A:Around} (r:Room (k+1) A) (env:Env):Room k (A.deeper env):=
 ⟨r.hd,by have:=r.dp;show A.depth+1+3*k+5<_;omega,by have:=r.un;show A.units+3+16*k+200<_;omega⟩
theorem Room.depth {k:Nat} {A:Around} (r:Room k A):A.depth<recursionLimit:=by have:=r.dp;omega
theorem Room.units {k:Nat} {A:Around} (r:Room k A):A.units+64<cLine:=by have:=r.un;omega
def tNil:TA:=fun _ H Q=>Q [] H
def zd3 (ta:TE) (tr:TA):TA:=fun σ H Q=>ta σ H fun x H1=>tr σ H1 fun xs H2=>Q (x::xs) H2
section
variable {X:Cx} {e:Expr} {es:List Expr} {te:TE} {t:TA} {pos:Pos}
theorem zae:PA X [] tNil:=fun _ _ _ _ H Q I h=>Calls.spliced_nil ⟨[],H,I,.nil,h⟩
theorem zaa (ha:PE X e te) (hr:PA X es t) (hs:starEach (e::es) X.env=(false,eval e X.env)::starEach es X.env:=by rfl):PA X (e::es) (zd3 te t):=by
 intro pos pins s σ H Q I h
 rw[hs]
 show wpAny _ _ (spliced ((false,eval e X.env)::backTo pos (starEach es X.env))) _ _ s
 refine Calls.spliced_cons (thn (ha pins s σ H _ I h) fun u s1 ⟨x,H1,I1,r1,q1⟩=>?_)
 exact thn (hr pos pins s1 σ H1 _ I1 q1) fun us s2 ⟨xs,H2,I2,r2,q2⟩=>⟨x::xs,H2,I2,.cons r1 r2,q2⟩
def tTup (t:TA):TE:=fun σ H Q=>t σ H fun xs H1=>xs.length≤sizeLine∧∀p,H1 p=none→Q (.ref p) (upd H1 p (.tup xs))
def tLst (t:TA):TE:=fun σ H Q=>t σ H fun xs H1=>xs.length≤sizeLine∧∀p,H1 p=none→Q (.ref p) (upd H1 p (.lst xs))
theorem zbx {x1} (h:PA X es t):PE X (.Tuple es x1 pos) (tTup t):=by
 intro pins s σ H Q I hq
 refine wpAny_Tuple_spliced (thn (h pos pins s σ H _ I hq) fun us s1 ⟨xs,H1,I1,r,z,q⟩=>⟨by rw[← r.length];exact z,?_⟩)
 have hf:H1 s1.heap.objs.size=none:=I1.hok.fresh (Nat.le_refl _)
 refine⟨.ref s1.heap.objs.size,upd H1 s1.heap.objs.size (.tup xs),I1.laid (t':=s1.toks) (fun b u e=>Heap.get?_push_of_some _ e) (Nat.le_refl _) ?_,rfl,q _ hf⟩
 exact⟨z,us,r,⟨_,Heap.get?_push_size _ rfl,rfl,_,rfl⟩⟩
theorem zby (h:PA X es t):PE X (.List es pos) (tLst t):=by
 intro pins s σ H Q I hq
 refine wpAny_List_spliced (thn (h pos pins s σ H _ I hq) fun us s1 ⟨xs,H1,I1,r,z,q⟩=>⟨by rw[← r.length];exact z,?_⟩)
 have hf:H1 s1.heap.objs.size=none:=I1.hok.fresh (Nat.le_refl _)
 refine⟨.ref s1.heap.objs.size,upd H1 s1.heap.objs.size (.lst xs),I1.laid (t':=s1.toks) (fun b u e=>Heap.get?_push_of_some _ e) (Nat.le_refl _) ?_,rfl,q _ hf⟩
 exact⟨z,us,0,r,Heap.get?_push_size _ rfl⟩
end
abbrev Sp:=List V→Hp→VK→XK→Prop
abbrev CXT:=List Env→Hp→Shared→XK→Value→Shared→Prop
structure Env0 (P:Program) (w:World) (K:PySem.W.Frag) (mg:Str→Option Value) (base:Heap) (A:Around) (outer:List Env) (s:Shared) (H:Hp):Prop where
 frames:A.frames=some outer
 mod:Mod K mg base
 bs:∀b o,base.get? b=some o→s.heap.get? b=some o∧H b=none
 bsz:base.objs.size≤s.heap.objs.size
 funs:s.heap.FunFrames base outer
 frf:∀b∈frs outer,H b=none
 hok:HOk P w H s.heap
 bare:AllBare s.gens
 tb:TbAt K H
def CE (outer:List Env) (P:Program) (w:World) (H:Hp) (s:Shared) (Q:VK) (u:Value) (s':Shared):Prop:=
 ∃v H',s'.os=s.os∧AllBare s'.gens∧Un (frs outer) [] H H' s.heap s'.heap∧HOk P w H' s'.heap∧RelV v u∧Q v H'
def CR (CX:CXT) (outer:List Env) (P:Program) (w:World) (H:Hp) (s:Shared) (Q:VK) (E:XK) (r:Result) (s':Shared):Prop:=
 match r with
 | .ok (.ret u)=>CE outer P w H s Q u s'
 | .ok _=>False
 | .error e=>CX outer H s E e s'
structure FnOk (P:Program) (w:World) (K:PySem.W.Frag) (mg:Str→Option Value) (base:Heap) (CX:CXT) (k:Nat) (f:Addr) (fd:FuncData) (ps:List Str) (sp:Sp):Prop where
 len:∀vs H Q E,sp vs H Q E→vs.length=ps.length
 run:∀(A:Around) (outer:List Env) (s:Shared) (H:Hp) (args:Args) (us:List Value) (vs:List V) (Q:VK) (E:XK),Room k A→Env0 P w K mg base A outer s H→BindsTo s fd args (ps.zip us)→Vals vs us→sp vs H Q E →
  codeAny (model P w) A (.call (.ref f) args) (CR CX outer P w H s Q E) s
section
variable {X:Cx} {pins:List (Addr×Obj)} {σ:St} {H:Hp} {s s':Shared}
theorem Inv.env0 (I:Inv X pins σ H s):Env0 X.prog X.w X.K X.mg X.base X.A X.stack s H:=
 ⟨I.ok.frames,I.ok.mod,I.bs,Nat.le_trans I.ok.bsz I.sz,I.stack,I.stkFree,I.hok,I.bare,I.ok.tb.grown I.base.tbls⟩
theorem Inv.after {Q:VK} {u:Value} (I:Inv X pins σ H s) (h:CE X.stack X.prog X.w H s Q u s'):EP X pins σ Q u s':=by
 obtain⟨v,H',os,bare,un,hok,r,q⟩:=h
 obtain⟨hh,g,d,t,os'⟩:=s'
 obtain rfl:os'=s.os:=os
 exact⟨v,H',I.call (h':=hh) (g':=g) (d':=d) (t':=t) (ch:=[]) un hok bare (fun b z=>absurd z (by simp)),r,q⟩
end
def zlq (sp:Sp) (dvs:List V) (E:XK) (t:TA):TE:=fun σ H Q=>t σ H fun vs H1=>sp (vs++dvs) H1 Q E
def Binds (K:PySem.W.Frag) (fd:FuncData) (ps:List Str) (ds:List Value):Prop:=
 ∀(s:Shared) (us:List Value),K.In s.heap→(us++ds).length=ps.length→BindsTo s fd ⟨us,[]⟩ (ps.zip (us++ds))
theorem Binds.all {K:PySem.W.Frag} {fd:FuncData} {ps:List Str} (h:∀us:List Value,us.length=ps.length→bindArgs fd ⟨us,[]⟩=pure (ps.zip us)):Binds K fd ps []:=fun s us _ hl=>by
 rw[List.append_nil] at hl ⊢
 exact .of_eq (h us hl)
def zku (CX:CXT) (X:Cx) (E:XK):Prop:=∀(pins:List (Addr×Obj)) (σ:St) (H:Hp) (s:Shared) (e:Value) (s':Shared),Inv X pins σ H s→CX X.stack H s E e s'→X.xe e s'
section
variable {X:Cx} {CX:CXT} {k:Nat} {f C:Addr} {fd:FuncData} {ps:List Str} {sp:Sp} {dvs:List V} {ds:List Value} {E:XK} {x m:Str} {p pos apos:Pos} {e o:Expr} {es:List Expr} {ta:TE} {t:TA}
theorem zrl {pins:List (Addr×Obj)} {σ:St} {H:Hp} {s:Shared} {Q:VK} {us:List Value} {vs:List V} (F:FnOk X.prog X.w X.K X.mg X.base CX k f fd ps sp) (hr:Room k X.A) (hb:Binds X.K fd ps ds) (hd:Vals dvs ds) (hx:zku CX X E)
  (I:Inv X pins σ H s) (r:Vals vs us) (h:sp (vs++dvs) H Q E):wpAny (model X.prog X.w) X.A (call (.ref f) us) (EP X pins σ Q) X.xe s:=by
 have r2:Vals (vs++dvs) (us++ds):=r.append hd
 have hl:(us++ds).length=ps.length:=by rw[← r2.length];exact F.len _ _ _ _ h
 refine wpAny_call (codeAny_mono (F.run X.A X.stack s H ⟨us,[]⟩ (us++ds) (vs++dvs) Q E hr I.env0 (hb s us I.kIn hl) r2 h) fun r s' hq=>?_)
 cases r with
 | error e=>exact hx pins σ H s e s' I hq
 | ok fl=>
  cases fl with
  | ret u=>exact I.after hq
  | next=>exact False.elim hq
  | brk=>exact False.elim hq
  | cont=>exact False.elim hq
theorem zqy (F:FnOk X.prog X.w X.K X.mg X.base CX k f fd ps sp) (hr:Room k X.A) (hg:Gl X x) (hm:X.mg x=some (.ref f)) (hk:PySem.W.keepIn X.K (.ref f)=true) (hb:Binds X.K fd ps ds) (hd:Vals dvs ds) (hx:zku CX X E)
  (ha:PA X (e::es) t) (hdb:(x == ("__debug__" : Str))=false:=by decide) (he:starEach (e::es) X.env=(false,eval e X.env)::starEach es X.env:=by rfl) (hpl:(backTo pos (starEach es X.env)).any (·.1)=false:=by rfl) :
  PE X (.Call (.Name x p) (e::es) [] pos) (zlq sp dvs E t):=by
 intro pins s σ H Q I h
 refine wpAny_Call_Name_kw (zot I hg hm ?_ hdb)
 refine PySem.W.callWith_K (h₀:=X.base) I.ok.mod.kin hk (thn (ha pos pins s σ H _ I h) fun us s1 ⟨vs,H1,I1,r,q⟩=>⟨I1.kIn,?_⟩) he hpl
 exact zrl F hr hb hd hx I1 r q
end
section
variable {X:Cx} {CX:CXT} {k:Nat} {f C:Addr} {fd:FuncData} {ps ks:List Str} {sp:Sp} {E:XK} {x m:Str} {p pos apos kpos:Pos} {e o:Expr} {es:List Expr} {kws:List Keyword} {te ta:TE} {t tk:TA} {nm:Option Str}
variable {g:List Value→List Value→List Value} {gV:List V→List V→List V}
end
structure FnScope (N P:List Str) (sc:Scope):Prop where
 kind:sc.kind=.function
 co:sc.isCoroutine=false
 gen:sc.isGenerator=false
 nd:N.Nodup
 pre:N.take P.length=P
 par:∀x∈P,sc.names.lookup x=some .local∨sc.names.lookup x=some .cell
 nofree:∀y∈sc.names,y.2≠.free
theorem zj5 {kindOf:Str→Option NameKind} {x:Str}:∀ {binds:List (Str×Value)} {m:Str→Option Value},(∀v,(x,v)∉binds)→bindL kindOf binds m x=m x
 | [],_,_=>rfl
 | (n,v)::r,m,h=>by
  unfold bindL
  rw[zj5 fun w hw=>h w (List.mem_cons_of_mem _ hw)]
  split
  ·have:x≠n:=by rintro rfl;exact h v List.mem_cons_self
   simp[this]
  ·rfl
theorem zke {kindOf:Str→Option NameKind} {x:Str}:∀ {binds:List (Str×Value)} {m:Str→Option Value},(∀v,(x,v)∉binds)→bindC kindOf binds m x=m x
 | [],_,_=>rfl
 | (n,v)::r,m,h=>by
  unfold bindC
  rw[zke fun w hw=>h w (List.mem_cons_of_mem _ hw)]
  split
  ·rfl
  ·have:x≠n:=by rintro rfl;exact h v List.mem_cons_self
   simp[this]
theorem zkm {kindOf:Str→Option NameKind} {x:Str} {v:Value}:∀ {P:List Str} {vs:List Value} {i:Nat} {m:Str→Option Value},P.Nodup→P[i]?=some x→vs[i]?=some v→kindOf x=some .local →
  bindL kindOf (P.zip vs) m x=some v
 | [],_,_,_,_,h,_,_=>by simp at h
 | _::_,[],_,_,_,_,h,_=>by simp at h
 | p::P,w::vs,0,m,nd,h1,h2,hk=>by
  simp at h1 h2;subst h1;subst h2
  show bindL kindOf ((p,w)::P.zip vs) m p=_
  unfold bindL
  rw[zj5 fun v hv=>(List.nodup_cons.mp nd).1 (List.of_mem_zip hv).1,if_pos hk]
  simp
 | p::P,w::vs,i+1,m,nd,h1,h2,hk=>by
  show bindL kindOf ((p,w)::P.zip vs) m x=_
  unfold bindL
  exact zkm (i:=i) (List.nodup_cons.mp nd).2 (by simpa using h1) (by simpa using h2) hk
theorem zkg {kindOf:Str→Option NameKind} {x:Str} {v:Value}:∀ {P:List Str} {vs:List Value} {i:Nat} {m:Str→Option Value},P.Nodup→P[i]?=some x→vs[i]?=some v→kindOf x≠some .local →
  bindC kindOf (P.zip vs) m x=some v
 | [],_,_,_,_,h,_,_=>by simp at h
 | _::_,[],_,_,_,_,h,_=>by simp at h
 | p::P,w::vs,0,m,nd,h1,h2,hk=>by
  simp at h1 h2;subst h1;subst h2
  show bindC kindOf ((p,w)::P.zip vs) m p=_
  unfold bindC
  rw[zke fun v hv=>(List.nodup_cons.mp nd).1 (List.of_mem_zip hv).1,if_neg hk]
  simp
 | p::P,w::vs,i+1,m,nd,h1,h2,hk=>by
  show bindC kindOf ((p,w)::P.zip vs) m x=_
  unfold bindC
  exact zkg (i:=i) (List.nodup_cons.mp nd).2 (by simpa using h1) (by simpa using h2) hk
def start (N:List Str) (vs:List V):St:=vs.map some++List.replicate (N.length - vs.length) none
def cxOf (CX:CXT) (P:Program) (w:World) (K:PySem.W.Frag) (mg:Str→Option Value) (base:Heap) (N:List Str) (qual:Str) (scope:Scope) (f:Addr) (cd:Value) (A:Around) (outer:List Env) (s:Shared) (H:Hp) (E:XK):Cx where
 prog:=P
 w:=w
 K:=K
 mg:=mg
 base:=base
 A:=A.deeper (envOfC qual scope s.heap.objs.size f cd)
 N:=N
 s₀:=s
 H₀:=H
 env:=envOfC qual scope s.heap.objs.size f cd
 outer:=outer
 stack:=envOfC qual scope s.heap.objs.size f cd::outer
 ex:=[]
 calm:=true
 fn:=fun _=>true
 pn:=[]
 xe:=fun e s'=>wpAny (model P w) (A.deeper (envOfC qual scope s.heap.objs.size f cd)) (leaving (envOfC qual scope s.heap.objs.size f cd) e) (fun _ s''=>CX outer H s E e s'') (fun e' s''=>CX outer H s E e' s'') s'
theorem zmA {sc:Scope} {n:Nat} {x:Str} (h:sc.names.lookup x=some .cell):∃c,(cellsFrom n sc.names []).lookup x=some c:=by
 have q:=PySem.W.cellsFrom_some sc.names n [] (.inl h)
 exact Option.isSome_iff_exists.mp q
theorem zni {CX:CXT} {P:Program} {w:World} {K:PySem.W.Frag} {mg:Str→Option Value} {base:Heap} {N ps:List Str} {qual:Str} {scope:Scope} {f:Addr} {cd:Value} {A:Around} {outer:List Env} {s s1:Shared} {H:Hp} {E:XK} {us:List Value} {vs:List V}
  (S:FnScope N ps scope) (hd:A.handled=none) (e0:Env0 P w K mg base A outer s H) (hl:vs.length=ps.length) (r:Vals vs us)
  (x:InCallC s s.heap.objs.size (bindL (envOfC qual scope s.heap.objs.size f cd).kindOf (ps.zip us) fun _=>none) (cellsFrom (s.heap.objs.size+1) scope.names []) (bindC (envOfC qual scope s.heap.objs.size f cd).kindOf (ps.zip us) fun _=>none) s1) :
  Inv (cxOf CX P w K mg base N qual scope f cd A outer s H E) [] (start N vs) H s1:=by
 have hpl:ps.length≤N.length:=by have:=congrArg List.length S.pre;rw[List.length_take] at this;omega
 obtain⟨h1,tk,rfl,hk⟩:=x.done
 have noA:∀b:Addr,b∉(cxOf CX P w K mg base N qual scope f cd A outer s H E).ex:=fun b z=>absurd (show b∈([]:List Addr) from z) (by simp)
 refine⟨⟨e0.mod,S.kind,rfl,rfl,Nat.le_refl _,fun y z c h1 h2=>?_,fun y hy=>?_,fun y c _ h=>?_,fun _=>hd,Around.frames_deeper e0.frames,.inr ⟨rfl,rfl⟩,fun b z=>absurd z (noA b),e0.bs,e0.bsz,fun b _ _=>noA b,fun b z=>absurd z (noA b),e0.funs,e0.frf,e0.tb⟩,
  rfl,e0.bare,Un.kept hk,⟨_,x.toInCall.ns,fun i y v h1 h2 h3=>?_⟩,fun y c h=>⟨_,x.cell y c h⟩,e0.hok.fresh (Nat.le_refl _),fun y c h=>?_,fun p hp=>absurd (show p∈([]:List (Addr×Obj)) from hp) (by simp),e0.hok.kept hk,?_⟩
 ·exact name_of_addr x.apart (PySem.mem_of_lookup h1) (PySem.mem_of_lookup h2)
 ·have hy:scope.names.lookup y=some .cell∨scope.names.lookup y=some .free:=hy
  rcases hy with hy|hy
  ·exact zmA hy
  ·exact absurd rfl (S.nofree _ (PySem.mem_of_lookup hy))
 ·exact Nat.le_of_lt (x.above y c (PySem.mem_of_lookup h))
 ·have hi:i<vs.length:=by
   unfold start at h2
   by_cases hi:i<vs.length
   ·exact hi
   ·rw[List.getElem?_append_right (by simpa using hi)] at h2
    rw[List.getElem?_replicate] at h2
    split at h2 <;> cases h2
  have ha:vs[i]?=some v:=by
   unfold start at h2
   rw[List.getElem?_append_left (by simpa using hi),List.getElem?_map] at h2
   cases e:vs[i]? with
   | none=>rw[e] at h2;cases h2
   | some a=>rw[e] at h2;cases h2;rfl
  obtain⟨u,hu,rv⟩:=r.get ha
  have hp:ps[i]?=some y:=by
   rw[← S.pre,List.getElem?_take_of_lt (by omega)];exact h1
  have ndP:ps.Nodup:=by rw[← S.pre];exact S.nd.sublist (List.take_sublist _ _)
  refine⟨u,rv,?_⟩
  rcases S.par y (List.mem_of_getElem? hp) with k|k
  ·exact .inl ⟨k,zkm ndP hp hu k⟩
  ·obtain⟨c,e⟩:=zmA (n:=s.heap.objs.size+1) k
   refine .inr ⟨.inl k,c,e,?_⟩
   have q:=x.cell y c e
   rw[zkg ndP hp hu (by show scope.names.lookup y≠_;rw[k];decide)] at q
   exact q
 ·exact e0.hok.fresh (Nat.le_of_lt (x.above y c (PySem.mem_of_lookup h)))
 ·unfold start
  show _=N.length
  rw[List.length_append,List.length_map,List.length_replicate]
  omega
theorem zr4 {CX:CXT} {P:Program} {w:World} {K:PySem.W.Frag} {mg:Str→Option Value} {base:Heap} {k:Nat} {f:Addr} {name qual:Str} {params:Arguments} {body:List Stmt} {scope:Scope} {dV kV doc pm cdv ct oc:Value} {an od:Option Addr}
  {osl:Array (Option Value)} {N ps:List Str} {sp:Sp} (lk:K.lookup f=some ⟨oc,od,.func (PySem.W.fnOf name qual params body scope dV kV doc pm an cdv ct),osl⟩) (hcd:PySem.W.codeIn K cdv qual=true) (S:FnScope N ps scope)
  (len:∀vs H Q E,sp vs H Q E→vs.length=ps.length)
  (hbody:∀(A:Around) (outer:List Env) (s:Shared) (H:Hp) (vs:List V) (Q:VK) (E:XK),Room k (A.deeper (envOfC qual scope s.heap.objs.size f cdv))→sp vs H Q E →
   ∃t,PSs (cxOf CX P w K mg base N qual scope f cdv A outer s H E) body t∧t { nx:=fun _ H'=>Q .non H',rt:=Q } (start N vs) H) :
  FnOk P w K mg base CX (k+1) f (PySem.W.fnOf name qual params body scope dV kV doc pm an cdv ct) ps sp:=by
 refine⟨len,fun A outer s H args us vs Q E hr e0 hb r hsp=>?_⟩
 have hl:=len _ _ _ _ hsp
 have KX:K.In s.heap:=e0.mod.kin.keeps fun b o e=>(e0.bs b o e).1
 have lim:s.heap.NoLimit:=e0.mod.nolimit.keeps fun b o e=>(e0.bs b o e).1
 have hkind:∀y∈ps.zip us,scope.names.lookup y.1=some .local∨(scope.names.lookup y.1=some .cell∧((cellsFrom (s.heap.objs.size+1) scope.names []).lookup y.1).isSome=true):=fun ⟨n,v⟩ hy=>by
  rcases S.par n (List.of_mem_zip hy).1 with q|q
  ·exact .inl q
  ·exact .inr ⟨q,PySem.W.cellsFrom_some _ _ _ (.inl q)⟩
 refine codeAny_call_function hr.depth (KX _ _ lk) rfl S.co S.gen rfl (PySem.W.codeRec_of KX hcd) (hb _ _ _ _ ?_)
 refine wpAny_newFunctionEnv_cells S.kind hkind fun env he s1 x=>?_
 subst he
 refine⟨lim.keeps x.toInCall.keep,codeAny_func ?_⟩
 obtain⟨t,ht,hq⟩:=hbody A outer s H vs Q E (hr.deeper _) hsp
 have I:Inv (cxOf CX P w K mg base N qual scope f cdv A outer s H E) [] (start N vs) H s1:=zni S hr.hd e0 hl r x
 refine wpAny_mono (ht [] s1 (start N vs) H _ I hq) (fun fl s' hs=>?_) fun e s' hs=>hs
 have fin:∀ {σ':St} {H':Hp} {v:V} {u:Value},Inv (cxOf CX P w K mg base N qual scope f cdv A outer s H E) [] σ' H' s'→RelV v u→Q v H'→CE outer P w H s Q u s':=
  fun {σ' H' v u} J rv q=>⟨v,H',J.os,J.bare,J.base,J.hok,rv,q⟩
 cases fl with
 | ret u=>
  obtain⟨v,σ',H',J,rv,q⟩:=hs
  exact fin J rv q
 | next=>
  obtain⟨σ',H',J,q⟩:=hs
  exact fin (v:=V.non) (u:=Value.none) J rfl q
 | brk=>
  obtain⟨_,_,_,q⟩:=hs
  exact False.elim q
 | cont=>
  obtain⟨_,_,_,q⟩:=hs
  exact False.elim q
end L2
namespace L2
open PySem PySem.Spec PyProof.Rows
section
variable {X:Cx} {x:Str} {p pos:Pos} {e:Expr} {es:List Expr} {t:TA} {id T:String} {r:List V→Hp→VK→Prop}
def tCB (r:List V→Hp→VK→Prop) (t:TA):TE:=fun σ H Q=>t σ H fun vs H1=>r vs H1 Q
theorem zaO (hc:zhF X (.builtin id) r) (hg:Gl X x) (hm:X.mg x=none) (hv:bootBuiltins x=some (.builtin id)) (ha:PA X (e::es) t) (hn:x≠"__name__":=by decide) (hdb:(x == ("__debug__" : Str))=false:=by decide)
  (he:starEach (e::es) X.env=(false,eval e X.env)::starEach es X.env:=by rfl) (hpl:(backTo pos (starEach es X.env)).any (·.1)=false:=by rfl):PE X (.Call (.Name x p) (e::es) [] pos) (tCB r t):=by
 intro pins s σ H Q I h
 refine wpAny_Call_Name_kw (zhp I hg hm hv ?_ hn hdb)
 exact PyProof.Rows.callWith_builtin1 (thn (ha pos pins s σ H _ I h) fun us s1 ⟨vs,H1,I1,r1,q1⟩=>hc pins s1 σ H1 vs us Q I1 r1 q1) he hpl
theorem zcD (hc:zhF X (.type T) r) (hg:Gl X x) (hm:X.mg x=none) (hv:bootBuiltins x=some (.type T)) (ha:PA X (e::es) t) (hn:x≠"__name__":=by decide) (hdb:(x == ("__debug__" : Str))=false:=by decide)
  (he:starEach (e::es) X.env=(false,eval e X.env)::starEach es X.env:=by rfl) (hpl:(backTo pos (starEach es X.env)).any (·.1)=false:=by rfl):PE X (.Call (.Name x p) (e::es) [] pos) (tCB r t):=by
 intro pins s σ H Q I h
 refine wpAny_Call_Name_kw (zhp I hg hm hv ?_ hn hdb)
 exact PyProof.Rows.callWith_type1 (thn (ha pos pins s σ H _ I h) fun us s1 ⟨vs,H1,I1,r1,q1⟩=>hc pins s1 σ H1 vs us Q I1 r1 q1) he hpl
end
end L2
namespace HT
open PySem PyProof.Rows
section
open PySem.SeqAt
open PySem.AutoSeq1 (wpAny_loadPart')
open PySem.MeetsSeq PySem.MeetsSeq2 PySem.MeetsSeq3
end
section
variable {prog:Program} {w:World} {A:Around} {E:Value→Shared→Prop} {s:Shared}
def sIx (n d:Nat):Option Int→Nat
 | none=>d
 | some v=>if v<0 then (v+(n:Int)).toNat else min v.toNat n
end
end HT
namespace L2
open PySem PySem.Spec PyProof.Rows
abbrev TO:=St→Hp→(Option Int→Hp→Prop)→Prop
def PO (X:Cx) (e:Option Expr) (t:TO):Prop:=
 ∀(pins:List (Addr×Obj)) (s:Shared) (σ:St) (H:Hp) (Q:Option Int→Hp→Prop),Inv X pins σ H s→t σ H Q →
  wpAny (model X.prog X.w) X.A (evalPart e X.env) (fun u s'=>∃o H',Inv X pins σ H' s'∧IsPart u o∧Q o H') X.xe s
def znt:TO:=fun _ H Q=>Q none H
def zq0 (t:TE):TO:=fun σ H Q=>t σ H fun x H1=>∃i,x=.int i∧Q (some i) H1
section
variable {X:Cx} {e:Expr} {te:TE} {lo hi:Option Expr} {tl th:TO} {pos p2:Pos}
theorem zeh:PO X none znt:=by
 intro pins s σ H Q I h
 rw[evalPart_none]
 exact wpAny_pure ⟨none,H,I,.none,h⟩
theorem zef (h:PE X e te):PO X (some e) (zq0 te):=by
 intro pins s σ H Q I hw
 rw[evalPart_some]
 refine thn (h pins s σ H _ I hw) fun u s1 ⟨x,H1,I1,r1,q1⟩=>?_
 obtain⟨i,rfl,q⟩:=q1
 obtain⟨t,rfl⟩:=r1
 exact⟨some i,H1,I1,.int i t,q⟩
def SlR (X:Cx) (r:V→Option Int→Option Int→Hp→VK→Prop):Prop:=
 ∀(pins:List (Addr×Obj)) (s:Shared) (σ:St) (H:Hp) (x:V) (v vl vu:Value) (lo hi:Option Int) (sl:Addr) (Q:VK),Inv X pins σ H s→RelV x v→s.heap.IsSliceOf sl vl vu .none→IsPart vl lo→IsPart vu hi→r x lo hi H Q →
  ∃T id,typeLookup (.type T) "__getitem__"=pure (some (.builtin id))∧s.TypeIs v T∧wpAny (model X.prog X.w) X.A (getItem v (.ref sl)) (EP X pins σ Q) X.xe s
def tSl (r:V→Option Int→Option Int→Hp→VK→Prop) (te:TE) (tl th:TO):TE:=fun σ H Q=>te σ H fun x H1=>tl σ H1 fun l H2=>th σ H2 fun u H3=>r x l u H3 Q
theorem zdr {r:V→Option Int→Option Int→Hp→VK→Prop} (hr:SlR X r) (he:PE X e te) (hl:PO X lo tl) (hu:PO X hi th):PE X (.Subscript e (.Slice lo hi none p2) pos) (tSl r te tl th):=by
 intro pins s σ H Q I h
 refine Subscript_ (thn (he pins s σ H _ I h) fun v s1 ⟨x,H1,I1,r1,q1⟩=>?_)
 refine wpAny_Slice (thn (hl pins s1 σ H1 _ I1 q1) fun vl s2 ⟨l,H2,I2,pl,q2⟩=>thn (hu pins s2 σ H2 _ I2 q2) fun vu s3 ⟨u,H3,I3,pu,q3⟩=>?_)
 rw[evalPart_none]
 refine wpAny_pure ?_
 have I4:Inv X pins σ H3 { s3 with heap:=s3.heap.push { cls:=.type "slice",data:=.fields #[vl,vu,.none] } }:=I3.kept (t':=s3.toks) fun b ob q=>Heap.get?_push_of_some _ q
 obtain⟨T,id,hT,ht,hg⟩:=hr pins { s3 with heap:=s3.heap.push { cls:=.type "slice",data:=.fields #[vl,vu,.none] } } σ H3 x v vl vu l u s3.heap.objs.size Q I4 r1 (Heap.IsSliceOf.new ..) pl pu q3
 show wpAny (model X.prog X.w) X.A (subscriptTail e (.Slice lo hi none p2) v (.ref s3.heap.objs.size)) (EP X pins σ Q) X.xe { s3 with heap:=s3.heap.push { cls:=.type "slice",data:=.fields #[vl,vu,.none] } }
 exact tail_any (ops:=[.ref s3.heap.objs.size,v]) ht hT hg (by with_unfolding_all rfl)
def cutV (xs:List V) (lo hi:Option Int):List V:=(xs.drop (HT.sIx xs.length 0 lo)).take (HT.sIx xs.length xs.length hi - HT.sIx xs.length 0 lo)
theorem zlT (xs:List V) (lo hi:Option Int):(cutV xs lo hi).length≤xs.length:=by
 unfold cutV
 rw[List.length_take,List.length_drop]
 omega
end
end L2
namespace L2
open PySem PySem.Spec PyProof.Rows
def ixN (n:Nat) (i:Int):Option Nat:=if 0≤i then (if i<n then some i.toNat else none) else if -(n:Int)≤i then some (i+n).toNat else none
def atI {α:Type} (xs:List α) (i:Int):Option α:=(ixN xs.length i).bind fun j=>xs[j]?
theorem zqP {n:Nat} {i:Int} {j:Nat} (h:ixN n i=some j):seqIndex? i n=some j∧j<n∧-(n:Int)≤i∧i<n:=by
 unfold ixN at h
 by_cases h0:0≤i
 ·rw[if_pos h0] at h
  by_cases h1:i<n
  ·rw[if_pos h1] at h
   have e:i.toNat=j:=Option.some.inj h
   exact⟨by rw[seqIndex_of h0 h1,e],by omega,by omega,h1⟩
  ·rw[if_neg h1] at h;cases h
 ·rw[if_neg h0] at h
  by_cases h1 : -(n:Int)≤i
  ·rw[if_pos h1] at h
   have e:(i+n).toNat=j:=Option.some.inj h
   exact⟨by rw[seqIndex_neg (by omega) h1,e],by omega,h1,by omega⟩
  ·rw[if_neg h1] at h;cases h
theorem zlh {α:Type} {xs:List α} {i:Int} {v:α} (h:atI xs i=some v):∃j,seqIndex? i xs.length=some j∧xs[j]?=some v∧j<xs.length∧-(xs.length:Int)≤i∧i<xs.length:=by
 unfold atI at h
 cases e:ixN xs.length i with
 | none=>rw[e] at h;cases h
 | some j=>
  rw[e] at h
  obtain⟨h1,h2,h3,h4⟩:=zqP e
  exact⟨j,h1,h,h2,h3,h4⟩
theorem atI_nat {α:Type} {xs:List α} {j:Nat} {v:α} (h:xs[j]?=some v):atI xs (j:Int)=some v:=by
 have hj:j<xs.length:=(List.getElem?_eq_some_iff.mp h).1
 have e:ixN xs.length (j:Int)=some j:=by
  unfold ixN
  rw[if_pos (by omega),if_pos (by omega)];simp
 unfold atI;rw[e];exact h
def zqv (b:Expr):Prop:=∀o i,subscripted b false o i=operate [o,i] (getItem o i)
def IxR (X:Cx) (r:R2):Prop:=
 ∀(value slice:Expr) (pins:List (Addr×Obj)) (s:Shared) (σ:St) (H:Hp) (x y:V) (v u:Value) (Q:VK),Inv X pins σ H s→RelV x v→RelV y u→r x y H Q →
  subscripted slice false v u=operate [v,u] (getItem v u)→wpAny (model X.prog X.w) X.A (subscriptTail value slice v u) (EP X pins σ Q) X.xe s
def MtR (X:Cx) (id:String) (r:V→List V→Hp→VK→Prop):Prop:=
 ∀(pins:List (Addr×Obj)) (s:Shared) (σ:St) (H:Hp) (x:V) (xs:List V) (v:Value) (us:List Value) (Q:VK),Inv X pins σ H s→RelV x v→Vals xs us→r x xs H Q →
  wpAny (model X.prog X.w) X.A (call (.builtin id) (v::us)) (EP X pins σ Q) X.xe s
section
variable {X:Cx} {a b:Expr} {ta tb:TE} {pos:Pos}
theorem zaW {r:R2} (hr:IxR X r) (ha:PE X a ta) (hb:PE X b tb) (hs:zqv b):PE X (.Subscript a b pos) (tOp r ta tb):=by
 intro pins s σ H Q I h
 exact Subscript_ (binT ha hb I h fun v u s2 x y H2 I2 rx ry q=>hr a b pins s2 σ H2 x y v u Q I2 rx ry q (hs _ _))
def rIxL (K:PySem.W.Frag):R2:=fun x y H Q=>∃p xs i v,x=.ref p∧y=.int i∧SqL K H p xs∧atI xs i=some v∧Q v H
def rIxT (K:PySem.W.Frag):R2:=fun x y H Q=>∃p xs i v,x=.ref p∧y=.int i∧SqT K H p xs∧atI xs i=some v∧Q v H
def rIxS:R2:=fun x y H Q=>∃z i c,x=.str z∧y=.int i∧z.length≤sizeLine∧atI z.cps.toList i=some c∧Q (.str ⟨#[c]⟩) H
theorem zaN:IxR X (rIxL X.K):=by
 intro value slice pins s σ H x y v u Q I rx ry h hs
 obtain⟨p,xs,i,z,rfl,rfl,hq,he,q⟩:=h
 cases rx
 obtain⟨t,rfl⟩:=ry
 obtain⟨its,r,pl,hz⟩:=I.list hq
 obtain⟨j,h1,h2,h3,h4,h5⟩:=zlh he
 obtain⟨w,ew,rw'⟩:=r.get h2
 have hl:=r.length
 have hn:=zkV
 have fin:EP X pins σ Q w s:=⟨z,H,I,rw',q⟩
 by_cases h0:0≤i
 ·have hj:i.toNat=j:=by
   rw[seqIndex_of h0 h5] at h1
   exact Option.some.inj h1
  exact item_listR pl.isList h0 (by omega) (by rw[hj];simpa using ew) fin hs
 ·have hj:(i+(its.toArray.size:Int)).toNat=j:=by
   rw[seqIndex_neg (by omega) h4] at h1
   rw[List.size_toArray,← hl]
   exact Option.some.inj h1
  exact subscriptTail_builtinR (x:=w) pl.isList.typeIs slot_list_getitem.lookup
   (wpAny_getItem_list_neg (Q:=fun r s'=>r=w∧EP X pins σ Q r s') pl.isList (by omega) (by rw[List.size_toArray] <;> omega) (by omega) (by rw[hj];simpa using ew) ⟨rfl,fin⟩) hs
theorem zbD:IxR X (rIxT X.K):=by
 intro value slice pins s σ H x y v u Q I rx ry h hs
 obtain⟨p,xs,i,z,rfl,rfl,hq,he,q⟩:=h
 cases rx
 obtain⟨t,rfl⟩:=ry
 obtain⟨its,r,pl,hz⟩:=I.tuple hq
 obtain⟨j,h1,h2,h3,h4,h5⟩:=zlh he
 obtain⟨w,ew,rw'⟩:=r.get h2
 have hl:=r.length
 have hn:=zkV
 have fin:EP X pins σ Q w s:=⟨z,H,I,rw',q⟩
 exact subscriptTail_builtinR (x:=w) pl.typeIs slot_tuple_getitem.lookup
  (getItem_tuple (j:=j) (Q:=fun r s'=>r=w∧EP X pins σ Q r s') pl (by omega) (by omega) (by rw[List.size_toArray,← hl];exact h1) (by simpa using ew) ⟨rfl,fin⟩) hs
theorem zrc:IxR X rIxS:=by
 intro value slice pins s σ H x y v u Q I rx ry h hs
 obtain⟨z,i,c,rfl,rfl,hz,he,q⟩:=h
 obtain⟨t,rfl⟩:=rx
 obtain⟨t',rfl⟩:=ry
 obtain⟨j,h1,h2,h3,h4,h5⟩:=zlh he
 have hl:z.cps.toList.length=z.length:=by simp[Str.length]
 rw[hl] at h1 h4 h5
 have hn:=zkV
 exact tail_any (typeIs_str s z t) slot_str_getitem.lookup (getItem_str (c:=c) (by
  have e1:decide (i < -(2 ^ 63:Int))=false:=decide_eq_false (by omega)
  have e2:decide (i≥2 ^ 63)=false:=decide_eq_false (by omega)
  rw[e1,e2,Bool.or_false]) (by rw[h1];simpa using h2) ⟨.str ⟨#[c]⟩,H,I.tok _,⟨_,rfl⟩,q⟩) hs
theorem zkK (lo hi:Option Int) (n:Nat):(sliceBounds lo hi none n).1=((HT.sIx n 0 lo:Nat):Int)∧(sliceBounds lo hi none n).2.1=((HT.sIx n n hi:Nat):Int)∧(sliceBounds lo hi none n).2.2=1:=by
 refine⟨?_,?_,rfl⟩
 ·cases lo with
  | none=>simp[sliceBounds,HT.sIx]
  | some i=>
   simp only[sliceBounds,HT.sIx,Option.getD_none,show (1:Int) > 0 by decide,if_true]
   by_cases h:i<0
   ·simp only[h,if_true] <;> omega
   ·simp only[h,if_false] <;> omega
 ·cases hi with
  | none=>simp[sliceBounds,HT.sIx]
  | some i=>
   simp only[sliceBounds,HT.sIx,Option.getD_none,show (1:Int) > 0 by decide,if_true]
   by_cases h:i<0
   ·simp only[h,if_true] <;> omega
   ·simp only[h,if_false] <;> omega
theorem zjk (its:List Value) (lo hi:Option Int):slicePick its.toArray lo hi none=((its.drop (HT.sIx its.length 0 lo)).take (HT.sIx its.length its.length hi - HT.sIx its.length 0 lo)).toArray:=by
 obtain⟨h1,h2,h3⟩:=zkK lo hi its.toArray.size
 unfold slicePick
 rw[h1,h2,h3]
 simp only[sliceRange_one,pick_run,List.size_toArray] <;> rfl
def rSlL (K:PySem.W.Frag):V→Option Int→Option Int→Hp→VK→Prop:=fun x lo hi H Q=>∃a xs,x=.ref a∧SqL K H a xs∧∀p,H p=none→Q (.ref p) (upd H p (.lst (cutV xs lo hi)))
theorem zd9:SlR X (rSlL X.K):=by
 intro pins s σ H x v vl vu lo hi sl Q I rx hs pl pu h
 obtain⟨a,xs,rfl,hx,q⟩:=h
 cases rx
 obtain⟨its,r,ht,hz⟩:=I.list hx
 have hlen:=r.length
 refine⟨"list",_,slot_list_getitem.lookup,ht.isList.typeIs,?_⟩
 refine wpAny_getItem_list_slice ht.isList hs pl pu .none (by simp) ?_ (by rw[List.size_toArray] <;> omega)
 rw[zjk,← hlen]
 refine⟨.ref s.heap.objs.size,_,I.laid (t':=s.toks) (o:=.lst (cutV xs lo hi)) (fun b ob q=>Heap.get?_push_of_some _ q) (Nat.le_refl _) ?_,rfl,q _ (I.hok.fresh (Nat.le_refl _))⟩
 exact⟨Nat.le_trans (zlT xs lo hi) hz,_,0,(r.drop (HT.sIx xs.length 0 lo)).take (HT.sIx xs.length xs.length hi - HT.sIx xs.length 0 lo),Heap.get?_push_size _ rfl⟩
def zjv:V→Bool
 | .non=>true
 | .bl _=>true
 | .int _=>true
 | .str _=>true
 | _=>false
def eqV:V→V→Bool
 | .non,.non=>true
 | .bl a,.bl b=>a == b
 | .bl a,.int b=>(if a then 1 else 0) == b
 | .int a,.bl b=>a == (if b then 1 else 0)
 | .int a,.int b=>a == b
 | .str a,.str b=>a == b
 | _,_=>false
theorem zq3 {A:Around} {s:Shared} {y x:V} {u v:Value} (ry:RelV y u) (rx:RelV x v) (fy:zjv y=true) (fx:zjv x=true):SeqAt.EqAt A s u v (eqV y x):=by
 cases y with
 | non=>
  cases ry
  cases x with
  | non=>cases rx;exact SeqAt.EqAt.same _
  | bl b=>cases rx;exact SeqAt.EqAt.none_bool b
  | int b=>obtain⟨t,rfl⟩:=rx;exact SeqAt.EqAt.none_int b t
  | str b=>obtain⟨t,rfl⟩:=rx;exact SeqAt.EqAt.none_str b t
  | _=>exact absurd (show false=true from fx) Bool.false_ne_true
 | bl a=>
  cases ry
  cases x with
  | non=>cases rx;exact SeqAt.EqAt.bool_none a
  | bl b=>cases rx;exact SeqAt.EqAt.bool_bool a b
  | int b=>obtain⟨t,rfl⟩:=rx;exact SeqAt.EqAt.bool_int a b t
  | str b=>obtain⟨t,rfl⟩:=rx;exact SeqAt.EqAt.bool_str a b t
  | _=>exact absurd (show false=true from fx) Bool.false_ne_true
 | int a=>
  obtain⟨t',rfl⟩:=ry
  cases x with
  | non=>cases rx;exact SeqAt.EqAt.int_none a t'
  | bl b=>cases rx;exact SeqAt.EqAt.int_bool a t' b
  | int b=>obtain⟨t,rfl⟩:=rx;exact SeqAt.EqAt.int_int a t' b t
  | str b=>obtain⟨t,rfl⟩:=rx;exact SeqAt.EqAt.int_str a t' b t
  | _=>exact absurd (show false=true from fx) Bool.false_ne_true
 | str a=>
  obtain⟨t',rfl⟩:=ry
  cases x with
  | non=>cases rx;exact SeqAt.EqAt.str_none a t'
  | bl b=>cases rx;exact SeqAt.EqAt.str_bool a t' b
  | int b=>obtain⟨t,rfl⟩:=rx;exact SeqAt.EqAt.str_int a t' b t
  | str b=>obtain⟨t,rfl⟩:=rx;exact SeqAt.EqAt.str_str a t' b t
  | _=>exact absurd (show false=true from fx) Bool.false_ne_true
 | _=>exact absurd (show false=true from fy) Bool.false_ne_true
def eqU (x:V) (u:Value):Bool:=match u with
 | .none=>eqV .non x
 | .bool b=>eqV (.bl b) x
 | .int i _=>eqV (.int i) x
 | .str z _=>eqV (.str z) x
 | _=>false
theorem zpu {x y:V} {u:Value} (r:RelV y u) (f:zjv y=true):eqU x u=eqV y x:=by
 cases y with
 | non=>cases r;rfl
 | bl b=>cases r;rfl
 | int i=>obtain⟨t,rfl⟩:=r;rfl
 | str z=>obtain⟨t,rfl⟩:=r;rfl
 | _=>exact absurd (show false=true from f) Bool.false_ne_true
theorem zlG {x:V}:∀ {xs:List V} {us:List Value},Vals xs us→xs.all zjv=true→us.any (eqU x)=xs.any fun y=>eqV y x
 | _,_,.nil,_=>rfl
 | y::xs,u::us,.cons r t,f=>by
  rw[List.all_cons,Bool.and_eq_true] at f
  rw[List.any_cons,List.any_cons,zpu r f.1,zlG t f.2]
theorem zjE {A:Around} {s:Shared} {x:V} {v:Value} (rx:RelV x v) (fx:zjv x=true):∀ {xs:List V} {us:List Value},Vals xs us→xs.all zjv=true→∀u∈us,SeqAt.EqAt A s u v (eqU x u)
 | _,_,.nil,_=>fun u hu=>by cases hu
 | y::xs,u::us,.cons r t,f=>fun u' hu=>by
  rw[List.all_cons,Bool.and_eq_true] at f
  rcases List.mem_cons.mp hu with rfl|hu
  ·rw[zpu r f.1];exact zq3 r rx f.1 fx
  ·exact zjE rx fx t f.2 u' hu
def inV (x:V) (xs:List V):Bool:=xs.any fun y=>eqV y x
def rIn (K:PySem.W.Frag) (neg:Bool):R2:=fun x y H Q=>∃p xs,y=.ref p∧(SqL K H p xs∨SqT K H p xs)∧zjv x=true∧xs.all zjv=true∧Q (.bl (if neg then !inV x xs else inV x xs)) H
theorem zkz:OpR X (compareOp .In) (rIn X.K false):=by
 intro pins s σ H x y v u Q I rx ry h
 obtain⟨p,xs,rfl,hq,fx,fs,q⟩:=h
 cases ry
 rcases hq with hq|hq
 ·obtain⟨its,r,pl,hz⟩:=I.list hq
  refine SeqAt.in_listAt (eqU x) pl.isList (fun w hw=>zjE rx fx r fs w (by simpa using hw)) ⟨.bl _,H,I,rfl,?_⟩
  rw[show its.toArray.any (eqU x)=its.any (eqU x) by simp,zlG r fs]
  exact q
 ·obtain⟨its,r,pl,hz⟩:=I.tuple hq
  refine SeqAt.in_tupleAt (eqU x) pl (fun w hw=>zjE rx fx r fs w (by simpa using hw)) ⟨.bl _,H,I,rfl,?_⟩
  rw[show its.toArray.any (eqU x)=its.any (eqU x) by simp,zlG r fs]
  exact q
theorem zaM:zhF X (.builtin "len") (fun xs H Q=>∃p ys,xs=[.ref p]∧(SqL X.K H p ys∨SqT X.K H p ys)∧Q (.int ys.length) H):=by
 intro pins s σ H xs us Q I r h
 obtain⟨p,ys,rfl,hq,q⟩:=h
 obtain⟨u,rfl,rx⟩:=zkx r
 cases rx
 have hn:=zkV
 rcases hq with hq|hq
 ·obtain⟨its,r',pl,hz⟩:=I.list hq
  have hlen:=r'.length
  exact Calls.call_len_list pl.isList (by simp only[List.size_toArray] <;> omega) ⟨.int ys.length,H,I.tok _,⟨s.toks+1,by rw[List.size_toArray,hlen]⟩,q⟩
 ·obtain⟨its,r',pl,hz⟩:=I.tuple hq
  have hlen:=r'.length
  exact len_tuple pl (by simp only[List.size_toArray] <;> omega) ⟨.int ys.length,H,I.tok _,⟨s.toks+1,by rw[List.size_toArray,hlen]⟩,q⟩
theorem zhm:zhF X (.builtin "len") (fun xs H Q=>∃z,xs=[.str z]∧z.length≤sizeLine∧Q (.int z.length) H):=by
 intro pins s σ H xs us Q I r h
 obtain⟨z,rfl,hz,q⟩:=h
 obtain⟨u,rfl,t,rfl⟩:=zkx r
 have hn:=zkV
 exact len_str (by omega) ⟨.int z.length,H,I.tok _,⟨_,rfl⟩,q⟩
def tyV (K:PySem.W.Frag) (T:String) (x:V) (H:Hp):Prop:=match x with
 | .str _=>T = "str"
 | .int _=>T = "int"
 | .ref p=>(T = "list"∧∃xs,SqL K H p xs)∨(T = "tuple"∧∃o,K.lookup p=some o∧o.cls=.type "tuple"∧o.dict=none) ∨
   (T = "dict"∧((∃kvs,H p=some (.dK kvs))∨∃kvs,H p=some (.dT kvs)))∨(T = "set"∧∃S n,H p=some (.set S n))
 | _=>False
theorem zqZ {pins:List (Addr×Obj)} {σ:St} {H:Hp} {s:Shared} {T:String} {x:V} {v:Value} (I:Inv X pins σ H s) (r:RelV x v) (ty:tyV X.K T x H) :
  s.TypeIs v T∧∀a,v=.ref a→∃ob,s.heap.get? a=some ob∧ob.dict=none:=by
 cases x with
 | str z=>
  obtain⟨t,rfl⟩:=r
  cases (show T = "str" from ty)
  exact⟨typeIs_str s z t,fun _ e=>nomatch e⟩
 | int i=>
  obtain⟨t,rfl⟩:=r
  cases (show T = "int" from ty)
  exact⟨typeIs_int s i t,fun _ e=>nomatch e⟩
 | ref p=>
  cases r
  rcases ty with ⟨rfl,xs,hq⟩|⟨rfl,o,hk,hc,hd⟩|⟨rfl,hk⟩|⟨rfl,S,n,hk⟩
  ·obtain⟨its,_,pl,_⟩:=I.list hq
   refine⟨pl.isList.typeIs,fun a e=>?_⟩
   cases e
   obtain⟨o,n,e,c,hd,_⟩:=pl
   exact⟨o,e,hd⟩
  ·refine⟨⟨o,I.kIn p o hk,hc⟩,fun a e=>?_⟩
   cases e
   exact⟨o,I.kIn _ o hk,hd⟩
  ·have z:∃o,s.heap.get? p=some o∧o.ExactDict:=by
    rcases hk with ⟨kvs,hk⟩|⟨kvs,hk⟩
    ·obtain⟨_,_,_,_,o,_,_,e,ex,_⟩:=I.hok p _ hk
     exact⟨o,e,ex⟩
    ·obtain⟨_,_,_,_,o,_,_,e,ex,_⟩:=I.hok p _ hk
     exact⟨o,e,ex⟩
   obtain⟨o,e,ex⟩:=z
   refine⟨⟨o,e,ex.1⟩,fun a e2=>?_⟩
   cases e2
   exact⟨o,e,ex.2.1⟩
  ·obtain⟨o,_,_,_,e,ex,_⟩:=I.hok p _ hk
   refine⟨⟨o,e,ex.1⟩,fun a e2=>?_⟩
   cases e2
   exact⟨o,e,ex.2.1⟩
 | _=>exact False.elim ty
def tBM (K:PySem.W.Frag) (T:String) (r:V→List V→Hp→VK→Prop) (to:TE) (t:TA):TE:=fun σ H Q=>to σ H fun x H1=>tyV K T x H1∧t σ H1 fun xs H2=>r x xs H2 Q
variable {o e:Expr} {es:List Expr} {to:TE} {t:TA} {name:Str} {apos cpos:Pos} {T id:String} {r:V→List V→Hp→VK→Prop}
theorem zdm (pa:PlainAttrs T) (slot:Slot T name id) (hty:typeOf (.builtin id)=pure (.type "method_descriptor")) (hm:MtR X id r) (ho:PE X o to) (ha:PA X (e::es) t)
  (hbase:attributeBase o name X.env (eval o X.env)=eval o X.env:=by rfl)
  (hfew:((backTo cpos (starEach (e::es) X.env)).all (fun x=>!x.1) && (backToKw cpos (keywordEach [] X.env)).all (fun x=>x.1.isSome)
   && decide ((e::es).length+([]:List Keyword).length+(if ([]:List Keyword).isEmpty then 0 else 1)<30))=true:=by rfl)
  (hline:(apos.endLine == cpos.line)=true:=by rfl) (hs:starEach (e::es) X.env=(false,eval e X.env)::starEach es X.env:=by rfl) (hplain:(backTo cpos (starEach es X.env)).any (·.1)=false:=by rfl) :
  PE X (.Call (.Attribute o name apos) (e::es) [] cpos) (tBM X.K T r to t):=by
 intro pins s σ H Q I h
 refine wpAny_Call_method_late hbase hfew hline rfl (thn (ho pins s σ H _ I h) fun v s1 ⟨x,H1,I1,r1,ty,q1⟩=>?_)
 obtain⟨h1,h2⟩:=zqZ I1 r1 ty
 refine⟨T,id,pa,slot,hty,h1,h2,?_⟩
 have hA:=ha cpos pins s1 σ H1 _ I1 q1
 rw[hs] at hA ⊢
 refine Calls.callWith_builtin (by show (false || (backTo cpos (starEach es X.env)).any (·.1))=false;rw[hplain] <;> rfl) (Calls.evalArgs_plain ?_)
 exact thn hA fun us s2 ⟨vs,H2,I2,r2,q2⟩=>hm pins s2 σ H2 x vs v us Q I2 r1 r2 q2
end
end L2
namespace L2
open PySem PySem.Spec PyProof.Rows
def MtM (X:Cx) (id:String) (r:V→List V→Hp→VK→Prop):Prop:=
 ∀(pins:List (Addr×Obj)) (s:Shared) (σ:St) (H:Hp) (x:V) (xs:List V) (v:Value) (us:List Value) (Q:VK),Inv X pins σ H s→RelV x v→Vals xs us→r x xs H Q →
  wpAny (model X.prog X.w) X.A (call (.builtin id) (v::us)) (EP X pins σ Q) X.xe s
theorem Vals.one:∀ {x:V} {us:List Value},Vals [x] us→∃u,us=[u]∧RelV x u
 | _,_,.cons r .nil=>⟨_,rfl,r⟩
theorem Vals.eraseIdx:∀ {xs:List V} {us:List Value} (i:Nat),Vals xs us→Vals (xs.eraseIdx i) (us.eraseIdx i)
 | _,_,_,.nil=>.nil
 | _,_,0,.cons _ t=>t
 | _,_,i+1,.cons r t=>.cons r (Vals.eraseIdx i t)
theorem zk5 {α:Type}:∀(l:List α) (i:Nat),(l.eraseIdx i).length≤l.length
 | [],_=>Nat.le_refl _
 | _::_,0=>Nat.le_succ _
 | _::r,i+1=>Nat.succ_le_succ (zk5 r i)
section
variable {X:Cx} {pins:List (Addr×Obj)} {σ:St} {H:Hp} {s:Shared} {l b:Addr} {xs ys zs:List V}
theorem Inv.lset {its its':List Value} {n:Nat} {f:Array Value→Array Value} {t':Nat} (I:Inv X pins σ H s) (hH:H l=some (.lst xs))
  (e:s.heap.get? l=some { cls:=.type "list",data:=.seq its.toArray n }) (hf:f its.toArray=its'.toArray) (hv:Vals ys its') (hz:ys.length≤sizeLine) :
  Inv X pins σ (upd H l (.lst ys)) { s with heap:=s.heap.update l (Obj.mapSeq f),toks:=t' }:=by
 have q:=PySem.IsL.update e f
 rw[hf] at q
 refine I.write (x:=l) (e:=l) (by rw[hH];exact trivial) (.inl rfl) (fun b' u hb hu=>(Heap.get?_update_other s.heap (Obj.mapSeq f) (Ne.symm hb)).trans hu) ⟨_,q⟩ ?_
 exact⟨hz,its',_,hv,q⟩
theorem Inv.lnew {its:List Value} {t':Nat} (I:Inv X pins σ H s) (hv:Vals ys its) (hz:ys.length≤sizeLine) :
  Inv X pins σ (upd H s.heap.objs.size (.lst ys)) { s with heap:=s.heap.push { cls:=.type "list",data:=.seq its.toArray },toks:=t' }:=
 I.laid (fun _ _ q=>Heap.get?_push_of_some _ q) (Nat.le_refl _) ⟨hz,its,0,hv,Heap.get?_push_size _ rfl⟩
theorem Inv.fresh (I:Inv X pins σ H s):H s.heap.objs.size=none:=I.hok.fresh (Nat.le_refl _)
theorem Inv.lstM (I:Inv X pins σ H s) (hH:H l=some (.lst xs)):xs.length≤sizeLine∧∃(its:List Value) (n:Nat),Vals xs its∧xs.length=its.length∧s.heap.get? l=some { cls:=.type "list",data:=.seq its.toArray n }:=by
 obtain⟨z,its,n,r,e⟩:=I.hok l _ hH
 exact⟨z,its,n,r,r.length,e⟩
theorem zmn {n:Nat} (h:n≤sizeLine):Builtin.List.listTooLong n=false:=by
 unfold Builtin.List.listTooLong
 exact decide_eq_false (by omega)
end
section
variable {X:Cx}
def zhg:V→List V→Hp→VK→Prop:=fun x vs H Q=>∃l xs y,x=.ref l∧vs=[y]∧H l=some (.lst xs)∧xs.length<sizeLine∧Q .non (upd H l (.lst (xs++[y])))
theorem zbH:MtM X "list.append" zhg:=by
 intro pins s σ H x vs v us Q I rx rv h
 obtain⟨l,xs,y,rfl,rfl,hH,hz,q⟩:=h
 cases rx
 obtain⟨u,rfl,ru⟩:=rv.one
 obtain⟨z,its,n,r,hl,e⟩:=I.lstM hH
 refine call_meets F.slot_list_append ⟨_,e,rfl⟩ F.entry_list_append (F.args_list_append_2 _ _) (PySem.list_append l its.toArray n u (by rw[List.size_toArray];omega)) ⟨e,?_⟩
 refine⟨.non,_,I.lset (its':=its++[u]) hH e (by simp) (r.append (.cons ru .nil)) ?_,rfl,q⟩
 rw[List.length_append,List.length_singleton]
 omega
def zqb:V→List V→Hp→VK→Prop:=fun x vs H Q=>∃l b xs zs,x=.ref l∧vs=[.ref b]∧H l=some (.lst xs)∧H b=some (.lst zs)∧xs.length+zs.length≤sizeLine∧Q .non (upd H l (.lst (xs++zs)))
theorem zoo:MtM X "list.extend" zqb:=by
 intro pins s σ H x vs v us Q I rx rv h
 obtain⟨l,b,xs,zs,rfl,rfl,hH,hB,hz,q⟩:=h
 cases rx
 obtain⟨u,rfl,ru⟩:=rv.one
 cases ru
 obtain⟨z,its,n,r,hl,e⟩:=I.lstM hH
 obtain⟨z2,its2,n2,r2,hl2,e2⟩:=I.lstM hB
 have hsz:its.toArray.size+its2.toArray.size≤sizeLine:=by rw[List.size_toArray,List.size_toArray];omega
 have hlong:¬ (!its.toArray.isEmpty && Builtin.List.listTooLong (its.toArray.size+its2.toArray.size))=true:=by
  rw[zmn hsz,Bool.and_false]
  exact Bool.false_ne_true
 refine call_meets F.slot_list_extend ⟨_,e,rfl⟩ F.entry_list_extend (F.args_list_extend_2 _ _)
  (AutoSeq1.list_extend_list_list_0 l its.toArray n b its2.toArray n2 hlong (by rw[List.size_toArray];omega) (by omega)) ⟨e,e2,?_⟩
 refine⟨.non,_,I.lset (its':=its++its2) hH e (by simp) (r.append r2) ?_,rfl,q⟩
 rw[List.length_append]
 omega
def zpK:V→List V→Hp→VK→Prop:=fun x vs H Q=>∃l xs i k y,x=.ref l∧vs=[.int i]∧H l=some (.lst xs)∧-(2 ^ 63)≤i∧i<2 ^ 63∧seqIndex? i xs.length=some k∧xs[k]?=some y∧Q y (upd H l (.lst (xs.eraseIdx k)))
theorem zo5:MtM X "list.pop" zpK:=by
 intro pins s σ H x vs v us Q I rx rv h
 obtain⟨l,xs,i,k,y,rfl,rfl,hH,h1,h2,hk,hy,q⟩:=h
 cases rx
 obtain⟨u,rfl,ru⟩:=rv.one
 obtain⟨t,rfl⟩:=ru
 obtain⟨z,its,n,r,hl,e⟩:=I.lstM hH
 obtain⟨w,hw,rw'⟩:=r.get hy
 refine call_meets F.slot_list_pop ⟨_,e,rfl⟩ F.entry_list_pop (F.args_list_pop_2 _ _)
  (MeetsSeq.list_pop_at l its.toArray n i t k w (fitsIndex_both h1 h2) (by rw[List.size_toArray,← hl];exact hk) (by rw[← Array.getElem?_toList];exact hw) (by rw[List.size_toArray];omega)) ⟨e,?_⟩
 refine⟨y,_,I.lset (its':=its.eraseIdx k) hH e ?_ (r.eraseIdx k) ?_,rw',q⟩
 ·show its.toArray.eraseIdxIfInBounds k=(its.eraseIdx k).toArray
  rw[List.eraseIdxIfInBounds_toArray]
 ·have:=zk5 xs k
  omega
end
section
variable {prog:Program} {w:World} {A:Around} {E:Value→Shared→Prop} {s:Shared}
end
section
variable {X:Cx}
end
end L2
namespace L2
open PySem PySem.Spec PyProof.Rows
section
variable {κ:Type} [DecidableEq κ]
def valV (kvs:List (κ×V)) (k:κ):Option V:=(kvs.find? fun kv=>decide (kv.1=k)).map (·.2)
def putK (kvs:List (κ×V)) (k:κ) (v:V):List (κ×V):=
 if (kvs.any fun kv=>decide (kv.1=k))=true then kvs.map (fun kv=>if kv.1=k then (kv.1,v) else kv) else kvs++[(k,v)]
theorem zjX {p:κ×V} {r:List (κ×V)} {k:κ} (e:p.1=k):valV (p::r) k=some p.2:=by simp[valV,List.find?_cons,e]
theorem zjA {p:κ×V} {r:List (κ×V)} {k:κ} (e:¬ p.1=k):valV (p::r) k=valV r k:=by simp[valV,List.find?_cons,e]
theorem zme (k:κ):∀kvs:List (κ×V),(kvs.any fun kv=>decide (kv.1=k))=(valV kvs k).isSome
 | []=>rfl
 | p::r=>by
  rw[List.any_cons]
  by_cases e:p.1=k
  ·simp only[zjX e,decide_eq_true e,Bool.true_or,Option.isSome_some]
  ·rw[zjA e,decide_eq_false e,Bool.false_or];exact zme k r
theorem ziv (kvs:List (κ×V)) (k:κ) (v:V):(putK kvs k v).length≤kvs.length+1:=by
 unfold putK
 split
 ·rw[List.length_map];omega
 ·rw[List.length_append,List.length_cons,List.length_nil];omega
theorem RelO.isSome_eq {o:Option V} {u:Option Value} (r:RelO o u):o.isSome=u.isSome:=by
 cases o with
 | none=>cases u with
  | none=>rfl
  | some _=>exact (show False from r).elim
 | some _=>cases u with
  | none=>exact (show False from r).elim
  | some _=>rfl
theorem KV.val {kvs:List (κ×V)} {vs:List (κ×Value)} (r:KV kvs vs) (k:κ):RelO (valV kvs k) (valueAt vs k):=by
 unfold KV at r
 induction r with
 | nil=>exact True.intro
 | @cons p q ps qs h t ih=>
  obtain⟨h1,h2⟩:=h
  by_cases e:p.1=k
  ·have e':q.1=k:=h1.symm.trans e
   have b:valueAt (q::qs) k=some q.2:=by simp[valueAt,List.find?_cons,e']
   rw[zjX e,b];exact h2
  ·have e':¬ q.1=k:=fun z=>e (h1.trans z)
   have b:valueAt (q::qs) k=valueAt qs k:=by simp[valueAt,List.find?_cons,e']
   rw[zjA e,b];exact ih
theorem KV.any {kvs:List (κ×V)} {vs:List (κ×Value)} (r:KV kvs vs) (k:κ):(kvs.any fun kv=>decide (kv.1=k))=vs.any fun kv=>decide (kv.1=k):=by
 unfold KV at r
 induction r with
 | nil=>rfl
 | cons h t ih=>rw[List.any_cons,List.any_cons,ih,h.1]
theorem KV.repl {kvs:List (κ×V)} {vs:List (κ×Value)} (r:KV kvs vs) (k:κ) {y:V} {u:Value} (ry:RelV y u) :
  KV (kvs.map fun kv=>if kv.1=k then (kv.1,y) else kv) (vs.map fun kv=>if kv.1=k then (kv.1,u) else kv):=by
 unfold KV at r ⊢
 induction r with
 | nil=>exact .nil
 | @cons p q ps qs h t ih=>
  rw[List.map_cons,List.map_cons]
  refine .cons ?_ ih
  obtain⟨h1,h2⟩:=h
  by_cases e:p.1=k
  ·rw[if_pos e,if_pos (h1.symm.trans e)];exact⟨h1,ry⟩
  ·rw[if_neg e,if_neg (fun z=>e (h1.trans z))];exact⟨h1,h2⟩
theorem KV.put {kvs:List (κ×V)} {vs:List (κ×Value)} (r:KV kvs vs) (k:κ) {y:V} {u:Value} (ry:RelV y u):KV (putK kvs k y) (stored vs k u):=by
 unfold putK stored
 rw[r.any k]
 by_cases e:(vs.any fun kv=>decide (kv.1=k))=true
 ·rw[if_pos e,if_pos e];exact r.repl k ry
 ·rw[if_neg e,if_neg e];exact Paired.snoc r ⟨rfl,ry⟩
theorem KV.length {kvs:List (κ×V)} {vs:List (κ×Value)} (r:KV kvs vs):kvs.length=vs.length:=Paired.length r
end
theorem zql {P:Program} {w:World} {k:Key} {u:Value} (r:RelV (kV k) u):(zdC P w).is k u=true:=by
 cases k with
 | inl i=>obtain⟨t,e⟩:=(show ∃t,u=Value.int i t from r);subst e;exact zlj P w i t
 | inr x=>obtain⟨t,e⟩:=(show ∃t,u=Value.str x t from r);subst e;exact zly P w x t
theorem zk8 {P:Program} {w:World}:∀ {ks:List Key} {us:List Value},Vals (ks.map kV) us→ItemsAre (zdC P w) ks us
 | [],_,r=>by rw[List.map_nil] at r;cases r;exact .nil
 | k::ks,_,r=>by
  rw[List.map_cons] at r
  cases r with
  | cons h t=>exact .cons (zql h) (zk8 t)
abbrev KT (H:Hp):List (List Key×V)→List (List Key×Addr×Value)→Prop:=Paired fun p q=>p.1=q.1∧H q.2.1=some (.tup (p.1.map kV))∧RelV p.2 q.2.2
theorem KT.val {H:Hp} {kvs:List (List Key×V)} {xs:List (List Key×Addr×Value)} (r:KT H kvs xs) (k:List Key):RelO (valV kvs k) ((atKey xs k).map (·.2)):=by
 induction r with
 | nil=>exact True.intro
 | @cons p q ps qs h t ih=>
  obtain⟨h1,_,h2⟩:=h
  by_cases e:p.1=k
  ·have e':q.1=k:=h1.symm.trans e
   have b:atKey (q::qs) k=some q.2:=by simp[atKey,List.find?_cons,e']
   rw[zjX e,b];exact h2
  ·have e':¬ q.1=k:=fun z=>e (h1.trans z)
   have b:atKey (q::qs) k=atKey qs k:=by simp[atKey,List.find?_cons,e']
   rw[zjA e,b];exact ih
theorem KT.repl {H:Hp} {kvs:List (List Key×V)} {xs:List (List Key×Addr×Value)} (r:KT H kvs xs) (k:List Key) {y:V} {u:Value} (ry:RelV y u) :
  KT H (kvs.map fun kv=>if kv.1=k then (kv.1,y) else kv) (xs.map (putAt k u)):=by
 induction r with
 | nil=>exact .nil
 | @cons p q ps qs h t ih=>
  rw[List.map_cons,List.map_cons]
  refine .cons ?_ ih
  obtain⟨h1,h2,h3⟩:=h
  unfold putAt
  by_cases e:p.1=k
  ·rw[if_pos e,if_pos (h1.symm.trans e)];exact⟨h1,h2,ry⟩
  ·rw[if_neg e,if_neg (fun z=>e (h1.trans z))];exact⟨h1,h2,h3⟩
theorem KT.put {H:Hp} {kvs:List (List Key×V)} {xs:List (List Key×Addr×Value)} (r:KT H kvs xs) (k:List Key) {b:Addr} {y:V} {u:Value} (hb:H b=some (.tup (k.map kV))) (ry:RelV y u) :
  KT H (putK kvs k y) (storedH xs k b u):=by
 have e:(kvs.any fun kv=>decide (kv.1=k))=(atKey xs k).isSome:=by
  rw[zme,(r.val k).isSome_eq,Option.isSome_map]
 unfold putK storedH
 rw[e]
 by_cases q:(atKey xs k).isSome=true
 ·rw[if_pos q,if_pos q];exact r.repl k ry
 ·rw[if_neg q,if_neg q];exact Paired.snoc r ⟨rfl,hb,ry⟩
theorem KT.keeps {H H':Hp} {kvs:List (List Key×V)} {xs:List (List Key×Addr×Value)} (r:KT H kvs xs) (ht:∀b ys,H b=some (.tup ys)→H' b=some (.tup ys)):KT H' kvs xs:=
 Paired.mapP r fun _ _ z=>⟨z.1,ht _ _ z.2.1,z.2.2⟩
section
variable {P:Program} {w:World} {H:Hp} {h:Heap} {a:Addr}
theorem zrw {u:HO} (ok:HOk P w H h) (e:Rd H a u):ObjOk P w H h a u:=e.ok ok
theorem zrh {kvs:List (Key×V)} (ok:HOk P w H h) (e:Rd H a (.dK kvs)):kvs.length≤sizeLine∧(a == sysModules)=false∧∃vs,KV kvs vs∧h.DictOf (zdC P w) a vs:=
 show ObjOk P w H h a (.dK kvs) from zrw ok e
theorem zsh {kvs:List (Key×V)} (ok:HOk P w H h) (e:H a=some (.dK kvs)):kvs.length≤sizeLine∧(a == sysModules)=false∧∃vs,KV kvs vs∧h.DictOf (zdC P w) a vs:=zrh ok (.inl e)
theorem zoj {ks:List Key} (ok:HOk P w H h) (e:H a=some (.tup (ks.map kV))):(tupleKind (zdC P w)).is h ks a:=by
 obtain⟨_,its,r,o,h1,h2,n,h3⟩:=(show ObjOk P w H h a (.tup (ks.map kV)) from ok a _ e)
 exact⟨o,its.toArray,n,h1,h2,h3,by simpa using zk8 r⟩
theorem zrR {kvs:List (List Key×V)} (ok:HOk P w H h) (e:Rd H a (.dT kvs)):kvs.length≤sizeLine∧(a == sysModules)=false ∧
  ∃xs,KT H kvs xs∧h.DictOfH (tupleKind (zdC P w)) a xs:=by
 obtain⟨z,y,xs,r,o,es,ep,h1,h2,h3,h4,h5⟩:=(show ObjOk P w H h a (.dT kvs) from zrw ok e)
 refine⟨z,y,xs,r,o,es,ep,h1,h2,h3,h4,fun x hx=>?_,h5⟩
 have all:∀ {l:List (List Key×V)} {m:List (List Key×Addr×Value)},KT H l m→∀x∈m,(tupleKind (zdC P w)).is h x.1 x.2.1:=by
  intro l m q
  induction q with
  | nil=>intro x hx;exact nomatch hx
  | @cons p q ps qs hq t ih=>
   intro x hx
   rcases List.mem_cons.mp hx with e|hx
   ·subst e
    exact zoj ok (by rw[← hq.1];exact hq.2.1)
   ·exact ih x hx
 exact all r x hx
theorem zsc {kvs:List (List Key×V)} (ok:HOk P w H h) (e:H a=some (.dT kvs)):kvs.length≤sizeLine∧(a == sysModules)=false ∧
  ∃xs,KT H kvs xs∧h.DictOfH (tupleKind (zdC P w)) a xs:=zrR ok (.inl e)
end
def DGet (H:Hp) (a:Addr) (y:V) (r:Option V):Prop:=
 (∃kvs k,Rd H a (.dK kvs)∧y=kV k∧r=valV kvs k)∨∃kvs k b,Rd H a (.dT kvs)∧y=.ref b∧H b=some (.tup (k.map kV))∧r=valV kvs k
def DPut (H:Hp) (a:Addr) (y v:V) (H':Hp):Prop:=
 (∃kvs k,H a=some (.dK kvs)∧y=kV k∧kvs.length<sizeLine∧H'=upd H a (.dK (putK kvs k v))) ∨
 ∃kvs k b,H a=some (.dT kvs)∧y=.ref b∧H b=some (.tup (k.map kV))∧kvs.length<sizeLine∧H'=upd H a (.dT (putK kvs k v))
theorem DGet.k {H:Hp} {a:Addr} {kvs:List (Key×V)} {k:Key} (e:H a=some (.dK kvs)):DGet H a (kV k) (valV kvs k):=.inl ⟨kvs,k,.inl e,rfl,rfl⟩
theorem DPut.k {H:Hp} {a:Addr} {kvs:List (Key×V)} {k:Key} {v:V} (e:H a=some (.dK kvs)) (hl:kvs.length<sizeLine):DPut H a (kV k) v (upd H a (.dK (putK kvs k v))):=.inl ⟨kvs,k,e,rfl,hl,rfl⟩
section
variable {X:Cx} {pins:List (Addr×Obj)} {σ:St} {H:Hp} {s:Shared} {a:Addr} {y v:V} {u r:Value} {o:Option V} {A:Around} {E:Value→Shared→Prop}
theorem Inv.big (I:Inv X pins σ H s):sysModules<s.heap.objs.size:=by
 have h:mainGlobals<s.heap.objs.size:=(I.mod.glob.keeps I.bk).lt
 exact Nat.lt_trans (by decide) h
theorem zqN {Q:Value→Shared→Prop} (hu:A.units+1<cLine) (I:Inv X pins σ H s) (g:DGet H a y o) (ry:RelV y u) (h:∀s',Inv X pins σ H s'→Q (.bool (!o.isSome)) s') :
  wpAny (model X.prog X.w) A (compareOp .NotIn u (.ref a)) Q E s:=by
 rcases g with ⟨kvs,k,e,ey,l⟩|⟨kvs,k,b,e,ey,eb,l⟩
 ·subst ey
  obtain⟨z,hd,vs,rel,dd⟩:=zrh I.hok e
  refine wpAny_notIn_of (zql ry) hd dd.mapOf ?_
  rw[← (rel.val k).isSome_eq,← l]
  exact h _ (I.tok _)
 ·subst ey
  cases (show u=Value.ref b from ry)
  obtain⟨z,hd,xs,rel,dd⟩:=zrR I.hok e
  refine wpAny_notIn_heap (tupleKind_room_in1 hu) (zoj I.hok eb) hd dd ?_
  have q:=(rel.val k).isSome_eq
  rw[Option.isSome_map] at q
  rw[← q,← l]
  exact h _ (I.tok _)
theorem zn8 {h':Heap} {t':Nat} {ob:HO} (I:Inv X pins σ H s) (mu:Mut (H a)) (hs:Heap.SameBut a s.heap h') (he:∃q,h'.get? a=some q) (new:ObjOk X.prog X.w (upd H a ob) h' a ob) :
  Inv X pins σ (upd H a ob) { s with heap:=h',toks:=t' }:=
 I.write (x:=a) (e:=a) mu (.inl rfl) (fun b q hb z=>(hs.2 b hb).trans z) he new
theorem zrG {P:Program} {w:World} {H':Hp} {h':Heap} {kvs:List (Key×V)} {vs:List (Key×Value)} (z:kvs.length≤sizeLine) (hd:(a == sysModules)=false) (rel:KV kvs vs) (dd:h'.DictOf (zdC P w) a vs) :
  ObjOk P w H' h' a (.dK kvs):=⟨z,hd,vs,rel,dd⟩
theorem znq {H':Hp} {Q:Unit→Shared→Prop} (hu:A.units+1<cLine) (I:Inv X pins σ H s) (g:DPut H a y v H') (ry:RelV y u) (rv:RelV v r) (h:∀s',Inv X pins σ H' s'→Q () s') :
  wpAny (model X.prog X.w) A (setItem (.ref a) u r) Q E s:=by
 rcases g with ⟨kvs,k,e,ey,l,eH⟩|⟨kvs,k,b,e,ey,eb,l,eH⟩
 ·subst ey eH
  obtain⟨z,hd,vs,rel,dd⟩:=zsh I.hok e
  have hz:vs.length≤sizeLine:=by rw[← rel.length];exact z
  have hl:(putK kvs k v).length≤sizeLine:=by have:=ziv kvs k v;omega
  refine wpAny_setItem_pairs (hsz:=hz) (zql ry) dd fun h' dd' hs=>h _ ?_
  have he:∃q,h'.get? a=some q:=let ⟨q,_,_,hq,_⟩:=dd';⟨q,hq⟩
  exact zn8 I (by rw[e];exact True.intro) hs he (zrG hl hd (rel.put k rv) dd')
 ·subst ey eH
  cases (show u=Value.ref b from ry)
  obtain⟨z,hd,xs,rel,dd⟩:=zsc I.hok e
  have hz:xs.length≤sizeLine:=by rw[← Paired.length rel];exact z
  have hl:(putK kvs k v).length≤sizeLine:=by have:=ziv kvs k v;omega
  refine wpAny_setItem_heap (hsz:=hz) (tupleKind_room_in1 hu) (zoj I.hok eb) dd fun h' dd' hs=>h _ ?_
  obtain⟨q,es,ep,hq,h2,h3,h4,_,h5⟩:=dd'
  refine zn8 I (by rw[e];exact True.intro) hs ⟨q,hq⟩ ⟨hl,hd,_,(rel.put k eb rv).keeps fun c ys ec=>?_,q,es,ep,hq,h2,h3,h4,h5⟩
  rw[zaz (zsg ec e (fun z=>nomatch z))]
  exact ec
end
section
variable {X:Cx} {pins:List (Addr×Obj)} {σ:St} {H:Hp} {s:Shared} {a:Addr} {kvs:List (Key×V)} {k:Key} {u:Value} {A:Around} {E:Value→Shared→Prop}
end
def znl (ty td:TE):TE:=fun σ H Q=>ty σ H fun y H1=>td σ H1 fun x H2=>∃a o,x=.ref a∧DGet H2 a y o∧Q (.bl (!o.isSome)) H2
def zru (td ty tv:TE):TS:=fun D σ H=>tv σ H fun v H1=>td σ H1 fun x H2=>ty σ H2 fun y H3=>∃a H4,x=.ref a∧DPut H3 a y v H4∧D.nx σ H4
section
variable {X:Cx} {o i e value:Expr} {pos pos' tpos:Pos} {td ty tv:TE}
theorem znD (hu:X.A.units+1<cLine) (hi:PE X i ty) (ho:PE X o td):PC X .NotIn i o (znl ty td):=by
 intro pins s σ H Q I h
 refine thn (hi pins s σ H _ I h) fun iv s1 ⟨y,H1,I1,ry,q1⟩=>thn (ho pins s1 σ H1 _ I1 q1) fun u s2 ⟨x,H2,I2,rx,a,ov,ex,g,q2⟩=>?_
 subst ex
 obtain rfl:u=Value.ref a:=rx
 exact zqN hu I2 g ry fun s3 I3=>⟨.bl (!ov.isSome),H2,I3,rfl,q2⟩
theorem zqD (hu:X.A.units+1<cLine) (ho:PE X o td) (hi:PE X i ty) (hv:PE X value tv) (hs:swapsWith value (some (.Subscript o i pos')) pos.line X.env=pure false) :
  PS X (.Assign [.Subscript o i pos'] value pos) (zru td ty tv):=by
 intro pins s σ H D I h
 refine wpAny_Assign_Subscript (thn (hv pins s σ H _ I h) fun r s1 ⟨v,H1,I1,rv,q1⟩=>thn (ho pins s1 σ H1 _ I1 q1) fun u s2 ⟨x,H2,I2,rx,q2⟩=>thn (hi pins s2 σ H2 _ I2 q2) fun iv s3 ⟨y,H3,I3,ry,a,H4,ex,g,q3⟩=>?_) hs
 subst ex
 obtain rfl:u=Value.ref a:=rx
 exact znq hu I3 g ry rv fun s4 I4=>⟨σ,H4,I4,q3⟩
end
theorem zpi {P:Program} {w:World} {H:Hp} (h:Heap) (hb:sysModules<h.objs.size):ObjOk P w H (h.push { cls:=.type "dict",data:=.dict #[] }) h.objs.size (.dK []):=
 ⟨Nat.zero_le _,beq_eq_false_iff_ne.mpr (Ne.symm (Nat.ne_of_lt hb)),[],.nil,Heap.DictOf.new h⟩
def zpy:TE:=fun _ H Q=>∀p,H p=none→Q (.ref p) (upd H p (.dK []))
section
variable {X:Cx} {pos:Pos}
theorem zpb:PE X (.Dict [] [] pos) zpy:=fun pins s σ H Q I h=>
 wpAny_Dict_empty ⟨.ref s.heap.objs.size,_,I.laid (a:=s.heap.objs.size) (o:=.dK []) (t':=s.toks) (fun _ _ q=>Heap.get?_push_of_some _ q) (Nat.le_refl _) (zpi s.heap I.big),rfl,h _ (I.hok.fresh (Nat.le_refl _))⟩
end
section
variable {X:Cx} {pins:List (Addr×Obj)} {σ:St} {H:Hp} {s:Shared} {a:Addr} {y d:V} {u r:Value} {o:Option V} {A:Around} {E:Value→Shared→Prop}
end
section
variable {X:Cx} {o e f:Expr} {apos cpos:Pos} {td ty tx:TE}
end
section
variable {X:Cx} {pins:List (Addr×Obj)} {σ:St} {H:Hp} {s:Shared} {a:Addr} {kvs:List (Key×V)} {A:Around} {E:Value→Shared→Prop}
end
section
variable {X:Cx} {pins:List (Addr×Obj)} {σ:St} {H:Hp} {s:Shared} {a:Addr} {y:V} {u:Value} {A:Around} {E:Value→Shared→Prop}
end
end L2
namespace Att
open PySem PySem.W PySem.Calls PyProof.Rows
theorem ziy {P:Params} {h:Heap}:∀(ns:List Int) (vs:List Value),WellAll P h vs (ns.map WData.int)→IntsAre vs ns:=by
 intro ns
 induction ns with
 | nil=>
  intro vs w
  rw[List.map_nil] at w
  cases w
  exact .nil
 | cons n ns ih=>
  intro vs w
  rw[List.map_cons] at w
  cases w with
  | cons a b=>
   cases a
   exact .cons _ _ (ih _ b)
theorem zob {l:OpenLaw} {n:Nat} (hn:l.most=some n) {P:Params} {h:Heap} {args:List WData} {vals:List Value}
  (hpre:l.row.toRowW.claim.pre args=true) (hwl:WellAll P h vals args) :
  ∃a vs ns,vals=[Value.ref a]∧args=[WData.list (ns.map WData.int)]∧h.get? a=some { cls:=.type "list",data:=.seq vs.toArray }∧IntsAre vs ns∧ns.length≤n:=by
 have hsh:WShape.hasAll [] args [.list .int]=true:=(pre_splitW hpre).1
 have hc:l.pre.holds [] { args:=args }=true:=(pre_splitW hpre).2
 obtain⟨d,r,rfl,h1,h2⟩:=hasAllW_cons hsh
 obtain rfl:=hasAllW_nil h2
 obtain⟨xs,rfl,h3⟩:=hasW_list h1
 obtain⟨ns,rfl⟩:=items_int h3
 have hlen:ns.length≤n:=by
  unfold OpenLaw.pre at hc
  have h4:(WTm.not (.lt (.lit (.int (n:Int))) (.len (.arg 0)))).holds [] { args:=[.list (ns.map .int)] }=true:=by
   have h4:=(holds_andW hc).1
   rw[hn] at h4
   exact h4
  have h5:=condW_of h4 (w_not (w_lt w_lit (w_len_list (w_arg rfl))))
  rw[List.length_map] at h5
  refine Nat.le_of_not_lt fun q=>?_
  have q':(n:Int)<((ns.length:Nat):Int):=by omega
  first
   | (rw[decide_eq_true q'] at h5;exact absurd h5 (by decide))
   | (simp at h5;omega)
 cases hwl with
 | cons w1 w2=>
  cases w2
  cases w1 with
  | list ho hall=>exact⟨_,_,ns,rfl,rfl,ho,ziy ns _ hall,hlen⟩
theorem zoA (l:OpenLaw) (args:List WData):l.row.toRowW.claim.post args (.bool true) args=true:=
 postW_of (r:=l.row.toRowW) (X:=(true == true))
  (show WShape.has [] (.bool true) .bool=true by first|rfl|decide|simp[WShape.has,WShape.arms,WShape.armsAll])
  (show (WTm.eq .res (.lit (.bool true))).value [] { args:=args,res:=some (.bool true),after:=args }=some (.bool (true == true)) from w_eq_bool (w_res rfl) w_lit) rfl
theorem attach_call {l:OpenLaw} {n:Nat} {q:Program} {loose:List Str} {XP:(Str→Option Value)→Heap→Prop} {YP:World→Heap→Prop} {d:DefRec}
  (hn:l.most=some n) (hdf:d.params.defaults=[])
  (call:∀(w:World) (s₀ s₁:Shared) (mg mb:Str→Option Value) (fa:Addr) (o:Obj) (pm cd doc:Value) (a:Addr) (vs:List Value) (ns:List Int),
   Ground q loose [] XP w s₀ mg mb s₁.heap→YP w s₁.heap →
   s₁.heap.get? fa=some o→o.data=.func (docDef d.name d.params d.body d.scope pm cd doc)→s₁.heap.CodeRec cd d.name→mg d.name=some (.ref fa) →
   s₁.heap.get? a=some { cls:=.type "list",data:=.seq vs.toArray }→IntsAre vs ns→ns.length≤n→s₁.gens = #[] →
   codeAny (model l.prog w) callerA (.call (.ref fa) ⟨[.ref a],[]⟩) (fun r s'=>r=.ok (.ret (.bool true))∧OldK s₁.heap s'.heap∧s'.os=s₁.os∧AllBare s'.gens) s₁) :
  WalkO q loose XP YP l.row.toRowW d [] (fun f vs=>PySem.call f vs):=by
 intro w s₀ s₁ mg mb G Y fa o pm cd doc dV kV ho hd hcd hD hmg hg args vals as hpre hlay hrd hwl hlo
 obtain rfl:dV=.none:=Dflts.none hD hdf
 obtain rfl:kV=.none:=Dflts.noKw hD
 obtain⟨a,vs,ns,rfl,rfl,hobj,hints,hlen⟩:=zob hn hpre hwl
 refine enter_call (codeAny_mono (call w s₀ s₁ mg mb fa o pm cd doc a vs ns G Y ho (fd_plain hd) hcd hmg hobj hints hlen hg) fun r s' hq=>?_)
 obtain⟨rfl,h2,h3,h4⟩:=hq
 exact⟨.inl ⟨.bool true,.bool true,[],rfl,fun _=>rfl,.bool true,zoA l _,fun _=>⟨List.Pairwise.nil,fun _ hm=>(nomatch hm)⟩⟩,h2,h3,h4⟩
section
variable {prog:Program} {w:World} {A:Around} {E:Value→Shared→Prop} {s:Shared} {K:Frag}
end
end Att
namespace L2
open PySem PySem.Spec PyProof.Rows
theorem zkb:∀ {vs:List Value} {ns:List Int},IntsAre vs ns→Vals (ns.map V.int) vs
 | _,_,.nil=>.nil
 | _,_,.cons n t h=>.cons ⟨t,rfl⟩ (zkb h)
def Only (H:Hp):Prop:=∀b,H b=none∨∃o xs,H b=some (.frz o (.lst xs))
theorem zo0 {P:Program} {w:World} {K:PySem.W.Frag} {mg mb:Str→Option Value} {CX:CXT} {k:Nat} {fa a:Addr} {fd:FuncData} {x:Str} {sp:Sp} {s₁:Shared} {vs:List Value} {ns:List Int}
  (KX:K.In s₁.heap) (hT0:zoc K=none) (hns:s₁.heap.Ns mainGlobals mg) (hb:s₁.heap.Ns builtinsNs mb) (hbb:∀x:Str,x≠"__name__"→mb x=bootBuiltins x) (hlim:s₁.heap.NoLimit) (hg:s₁.gens = #[])
  (ha:s₁.heap.get? a=some { cls:=.type "list",data:=.seq vs.toArray }) (hi:IntsAre vs ns) (hl:ns.length≤sizeLine) (hr:Room k callerA)
  (F:∀base:Heap,K.In base→base.Ns mainGlobals mg→FnOk P w K mg base CX k fa fd [x] sp) (hbind:∀(s:Shared) (u:Value),BindsTo s fd ⟨[u],[]⟩ [(x,u)])
  (hsp:∀H:Hp,Only H→SqL K H a (ns.map V.int)→sp [.ref a] H (fun v _=>v=.bl true) fun _ _ _=>False)
  (hCX:∀H e s',CX [] H s₁ (fun _ _ _=>False) e s'→False) :
  codeAny (model P w) callerA (.call (.ref fa) ⟨[.ref a],[]⟩) (fun r s'=>r=.ok (.ret (.bool true))∧OldK s₁.heap s'.heap∧s'.os=s₁.os∧AllBare s'.gens) s₁:=by
 have rv:=zkb hi
 have lenV:=hi.length
 -- from an abstract heap in which nothing but the script may be tracked
 have core:∀H:Hp,Only H→SqL K H a (ns.map V.int)→HOk P w H s₁.heap→(∀b,H b≠none→b=a)→(H a≠none→K.lookup a=none) →
   codeAny (model P w) callerA (.call (.ref fa) ⟨[.ref a],[]⟩) (fun r s'=>r=.ok (.ret (.bool true))∧OldK s₁.heap s'.heap∧s'.os=s₁.os∧AllBare s'.gens) s₁:=by
  intro H hO hS hok hA hK
  have base_of:∀ {b:Addr} {o:Obj},s₁.heap.get? b=some o→H b=none→(hidT s₁.heap H).get? b=some o:=fun e n=>zpm e n
  have noA:∀ {b:Addr} {o:Obj} {es:Array DictEntry} {ep:Nat},s₁.heap.get? b=some o→o.data=.dict es ep→H b=none:=fun {b o es ep} e d=>by
   cases q:H b with
   | none=>rfl
   | some u=>
    have e':b=a:=hA b (by rw[q];simp)
    subst e'
    rw[ha] at e;cases e
    have d':Data.seq vs.toArray _=Data.dict es ep:=d
    cases d'
  have nsK:∀ {b:Addr} {m:Str→Option Value},s₁.heap.Ns b m→(hidT s₁.heap H).Ns b m:=fun {b m} ⟨o,es,ep,e,d,r⟩=>⟨o,es,ep,base_of e (noA e d),d,r⟩
  have hKb:K.In (hidT s₁.heap H):=fun b o e=>base_of (KX b o e) (by
   cases q:H b with
   | none=>rfl
   | some u=>
    have e':b=a:=hA b (by rw[q];simp)
    subst e'
    rw[hK (by rw[q];simp)] at e;cases e)
  have hM:Mod K mg (hidT s₁.heap H):=⟨hKb,nsK hns,⟨mb,nsK hb,hbb⟩,let ⟨mc,h1,h2⟩:=hlim;⟨mc,nsK h1,h2⟩⟩
  have e0:Env0 P w K mg (hidT s₁.heap H) callerA [] s₁ H:=⟨rfl,hM,fun b o e=>zqn e,Nat.le_of_eq (znI _ _),trivial,fun b hb=>absurd (show b∈([]:List Addr) from hb) (by simp),hok,.of_eq hg,.none hT0⟩
  refine codeAny_mono ((F _ hKb (nsK hns)).run callerA [] s₁ H ⟨[.ref a],[]⟩ [.ref a] [.ref a] _ _ hr e0 (hbind s₁ (.ref a)) (.cons rfl .nil) (hsp H hO hS)) fun r s' h=>?_
  cases r with
  | error e=>exact (hCX H e s' h).elim
  | ok fl=>
   cases fl with
   | next=>exact False.elim h
   | brk=>exact False.elim h
   | cont=>exact False.elim h
   | ret u=>
    obtain⟨v,H',os,bare,un,hok',r',q⟩:=h
    have q':v=.bl true:=q
    subst q'
    obtain rfl:u=Value.bool true:=r'
    refine⟨rfl,OldK.of_keep fun b o e=>?_,os,bare⟩
    cases q:H b with
    | none=>exact un.keep b o e q (by intro z;exact absurd (show b∈([]:List Addr) from z) (by simp)) (by simp)
    | some u=>
     rcases hO b with z|⟨ob,xs,z⟩
     ·rw[q] at z;cases z
     ·have z2:=un.frzs b ob _ z
      obtain⟨e1,_⟩:=hok b _ z
      obtain⟨e2,_⟩:=hok' b _ z2
      rw[e] at e1;cases e1
      exact e2
 cases hk:K.lookup a with
 | some o=>
  -- the script is one of the module's own objects
  have e:=KX a o hk
  rw[ha] at e
  cases e
  refine core (fun _=>none) (fun _=>.inl rfl) (.inr ⟨_,vs.toArray,_,hk,rfl,rfl,rfl,by rw[List.size_toArray,lenV];exact hl,by simpa using rv⟩) (fun b u z=>by have z':(none:Option HO)=some u:=z;cases z') (fun b z=>absurd rfl z) fun z=>absurd rfl z
 | none=>
  refine core (fun b=>if b=a then some (.frz { cls:=.type "list",data:=.seq vs.toArray } (.lst (ns.map V.int))) else none) (fun b=>?_) (.inl (.inr ⟨{ cls:=.type "list",data:=.seq vs.toArray },if_pos rfl⟩)) (fun b u z=>?_) (fun b z=>?_) fun _=>hk
  ·by_cases hb:b=a
   ·exact .inr ⟨_,_,if_pos hb⟩
   ·exact .inl (if_neg hb)
  ·by_cases hb:b=a
   ·have z':=(if_pos hb).symm.trans z
    cases z'
    subst hb
    exact⟨ha,by rw[List.length_map];exact hl,vs,_,rv,ha⟩
   ·have z':=(if_neg hb).symm.trans z
    cases z'
  ·by_cases hb:b=a
   ·exact hb
   ·exact absurd (if_neg hb) z
end L2
namespace L2
open PySem PySem.Spec PyProof.Rows
theorem walk_of {l:PySem.W.OpenLaw} {n k:Nat} {q:Program} {loose:List Str} {XP:(Str→Option Value)→Heap→Prop} {YP:World→Heap→Prop} {d:DefRec} {K:Params→PySem.W.Frag} {CX:World→CXT} {sp:World→Sp} {x:Str}
  (hn:l.most=some n) (hn2:n≤sizeLine) (hdf:d.params.defaults=[]) (hr:Room k callerA)
  (hY:∀(w:World) (h:Heap),YP w h→(K w.params).In h) (hT0:∀w:World,zoc (K w.params)=none)
  (F:∀(w:World) (mg:Str→Option Value) (fa:Addr) (h:Heap),(K w.params).In h→h.Ns mainGlobals mg→mg d.name=some (.ref fa) →
   ∃fd:FuncData,(∀(s:Shared) (u:Value),BindsTo s fd ⟨[u],[]⟩ [(x,u)]) ∧
    ∀base:Heap,(K w.params).In base→base.Ns mainGlobals mg→FnOk l.prog w (K w.params) mg base (CX w) k fa fd [x] (sp w))
  (hsp:∀(w:World) (H:Hp) (a:Addr) (ns:List Int),ns.length≤n→Only H→SqL (K w.params) H a (ns.map V.int)→sp w [.ref a] H (fun v _=>v=.bl true) fun _ _ _=>False)
  (hCX:∀(w:World) (H:Hp) (s:Shared) (e:Value) (s':Shared),CX w [] H s (fun _ _ _=>False) e s'→False) :
  PySem.W.WalkO q loose XP YP l.row.toRowW d [] (fun f vs=>PySem.call f vs):=by
 refine Att.attach_call hn hdf fun w s₀ s₁ mg mb fa o pm cd doc a vs ns G Y ho hd hcd hmg hobj hints hlen hg=>?_
 have KX:=hY w _ Y
 obtain⟨fd,hb,hF⟩:=F w mg fa _ KX G.T.g hmg
 exact zo0 KX (hT0 w) G.T.g G.T.b G.T.builtins G.T.nolimit hg hobj hints (Nat.le_trans hlen hn2) hr hF hb (fun H hO hS=>hsp w H a ns hlen hO hS) fun H e s'=>hCX w H s₁ e s'
end L2
namespace L2
open PySem PySem.Spec PyProof.Rows
def zgd (s:Stmt):Arguments:=match s with
 | .FunctionDef _ a _ _ _ _ _ _ _ _=>a
 | _=>{ posonlyargs:=[],args:=[],vararg:=none,kwonlyargs:=[],kw_defaults:=[],kwarg:=none,defaults:=[] }
def zfF (s:Stmt):List Stmt:=match s with
 | .FunctionDef _ _ b _ _ _ _ _ _ _=>b
 | _=>[]
def zas (s:Stmt):Scope:=match s with
 | .FunctionDef _ _ _ _ _ _ sc _ _ _=>sc
 | _=>{ kind:=.function,names:=[],isGenerator:=false,isCoroutine:=false }
abbrev CX0:CXT:=fun _ _ _ _ _ _=>False
abbrev E0:XK:=fun _ _ _=>False
theorem zax {X:Cx}:zku CX0 X E0:=fun _ _ _ _ _ _ _ h=>h.elim
structure Fun (K:PySem.W.Frag) (x qual:Str) (st:Stmt) (f:Addr) (fd:FuncData):Prop where
 ex:∃(oc:Value) (od:Option Addr) (kV doc pm:Value) (an:Option Addr) (cdv ct:Value) (osl:Array (Option Value)),
  fd=PySem.W.fnOf x qual (zgd st) (zfF st) (zas st) .none kV doc pm an cdv ct∧K.lookup f=some ⟨oc,od,.func fd,osl⟩∧PySem.W.codeIn K cdv qual=true
 kp:PySem.W.keepIn K (.ref f)=true
section
variable {P:Program} {w:World} {K:PySem.W.Frag} {mg:Str→Option Value} {base:Heap}
theorem Fun.ok {x qual:Str} {st:Stmt} {f:Addr} {fd:FuncData} {N ps:List Str} {k:Nat} {sp:Sp} (F:Fun K x qual st f fd) (S:FnScope N ps (zas st)) (len:∀vs H Q E,sp vs H Q E→vs.length=ps.length)
  (hbody:∀(cdv:Value) (A:Around) (outer:List Env) (s:Shared) (H:Hp) (vs:List V) (Q:VK) (E:XK),Room k (A.deeper (envOfC qual (zas st) s.heap.objs.size f cdv))→sp vs H Q E →
   ∃t,PSs (cxOf CX0 P w K mg base N qual (zas st) f cdv A outer s H E).nox (zfF st) t∧t { nx:=fun _ H'=>Q .non H',rt:=Q } (start N vs) H):FnOk P w K mg base CX0 (k+1) f fd ps sp:=by
 obtain⟨oc,od,kV,doc,pm,an,cdv,ct,osl,rfl,lk,hcd⟩:=F.ex
 refine zr4 lk hcd S len fun A outer s H vs Q E hr hsp=>?_
 obtain⟨t,h,q⟩:=hbody cdv A outer s H vs Q E hr hsp
 exact⟨t,h.nox,q⟩
theorem Fun.binds {x qual:Str} {st:Stmt} {f:Addr} {fd:FuncData} {ps:List Str} (F:Fun K x qual st f fd)
  (h:∀(kV doc pm:Value) (an:Option Addr) (cdv ct:Value) (us:List Value),us.length=ps.length→bindArgs (PySem.W.fnOf x qual (zgd st) (zfF st) (zas st) .none kV doc pm an cdv ct) ⟨us,[]⟩=pure (ps.zip us)):Binds K fd ps []:=by
 obtain⟨oc,od,kV,doc,pm,an,cdv,ct,osl,rfl,lk,hcd⟩:=F.ex
 exact .all (h kV doc pm an cdv ct)
theorem zpM {x qual:Str} {st:Stmt} {f:Addr} {oc:Value} {od an:Option Addr} {osl:Array (Option Value)} {kV doc pm cdv ct:Value} (l:K.lookup f=some ⟨oc,od,.func (PySem.W.fnOf x qual (zgd st) (zfF st) (zas st) .none kV doc pm an cdv ct),osl⟩)
  (c:PySem.W.codeIn K cdv qual=true) (k:PySem.W.keepIn K (.ref f)=true):Fun K x qual st f (PySem.W.fnOf x qual (zgd st) (zfF st) (zas st) .none kV doc pm an cdv ct):=⟨⟨oc,od,kV,doc,pm,an,cdv,ct,osl,rfl,l,c⟩,k⟩
end
theorem zbS {A:Around} {k:Nat} (hr:Room k A):A.units+1<cLine:=Nat.lt_of_le_of_lt (Nat.add_le_add_left (by decide:1≤64) _) hr.units
section
variable {X:Cx}
theorem pv (i:Nat) {x:Str} {pos:Pos} (hN:X.N[i]?=some x:=by rfl) (hv:Vis X.env.scope x:=by first|exact Or.inl rfl|exact Or.inr (Or.inl rfl)|exact Or.inr (Or.inr rfl)) (hd:(x == ("__debug__" : Str))=false:=by decide)
  (hcd:(x == ("__classdict__" : Str))=false:=by decide):PE X (.Name x pos) (tVar i):=zrO hN hv hd hcd
end
def Same (H H':Hp):Prop:=∀b o,H b=some o→H' b=some o
theorem Same.refl (H:Hp):Same H H:=fun _ _ h=>h
theorem Same.trans {H H1 H2:Hp} (a:Same H H1) (b:Same H1 H2):Same H H2:=fun c o h=>b c o (a c o h)
theorem Same.free {H H':Hp} (e:Same H H') {l:Addr} (h:H' l=Option.none):H l=Option.none:=by
 cases q:H l with
 | none=>rfl
 | some o=>
  rw[e l o q] at h
  cases h
theorem Same.seq {K:PySem.W.Frag} {H H':Hp} {a:Addr} {xs:List V} (e:Same H H') (h:SqL K H a xs):SqL K H' a xs:=by
 rcases h with (h|⟨o,h⟩)|h
 ·exact .inl (.inl (e _ _ h))
 ·exact .inl (.inr ⟨o,e _ _ h⟩)
 ·exact .inr h
section
variable {κ:Type} [DecidableEq κ]
end
end L2
namespace L2
open PySem PySem.Spec PyProof.Rows
def Fit (i:Int):Prop:=i.natAbs<2 ^ 8000
theorem log2_lt {n k:Nat} (hk:0<k) (h:n<2 ^ k):n.log2<k:=by
 by_cases h0:n=0
 ·subst h0;simpa using hk
 ·exact (Nat.log2_lt h0).mpr h
theorem Fit.log {i:Int} (h:Fit i):i.natAbs.log2<8000:=log2_lt (by decide) h
theorem Fit.bits {i:Int} (h:Fit i):Builtin.Int.intBits i≤2 ^ 20:=by
 have h1:=h.log
 have h2:(8000:Nat)≤2 ^ 20:=by decide
 unfold Builtin.Int.intBits
 split <;> omega
section
variable {X:Cx}
theorem zcN:OpR X (binaryOp .Mult) (rI (fun i j=>Fit i∧Fit j) fun i j=>.int (i*j)):=opI fun _ _ _ _ _ _ _ hc q=>mul_int q (.of_bits hc.1.bits hc.2.bits)
theorem zbO:OpR X (binaryOp .FloorDiv) (rI (fun _ j=>j≠0∧Fit j) fun i j=>.int (i.fdiv j)):=opI fun _ _ _ _ _ _ _ hc q=>
 floordiv_int hc.1 q (.inl (PyProof.noPylong_of_log2 (Nat.lt_trans hc.2.log (by decide))))
end
def clsV:V→Option Value
 | .ty n=>some (.type n)
 | .ref a=>some (.ref a)
 | _=>none
section
variable {X:Cx}
theorem zoT {c:V} {cv u:Value} (h:clsV c=some cv) (r:RelV c u):u=cv:=by
 cases c with
 | ty n=>cases h;exact r
 | ref a=>cases h;exact r
 | _=>cases h
def rIs (K:PySem.W.Frag):List V→Hp→VK→Prop:=fun xs H Q=>∃x c cv t b,xs=[x,c]∧clsV c=some cv∧TyOf K H x t∧PySem.W.kitOne K t cv=some b∧Q (.bl b) H
theorem zbA:zhF X (.builtin "isinstance") (rIs X.K):=by
 intro pins s σ H xs us Q I r h
 obtain⟨x,c,cv,t,b,rfl,hc,ty,hk,q⟩:=h
 obtain⟨u,v,rfl,rx,ry⟩:=zoJ r
 cases zoT hc ry
 exact zoe I rx ty hk fun tk=>⟨.bl b,H,I.tok _,rfl,q⟩
end
def Ite (K:PySem.W.Frag) (a:Addr):It:=
 ⟨fun i H=>∃xs x,SqL K H a xs∧xs[i]?=some x,fun i H x H'=>∃p y,x=.ref p∧H p=none∧H'=upd H p (.tup [.int i,y])∧∀xs,SqL K H a xs→xs[i]?=some y,fun i H=>∃xs,SqL K H a xs∧xs.length≤i⟩
theorem zn0 {P:Program} {w:World} {K:PySem.W.Frag} {es:List Expr} {k} {pos:Pos} (a e it:Addr) (hne:e≠it) :
  Turn P w K (.Tuple es k pos) (Ite K a) [e,it] e (fun i h=>(∃old,IsEnum h e it i old)∧h.IsListIter it a i) where
 mem:=by simp
 obj:=fun i h st b hb=>by
  obtain⟨⟨old,h1⟩,o,h2,c,d⟩:=st
  rcases List.mem_cons.mp hb with rfl|hb
  ·exact⟨_,h1,fun v z=>by cases (show Data.fields _=Data.cell v from z)⟩
  ·have e':b=it:=by simpa using hb
   subst e'
   exact⟨o,h2,fun v z=>by rw[d] at z;cases z⟩
 keep:=fun i h h' st k=>by
  obtain⟨⟨old,h1⟩,h2⟩:=st
  exact⟨⟨old,k e (by simp) _ h1⟩,h2.at fun o q=>k it (by simp) o q⟩
 item:=by
  intro X hP hw hK hc i pins s σ H E I hf st hg
  subst hP hw hK
  obtain⟨xs,x,hq,hx⟩:=hg
  obtain⟨its,rv,p,hz⟩:=I.list hq
  obtain⟨u,hu,ru⟩:=rv.get hx
  obtain⟨⟨old,he⟩,hit⟩:=st
  obtain⟨f0,f1,f2,f3,f4,f5⟩:=hf e (by simp)
  obtain⟨g0,g1,g2,g3,g4,g5⟩:=hf it (by simp)
  have hT:H s.heap.objs.size=none:=I.hok.fresh (Nat.le_refl _)
  have eT:e≠s.heap.objs.size:=Nat.ne_of_lt (Heap.lt_size he)
  have iT:it≠s.heap.objs.size:=by obtain⟨_,z,_⟩:=hit;exact Nat.ne_of_lt (Heap.lt_size z)
  refine wpAny_pyNext_enum_item he hit p.isList (x:=u) (by simpa using hu) hne fun h' ho hit' ht hsz hk=>⟨_,rfl,?_⟩
  refine wpAny_letOwnedTupleGo_enum ho fun h'' he'' hs''=>?_
  have hs2:Heap.SameBut e h' h'':=hs''
  have ht2:h''.get? s.heap.objs.size=some { cls:=.type "tuple",data:=.seq #[.int i s.toks,u] }:=(hs2.2 _ eT.symm).trans ht
  have hk2:∀b o,b≠e→b≠it→s.heap.get? b=some o→h''.get? b=some o:=fun b o z1 z2 q=>(hs2.2 b z1).trans (hk b o z1 z2 q)
  have nH:∀b o,H b=some o→b≠e∧b≠it:=fun b o q=>⟨(fun z=>by rw[z,f0] at q;cases q),(fun z=>by rw[z,g0] at q;cases q)⟩
  refine⟨.ref s.heap.objs.size,upd H s.heap.objs.size (.tup [.int i,x]),?_,rfl,⟨_,x,rfl,hT,rfl,fun ys hy=>by rw[I.list_inj hy hq];exact hx⟩,⟨⟨_,by simpa using he''⟩,hit'.at fun o q=>(hs2.2 it hne.symm).trans q⟩,fun b hb=>?_⟩
  ·show Inv X pins σ (upd H s.heap.objs.size (.tup [.int i,x])) { s with heap:=h'',toks:=s.toks+1 }
   refine I.step (h':=h'') (g':=s.gens) (d':=s.drawn) (t':=s.toks+1) (ch:=[e,it]) (fun b hb=>?_) (fun b o _ _ hb q _=>?_) (fun b o _ _ hb q _=>⟨o.slots,?_⟩) (fun b o hb q n=>?_) (fun b o hb q=>⟨o,?_⟩) (fun b ys q=>?_) (fun b o ys q=>?_) (fun b ps q=>⟨#[],?_⟩) (fun m hm=>?_) ?_ I.bare
   ·rcases List.mem_cons.mp hb with rfl|hb
    ·exact⟨f3,f1,f4,f5⟩
    ·have z:b=it:=by simpa using hb
     subst z
     exact⟨g3,g1,g4,g5⟩
   ·exact hk2 b o (fun z=>hb (by simp[z])) (fun z=>hb (by simp[z])) q
   ·exact hk2 b o (fun z=>hb (by simp[z])) (fun z=>hb (by simp[z])) q
   ·rw[zaz (Nat.ne_of_lt (Heap.lt_size q))];exact n
   ·exact hk2 b o (fun z=>hb (by simp[z])) (fun z=>hb (by simp[z])) q
   ·rw[zaz (zaG q hT)];exact q
   ·rw[zaz (zaG q hT)];exact q
   ·rw[zaz (zaG q hT),q];simp
   ·obtain⟨o,es',ep,ho',r⟩:=hm
    exact⟨o,es',ep,hk2 _ o (Ne.symm f1) (Ne.symm g1) ho',r⟩
   ·intro b o q
    by_cases hb:b=s.heap.objs.size
    ·subst hb
     rw[zaX] at q;cases q
     exact⟨by show 2≤sizeLine;decide,[.int i s.toks,u],.cons ⟨_,rfl⟩ (.cons ru .nil),⟨_,ht2,rfl,_,rfl⟩⟩
    ·rw[zaz hb] at q
     refine (I.hok b o q).stay (fun c v hc' q'=>?_) (fun c q'=>by rw[zaz (zaG q' hT)];exact q') fun c ys q'=>by rw[zaz (zaG q' hT)];exact q'
     rcases hc' with rfl|hc'
     ·exact hk2 _ v (nH _ _ q).1 (nH _ _ q).2 q'
     ·exact hk2 _ v (nH _ _ hc').1 (nH _ _ hc').2 q'
  ·rcases List.mem_cons.mp hb with rfl|hb
   ·rw[zaz eT];exact f0
   ·have z:b=it:=by simpa using hb
    subst z
    rw[zaz iT];exact g0
 done:=by
  intro X hP hw hK hc i pins s σ H E I hf st hg
  subst hP hw hK
  obtain⟨xs,hq,hx⟩:=hg
  obtain⟨its,rv,p,hz⟩:=I.list hq
  obtain⟨⟨old,he⟩,hit⟩:=st
  obtain⟨g0,g1,g2,g3,g4,g5⟩:=hf it (by simp)
  have hl:=rv.length
  exact wpAny_pyNext_enum_end (I.ok.hd hc) he hit p.isList (by simp;omega) fun h' eb=>⟨rfl,I.turned (t':=s.toks) (fun b o hb q=>eb b o hb q) g0 g1 g3 g4 g5⟩
 self:=fun _ _ _ _ _ st h=>by
  obtain⟨⟨old,he⟩,_⟩:=st
  exact wpAny_pyIter_enum he h
section
variable {X:Cx}
def zqC (K:PySem.W.Frag) (ta:TA):TI:=fun σ H R=>ta σ H fun vs H1=>∃a,vs=[.ref a]∧(∃xs,SqL K H1 a xs)∧R (Ite K a) H1
theorem zhb {es:List Expr} {k} {tp:Pos} {l:Expr} {ta:TA} {p pos:Pos} (hg:Gl X "enumerate") (hm:X.mg "enumerate"=none) (ha:PA X [l] ta) (hs:starEach [l] X.env=[(false,eval l X.env)]:=by rfl) :
  PI X (.Tuple es k tp) (.Call (.Name "enumerate" p) [l] [] pos) (zqC X.K ta):=by
 intro pins s σ H R I h
 refine Call_ (zhp I hg hm boot_enumerate (PyProof.Rows.callWith_type1 (thn (ha pos pins s σ H _ I h) fun us s1 ⟨vs,H1,I1,r1,q1⟩=>?_) hs rfl))
 obtain⟨a,e,⟨xs,hq⟩,q⟩:=q1
 subst e
 obtain⟨u,rfl,rx⟩:=zkx r1
 cases rx
 obtain⟨its,rv,pl,hz⟩:=I1.list hq
 refine call_enumerate_list pl.isList fun h' he hit hsz hk=>?_
 have I2:Inv X pins σ H1 { s1 with heap:=h' }:=I1.kept (t':=s1.toks) hk
 have hne:s1.heap.objs.size+1≠s1.heap.objs.size:=by omega
 refine wpAny_pyIter_enum he ⟨s1.heap.objs.size+1,[s1.heap.objs.size+1,s1.heap.objs.size],_,_,H1,rfl,I2,zn0 a _ _ hne,⟨⟨_,he⟩,hit⟩,fun b hb=>?_,q⟩
 have hb':s1.heap.objs.size≤b:=by
  rcases List.mem_cons.mp hb with rfl|hb
  ·omega
  ·have z:b=s1.heap.objs.size:=by simpa using hb
   exact Nat.le_of_eq z.symm
 exact I1.fpOk hb' (I1.hok.fresh hb')
end
end L2
namespace L2
open PySem PySem.Spec PyProof.Rows
theorem zg4 {env:Env}:∀(names:List (Str×NameKind)) (acc:List (Str×Addr)),(∀y∈names,y.2=.free→∃c,env.cells.lookup y.1=some c) →
  ∃cl,(forIn (m:=Sem) names acc fun (x:Str×NameKind) (cs:List (Str×Addr))=>if (x.2 == NameKind.free)=true then do let c ← cellOf env x.1;pure (ForInStep.yield ((x.1,c)::cs)) else pure (ForInStep.yield cs))=pure cl ∧
   (∀p∈cl,p∈acc∨env.cells.lookup p.1=some p.2)∧(∀p∈acc,p∈cl)∧∀y∈names,y.2=.free→∃c,(y.1,c)∈cl
 | [],acc,_=>⟨acc,by simp,fun p hp=>.inl hp,fun p hp=>hp,fun y hy=>by cases hy⟩
 | (n,k)::r,acc,h=>by
  by_cases hk:k=.free
  ·subst hk
   obtain⟨c,hc⟩:=h (n,.free) List.mem_cons_self rfl
   obtain⟨cl,e,h1,h2,h3⟩:=zg4 r ((n,c)::acc) fun y hy=>h y (List.mem_cons_of_mem _ hy)
   refine⟨cl,?_,fun p hp=>?_,fun p hp=>h2 p (List.mem_cons_of_mem _ hp),fun y hy hf=>?_⟩
   ·have hco:cellOf env n=pure c:=by unfold cellOf;rw[hc]
    rw[List.forIn_cons]
    simp only[beq_self_eq_true,if_true,hco,pure_bind]
    exact e
   ·rcases h1 p hp with z|z
    ·rcases List.mem_cons.mp z with rfl|z
     ·exact .inr hc
     ·exact .inl z
    ·exact .inr z
   ·rcases List.mem_cons.mp hy with rfl|hy
    ·exact⟨c,h2 _ List.mem_cons_self⟩
    ·exact h3 y hy hf
  ·obtain⟨cl,e,h1,h2,h3⟩:=zg4 r acc fun y hy=>h y (List.mem_cons_of_mem _ hy)
   refine⟨cl,?_,h1,h2,fun y hy hf=>?_⟩
   ·have hb:(k == NameKind.free)=false:=by simpa using hk
    rw[List.forIn_cons]
    simp only[hb,Bool.false_eq_true,if_false,pure_bind]
    exact e
   ·rcases List.mem_cons.mp hy with rfl|hy
    ·exact absurd hf hk
    ·exact h3 y hy hf
theorem zgt {f:Str→Option Addr}:∀ {cl:List (Str×Addr)} {x:Str} {c:Addr},(∀p∈cl,f p.1=some p.2)→(x,c)∈cl→cl.lookup x=some c
 | [],_,_,_,h=>by cases h
 | (n,d)::r,x,c,h,hm=>by
  rw[List.lookup_cons]
  cases e:x == n with
  | true=>
   have e':x=n:=by simpa using e
   subst e'
   have z1:=h (x,d) List.mem_cons_self
   have z2:=h (x,c) hm
   rw[z1] at z2
   simpa using z2
  | false=>
   rcases List.mem_cons.mp hm with z|z
   ·cases z;simp at e
   ·exact zgt (fun p hp=>h p (List.mem_cons_of_mem _ hp)) z
theorem zgM {scope:Scope} {env:Env} (h:∀y∈scope.names,y.2=.free→∃c,env.cells.lookup y.1=some c) :
  ∃cl,closureFor scope env=pure cl∧(∀x c,cl.lookup x=some c→env.cells.lookup x=some c)∧∀y∈scope.names,y.2=.free→cl.lookup y.1=env.cells.lookup y.1:=by
 obtain⟨cl,e,h1,_,h3⟩:=zg4 scope.names [] h
 have all:∀p∈cl,env.cells.lookup p.1=some p.2:=fun p hp=>(h1 p hp).elim (fun z=>by cases z) id
 refine⟨cl,?_,fun x c z=>all (x,c) (PySem.mem_of_lookup z),fun y hy hf=>?_⟩
 ·simp only[closureFor]
  rw[e]
  rfl
 ·obtain⟨c,hc⟩:=h3 y hy hf
  rw[all _ hc]
  exact zgt (f:=fun x=>env.cells.lookup x) all hc
end L2
namespace L2
open PySem PySem.Spec PyProof.Rows
section
variable {prog:Program} {w:World} {A:Around} {R:Result→Shared→Prop} {s:Shared}
theorem zld {elt target iter:Expr} {ifs:List Expr} {scope:Scope} {pos:Pos} {it acc:Value} {env:Env} (I:Nat→Shared→Prop)
  (turn:∀n s,I n s→wpAny (model prog w) A (pyNext it) (fun r s₁=>match r with
   | none=>R (.ok .next) s₁
   | some v=>wpAny (model prog w) A (letOwnedTupleGo target it v) (fun _ s₁'=>wpAny (model prog w) A (assign target env v) (fun _ s₂=>
     wpAny (model prog w) A (forIn ifs true fun c r=>if r=true then do let ok ← isTrue c env (eval c env);pure (ForInStep.yield ok) else pure (ForInStep.yield r)) (fun ok s₃=>
      if ok=true then wpAny (model prog w) A (eval elt env) (fun x s₄=>
       wpAny (model prog w) A (call (.builtin "list.append") [acc,x]) (fun _ s₅=>∃m,m<n∧I m s₅) (fun _ _=>False) s₄) (fun _ _=>False) s₃
      else ∃m,m<n∧I m s₃) (fun _ _=>False) s₂) (fun _ _=>False) s₁') (fun _ _=>False) s₁) (fun _ _=>False) s)
  (n:Nat) (h:I n s) :
  codeAny (model prog w) A (.compLoop (.ListComp elt [⟨target,iter,ifs,0⟩] scope pos) 0 it acc env) R s:=by
 refine codeAny_loop rfl I (fun n s hI=>?_) n h
 show wpAny _ A ((compTurn (.ListComp elt [⟨target,iter,ifs,0⟩] scope pos) 0 it acc env).onRaise (fun x=>do noteFrame x env;theTreesLotGoes x)) _ _ s
 refine wpAny_noted ?_
 rw[compTurn_list]
 refine wpAny_bind (wpAny_standAt (wpAny_bind (wpAny_mono (turn n s hI) (fun r s₁ h₁=>?_) fun _ _ h'=>h'.elim)))
 cases r with
 | none=>exact wpAny_pure h₁
 | some v=>
  refine wpAny_bind (wpAny_mono h₁ (fun _ s₁' h₁'=>?_) fun _ _ h'=>h'.elim)
  refine wpAny_bind (wpAny_mono h₁' (fun _ s₂ h₂=>wpAny_bind (wpAny_mono h₂ (fun ok s₃ h₃=>?_) fun _ _ h'=>h'.elim)) fun _ _ h'=>h'.elim)
  cases ok with
  | false=>exact wpAny_pure ⟨rfl,h₃⟩
  | true=>
   exact wpAny_bind (wpAny_bind (wpAny_mono h₃ (fun x s₄ h₄=>wpAny_bind (wpAny_mono h₄ (fun _ s₅ h₅=>wpAny_pure (wpAny_pure ⟨rfl,h₅⟩)) fun _ _ h'=>h'.elim)) fun _ _ h'=>h'.elim))
end
def Cx.comp (X:Cx) (scope:Scope) (cl:List (Str×Addr)) (C:Addr) (N':List Str) (s:Shared) (H:Hp) (fp:List Addr) (pins:List (Addr×Obj)):Cx:=
 { X with N:=N',s₀:=s,H₀:=H,env:=compEnvC scope cl C X.env,outer:=X.stack,stack:=X.stack,ex:=fp,fn:=fun x=>scope.names.lookup x == some .cell,pn:=X.pn++pins,xe:=fun _ _=>False }
def zea (σ:St) (ix:List Nat) (n:Nat):St:=ix.map (fun i=>(σ[i]?).getD none)++List.replicate n none
def zpH:Option TT→TT
 | none=>fun _ H Q=>Q true H
 | some t=>t
def zqV (D:Addr) (J:It) (g:TG) (tc:Option TT) (te:TE) (Q:VK) (σ0:St) (H0:Hp):Prop:=
 ∃W:Nat→Nat→List V→St→Hp→Prop,(∃m,W 0 m [] σ0 H0)∧∀i m ys σ2 H2,W i m ys σ2 H2→H2 D=some (.lst ys) ∧
  ((J.stop i H2∧Q (.ref D) H2)∨(J.go i H2∧∃ N:List V→St→Hp→Prop,(∀ ys' σ' H',N ys' σ' H'→∃ m',m' < m∧W (i + 1) m' ys' σ' H') ∧
    ∀x H',J.yld i H2 x H'→g x σ2 H' fun σ3 H3=>zpH tc σ3 H3 fun b H4=>if b=true then te σ3 H4 fun y H5=>H5 D=some (.lst ys)∧ys.length<sizeLine∧N (ys++[y]) σ3 (upd H5 D (.lst (ys++[y]))) else N ys σ3 H4))
def zpY (wi:TI) (ix:List Nat) (n:Nat) (g:TG) (tc:Option TT) (te:TE):TE:=fun σ H Q=>wi σ H fun J H1=>∀D,H1 D=none→zqV D J g tc te Q (zea σ ix n) (upd H1 D (.lst []))
structure CompOk (X:Cx) (scope:Scope) (N':List Str) (ix:List Nat) (n:Nat) (tg elt:Expr) (ifs:List Expr) (g:TG) (tc:Option TT) (te:TE):Prop where
 kind:scope.kind=.function
 nocell:∀y∈scope.names,y.2=.free→(y.1,NameKind.cell)∉scope.names
 names:∀y∈scope.names,y.2=.local→scope.names.lookup y.1=some .local
 free:∀y∈scope.names,y.2=.free→X.env.kindOf y.1=some .cell∨X.env.kindOf y.1=some .free
 len:ix.length+n=N'.length
 take:∀(j i:Nat),ix[j]?=some i→∃x,N'[j]?=some x∧X.N[i]?=some x∧scope.names.lookup x=some .free
 tgt:∀(cl:List (Str×Addr)) (C:Addr) (s:Shared) (H:Hp) (fp:List Addr) (pins:List (Addr×Obj)),PG (X.comp scope cl C N' s H fp pins) tg g
 elt:∀(cl:List (Str×Addr)) (C:Addr) (s:Shared) (H:Hp) (fp:List Addr) (pins:List (Addr×Obj)),PE (X.comp scope cl C N' s H fp pins) elt te
 test:(ifs=[]∧tc=none)∨∃c t,ifs=[c]∧tc=some t∧∀(cl:List (Str×Addr)) (C:Addr) (s:Shared) (H:Hp) (fp:List Addr) (pins:List (Addr×Obj)),PT (X.comp scope cl C N' s H fp pins) c t
theorem zej {env:Env}:∀ {names:List (Str×NameKind)} {x:Str},names.lookup x=some .free →
  (names.map fun (n,k)=>if (k == NameKind.free && env.scope.kind == .function && env.kindOf n == some .cell) then (n,NameKind.cell) else (n,k)).lookup x=some .cell ∨
  (names.map fun (n,k)=>if (k == NameKind.free && env.scope.kind == .function && env.kindOf n == some .cell) then (n,NameKind.cell) else (n,k)).lookup x=some .free
 | [],_,h=>by simp at h
 | (n,k)::r,x,h=>by
  have ih:=@zej env r x
  show List.lookup x ((if (k == NameKind.free && env.scope.kind == .function && env.kindOf n == some .cell)=true then (n,NameKind.cell) else (n,k))::_)=_∨List.lookup x ((if (k == NameKind.free && env.scope.kind == .function && env.kindOf n == some .cell)=true then (n,NameKind.cell) else (n,k))::_)=_
  cases hx:x == n with
  | true=>
   simp only[List.lookup_cons,hx] at h
   cases h
   by_cases hc:(NameKind.free == NameKind.free && env.scope.kind == .function && env.kindOf n == some .cell)=true
   ·rw[if_pos hc];left;simp only[List.lookup_cons,hx]
   ·rw[if_neg hc];right;simp only[List.lookup_cons,hx]
  | false=>
   simp only[List.lookup_cons,hx] at h
   by_cases hc:(k == NameKind.free && env.scope.kind == .function && env.kindOf n == some .cell)=true
   ·rw[if_pos hc];simp only[List.lookup_cons,hx];exact ih h
   ·rw[if_neg hc];simp only[List.lookup_cons,hx];exact ih h
theorem zhv {env:Env}:∀ {names:List (Str×NameKind)} {x:Str},
  ((names.map fun (n,k)=>if (k == NameKind.free && env.scope.kind == .function && env.kindOf n == some .cell) then (n,NameKind.cell) else (n,k)).lookup x=some .cell ∨
  (names.map fun (n,k)=>if (k == NameKind.free && env.scope.kind == .function && env.kindOf n == some .cell) then (n,NameKind.cell) else (n,k)).lookup x=some .free)→(x,NameKind.free)∈names∨(names.lookup x=some .cell∧(x,NameKind.cell)∈names)
 | [],_,h=>by simp at h
 | (n,k)::r,x,h=>by
  have ih:=@zhv env r x
  cases hx:x == n with
  | true=>
   have e:x=n:=by simpa using hx
   subst e
   by_cases hc:(k == NameKind.free && env.scope.kind == .function && env.kindOf x == some .cell)=true
   ·have hk:k=.free:=by
     have:(k == NameKind.free)=true:=by
      simp only[Bool.and_eq_true] at hc
      exact hc.1.1
     simpa using this
    subst hk
    exact .inl List.mem_cons_self
   ·rw[List.map_cons] at h
    have e2:(match (x,k) with|(n,k)=>if (k == NameKind.free && env.scope.kind == .function && env.kindOf n == some .cell)=true then (n,NameKind.cell) else (n,k))=(x,k):=if_neg hc
    rw[e2] at h
    simp only[List.lookup_cons,beq_self_eq_true] at h
    rcases h with h|h
    ·cases h;exact .inr ⟨by simp only[List.lookup_cons,beq_self_eq_true],List.mem_cons_self⟩
    ·cases h;exact .inl List.mem_cons_self
  | false=>
   refine (ih ?_).imp (List.mem_cons_of_mem _) fun z=>⟨by simp only[List.lookup_cons,hx];exact z.1,List.mem_cons_of_mem _ z.2⟩
   rw[List.map_cons] at h
   by_cases hc:(k == NameKind.free && env.scope.kind == .function && env.kindOf n == some .cell)=true
   ·have e2:(match (n,k) with|(n,k)=>if (k == NameKind.free && env.scope.kind == .function && env.kindOf n == some .cell)=true then (n,NameKind.cell) else (n,k))=(n,NameKind.cell):=if_pos hc
    rw[e2] at h
    simpa only[List.lookup_cons,hx] using h
   ·have e2:(match (n,k) with|(n,k)=>if (k == NameKind.free && env.scope.kind == .function && env.kindOf n == some .cell)=true then (n,NameKind.cell) else (n,k))=(n,k):=if_neg hc
    rw[e2] at h
    simpa only[List.lookup_cons,hx] using h
theorem ze0 {x:Str} {c:Addr}:∀(names:List (Str×NameKind)) (n:Nat) (acc:List (Str×Addr)),(x,NameKind.cell)∈names→(cellsFrom n names acc).lookup x=some c→(∀y,acc.lookup x=some y→n≤y∨True)→n≤c
 | [],_,_,h,_,_=>by cases h
 | (y,k)::r,n,acc,h,e,_=>by
  unfold cellsFrom at e
  by_cases hr:(x,NameKind.cell)∈r
  ·split at e
   ·exact Nat.le_of_succ_le (ze0 r (n+1) _ hr e fun _ _=>.inr trivial)
   ·exact ze0 r n _ hr e fun _ _=>.inr trivial
  ·rcases List.mem_cons.mp h with z|z
   ·cases z
    rw[if_pos (by rfl)] at e
    have key:∀(r:List (Str×NameKind)) (n':Nat) (acc:List (Str×Addr)),(x,NameKind.cell)∉r→(cellsFrom n' r acc).lookup x=acc.lookup x:=by
     intro r
     induction r with
     | nil=>intro _ _ _;rfl
     | cons p r ih=>
      intro n' acc hp
      obtain⟨y',k'⟩:=p
      unfold cellsFrom
      split
      ·rename_i hk
       have hk':k'=.cell:=by simpa using hk
       subst hk'
       have ne:¬ x=y':=fun z=>hp (by rw[z];exact List.mem_cons_self)
       rw[ih _ _ fun z=>hp (List.mem_cons_of_mem _ z),List.lookup_cons,show (x == y')=false by simpa using ne]
      ·exact ih _ _ fun z=>hp (List.mem_cons_of_mem _ z)
    rw[key r _ _ hr] at e
    simp only[List.lookup_cons,beq_self_eq_true] at e
    cases e;exact Nat.le_refl _
   ·exact absurd z hr
theorem zd5 {x:Str}:∀(names:List (Str×NameKind)) (n:Nat) (acc:List (Str×Addr)),(x,NameKind.cell)∉names→(cellsFrom n names acc).lookup x=acc.lookup x
 | [],_,_,_=>rfl
 | (y,k)::r,n,acc,h=>by
  unfold cellsFrom
  split
  ·rename_i hk
   have hk':k=.cell:=by simpa using hk
   subst hk'
   have ne:¬ x=y:=fun z=>h (by rw[z];exact List.mem_cons_self)
   rw[zd5 r _ _ fun z=>h (List.mem_cons_of_mem _ z),List.lookup_cons,show (x == y)=false by simpa using ne]
  ·exact zd5 r _ _ fun z=>h (List.mem_cons_of_mem _ z)
theorem zfb:∀(names:List (Str×NameKind)) (n:Nat) (acc:List (Str×Addr)),(∀x c,acc.lookup x=some c→c<n)→(∀x y c,acc.lookup x=some c→acc.lookup y=some c→x=y) →
  ∀x y c,(cellsFrom n names acc).lookup x=some c→(cellsFrom n names acc).lookup y=some c→x=y
 | [],_,_,_,h=>h
 | (z,k)::r,n,acc,h1,h2=>by
  unfold cellsFrom
  split
  ·have lk:∀x c,((z,n)::acc).lookup x=some c→(x=z∧c=n)∨acc.lookup x=some c:=fun x c h=>by
    rw[List.lookup_cons] at h
    cases hb:x == z with
    | true=>rw[hb] at h;cases h;exact .inl ⟨by simpa using hb,rfl⟩
    | false=>rw[hb] at h;exact .inr h
   refine zfb r (n+1) _ (fun x c h=>?_) fun x y c e1 e2=>?_
   ·rcases lk x c h with ⟨_,z⟩|z
    ·rw[z];exact Nat.lt_succ_self _
    ·exact Nat.lt_succ_of_lt (h1 x c z)
   ·rcases lk x c e1 with ⟨a1,a2⟩|a <;> rcases lk y c e2 with ⟨b1,b2⟩|b
    ·rw[a1,b1]
    ·have:=h1 y c b;rw[a2] at this;exact absurd this (Nat.lt_irrefl _)
    ·have:=h1 x c a;rw[b2] at this;exact absurd this (Nat.lt_irrefl _)
    ·exact h2 x y c a b
  ·exact zfb r n acc h1 h2
theorem zlI {M:Model} {A:Around} {E:Value→Shared→Prop} {s:Shared} {scope:Scope} {globals:Addr} {cl:List (Str×Addr)} {qual:Str} {env:Env} {Q:Env→Shared→Prop}
  (hQ:Q (newEnv scope s.heap.objs.size globals (cellsFrom (s.heap.objs.size+1) scope.names cl) qual none .none (some env) builtinsNs) { s with heap:=pushCells (s.heap.push { cls:=.type "dict",data:=.dict #[] }) scope.names }) :
  wpAny M A (newFunctionEnv scope globals cl [] qual none .none (some env)) Q E s:=by
 simp only[newFunctionEnv,Option.isSome_some,if_true]
 refine wpAny_bind (wpAny_alloc ?_)
 refine wpAny_bind (wpAny_layCells _ (fun name kind cells=>by cases hkc:kind == NameKind.cell <;> simp[hkc]) _ _ _ _ ?_)
 rw[show ({ s with heap:=s.heap.push { cls:=.type "dict",data:=.dict #[] } }:Shared).heap.objs.size=s.heap.objs.size+1 from Heap.size_push ..]
 refine wpAny_bind ?_
 rw[List.forIn_nil]
 exact wpAny_pure (wpAny_pure hQ)
section
variable {X:Cx} {scope:Scope} {N':List Str} {ix:List Nat} {n:Nat} {tg elt iter:Expr} {ifs:List Expr} {g:TG} {tc:Option TT} {te:TE} {pos:Pos}
theorem zmR {pins:List (Addr×Obj)} {σ:St} {H:Hp} {s:Shared} {fp:List Addr} {cl:List (Str×Addr)} {h1:Heap} {tk:Nat} {m:Str→Option Value} (B:CompOk X scope N' ix n tg elt ifs g tc te) (I:Inv X pins σ H s)
  (hf:∀b∈fp,FpOk X pins H b) (hfo:∀b∈fp,∃o,s.heap.get? b=some o) (hcl:∀x c,cl.lookup x=some c→X.env.cells.lookup x=some c∨(s.heap.objs.size+1<c∧∃v,h1.IsCell c v)) (hcf:∀y∈scope.names,y.2=.free→cl.lookup y.1=X.env.cells.lookup y.1)
  (hinj:∀x y c,cl.lookup x=some c→cl.lookup y=some c→x=y) (hown:∀x,scope.names.lookup x=some .cell→∃c,cl.lookup x=some c) (hnew:∀x c,scope.names.lookup x=some .cell→cl.lookup x=some c→s.heap.objs.size+1<c)
  (hk:∀b o,s.heap.get? b=some o→h1.get? b=some o) (hD:h1.get? s.heap.objs.size=some { cls:=.type "list",data:=.seq #[] 0 }) (hC:h1.Ns (s.heap.objs.size+1) m) :
  Inv (X.comp scope cl (s.heap.objs.size+1) N' s H fp pins) [] (zea σ ix n) (upd H s.heap.objs.size (.lst [])) { s with heap:=h1,toks:=tk }:=by
 have hn:H s.heap.objs.size=none:=I.hok.fresh (Nat.le_refl _)
 have lt:∀ {b:Addr} {o:Obj},s.heap.get? b=some o→b≠s.heap.objs.size∧b≠s.heap.objs.size+1:=fun e=>⟨Nat.ne_of_lt (Heap.lt_size e),Nat.ne_of_lt (Nat.lt_succ_of_lt (Heap.lt_size e))⟩
 have cellLt:∀x c,X.env.cells.lookup x=some c→c<s.heap.objs.size:=fun x c e=>by
  obtain⟨v,o,ho,_⟩:=I.cell x c e
  exact Heap.lt_size ho
 have fpLt:∀b∈fp,b≠s.heap.objs.size+1:=fun b hb=>by
  obtain⟨o,e⟩:=hfo b hb
  exact (lt e).2
 ·have keep:Un (frs X.stack) fp H (upd H s.heap.objs.size (.lst [])) s.heap h1:=Un.laid hk (Nat.le_refl _) hn
  refine ⟨⟨I.ok.mod, ?_, I.ok.glob, I.ok.blt, Nat.le_succ _, hinj, fun x hx => ?_, fun x c z e => Nat.le_of_lt (Nat.lt_trans (Nat.lt_succ_self _) (hnew x c (by simpa using (show (scope.names.lookup x == some NameKind.cell) = true from z)) e)), I.ok.hd, I.ok.frames, .inl rfl, fun b hb => ⟨fpLt b hb, fun x c e => (hcl x c e).elim (fun z => (hf b hb).2.2.2.2.1 x c z) fun z w => by
        obtain⟨o,ho⟩:=hfo b hb
        have:=Heap.lt_size ho
        rw[← w] at this;exact Nat.lt_irrefl _ (Nat.lt_trans (Nat.lt_trans (Nat.lt_succ_self _) z.1) this)⟩,
    I.bs,Nat.le_trans I.ok.bsz I.sz,fun b o e hb=>?_,fun b hb z=>?_,I.stack,I.stkFree,I.ok.tb.grown I.base.tbls⟩,
   rfl,I.bare,keep,⟨m,hC,fun i x v e1 e2 e3=>?_⟩,fun x c e=>?_,?_,fun x c e=>?_,fun p hp=>?_,?_,?_⟩
  ·show (relabel scope X.env).kind=.function
   exact B.kind
  ·show ∃c,cl.lookup x=some c
   rcases zhv hx with hx'|hx'
   case inr=>exact hown x hx'.1
   have z:=hcf _ hx' rfl
   dsimp only at z
   rw[z]
   exact I.ok.has x (B.free _ hx' rfl)
  ·obtain⟨_,_,_,f3,_⟩:=hf b hb
   rcases f3 with z|z
   ·exact I.ok.noex b o e z
   ·exact absurd (Nat.lt_of_lt_of_le (Heap.lt_size e) (Nat.le_trans I.ok.bsz z)) (Nat.lt_irrefl _)
  ·rcases List.mem_cons.mp (I.stkSub b z) with e|e
   ·exact (hf b hb).2.1 e
   ·exact (hf b hb).2.2.1 e
  ·have hj:i<ix.length:=by
    unfold zea at e2
    by_cases hj:i<ix.length
    ·exact hj
    ·rw[List.getElem?_append_right (by simpa using hj),List.getElem?_replicate] at e2
     split at e2 <;> cases e2
   obtain⟨j,hj2⟩:∃j,ix[i]?=some j:=⟨ix[i],by simp[hj]⟩
   obtain⟨y,y1,y2,y3⟩:=B.take i j hj2
   have exy:x=y:=by
    have z:N'[i]?=some x:=e1
    rw[y1] at z
    exact (Option.some.inj z).symm
   subst exy
   have ev:σ[j]?=some (some v):=by
    unfold zea at e2
    rw[List.getElem?_append_left (by simpa using hj),List.getElem?_map,hj2] at e2
    have z:(σ[j]?).getD none=some v:=Option.some.inj e2
    cases q:σ[j]? with
    | none=>rw[q] at z;cases z
    | some w=>rw[q] at z;exact congrArg some z
   obtain⟨m0,hn0,hl⟩:=I.loc
   have hm:(x,NameKind.free)∈scope.names:=PySem.mem_of_lookup y3
   have kx:=B.free _ hm rfl
   have vis:Vis X.env.scope x:=kx.elim (fun z=>.inr (.inl z)) fun z=>.inr (.inr z)
   obtain⟨u,ru,lu⟩:=hl j x v y2 ev vis
   refine⟨u,ru,.inr ⟨?_,?_⟩⟩
   ·exact zej y3
   ·rcases lu with ⟨z,_⟩|⟨_,c,hc,hcell⟩
    ·rcases kx with w|w <;> (rw[w] at z;cases z)
    ·refine⟨c,?_,?_⟩
     ·show cl.lookup x=some c
      rw[hcf _ hm rfl]
      exact hc
     ·obtain⟨o,ho,hd⟩:=hcell
      exact⟨o,hk c o ho,hd⟩
  ·rcases hcl x c e with z|⟨_,z⟩
   ·obtain⟨v,o,ho,hd⟩:=I.cell x c z
    exact⟨v,o,hk c o ho,hd⟩
   ·exact z
  ·show upd H s.heap.objs.size (.lst []) (s.heap.objs.size+1)=none
   rw[zaz (Nat.succ_ne_self _)]
   exact I.hok.fresh (Nat.le_succ _)
  ·rcases hcl x c e with z|⟨z,_⟩
   ·have:=cellLt x c z
    rw[zaz (Nat.ne_of_lt this)]
    exact I.freeC x c z
   ·rw[zaz (Nat.ne_of_gt (Nat.lt_trans (Nat.lt_succ_self _) z))]
    exact I.hok.fresh (Nat.le_of_lt (Nat.lt_trans (Nat.lt_succ_self _) z))
  ·rw[List.append_nil] at hp
   obtain⟨q1,q2,q3,q4,q5⟩:=I.pin p hp
   refine⟨hk _ _ q1,by rw[zaz (lt q1).1];exact q2,(lt q1).2,fun z=>?_,q5⟩
   rcases List.mem_cons.mp (I.stkSub _ z) with e|e
   ·exact q3 e
   ·exact q4 e
  ·exact I.hok.laid hk (Nat.le_refl _) ⟨Nat.zero_le _,[],0,.nil,hD⟩
  ·show (zea σ ix n).length=N'.length
   unfold zea
   rw[List.length_append,List.length_map,List.length_replicate]
   exact B.len
theorem zos {pins:List (Addr×Obj)} {σ σ':St} {H H':Hp} {s s':Shared} {fp:List Addr} {cl:List (Str×Addr)} {C:Addr} (I:Inv X pins σ H s) (hf:∀b∈fp,FpOk X pins H b)
  (J:Inv (X.comp scope cl C N' s H fp pins) [] σ' H' s'):Inv X pins σ H' s':=by
 obtain⟨hh,g,d,t,os'⟩:=s'
 obtain rfl:os'=s.os:=J.os
 exact I.call (h':=hh) (g':=g) (d':=d) (t':=t) (ch:=fp) J.base J.hok J.bare fun b hb=>⟨(hf b hb).2.2.2.1,(hf b hb).2.1,(hf b hb).2.2.2.2.1,(hf b hb).2.2.2.2.2⟩
theorem zmk {pins:List (Addr×Obj)} {σ:St} {H:Hp} {s:Shared} {Q:VK} {it:Addr} {fp:List Addr} {tn:Nat→Heap→Prop} {J:It} {cl:List (Str×Addr)} {RR:Value→Addr→Result→Shared→Prop} {E:Value→Shared→Prop}
  (B:CompOk X scope N' ix n tg elt ifs g tc te) (hc:X.calm=true) (I:Inv X pins σ H s) (T:Turn X.prog X.w X.K tg J fp it tn) (st:tn 0 s.heap) (hf:∀b∈fp,FpOk X pins H b)
  (hcl:∀x c,cl.lookup x=some c→X.env.cells.lookup x=some c) (hcf:∀y∈scope.names,y.2=.free→cl.lookup y.1=X.env.cells.lookup y.1)
  (body:∀D,H D=none→zqV D J g tc te Q (zea σ ix n) (upd H D (.lst [])))
  (hRR:∀D C H' s' m,Inv X pins σ H' s'→s'.heap.Ns C m→FpOk X pins H' C→Q (.ref D) H'→RR (.ref D) C (.ok .next) s') :
  wpAny (model X.prog X.w) X.A (newList []) (fun acc s₃=>wpAny (model X.prog X.w) X.A (newFunctionEnv scope X.env.globals cl [] X.env.qual none .none (some X.env)) (fun cenv s₄=>
   codeAny (model X.prog X.w) X.A (.compStart (.ListComp elt [⟨tg,iter,ifs,0⟩] scope pos) 0 (.ref it) acc { cenv with scope:=relabel scope X.env }) (RR acc cenv.locals) s₄) E s₃) E s:=by
 refine wpAny_newObj_type (zlI ?_)
 dsimp only
 generalize hH2:s.heap.push { cls:=.type "list",dict:=none,data:=.seq ([]:List Value).toArray }=H2
 have hC:H2.objs.size=s.heap.objs.size+1:=by rw[← hH2,Heap.size_push]
 obtain⟨cs,ecs⟩:∃cs,cs=cellsFrom (H2.objs.size+1) scope.names cl:=⟨_,rfl⟩
 rw[← ecs]
 obtain⟨h₁,eh⟩:∃h₁,h₁=pushCells (H2.push { cls:=.type "dict",data:=.dict #[] }) scope.names:=⟨_,rfl⟩
 rw[← eh]
 have kp:∀b o,H2.get? b=some o→h₁.get? b=some o:=fun b o e=>by rw[eh];exact pushCells_keeps _ _ b o (Heap.get?_push_of_some _ e)
 have hns₁:h₁.Ns H2.objs.size fun _=>none:=by rw[eh];exact (Heap.Ns.new H2 (.type "dict")).keeps (pushCells_keeps _ _)
 have below:∀b,b<s.heap.objs.size→b≠H2.objs.size:=fun b hb=>by rw[hC];exact Nat.ne_of_lt (Nat.lt_succ_of_lt hb)
 have old:∀b o,s.heap.get? b=some o→h₁.get? b=some o:=fun b o e=>kp b o (hH2 ▸ Heap.get?_push_of_some _ e)
 have hacc:h₁.get? s.heap.objs.size=some { cls:=.type "list",data:=.seq #[] 0 }:=kp _ _ (hH2 ▸ Heap.get?_push_size _ rfl)
 have clt:∀x c,cl.lookup x=some c→c<s.heap.objs.size:=fun x c e=>by
  obtain⟨v,o,ho,_⟩:=I.cell x c (hcl x c e)
  exact Heap.lt_size ho
 have own:∀x c,(x,NameKind.cell)∈scope.names→cs.lookup x=some c→s.heap.objs.size+1<c:=fun x c h e=>by
  rw[ecs] at e
  have:=ze0 scope.names _ cl h e fun _ _=>.inr trivial
  omega
 have hcl2:∀x c,cs.lookup x=some c→X.env.cells.lookup x=some c∨(s.heap.objs.size+1<c∧∃v,h₁.IsCell c v):=fun x c e=>by
  by_cases hx:(x,NameKind.cell)∈scope.names
  ·refine .inr ⟨own x c hx e,none,?_⟩
   have okc:=cellsFrom_ok scope.names (H2.push { cls:=.type "dict",data:=.dict #[] }) 0 [] ⟨fun _ _ hm=>(nomatch hm),List.Pairwise.nil⟩ (Nat.zero_le _)
   have e2:(cellsFrom (H2.objs.size+1) scope.names []).lookup x=some c:=by
    have gen:∀(names:List (Str×NameKind)) (n:Nat) (acc:List (Str×Addr)),(x,NameKind.cell)∈names→(cellsFrom n names acc).lookup x=(cellsFrom n names []).lookup x:=by
     have gen2:∀(names:List (Str×NameKind)) (n:Nat) (acc acc':List (Str×Addr)),(x,NameKind.cell)∈names∨acc.lookup x=acc'.lookup x→(cellsFrom n names acc).lookup x=(cellsFrom n names acc').lookup x:=by
      intro names
      induction names with
      | nil=>intro n acc acc' h;exact h.elim (fun z=>by cases z) id
      | cons p r ih=>
       intro n acc acc' h
       obtain⟨y,k⟩:=p
       unfold cellsFrom
       split
       ·rename_i hk
        have hk':k=.cell:=by simpa using hk
        subst hk'
        refine ih _ _ _ ?_
        by_cases exy:x=y
        ·subst exy;exact .inr (by simp only[List.lookup_cons,beq_self_eq_true])
        ·rcases h with z|z
         ·rcases List.mem_cons.mp z with w|w
          ·cases w;exact absurd rfl exy
          ·exact .inl w
         ·exact .inr (by simp only[List.lookup_cons,show (x == y)=false by simpa using exy];exact z)
       ·rename_i hk
        refine ih _ _ _ ?_
        rcases h with z|z
        ·rcases List.mem_cons.mp z with w|w
         ·cases w;exact absurd rfl hk
         ·exact .inl w
        ·exact .inr z
     exact fun names n acc h=>gen2 names n acc [] (.inl h)
    rw[← gen scope.names _ cl hx,← ecs];exact e
   rw[Heap.size_push] at okc
   rw[eh]
   exact (okc.empty x c (PySem.mem_of_lookup e2)).1
  ·rw[ecs,zd5 _ _ _ hx] at e
   exact .inl (hcl x c e)
 have hcf2:∀y∈scope.names,y.2=.free→cs.lookup y.1=X.env.cells.lookup y.1:=fun y hy hf=>by
  rw[ecs,zd5 _ _ _ (B.nocell y hy hf)]
  exact hcf y hy hf
 have hinj:∀x y c,cs.lookup x=some c→cs.lookup y=some c→x=y:=by
  rw[ecs]
  exact zfb scope.names _ cl (fun x c e=>Nat.lt_of_lt_of_le (clt x c e) (by rw[hC];omega)) fun x y c e1 e2=>I.ok.inj x y c (hcl x c e1) (hcl y c e2)
 have hown:∀x,scope.names.lookup x=some .cell→∃c,cs.lookup x=some c:=fun x h=>by
  rw[ecs]
  exact Option.isSome_iff_exists.mp (PySem.W.cellsFrom_some scope.names _ cl (.inl h))
 have hnew:∀x c,scope.names.lookup x=some .cell→cs.lookup x=some c→s.heap.objs.size+1<c:=fun x c h e=>own x c (PySem.mem_of_lookup h) e
 have cne:∀b,b<s.heap.objs.size→(∀x c,X.env.cells.lookup x=some c→c≠b)→∀x c,cs.lookup x=some c→c≠b:=fun b hb hold x c e z=>by
  rcases hcl2 x c e with w|⟨w,_⟩
  ·exact hold x c w z
  ·rw[z] at w;exact Nat.lt_irrefl _ (Nat.lt_trans (Nat.lt_trans (Nat.lt_succ_self _) w) hb)
 have hfo:∀b∈fp,∃o,s.heap.get? b=some o:=fun b hb=>let ⟨o,e,_⟩:=T.obj 0 _ st b hb;⟨o,e⟩
 have st1:tn 0 h₁:=T.keep 0 _ _ st fun b _ o e=>old b o e
 have hD0:H s.heap.objs.size=none:=I.hok.fresh (Nat.le_refl _)
 obtain⟨W,⟨m0,w0⟩,turn⟩:=body _ hD0
 have J0:Inv (X.comp scope cs H2.objs.size N' s H fp pins) [] (zea σ ix n) (upd H s.heap.objs.size (.lst [])) { s with heap:=h₁ }:=by
  rw[hC] at hns₁ ⊢
  exact zmR (tk:=s.toks) B I hf hfo hcl2 hcf2 hinj hown hnew old hacc hns₁
 have fpOk:∀ {H':Hp},(∀b∈fp,H' b=none)→∀b∈fp,FpOk (X.comp scope cs H2.objs.size N' s H fp pins) [] H' b:=fun hn b hb=>by
  obtain⟨f0,f1,f2,f3,f4,f5⟩:=hf b hb
  obtain⟨o,e⟩:=hfo b hb
  refine⟨hn b hb,below b (Heap.lt_size e),fun z=>?_,.inl hb,cne b (Heap.lt_size e) f4,fun p hp=>f5 p ?_⟩
  ·rcases List.mem_cons.mp (I.stkSub b z) with q|q
   ·exact f1 q
   ·exact f2 q
  ·rw[List.append_nil] at hp
   exact hp
 have fp0:∀b∈fp,upd H s.heap.objs.size (.lst []) b=none:=fun b hb=>by
  obtain⟨o,e⟩:=hfo b hb
  rw[zaz (Nat.ne_of_lt (Heap.lt_size e))]
  exact (hf b hb).1
 have loop:∀s₃:Shared,s₃ = { s with heap:=h₁ } →
   codeAny (model X.prog X.w) X.A (.compLoop (.ListComp elt [⟨tg,iter,ifs,0⟩] scope pos) 0 (.ref it) (.ref s.heap.objs.size) (compEnvC scope cs H2.objs.size X.env)) (RR (.ref s.heap.objs.size) H2.objs.size) s₃:=by
  rintro s₃ rfl
  refine zld (fun k s'=>∃i ys σ2 H3,Inv (X.comp scope cs H2.objs.size N' s H fp pins) [] σ2 H3 s'∧tn i s'.heap∧(∀b∈fp,H3 b=none)∧W i k ys σ2 H3) ?_ m0 ⟨0,[],_,_,J0,st1,fp0,w0⟩
  rintro k s3 ⟨i,ys,σ3,H3,I3,st3,fr3,w3⟩
  obtain⟨hD3,alt⟩:=turn i k ys σ3 H3 w3
  rcases alt with ⟨stop,q⟩|⟨go,N,hN,step⟩
  ·refine thn (T.done (X.comp scope cs H2.objs.size N' s H fp pins) rfl rfl rfl hc i [] s3 σ3 H3 _ I3 (fpOk fr3) st3 stop) fun r s4 ⟨hr,I4⟩=>?_
   subst hr
   obtain⟨m4,hn4,_⟩:=I4.loc
   refine hRR _ _ H3 s4 m4 (zos I hf I4) hn4 ⟨I4.free,fun z=>?_,fun z=>?_,.inr (Nat.le_trans I.sz (by omega)),fun x c e z=>?_,fun p hp z=>?_⟩ q
   ·have lt:=I.lt
    rw[← z,hC] at lt
    exact absurd lt (Nat.not_lt.mpr (Nat.le_succ _))
   ·exact I.nofs (show s.heap.objs.size≤H2.objs.size by omega) z
   ·obtain⟨v,o,ho,_⟩:=I.cell x c e
    have lt:=Heap.lt_size ho
    rw[z,hC] at lt
    exact absurd lt (Nat.not_lt.mpr (Nat.le_succ _))
   ·have lt:=Heap.lt_size (I.pin p hp).1
    rw[z,hC] at lt
    exact absurd lt (Nat.not_lt.mpr (Nat.le_succ _))
  ·refine thn (T.item (X.comp scope cs H2.objs.size N' s H fp pins) rfl rfl rfl hc i [] s3 σ3 H3 _ I3 (fpOk fr3) st3 go) fun r s4 ⟨u,hr,h4⟩=>?_
   subst hr
   refine thn h4 fun _ s5 ⟨x,H5,I5,r5,y5,st5,fr5⟩=>?_
   have I5':=I5.pinned (fpOk fr5) (T.obj _ _ st5)
   have back:∀ {σ7:St} {H7:Hp} {s7:Shared} {ys':List V},Inv (X.comp scope cs H2.objs.size N' s H fp pins) ([]++zi3 fp s5.heap) σ7 H7 s7→N ys' σ7 H7 →
     ∃m,m<k∧∃i ys σ2 H3,Inv (X.comp scope cs H2.objs.size N' s H fp pins) [] σ2 H3 s7∧tn i s7.heap∧(∀b∈fp,H3 b=none)∧W i m ys σ2 H3:=fun {σ7 H7 s7 ys'} I7 n7=>by
    obtain⟨m',hm,w7⟩:=hN ys' σ7 H7 n7
    refine⟨m',hm,i+1,ys',σ7,H7,I7.unpinned,T.keep _ _ _ st5 fun b hb o e=>(I7.pin (b,o) (List.mem_append_right _ (List.mem_append_right _ (zeM hb e)))).1,fun b hb=>?_,w7⟩
    obtain⟨o,e,d⟩:=T.obj _ _ st5 b hb
    exact (I7.pin (b,o) (List.mem_append_right _ (List.mem_append_right _ (zeM hb e)))).2.1
   refine thn (B.tgt cs H2.objs.size s H fp pins _ s5 σ3 H5 x u _ I5' r5 (step x H5 y5)) fun _ s6 ⟨σ6,H6,I6,q6⟩=>?_
   have fin:∀(b:Bool) (s7:Shared),TP (X.comp scope cs H2.objs.size N' s H fp pins) ([]++zi3 fp s5.heap) σ6
     (fun b H4=>if b=true then te σ6 H4 fun y H5=>H5 s.heap.objs.size=some (.lst ys)∧ys.length<sizeLine∧N (ys++[y]) σ6 (upd H5 s.heap.objs.size (.lst (ys++[y]))) else N ys σ6 H4) b s7 →
     if b=true then wpAny (model X.prog X.w) X.A (eval elt (compEnvC scope cs H2.objs.size X.env)) (fun x s₄=>
       wpAny (model X.prog X.w) X.A (call (.builtin "list.append") [.ref s.heap.objs.size,x]) (fun _ s₅=>∃m,m<k∧∃i ys σ2 H3,Inv (X.comp scope cs H2.objs.size N' s H fp pins) [] σ2 H3 s₅∧tn i s₅.heap∧(∀b∈fp,H3 b=none)∧W i m ys σ2 H3) (fun _ _=>False) s₄) (fun _ _=>False) s7
      else ∃m,m<k∧∃i ys σ2 H3,Inv (X.comp scope cs H2.objs.size N' s H fp pins) [] σ2 H3 s7∧tn i s7.heap∧(∀b∈fp,H3 b=none)∧W i m ys σ2 H3:=by
    rintro b s7 ⟨H7,I7,q7⟩
    cases b with
    | false=>
     rw[if_neg Bool.false_ne_true] at q7 ⊢
     exact back I7 q7
    | true=>
     rw[if_pos rfl] at q7 ⊢
     refine thn (B.elt cs H2.objs.size s H fp pins _ s7 σ6 H7 _ I7 q7) fun y s8 ⟨yv,H8,I8,r8,hD8,hz,n8⟩=>?_
     refine thn (zbH _ s8 σ6 H8 (.ref s.heap.objs.size) [yv] (.ref s.heap.objs.size) [y] (fun _ H9=>N (ys++[yv]) σ6 H9) I8 rfl (.cons r8 .nil) ⟨_,ys,yv,rfl,rfl,hD8,hz,n8⟩) fun _ s9 ⟨_,H9,I9,_,n9⟩=>?_
     exact back I9 n9
   rcases B.test with ⟨e1,e2⟩|⟨c,t,e1,e2,ht⟩
   ·subst e1;subst e2
    exact wpAny_tests_nil (fin true s6 ⟨H6,I6,q6⟩)
   ·subst e1;subst e2
    exact wpAny_tests_one (thn (ht cs H2.objs.size s H fp pins _ s6 σ6 H6 _ I6 q6) fun b s7 z=>fin b s7 z)
 exact codeAny_compStart_list (loop _ rfl) (T.self X.A 0 _ _ _ st1 (loop _ rfl))
theorem zcA {wi:TI} (hc:X.calm=true) (hi:PI X tg iter wi) (B:CompOk X scope N' ix n tg elt ifs g tc te) (hs:∀x,foldedSetIterable iter X.env x=pure x:=by intro _;rfl) :
  PE X (.ListComp elt [⟨tg,iter,ifs,0⟩] scope pos) (zpY wi ix n g tc te):=by
 intro pins s σ H Q I h
 rw[eval_ListComp]
 obtain⟨cl,hclos,hcl,hcf⟩:=zgM (scope:=scope) (env:=X.env) fun y hy hf=>I.ok.has _ (B.free y hy hf)
 refine wpAny_comprehension_free (use:=none) rfl hs hclos B.kind B.names (thn (hi pins s σ H _ I h) fun v s1 h1=>thn h1 fun itv s2 h2=>?_)
 obtain⟨it,fp,tn,J,H2,rfl,I2,T,st2,f2,body⟩:=h2
 refine zmk (RR:=fun acc C=>compPost (model X.prog X.w) X.A X.xe none (EP X pins σ Q) acc C) B hc I2 T st2 f2 hcl hcf body fun D C H' s' m I' hn hC q=>⟨m,hn,fun h' hs'=>?_⟩
 obtain⟨f0,f1,f2',f3,f4,f5⟩:=hC
 exact⟨.ref D,H',I'.turned (t':=s'.toks) (fun b o hb e=>(hs'.2 b hb).trans e) f0 f1 f3 f4 f5,rfl,q⟩
theorem zdL {wi:TI} {i:Nat} {y:Str} {py spos:Pos} (hN:X.N.Nodup) (hiN:X.N[i]?=some y) (hy:Loc X.env.scope y) (hc:X.calm=true) (hi:PI X tg iter wi) (B:CompOk X scope N' ix n tg elt ifs g tc te)
  (hsw:swapsWith (.ListComp elt [⟨tg,iter,ifs,0⟩] scope pos) (some (.Name y py)) spos.line X.env=pure true) (hf:X.fn y=true∨X.env.scope.names.lookup y=some .local:=by first|exact .inl rfl|exact .inr rfl|assumption)
  (hs:∀x,foldedSetIterable iter X.env x=pure x:=by intro _;rfl) :
  PS X (.Assign [.Name y py] (.ListComp elt [⟨tg,iter,ifs,0⟩] scope pos) spos) (tAsg (zpY wi ix n g tc te) (ziP i)):=by
 intro pins s σ H D I h
 rw[exec_Assign_Name_used _ _ _ _ hsw]
 refine wpAny_bind (wpAny_standAt (wpAny_bind ?_))
 show wpAny _ X.A (do let _ ← comprehension (.ListComp elt [⟨tg,iter,ifs,0⟩] scope pos) scope X.env _ (newList []) false (eval iter X.env) (some (assign (.Name y py) X.env))) _ _ s
 obtain⟨cl,hclos,hcl,hcf⟩:=zgM (scope:=scope) (env:=X.env) fun y hy hf=>I.ok.has _ (B.free y hy hf)
 refine wpAny_bind (wpAny_mono (wpAny_comprehension_free (use:=some (assign (.Name y py) X.env)) (Q:=fun _ s'=>SP X pins D .next s') rfl hs hclos B.kind B.names
  (thn (hi pins s σ H _ I h) fun v s1 h1=>thn h1 fun itv s2 h2=>?_)) (fun _ s' hq=>wpAny_pure (wpAny_pure hq)) fun _ _ e=>e)
 obtain⟨it,fp,tn,J,H2,rfl,I2,T,st2,f2,body⟩:=h2
 refine zmk (Q:=fun x H1=>ziP i x σ H1 D.nx) (RR:=fun acc C=>compPost (model X.prog X.w) X.A X.xe (some (assign (.Name y py) X.env)) (fun _ s'=>SP X pins D .next s') acc C) B hc I2 T st2 f2 hcl hcf body fun D' C H' s' m I' hn hC q=>?_
 obtain⟨f0,f1,f2',f3,f4,f5⟩:=hC
 have Ip := I'.pinned (fp := [C]) (fun b hb => by have e : b = C := by simpa using hb
                                                  subst e;exact⟨f0,f1,f2',f3,f4,f5⟩) (fun b hb=>by
  have e:b=C:=by simpa using hb
  subst e
  obtain⟨o,es,ep,ho,hd,_⟩:=hn
  exact⟨o,ho,fun v z=>by rw[hd] at z;cases z⟩)
 refine wpAny_assign_Name (zgC Ip hN hiN hy (v:=.ref D') rfl (fun s'' I''=>?_) hf)
 obtain⟨o,es,ep,ho,hd,hr⟩:=hn
 have pinC:=I''.pin (C,o) (List.mem_append_right _ (List.mem_append_right _ (zeM (by simp) ho)))
 refine⟨m,⟨o,es,ep,pinC.1,hd,hr⟩,fun h' hs'=>?_⟩
 exact⟨_,H',(I''.unpinned).turned (t':=s''.toks) (fun b o hb e=>(hs'.2 b hb).trans e) pinC.2.1 f1 f3 f4 f5,q⟩
end
end L2
namespace L2
open PySem PySem.Spec PyProof.Rows
section
variable {X:Cx} {scope:Scope} {tg elt:Expr} {ifs:List Expr} {g:TG} {tc:Option TT} {te:TE}
theorem zb3 (osc:Scope) (oN N':List Str) (ix:List Nat) (n:Nat) (hosc:X.env.scope=osc) (hoN:X.N=oN) (kind:scope.kind=.function) (nocell:(scope.names.all fun y=>y.2 != .free || scope.names.all fun z=>!(z.1 == y.1) || z.2 != .cell)=true) (names:∀y∈scope.names,y.2=.local→scope.names.lookup y.1=some .local)
  (free:(scope.names.all fun y=>y.2 != .free || (osc.names.lookup y.1 == some .cell || osc.names.lookup y.1 == some .free))=true) (len:ix.length+n=N'.length)
  (take:((List.range ix.length).all fun j=>match N'[j]?,oN[ix.getD j 0]? with|some x,some y=>x == y && scope.names.lookup x == some .free|_,_=>false)=true)
  (tgt:∀(cl:List (Str×Addr)) (C:Addr) (s:Shared) (H:Hp) (fp:List Addr) (pins:List (Addr×Obj)),PG (X.comp scope cl C N' s H fp pins) tg g)
  (elt':∀(cl:List (Str×Addr)) (C:Addr) (s:Shared) (H:Hp) (fp:List Addr) (pins:List (Addr×Obj)),PE (X.comp scope cl C N' s H fp pins) elt te)
  (test:(ifs=[]∧tc=none)∨∃c t,ifs=[c]∧tc=some t∧∀(cl:List (Str×Addr)) (C:Addr) (s:Shared) (H:Hp) (fp:List Addr) (pins:List (Addr×Obj)),PT (X.comp scope cl C N' s H fp pins) c t) :
  CompOk X scope N' ix n tg elt ifs g tc te:=
 ⟨kind,fun y hy e hc=>by
  have z:=List.all_eq_true.mp nocell y hy
  rw[e] at z
  have z2:(scope.names.all fun w=>!(w.1 == y.1) || w.2 != .cell)=true:=by simpa using z
  have z3:=List.all_eq_true.mp z2 _ hc
  simp at z3,names,fun y hy e=>by
  have z:=List.all_eq_true.mp free y hy
  rw[e] at z
  have z':(osc.names.lookup y.1 == some .cell || osc.names.lookup y.1 == some .free)=true:=by simpa using z
  show X.env.scope.names.lookup y.1=_∨X.env.scope.names.lookup y.1=_
  rw[hosc]
  simpa using z',len,fun j i e=>by
  obtain⟨hj,_⟩:=List.getElem?_eq_some_iff.mp e
  have e2:ix.getD j 0=i:=by
   rw[List.getD_eq_getElem?_getD,e]
   rfl
  have z:=List.all_eq_true.mp take j (List.mem_range.mpr hj)
  rw[e2] at z
  cases h1:N'[j]? with
  | none=>rw[h1] at z;cases z
  | some x=>
   cases h2:oN[i]? with
   | none=>rw[h1,h2] at z;cases z
   | some y=>
    rw[h1,h2] at z
    have z':x=y∧scope.names.lookup x=some .free:=by simpa using z
    obtain⟨rfl,z2⟩:=z'
    exact⟨x,rfl,by rw[hoN];exact h2,z2⟩,tgt,elt',test⟩
end
structure Has (P:Program) (w:World) (K:PySem.W.Frag) (mg:Str→Option Value) (base:Heap) (CX:CXT) (k:Nat) (x:Str) (ps:List Str) (sp:Sp):Prop where
 ex:∃(f:Addr) (fd:FuncData),FnOk P w K mg base CX k f fd ps sp∧mg x=some (.ref f)∧PySem.W.keepIn K (.ref f)=true∧Binds K fd ps []
section
variable {X:Cx} {CX:CXT} {k:Nat} {x:Str} {ps:List Str} {sp:Sp} {E:XK} {p pos:Pos} {e:Expr} {es:List Expr} {t:TA}
theorem zpz (G:Has X.prog X.w X.K X.mg X.base CX k x ps sp) (hr:Room k X.A) (hg:Gl X x) (hx:zku CX X E)
  (ha:PA X (e::es) t) (hdb:(x == ("__debug__" : Str))=false:=by decide) (he:starEach (e::es) X.env=(false,eval e X.env)::starEach es X.env:=by rfl) (hpl:(backTo pos (starEach es X.env)).any (·.1)=false:=by rfl) :
  PE X (.Call (.Name x p) (e::es) [] pos) (zlq sp [] E t):=by
 obtain⟨f,fd,F,hm,hk,hb⟩:=G.ex
 exact zqy F hr hg hm hk hb .nil hx ha hdb he hpl
end
structure DefAt (K:PySem.W.Frag) (x:Str) (st:Stmt) (f:Addr) (fd:FuncData):Prop where
 ns:PySem.W.nsIn K mainGlobals x=some (some (.ref f))
 fn:Fun K x x st f fd
theorem defAt_mk {K:PySem.W.Frag} {x:Str} {st:Stmt} {f:Addr} {oc:Value} {od an:Option Addr} {osl:Array (Option Value)} {kV doc pm cdv ct:Value} (a:PySem.W.nsIn K mainGlobals x=some (some (.ref f)))
  (l:K.lookup f=some ⟨oc,od,.func (PySem.W.fnOf x x (zgd st) (zfF st) (zas st) .none kV doc pm an cdv ct),osl⟩) (c:PySem.W.codeIn K cdv x=true) (k:PySem.W.keepIn K (.ref f)=true):∃f fd,DefAt K x st f fd:=
 ⟨f,_,a,zpM l c k⟩
theorem DefAt.has {P:Program} {w:World} {K:PySem.W.Frag} {mg:Str→Option Value} {base h:Heap} {CX:CXT} {k:Nat} {x:Str} {st:Stmt} {f:Addr} {fd:FuncData} {ps:List Str} {sp:Sp} (D:DefAt K x st f fd) (X:K.In h) (G:h.Ns mainGlobals mg)
  (ok:FnOk P w K mg base CX k f fd ps sp) (b:Binds K fd ps []):Has P w K mg base CX k x ps sp:=⟨f,fd,ok,PySem.W.mg_of X G D.ns,D.fn.kp,b⟩
theorem zro {H:Hp} {a b:Addr} {o u:HO} (hn:H b=none) (h:H a=some o):upd H b u a=some o:=(zaz (zaG h hn)).trans h
theorem Same.upd {H:Hp} {b:Addr} {u:HO} (hn:H b=none):Same H (upd H b u):=fun _ _ h=>zro hn h
end L2
namespace L2
open PySem PySem.Spec PyProof.Rows
section
variable {X:Cx} {pos:Pos}
def gLst (K:PySem.W.Frag) (n:Nat) (t:TGs):TG:=fun v σ H Q=>∃a xs,v=.ref a∧SqL K H a xs∧xs.length=n∧t xs σ H Q
theorem znv {es:List Expr} {k:Nat} {t:TGs} {n:Nat} (hc:X.calm=true) (h:PGs X es t)
  (hn:(assignEach es X.env).length=n:=by rfl) (hst:(assignEach es X.env).findIdx? (·.1)=none:=by rfl):PG X (.Tuple es k pos) (gLst X.K n t):=by
 intro pins s σ H v u Q I r hw
 obtain⟨a,xs,e1,hq,hl,hw⟩:=hw
 subst e1
 cases r
 obtain⟨its,rv,ht,hz⟩:=I.list hq
 have hl2:=rv.length
 rw[assign_Tuple]
 refine wpAny_bind (wpAny_standAt ?_)
 unfold unpack
 rw[hn,hst]
 have e:n=its.toArray.size:=by rw[List.size_toArray];omega
 rw[e]
 refine wpAny_bind (wpAny_holding (PySem.W.kun_itemsOf (I.ok.hd hc) ht.isList fun h' hx=>?_))
 have I1:Inv X pins σ H { s with heap:=h' }:=I.kept (t':=s.toks) fun b o e=>hx b o (Nat.ne_of_lt (Heap.lt_size e)) e
 exact h pins _ σ H xs _ Q I1 (by simpa using rv) hw
end
end L2
namespace L2
open PySem PySem.Spec PyProof.Rows
theorem kit_self {K:PySem.W.Frag} {T:String}:PySem.W.kitOne K (.type T) (.type T)=some true:=by
 unfold PySem.W.kitOne
 rw[if_pos (by simp)]
theorem kit_no {K:PySem.W.Frag} {S T:String} (h1:((Value.type S) == (Value.type T))=false) (h2:PySem.W.kitMeta T=true) (h3:(PySem.fastBuiltinMro S).map (·.contains (.type T))=some false):PySem.W.kitOne K (.type S) (.type T)=some false:=by
 unfold PySem.W.kitOne
 rw[h1,if_neg Bool.false_ne_true]
 show (if PySem.W.kitMeta T=true then PySem.W.subIn K (.type S) (.type T) else none)=some false
 rw[if_pos h2]
 exact h3
theorem kit_int_bool {K:PySem.W.Frag}:PySem.W.kitOne K (.type "int") (.type "bool")=some false:=kit_no (by decide +kernel) (by decide +kernel) (by decide +kernel)
end L2
namespace L2
open PySem PySem.Spec PyProof.Rows
structure Tr (h:Heap) (e T:Addr) (cls:Value) (dct:Option Addr) (fl:Value):Prop where
 ex:∃(oe:Obj) (vs:Array Value) (oT:Obj) (ts:Array Value),h.get? e=some oe∧oe.cls=cls∧oe.dict=dct∧oe.data=.fields vs∧vs[1]?=some (.ref T)∧h.get? T=some oT∧oT.data=.fields ts∧ts[3]?=some fl
 ne:T≠e
section
variable {M:Model} {A:Around} {E:Value→Shared→Prop} {s:Shared} {B:Heap} {env:Env} {outer l:List Env} {L e:Addr} {cls:Value} {dct:Option Addr} {Q:Unit→Shared→Prop}
end
end L2
namespace L2
open PySem PySem.Spec PyProof.Rows
section
variable {P:Program} {w:World} {K:PySem.W.Frag} {mg:Str→Option Value} {base:Heap} {N:List Str} {qual:Str} {scope:Scope} {f:Addr} {cd:Value} {A:Around} {outer:List Env} {s0:Shared} {H0:Hp} {E:XK}
end
section
variable {X:Cx} {x:Str} {np cpos pos:Pos} {e₀:Expr} {rest:List Expr} {C:Addr} {bmB bmN:List Value} {newId Bn B nid inN initId:String} {E:St→XK} {t:TA}
end
section
variable {X:Cx} {CX:CXT} {k:Nat} {x:Str} {ps:List Str} {sp:Sp} {E:St→XK} {p pos:Pos} {e:Expr} {es:List Expr} {t:TA}
end
def excO (C:Addr) (dct:Option Addr) (ea:Addr):HO:=.ext fun h=>∃ob,h.get? ea=some ob∧ob.cls=.ref C∧ob.dict=dct∧∃vs,ob.data=.fields vs
section
variable {P:Program} {w:World} {X:Cx} {x n:Str} {np hpos pos:Pos} {body:List Stmt} {b₀:Stmt} {suite:List Stmt} {D':Addr} {tb:(St→XK)→TS} {th:TS} {i:Nat}
end
end L2
namespace L2
open PySem PySem.Spec PyProof.Rows
section
variable {X:Cx}
end
section
variable {P:Program} {w:World} {K:PySem.W.Frag} {mg:Str→Option Value} {base:Heap} {N:List Str} {qual:Str} {scope:Scope} {f:Addr} {cd:Value} {A:Around} {outer:List Env} {s0:Shared} {H0:Hp} {E:XK}
end
end L2
namespace PM
open PySem L2
inductive D where
 | non|bl (b:Bool)|int (i:Int)|str (x:Str)|tup (l:List D)|lst (l:List D)|dct (ks:List Key) (l:List D)|scr (l:List Int)|exc (c:Nat)|fd (ks:List Key) (l:List D)|obj (c:Nat) (ks:List Str) (l:List D)
structure Kx where
 f:W.Frag
 ca:Nat→Addr
 an:Nat→Str
def XA (K:Kx) (F:Hp) (c:Nat) (dct:Option Addr):Prop:=if c<16 then dct=none else ∃dx,dct=some dx∧F dx=some (.xd [(K.an c,.int (((c/16:Nat):Int) - 1))])
section
variable (K:Kx)
mutual
def Rep (F:Hp):D→V→Prop
 | .non,v=>v=.non
 | .bl b,v=>v=.bl b
 | .int i,v=>v=.int i
 | .str x,v=>v=.str x
 | .scr l,v=>∃a,v=.ref a∧SqL K.f F a (l.map V.int)
 | .exc c,v=>∃a dct,v=.ref a∧F a=some (excO (K.ca c) dct a)∧XA K F c dct
 | .tup l,v=>∃a vs,v=.ref a∧F a=some (.tup vs)∧RepL F l vs
 | .fd ks l,v=>∃a o kvs,v=.ref a∧F a=some (.frz o (.dK kvs))∧kvs.map (·.1)=ks∧RepL F l (kvs.map (·.2))
 | .obj c ks l,v=>∃a dx fs,v=.ref a∧F a=some (.ins (K.ca c) dx fs)∧fs.map (·.1)=ks∧RepL F l (fs.map (·.2))
 | .lst l,v=>∃a vs,v=.ref a∧F a=some (.lst vs)∧RepL F l vs
 | .dct ks l,v=>∃a kvs,v=.ref a∧F a=some (.dK kvs)∧kvs.map (·.1)=ks∧RepL F l (kvs.map (·.2))
def RepL (F:Hp):List D→List V→Prop
 | [],vs=>vs=[]
 | d::l,vs=>∃v r,vs=v::r∧Rep F d v∧RepL F l r
end
end
def ifC {α:Type} (p:Prop) (a b:α):α:=@ite α p (Classical.propDecidable p) a b
@[simp] theorem zbf {α:Type} {p:Prop} {a b:α} (h:p):ifC p a b=a:=if_pos h
theorem zoq {α:Type} {p:Prop} {a b:α} (h:¬ p):ifC p a b=b:=if_neg h
structure Xc where
 c:Nat
inductive R (α:Type) where
 | no|ok (a:α)|ex (x:Xc)
namespace R
def bind {α β:Type}:R α→(α→R β)→R β
 | .no,_=>.no
 | .ok a,f=>f a
 | .ex x,_=>.ex x
@[simp] theorem bind_ok {α β:Type} (a:α) (f:α→R β):(R.ok a).bind f=f a:=rfl
@[simp] theorem zsd {α β:Type} (f:α→R β):(R.no:R α).bind f=.no:=rfl
@[simp] theorem zr6 {α β:Type} (x:Xc) (f:α→R β):(R.ex x:R α).bind f=.ex x:=rfl
end R
inductive Tr where
 | d (x:D)|l (ts:List Tr)|t (ts:List Tr)
mutual
def trD:Tr→D
 | .d x=>x
 | .l ts=>.lst (trDL ts)
 | .t ts=>.tup (trDL ts)
def trDL:List Tr→List D
 | []=>[]
 | t::ts=>trD t::trDL ts
end
inductive Sl where
 | no|v (d:D)|o (d:D)|l (d:D)|p (T:Tr)
abbrev En:=List Sl
inductive O where
 | no|nx (δ:En)|rt (d:D)|ro (d:D)|bk (δ:En)|ct (δ:En)|ex (δ:En) (x:Xc)
structure Ext (F H F' H':Hp):Prop where
 ff:Same F F'
 hh:Same H H'
 fh:Same F' H'
 nw:∀p o,F p=none→H p=some o→F' p=none
theorem Ext.refl {F H:Hp} (s:Same F H):Ext F H F H:=⟨.refl _,.refl _,s,fun _ _ h _=>h⟩
theorem Ext.trans {F H F1 H1 F2 H2:Hp} (a:Ext F H F1 H1) (b:Ext F1 H1 F2 H2):Ext F H F2 H2:=
 ⟨a.ff.trans b.ff,a.hh.trans b.hh,b.fh,fun p o h1 h2=>b.nw p o (a.nw p o h1 h2) (a.hh p o h2)⟩
theorem Ext.new {F H:Hp} {p:Addr} {o:HO} (s:Same F H) (h:H p=none):Ext F H (upd F p o) (upd H p o):=by
 have hf:=s.free h
 refine⟨Same.upd hf,Same.upd h,fun b u q=>?_,fun q u h1 h2=>?_⟩
 ·by_cases e:b=p
  ·subst e;rw[zaX] at q ⊢;exact q
  ·rw[zaz e] at q ⊢;exact s _ _ q
 ·rw[zaz (zaG h2 h)];exact h1
theorem Ext.newO {F H:Hp} {p:Addr} {o:HO} (s:Same F H) (h:H p=none):Ext F H F (upd H p o):=by
 refine⟨.refl _,Same.upd h,s.trans (Same.upd h),fun q u h1 h2=>h1⟩
theorem Same.rd {H H':Hp} {a:Addr} {u:HO} (e:Same H H') (h:Rd H a u):Rd H' a u:=h.elim (fun h=>.inl (e _ _ h)) fun ⟨o,h⟩=>.inr ⟨o,e _ _ h⟩
theorem Same.rdp {H H':Hp} {a:Addr} {u:HO} (e:Same H H') (h:H a=some u):Rd H' a u:=.inl (e _ _ h)
section
variable {K:Kx} {F F' H H':Hp}
theorem XA.mono {c:Nat} {dct:Option Addr} (h:XA K F c dct) (e:Same F F'):XA K F' c dct:=by
 unfold XA at h ⊢
 split
 ·rename_i hc;rw[if_pos hc] at h;exact h
 ·rename_i hc
  rw[if_neg hc] at h
  obtain⟨dx,h1,h2⟩:=h
  exact⟨dx,h1,e _ _ h2⟩
mutual
theorem Rep.mono (e:Same F F'):∀(d:D) {v:V},Rep K F d v→Rep K F' d v
 | .non,v,h=>by simpa only[Rep] using h
 | .bl b,v,h=>by simpa only[Rep] using h
 | .int b,v,h=>by simpa only[Rep] using h
 | .str b,v,h=>by simpa only[Rep] using h
 | .exc c,v,h=>by
  simp only[Rep] at h ⊢
  obtain⟨a,dct,h1,h2,h3⟩:=h
  exact⟨a,dct,h1,e _ _ h2,h3.mono e⟩
 | .fd ks l,v,h=>by
  simp only[Rep] at h ⊢
  obtain⟨a,o,vs,h1,h2,h0,h3⟩:=h
  exact⟨a,o,vs,h1,e _ _ h2,h0,RepL.mono e l h3⟩
 | .obj c ks l,v,h=>by
  simp only[Rep] at h ⊢
  obtain⟨a,o,vs,h1,h2,h0,h3⟩:=h
  exact⟨a,o,vs,h1,e _ _ h2,h0,RepL.mono e l h3⟩
 | .scr l,v,h=>by
  simp only[Rep] at h ⊢
  obtain⟨a,h1,h2⟩:=h
  exact⟨a,h1,e.seq h2⟩
 | .tup l,v,h=>by
  simp only[Rep] at h ⊢
  obtain⟨a,vs,h1,h2,h3⟩:=h
  exact⟨a,vs,h1,e _ _ h2,RepL.mono e l h3⟩
 | .lst l,v,h=>by
  simp only[Rep] at h ⊢
  obtain⟨a,vs,h1,h2,h3⟩:=h
  exact⟨a,vs,h1,e _ _ h2,RepL.mono e l h3⟩
 | .dct ks l,v,h=>by
  simp only[Rep] at h ⊢
  obtain⟨a,vs,h1,h2,h0,h3⟩:=h
  exact⟨a,vs,h1,e _ _ h2,h0,RepL.mono e l h3⟩
theorem RepL.mono (e:Same F F'):∀(l:List D) {vs:List V},RepL K F l vs→RepL K F' l vs
 | [],vs,h=>by simpa only[RepL] using h
 | d::l,vs,h=>by
  simp only[RepL] at h ⊢
  obtain⟨v,r,h1,h2,h3⟩:=h
  exact⟨v,r,h1,Rep.mono e d h2,RepL.mono e l h3⟩
end
theorem RepL.length:∀ {l:List D} {vs:List V},RepL K F l vs→vs.length=l.length
 | [],vs,h=>by simp only[RepL] at h;subst h;rfl
 | d::l,vs,h=>by
  simp only[RepL] at h
  obtain⟨v,r,rfl,_,h3⟩:=h
  simp[RepL.length h3]
theorem RepL.get:∀ {l:List D} {vs:List V} {i:Nat} {d:D},RepL K F l vs→l[i]?=some d→∃v,vs[i]?=some v∧Rep K F d v
 | [],vs,i,d,h,e=>by simp at e
 | x::l,vs,0,d,h,e=>by
  simp only[RepL] at h
  obtain⟨v,r,rfl,h2,h3⟩:=h
  simp at e;subst e
  exact⟨v,rfl,h2⟩
 | x::l,vs,i+1,d,h,e=>by
  simp only[RepL] at h
  obtain⟨v,r,rfl,h2,h3⟩:=h
  obtain⟨u,h4,h5⟩:=RepL.get h3 (i:=i) (d:=d) (by simpa using e)
  exact⟨u,by simpa using h4,h5⟩
theorem RepL.get' {l:List D} {vs:List V} {i:Nat} {v:V} (h:RepL K F l vs) (e:vs[i]?=some v):∃d,l[i]?=some d∧Rep K F d v:=by
 have hi:i<l.length:=by rw[← h.length];exact (List.getElem?_eq_some_iff.mp e).1
 obtain⟨u,h1,h2⟩:=h.get (i:=i) (d:=l[i]) (by simp[hi])
 rw[e] at h1
 cases h1
 exact⟨l[i],by simp[hi],h2⟩
theorem RepL.nil:RepL K F [] []:=by simp only[RepL]
theorem RepL.cons {d:D} {l:List D} {v:V} {vs:List V} (h1:Rep K F d v) (h2:RepL K F l vs):RepL K F (d::l) (v::vs):=by
 simp only[RepL];exact⟨v,vs,rfl,h1,h2⟩
theorem RepL.append:∀ {l:List D} {vs:List V} {l':List D} {vs':List V},RepL K F l vs→RepL K F l' vs'→RepL K F (l++l') (vs++vs')
 | [],vs,l',vs',h,h'=>by simp only[RepL] at h;subst h;exact h'
 | d::l,vs,l',vs',h,h'=>by
  simp only[RepL] at h
  obtain⟨v,r,rfl,h2,h3⟩:=h
  exact .cons h2 (RepL.append h3 h')
theorem RepL.drop:∀ {l:List D} {vs:List V} (n:Nat),RepL K F l vs→RepL K F (l.drop n) (vs.drop n)
 | l,vs,0,h=>h
 | [],vs,n+1,h=>by simp only[RepL] at h;subst h;exact .nil
 | d::l,vs,n+1,h=>by
  simp only[RepL] at h
  obtain⟨v,r,rfl,h2,h3⟩:=h
  exact RepL.drop n h3
theorem RepL.take:∀ {l:List D} {vs:List V} (n:Nat),RepL K F l vs→RepL K F (l.take n) (vs.take n)
 | l,vs,0,h=>by simpa using RepL.nil
 | [],vs,n+1,h=>by simp only[RepL] at h;subst h;exact .nil
 | d::l,vs,n+1,h=>by
  simp only[RepL] at h
  obtain⟨v,r,rfl,h2,h3⟩:=h
  exact .cons h2 (RepL.take n h3)
theorem RepL.ints {ns:List Int}:RepL K F (ns.map .int) (ns.map .int):=by
 induction ns with
 | nil=>exact .nil
 | cons a l ih=>exact .cons rfl ih
end
section
variable (K:Kx)
def Top (F H:Hp):D→V→Prop
 | .lst l,v=>∃a vs,v=.ref a∧Rd H a (.lst vs)∧RepL K F l vs
 | .dct ks l,v=>∃a kvs,v=.ref a∧H a=some (.dK kvs)∧kvs.map (·.1)=ks∧RepL K F l (kvs.map (·.2))
 | .obj c ks l,v=>∃a dx fs,v=.ref a∧H a=some (.ins (K.ca c) dx fs)∧fs.map (·.1)=ks∧RepL K F l (fs.map (·.2))
 | d,v=>Rep K F d v
def Own (F H:Hp):D→Addr→Prop
 | .lst l,a=>∃vs,H a=some (.lst vs)∧RepL K F l vs
 | .dct ks l,a=>∃kvs,H a=some (.dK kvs)∧kvs.map (·.1)=ks∧RepL K F l (kvs.map (·.2))
 | .obj c ks l,a=>∃dx fs,H a=some (.ins (K.ca c) dx fs)∧fs.map (·.1)=ks∧RepL K F l (fs.map (·.2))
 | _,_=>False
mutual
def TrOk (F H:Hp):Tr→V→List Addr→Prop
 | .d x,v,fp=>fp=[]∧Rep K F x v
 | .l ts,v,fp=>∃a vs fs,v=.ref a∧fp=a::fs∧H a=some (.lst vs)∧TrOkL F H ts vs fs
 | .t ts,v,fp=>∃a vs,v=.ref a∧F a=some (.tup vs)∧TrOkL F H ts vs fp
def TrOkL (F H:Hp):List Tr→List V→List Addr→Prop
 | [],vs,fp=>vs=[]∧fp=[]
 | t::ts,vs,fp=>∃v r f1 f2,vs=v::r∧fp=f1++f2∧TrOk F H t v f1∧TrOkL F H ts r f2
end
structure Tab (F H:Hp) (a:Addr) (bs:List Addr) (T:Tr):Prop where
 ok:TrOk K F H T (.ref a) (a::bs)
 nd:(a::bs).Nodup
def SlOk (H0 F H:Hp):Option Sl→Option (Option V)→Prop
 | some (.v d),s=>∃u,s=some (some u)∧Rep K F d u
 | some (.o d),s=>∃a,s=some (some (.ref a))∧H0 a=none∧F a=none∧Own K F H d a
 | some (.l d),s=>∃a,s=some (some (.ref a))∧H0 a=none∧F a=none∧Own K F H d a
 | some (.p T),s=>∃a bs,s=some (some (.ref a))∧Tab K F H a bs T∧∀b∈a::bs,H0 b=none∧F b=none
 | _,_=>True
end
def Sl.own:Option Sl→Bool
 | some (.o _)=>true
 | some (.l _)=>true
 | some (.p _)=>true
 | _=>false
structure EnvOk (K:Kx) (Λ:List (Nat×Addr×HO)) (F0 H0 F H:Hp) (σ:St) (δ:En):Prop where
 ext:Ext F0 H0 F H
 len:σ.length=δ.length
 slot:∀i:Nat,SlOk K H0 F H δ[i]? σ[i]?
 dist:∀(i j:Nat) (a:Addr),i≠j→Sl.own δ[i]?=true→Sl.own δ[j]?=true→σ[i]?=some (some (.ref a))→σ[j]?=some (some (.ref a))→False
 lent:∀x∈Λ,(∃d,δ[x.1]?=some (.l d))∧σ[x.1]?=some (some (.ref x.2.1))∧H x.2.1=some x.2.2
 tabs:∀(i:Nat) (T:Tr),δ[i]?=some (.p T)→∃a bs,σ[i]?=some (some (.ref a))∧Tab K F H a bs T∧(∀b∈a::bs,H0 b=none∧F b=none)∧(∀(j:Nat) (b:Addr),j≠i→Sl.own δ[j]?=true→σ[j]?=some (some (.ref b))→b∉a::bs)∧∀(j:Nat) (T':Tr),j≠i→δ[j]?=some (.p T')→∃a' bs',σ[j]?=some (some (.ref a'))∧Tab K F H a' bs' T'∧∀b∈a'::bs',b∉a::bs
section
variable {K:Kx} {Λ:List (Nat×Addr×HO)} {F0 H0 F H F' H' F1 H1:Hp} {σ:St} {δ:En}
theorem Own.mono (e1:Same F F') (e2:Same H H'):∀ {d:D} {a:Addr},Own K F H d a→Own K F' H' d a
 | .lst l,a,h=>let ⟨vs,h1,h2⟩:=h;⟨vs,e2 _ _ h1,h2.mono e1⟩
 | .dct ks l,a,h=>let ⟨vs,h1,h0,h2⟩:=h;⟨vs,e2 _ _ h1,h0,h2.mono e1⟩
 | .non,_,h=>h.elim
 | .bl _,_,h=>h.elim
 | .int _,_,h=>h.elim
 | .str _,_,h=>h.elim
 | .tup _,_,h=>h.elim
 | .scr _,_,h=>h.elim
 | .exc _,_,h=>h.elim
 | .fd _ _,_,h=>h.elim
 | .obj c ks l,a,h=>let ⟨dx,vs,h1,h0,h2⟩:=h;⟨dx,vs,e2 _ _ h1,h0,h2.mono e1⟩
theorem Own.obj:∀ {d:D} {a:Addr},Own K F H d a→∃o,H a=some o
 | .lst l,a,h=>let ⟨vs,h1,h2⟩:=h;⟨_,h1⟩
 | .dct ks l,a,h=>let ⟨vs,h1,h2⟩:=h;⟨_,h1⟩
 | .non,_,h=>h.elim
 | .bl _,_,h=>h.elim
 | .int _,_,h=>h.elim
 | .str _,_,h=>h.elim
 | .tup _,_,h=>h.elim
 | .scr _,_,h=>h.elim
 | .exc _,_,h=>h.elim
 | .fd _ _,_,h=>h.elim
 | .obj c ks l,a,h=>let ⟨dx,vs,h1,h2⟩:=h;⟨_,h1⟩
theorem Own.at (e:H' a=H a):∀ {d:D},Own K F H d a→Own K F H' d a
 | .lst l,h=>let ⟨vs,h1,h2⟩:=h;⟨vs,e.trans h1,h2⟩
 | .dct ks l,h=>let ⟨vs,h1,h0,h2⟩:=h;⟨vs,e.trans h1,h0,h2⟩
 | .non,h=>h.elim
 | .bl _,h=>h.elim
 | .int _,h=>h.elim
 | .str _,h=>h.elim
 | .tup _,h=>h.elim
 | .scr _,h=>h.elim
 | .exc _,h=>h.elim
 | .fd _ _,h=>h.elim
 | .obj c ks l,h=>let ⟨dx,vs,h1,h0,h2⟩:=h;⟨dx,vs,e.trans h1,h0,h2⟩
theorem Rep.top (s:Same F H):∀ {d:D} {v:V},Rep K F d v→Top K F H d v
 | .lst l,v,h=>by
  simp only[Rep] at h
  obtain⟨a,vs,h1,h2,h3⟩:=h
  exact⟨a,vs,h1,PM.Same.rdp s h2,h3⟩
 | .dct ks l,v,h=>by
  simp only[Rep] at h
  obtain⟨a,vs,h1,h2,h3⟩:=h
  exact⟨a,vs,h1,s _ _ h2,h3⟩
 | .non,_,h=>h
 | .bl _,_,h=>h
 | .int _,_,h=>h
 | .str _,_,h=>h
 | .tup _,_,h=>h
 | .scr _,_,h=>h
 | .exc _,_,h=>h
 | .fd _ _,_,h=>h
 | .obj c ks l,v,h=>by
  simp only[Rep] at h
  obtain⟨a,dx,vs,h1,h2,h3⟩:=h
  exact⟨a,dx,vs,h1,s _ _ h2,h3⟩
theorem Own.top:∀ {d:D} {a:Addr},Own K F H d a→Top K F H d (.ref a)
 | .lst l,a,h=>let ⟨vs,h1,h2⟩:=h;⟨a,vs,rfl,.inl h1,h2⟩
 | .dct ks l,a,h=>let ⟨vs,h1,h2⟩:=h;⟨a,vs,rfl,h1,h2⟩
 | .non,_,h=>h.elim
 | .bl _,_,h=>h.elim
 | .int _,_,h=>h.elim
 | .str _,_,h=>h.elim
 | .tup _,_,h=>h.elim
 | .scr _,_,h=>h.elim
 | .exc _,_,h=>h.elim
 | .fd _ _,_,h=>h.elim
 | .obj c ks l,a,h=>let ⟨dx,vs,h1,h2⟩:=h;⟨a,dx,vs,rfl,h1,h2⟩
theorem Top.mono (e1:Same F F') (e2:Same H H'):∀ {d:D} {v:V},Top K F H d v→Top K F' H' d v
 | .lst l,v,h=>let ⟨a,vs,h1,h2,h3⟩:=h;⟨a,vs,h1,PM.Same.rd e2 h2,h3.mono e1⟩
 | .dct ks l,v,h=>let ⟨a,vs,h1,h2,h0,h3⟩:=h;⟨a,vs,h1,e2 _ _ h2,h0,h3.mono e1⟩
 | .non,_,h=>h
 | .bl _,_,h=>h
 | .int _,_,h=>h
 | .str _,_,h=>h
 | .tup l,v,h=>Rep.mono e1 (.tup l) h
 | .scr l,v,h=>Rep.mono e1 (.scr l) h
 | .exc l,v,h=>Rep.mono e1 (.exc l) h
 | .fd ks l,v,h=>Rep.mono e1 (.fd ks l) h
 | .obj c ks l,v,h=>let ⟨a,dx,vs,h1,h2,h0,h3⟩:=h;⟨a,dx,vs,h1,e2 _ _ h2,h0,h3.mono e1⟩
theorem Own.freeze {p:Addr} {d:D} (x:Ext F H F' H') (h0:F' p=none) (h1:H p=none) (o:Own K F' H' d p):∃F'',Ext F H F'' H'∧Same F' F''∧Rep K F'' d (.ref p):=by
 obtain⟨u,hu⟩:=o.obj
 have hs:Same F' (upd F' p u):=Same.upd h0
 refine⟨upd F' p u,⟨x.ff.trans hs,x.hh,fun b w q=>?_,fun q w h2 h3=>?_⟩,hs,?_⟩
 ·by_cases e:b=p
  ·subst e;rw[zaX] at q;cases q;exact hu
  ·rw[zaz e] at q;exact x.fh _ _ q
 ·rw[zaz (zaG h3 h1)];exact x.nw q w h2 h3
 ·cases d with
  | lst l=>
   obtain⟨vs,h2,h3⟩:=o
   rw[hu] at h2;cases h2
   simp only[Rep]
   exact⟨p,vs,rfl,zaX,h3.mono hs⟩
  | dct ks l=>
   obtain⟨vs,h2,h3,h4⟩:=o
   rw[hu] at h2;cases h2
   simp only[Rep]
   exact⟨p,vs,rfl,zaX,h3,h4.mono hs⟩
  | obj c ks l=>
   obtain⟨dx,vs,h2,h3,h4⟩:=o
   rw[hu] at h2;cases h2
   simp only[Rep]
   exact⟨p,dx,vs,rfl,zaX,h3,h4.mono hs⟩
  | _=>exact o.elim
mutual
theorem TrOk.mono (e:Same F F') (e2:Same H H'):∀(T:Tr) {v:V} {fp:List Addr},TrOk K F H T v fp→TrOk K F' H' T v fp
 | .d x,v,fp,h=>by
  simp only[TrOk] at h ⊢
  exact⟨h.1,Rep.mono e x h.2⟩
 | .l ts,v,fp,h=>by
  simp only[TrOk] at h ⊢
  obtain⟨a,vs,fs,h1,h2,h3,h4⟩:=h
  exact⟨a,vs,fs,h1,h2,e2 _ _ h3,TrOkL.mono e e2 ts h4⟩
 | .t ts,v,fp,h=>by
  simp only[TrOk] at h ⊢
  obtain⟨a,vs,h1,h3,h4⟩:=h
  exact⟨a,vs,h1,e _ _ h3,TrOkL.mono e e2 ts h4⟩
theorem TrOkL.mono (e:Same F F') (e2:Same H H'):∀(ts:List Tr) {vs:List V} {fp:List Addr},TrOkL K F H ts vs fp→TrOkL K F' H' ts vs fp
 | [],vs,fp,h=>by simpa only[TrOkL] using h
 | t::ts,vs,fp,h=>by
  simp only[TrOkL] at h ⊢
  obtain⟨v,r,f1,f2,h1,h2,h3,h4⟩:=h
  exact⟨v,r,f1,f2,h1,h2,TrOk.mono e e2 t h3,TrOkL.mono e e2 ts h4⟩
end
mutual
theorem TrOk.obj:∀(T:Tr) {v:V} {fp:List Addr},TrOk K F H T v fp→∀b∈fp,∃o,H b=some o
 | .d x,v,fp,h,b,hb=>by
  simp only[TrOk] at h
  rw[h.1] at hb;cases hb
 | .l ts,v,fp,h,b,hb=>by
  simp only[TrOk] at h
  obtain⟨a,vs,fs,h1,h2,h3,h4⟩:=h
  rw[h2] at hb
  rcases List.mem_cons.mp hb with e|hb
  ·subst e;exact⟨_,h3⟩
  ·exact TrOkL.obj ts h4 b hb
 | .t ts,v,fp,h,b,hb=>by
  simp only[TrOk] at h
  obtain⟨a,vs,h1,h3,h4⟩:=h
  exact TrOkL.obj ts h4 b hb
theorem TrOkL.obj:∀(ts:List Tr) {vs:List V} {fp:List Addr},TrOkL K F H ts vs fp→∀b∈fp,∃o,H b=some o
 | [],vs,fp,h,b,hb=>by
  simp only[TrOkL] at h
  rw[h.2] at hb;cases hb
 | t::ts,vs,fp,h,b,hb=>by
  simp only[TrOkL] at h
  obtain⟨v,r,f1,f2,h1,h2,h3,h4⟩:=h
  rw[h2] at hb
  rcases List.mem_append.mp hb with hb|hb
  ·exact TrOk.obj t h3 b hb
  ·exact TrOkL.obj ts h4 b hb
end
mutual
theorem TrOk.at':∀(T:Tr) {v:V} {fp:List Addr},TrOk K F H T v fp→(∀b∈fp,H' b=H b)→TrOk K F H' T v fp
 | .d x,v,fp,h,_=>by simpa only[TrOk] using h
 | .l ts,v,fp,h,e=>by
  simp only[TrOk] at h ⊢
  obtain⟨a,vs,fs,h1,h2,h3,h4⟩:=h
  subst h2
  exact⟨a,vs,fs,h1,rfl,(e a (by simp)).trans h3,TrOkL.at' ts h4 fun b hb=>e b (List.mem_cons_of_mem _ hb)⟩
 | .t ts,v,fp,h,e=>by
  simp only[TrOk] at h ⊢
  obtain⟨a,vs,h1,h3,h4⟩:=h
  exact⟨a,vs,h1,h3,TrOkL.at' ts h4 e⟩
theorem TrOkL.at':∀(ts:List Tr) {vs:List V} {fp:List Addr},TrOkL K F H ts vs fp→(∀b∈fp,H' b=H b)→TrOkL K F H' ts vs fp
 | [],vs,fp,h,_=>by simpa only[TrOkL] using h
 | t::ts,vs,fp,h,e=>by
  simp only[TrOkL] at h ⊢
  obtain⟨v,r,f1,f2,h1,h2,h3,h4⟩:=h
  subst h2
  exact⟨v,r,f1,f2,h1,rfl,TrOk.at' t h3 fun b hb=>e b (List.mem_append_left _ hb),TrOkL.at' ts h4 fun b hb=>e b (List.mem_append_right _ hb)⟩
end
theorem Tab.mono {a:Addr} {bs:List Addr} {T:Tr} (e1:Same F F') (e:Same H H') (t:Tab K F H a bs T):Tab K F' H' a bs T:=⟨TrOk.mono e1 e T t.ok,t.nd⟩
theorem Tab.obj {a:Addr} {bs:List Addr} {T:Tr} (t:Tab K F H a bs T):∀b∈a::bs,∃o,H b=some o:=TrOk.obj T t.ok
theorem Tab.at' {a:Addr} {bs:List Addr} {T:Tr} (t:Tab K F H a bs T) (e:∀b∈a::bs,H' b=H b):Tab K F H' a bs T:=⟨TrOk.at' T t.ok e,t.nd⟩
theorem SlOk.mono (e:Ext F H F' H'):∀ {x:Option Sl} {s:Option (Option V)},SlOk K H0 F H x s→SlOk K H0 F' H' x s
 | some (.v d),s,h=>let ⟨u,h1,h2⟩:=h;⟨u,h1,Rep.mono e.ff d h2⟩
 | some (.o d),s,h=>let ⟨a,h1,h2,h3,h4⟩:=h;let ⟨o,ho⟩:=h4.obj;⟨a,h1,h2,e.nw a o h3 ho,h4.mono e.ff e.hh⟩
 | some (.l d),s,h=>let ⟨a,h1,h2,h3,h4⟩:=h;let ⟨o,ho⟩:=h4.obj;⟨a,h1,h2,e.nw a o h3 ho,h4.mono e.ff e.hh⟩
 | some (.p T),s,h=>let ⟨a,bs,h1,h2,h3⟩:=h;⟨a,bs,h1,h2.mono e.ff e.hh,fun b hb=>let ⟨o,ho⟩:=h2.obj b hb;⟨(h3 b hb).1,e.nw b o (h3 b hb).2 ho⟩⟩
 | some .no,_,_=>trivial
 | none,_,_=>trivial
mutual
theorem zrF:∀(T:Tr) {v:V} {f f':List Addr},TrOk K F H T v f→TrOk K F H T v f'→f=f'
 | .d x,v,f,f',h1,h2=>by
  simp only[TrOk] at h1 h2
  rw[h1.1,h2.1]
 | .l ts,v,f,f',h1,h2=>by
  simp only[TrOk] at h1 h2
  obtain⟨a,vs,fs,rfl,rfl,e1,o1⟩:=h1
  obtain⟨a',vs',fs',e,rfl,e2,o2⟩:=h2
  cases e
  rw[e1] at e2
  cases e2
  rw[znJ ts o1 o2]
 | .t ts,v,f,f',h1,h2=>by
  simp only[TrOk] at h1 h2
  obtain⟨a,vs,rfl,e1,o1⟩:=h1
  obtain⟨a',vs',e,e2,o2⟩:=h2
  cases e
  rw[e1] at e2
  cases e2
  exact znJ ts o1 o2
theorem znJ:∀(ts:List Tr) {vs:List V} {f f':List Addr},TrOkL K F H ts vs f→TrOkL K F H ts vs f'→f=f'
 | [],vs,f,f',h1,h2=>by
  simp only[TrOkL] at h1 h2
  rw[h1.2,h2.2]
 | t::ts,vs,f,f',h1,h2=>by
  simp only[TrOkL] at h1 h2
  obtain⟨v,r,f1,f2,rfl,rfl,o1,o2⟩:=h1
  obtain⟨v',r',g1,g2,e,rfl,p1,p2⟩:=h2
  cases e
  rw[zrF t o1 p1,znJ ts o2 p2]
end
theorem zhB {a:Addr} {bs bs':List Addr} {T:Tr} (t:Tab K F H a bs T) (t':Tab K F H a bs' T):bs=bs':=(List.cons.inj (zrF T t.ok t'.ok)).2
theorem EnvOk.tab (I:EnvOk K Λ F0 H0 F H σ δ) {i:Nat} {T:Tr} (hx:δ[i]?=some (.p T)):∃a bs,σ[i]?=some (some (.ref a))∧Tab K F H a bs T∧(∀b∈a::bs,H0 b=none∧F b=none)∧(∀(j:Nat) (b:Addr),j≠i→Sl.own δ[j]?=true→σ[j]?=some (some (.ref b))→b∉a::bs)∧∀(j:Nat) (T':Tr),j≠i→δ[j]?=some (.p T')→∃a' bs',σ[j]?=some (some (.ref a'))∧Tab K F H a' bs' T'∧∀b∈a'::bs',b∉a::bs:=I.tabs i T hx
theorem EnvOk.tabsOf {δ':En} {σ':St} (I:EnvOk K Λ F0 H0 F H σ δ) (h1:∀(i:Nat) (T:Tr),δ'[i]?=some (.p T)→δ[i]?=some (.p T)∧σ'[i]?=σ[i]?)
  (h2:∀(i:Nat) (a:Addr) (bs:List Addr) (T:Tr),δ[i]?=some (.p T)→σ[i]?=some (some (.ref a))→Tab K F H a bs T→(∀b∈a::bs,H0 b=none∧F b=none)→(∀(j:Nat) (b:Addr),j≠i→Sl.own δ[j]?=true→σ[j]?=some (some (.ref b))→b∉a::bs)→Tab K F' H' a bs T∧∀b∈a::bs,F' b=none)
  (h3:∀(i j:Nat) (T:Tr) (a b:Addr) (bs:List Addr),δ[i]?=some (.p T)→σ[i]?=some (some (.ref a))→Tab K F H a bs T→j≠i→Sl.own δ'[j]?=true→σ'[j]?=some (some (.ref b))→(Sl.own δ[j]?=true∧σ[j]?=some (some (.ref b)))∨b∉a::bs) :
  ∀(i:Nat) (T:Tr),δ'[i]?=some (.p T)→∃a bs,σ'[i]?=some (some (.ref a))∧Tab K F' H' a bs T∧(∀b∈a::bs,H0 b=none∧F' b=none)∧(∀(j:Nat) (b:Addr),j≠i→Sl.own δ'[j]?=true→σ'[j]?=some (some (.ref b))→b∉a::bs)∧∀(j:Nat) (T':Tr),j≠i→δ'[j]?=some (.p T')→∃a' bs',σ'[j]?=some (some (.ref a'))∧Tab K F' H' a' bs' T'∧∀b∈a'::bs',b∉a::bs:=by
 intro i T g1
 obtain⟨d1,d2⟩:=h1 i T g1
 obtain⟨a,bs,t1,t2,t3,t4,t5⟩:=I.tab d1
 obtain⟨u1,u2⟩:=h2 i a bs T d1 t1 t2 t3 t4
 refine⟨a,bs,d2.trans t1,u1,fun b hb=>⟨(t3 b hb).1,u2 b hb⟩,fun j b hj ho hs hb=>?_,fun j T' hj hT=>?_⟩
 ·rcases h3 i j T a b bs d1 t1 t2 hj ho hs with ⟨o1,o2⟩|o
  ·exact t4 j b hj o1 o2 hb
  ·exact o hb
 ·obtain⟨e1,e2⟩:=h1 j T' hT
  obtain⟨a',bs',s1,s2,s3⟩:=t5 j T' hj e1
  obtain⟨a2,bs2,u1,u2,u3,u4,_⟩:=I.tab e1
  rw[s1] at u1
  cases u1
  have eb:=zhB u2 s2
  subst eb
  exact⟨a',bs2,e2.trans s1,(h2 j a' bs2 T' e1 s1 s2 u3 u4).1,s3⟩
theorem zmb (e:Ext F H F' H') {a:Addr} {bs:List Addr} {T:Tr} (t:Tab K F H a bs T) (f:∀b∈a::bs,H0 b=none∧F b=none):Tab K F' H' a bs T∧∀b∈a::bs,F' b=none:=
 ⟨t.mono e.ff e.hh,fun b hb=>let ⟨o,ho⟩:=t.obj b hb;e.nw b o (f b hb).2 ho⟩
theorem EnvOk.grow (I:EnvOk K Λ F0 H0 F H σ δ) (e:Ext F H F' H'):EnvOk K Λ F0 H0 F' H' σ δ:=
 ⟨I.ext.trans e,I.len,fun i=>(I.slot i).mono e,I.dist,fun x hx=>let ⟨h1,h2,h3⟩:=I.lent x hx;⟨h1,h2,e.hh _ _ h3⟩,I.tabsOf (fun i T h=>⟨h,rfl⟩) (fun i a bs T _ _ t f _=>zmb e t f) fun i j T a b bs _ _ _ _ ho hs=>.inl ⟨ho,hs⟩⟩
theorem EnvOk.same (I:EnvOk K Λ F0 H0 F H σ δ):Same F H:=I.ext.fh
theorem Ext.base (a:Ext F0 H0 F1 H1) (b:Ext F1 H0 F' H'):Ext F0 H0 F' H':=
 ⟨a.ff.trans b.ff,b.hh,b.fh,fun p o h1 h2=>b.nw p o (a.nw p o h1 h2) h2⟩
theorem EnvOk.up (I:EnvOk K Λ F0 H0 F H σ δ):EnvOk K Λ F H0 F H σ δ:=
 ⟨⟨.refl _,I.ext.hh,I.ext.fh,fun p o h1 h2=>h1⟩,I.len,I.slot,I.dist,I.lent,I.tabs⟩
theorem EnvOk.down (a:Ext F0 H0 F1 H1) (I:EnvOk K Λ F1 H0 F H σ δ):EnvOk K Λ F0 H0 F H σ δ:=
 ⟨a.base I.ext,I.len,I.slot,I.dist,I.lent,I.tabs⟩
theorem EnvOk.put {i:Nat} {d:D} {v:V} (I:EnvOk K Λ F0 H0 F H σ δ) (hl:∃x,δ[i]?=some x∧∀d,x≠.l d) (r:Rep K F d v):EnvOk K Λ F0 H0 F H (σ.set i (some v)) (δ.set i (.v d)):=by
 obtain⟨x,hx,hn⟩:=hl
 have hi:i<δ.length:=(List.getElem?_eq_some_iff.mp hx).1
 have hi':i<σ.length:=by rw[I.len];exact hi
 refine⟨I.ext,by simp[I.len],fun j=>?_,fun j k a hjk h1 h2 h3 h4=>?_,fun y hy=>?_,I.tabsOf (fun k ll h=>by
   by_cases e:i=k
   ·subst e;rw[List.getElem?_set_self hi] at h;cases h
   ·rw[List.getElem?_set_ne e] at h;exact⟨h,List.getElem?_set_ne e⟩) (fun _ _ _ _ _ _ t f _=>⟨t,fun b hb=>(f b hb).2⟩) fun k j ll a b bs _ _ _ _ ho hs=>.inl (by
   by_cases e:i=j
   ·subst e;rw[List.getElem?_set_self hi] at ho;cases ho
   ·rw[List.getElem?_set_ne e] at ho hs;exact⟨ho,hs⟩)⟩
 ·by_cases e:i=j
  ·subst e
   rw[List.getElem?_set_self hi,List.getElem?_set_self hi']
   exact⟨v,rfl,r⟩
  ·rw[List.getElem?_set_ne e,List.getElem?_set_ne e]
   exact I.slot j
 ·have ne:∀k:Nat,Sl.own (δ.set i (.v d))[k]?=true→i≠k:=by
   rintro k h rfl
   rw[List.getElem?_set_self hi] at h
   cases h
  have n1:=ne j h1
  have n2:=ne k h2
  rw[List.getElem?_set_ne n1] at h1 h3
  rw[List.getElem?_set_ne n2] at h2 h4
  exact I.dist j k a hjk h1 h2 h3 h4
 ·obtain⟨⟨d',h1⟩,h2,h3⟩:=I.lent y hy
  have n:i≠y.1:=by
   intro e
   rw[← e,hx] at h1
   exact hn d' (Option.some.inj h1)
  exact⟨⟨d',by rw[List.getElem?_set_ne n];exact h1⟩,by rw[List.getElem?_set_ne n];exact h2,h3⟩
theorem EnvOk.putO {i:Nat} {d:D} {p:Addr} (I:EnvOk K Λ F0 H0 F H σ δ) (hl:∃x,δ[i]?=some x∧∀d,x≠.l d) (e:Ext F H F' H') (h0:F' p=none) (h1:H p=none) (o:Own K F' H' d p) :
  EnvOk K Λ F0 H0 F' H' (σ.set i (some (.ref p))) (δ.set i (.o d)):=by
 obtain⟨x,hx,hn⟩:=hl
 have hi:i<δ.length:=(List.getElem?_eq_some_iff.mp hx).1
 have hi':i<σ.length:=by rw[I.len];exact hi
 have fresh:∀k:Nat,Sl.own δ[k]?=true→σ[k]?≠some (some (V.ref p)):=fun k hk e=>by
  have z:=I.slot k
  cases q:δ[k]? with
  | none=>rw[q] at hk;cases hk
  | some y=>
   rw[q] at hk z
   cases y with
   | no=>cases hk
   | v d=>cases hk
   | o d=>
    obtain⟨a,z1,_,_,z4⟩:=z
    rw[e] at z1;cases z1
    obtain⟨u,hu⟩:=z4.obj
    rw[h1] at hu;cases hu
   | l d=>
    obtain⟨a,z1,_,_,z4⟩:=z
    rw[e] at z1;cases z1
    obtain⟨u,hu⟩:=z4.obj
    rw[h1] at hu;cases hu
   | p ll=>
    obtain⟨a,bs,z1,z2,_⟩:=z
    rw[e] at z1;cases z1
    obtain⟨u,hu⟩:=z2.obj p (by simp)
    rw[h1] at hu;cases hu
 have J:=I.grow e
 refine⟨J.ext,by simp[I.len],fun j=>?_,fun j k a hjk g1 g2 g3 g4=>?_,fun y hy=>?_,I.tabsOf (fun k ll h=>by
   by_cases e:i=k
   ·subst e;rw[List.getElem?_set_self hi] at h;cases h
   ·rw[List.getElem?_set_ne e] at h;exact⟨h,List.getElem?_set_ne e⟩) (fun k a bs T _ _ t f _=>zmb e t f) fun k j ll a b bs _ _ t _ ho hs=>by
   by_cases e:i=j
   ·subst e
    rw[List.getElem?_set_self hi'] at hs
    cases hs
    refine .inr fun hb=>?_
    obtain⟨u,hu⟩:=t.obj p hb
    rw[h1] at hu;cases hu
   ·rw[List.getElem?_set_ne e] at ho hs;exact .inl ⟨ho,hs⟩⟩
 ·by_cases e:i=j
  ·subst e
   rw[List.getElem?_set_self hi,List.getElem?_set_self hi']
   exact⟨p,rfl,I.ext.hh.free h1,h0,o⟩
  ·rw[List.getElem?_set_ne e,List.getElem?_set_ne e]
   exact J.slot j
 ·by_cases e1:i=j
  ·subst e1
   rw[List.getElem?_set_self hi'] at g3
   cases g3
   rw[List.getElem?_set_ne hjk] at g2 g4
   exact fresh k g2 g4
  ·by_cases e2:i=k
   ·subst e2
    rw[List.getElem?_set_self hi'] at g4
    cases g4
    rw[List.getElem?_set_ne e1] at g1 g3
    exact fresh j g1 g3
   ·rw[List.getElem?_set_ne e1] at g1 g3
    rw[List.getElem?_set_ne e2] at g2 g4
    exact I.dist j k a hjk g1 g2 g3 g4
 ·obtain⟨⟨d',g1⟩,g2,g3⟩:=J.lent y hy
  have n:i≠y.1:=by
   intro e
   rw[← e,hx] at g1
   exact hn d' (Option.some.inj g1)
  exact⟨⟨d',by rw[List.getElem?_set_ne n];exact g1⟩,by rw[List.getElem?_set_ne n];exact g2,g3⟩
theorem EnvOk.chg {i:Nat} {d d':D} {a:Addr} {u:HO} (I:EnvOk K Λ F0 H0 F H σ δ) (hx:δ[i]?=some (.o d)) (ha:σ[i]?=some (some (.ref a))) (o:Own K F (upd H a u) d' a) :
  EnvOk K Λ F0 H0 F (upd H a u) σ (δ.set i (.o d')):=by
 have hi:i<δ.length:=(List.getElem?_eq_some_iff.mp hx).1
 have z:=I.slot i
 rw[hx] at z
 obtain⟨a',z1,z2,z3,z4⟩:=z
 rw[ha] at z1;cases z1
 have oth:∀(k:Nat) (b:Addr),i≠k→Sl.own δ[k]?=true→σ[k]?=some (some (.ref b))→b≠a:=fun k b hk h1 h2 e=>by
  subst e
  exact I.dist i k b hk (by rw[hx];rfl) h1 ha h2
 refine⟨⟨I.ext.ff,fun b w q=>?_,fun b w q=>?_,I.ext.nw⟩,by simp[I.len],fun j=>?_,fun j k b hjk g1 g2 g3 g4=>?_,fun y hy=>?_,I.tabsOf (fun k ll h=>by
   by_cases e:i=k
   ·subst e;rw[List.getElem?_set_self hi] at h;cases h
   ·rw[List.getElem?_set_ne e] at h;exact⟨h,rfl⟩) (fun k r bs T g1 g2 t f dj=>by
   have e:i≠k:=fun e=>by subst e;rw[hx] at g1;cases g1
   exact⟨t.at' fun b hb=>zaz fun e'=>dj i a e (by rw[hx];rfl) ha (e' ▸ hb),fun b hb=>(f b hb).2⟩) fun k j ll r b bs _ _ _ _ ho hs=>.inl (by
   by_cases e:i=j
   ·subst e;exact⟨by rw[hx];rfl,hs⟩
   ·rw[List.getElem?_set_ne e] at ho;exact⟨ho,hs⟩)⟩
 ·rw[zaz (zaG q z2)];exact I.ext.hh b w q
 ·rw[zaz (zaG q z3)];exact I.ext.fh b w q
 ·by_cases e:i=j
  ·subst e
   rw[List.getElem?_set_self hi]
   exact⟨a,ha,z2,z3,o⟩
  ·rw[List.getElem?_set_ne e]
   have w:=I.slot j
   cases q:δ[j]? with
   | none=>trivial
   | some y=>
    rw[q] at w
    cases y with
    | no=>trivial
    | v d=>exact w
    | o d=>
     obtain⟨b,w1,w2,w3,w4⟩:=w
     exact⟨b,w1,w2,w3,w4.at (zaz (oth j b e (by rw[q];rfl) w1))⟩
    | l d=>
     obtain⟨b,w1,w2,w3,w4⟩:=w
     exact⟨b,w1,w2,w3,w4.at (zaz (oth j b e (by rw[q];rfl) w1))⟩
    | p ll=>
     obtain⟨r,bs,t1,t2,t3,t4,t5⟩:=I.tab q
     exact⟨r,bs,t1,t2.at' fun b hb=>zaz fun e'=>t4 i a e (by rw[hx];rfl) ha (e' ▸ hb),t3⟩
 ·have ow:∀k:Nat,Sl.own (δ.set i (.o d'))[k]?=true→Sl.own δ[k]?=true:=by
   intro k h
   by_cases e:i=k
   ·subst e;rw[hx];rfl
   ·rw[List.getElem?_set_ne e] at h;exact h
  exact I.dist j k b hjk (ow j g1) (ow k g2) g3 g4
 ·obtain⟨⟨d2,g1⟩,g2,g3⟩:=I.lent y hy
  have n:i≠y.1:=by
   intro e
   rw[← e,hx] at g1
   cases g1
  exact⟨⟨d2,by rw[List.getElem?_set_ne n];exact g1⟩,g2,by rw[zaz (oth y.1 y.2.1 n (by rw[g1];rfl) g2)];exact g3⟩
theorem EnvOk.frz {i:Nat} {d:D} (I:EnvOk K Λ F0 H0 F H σ δ) (hx:δ[i]?=some (.o d)):∃F',Same F F'∧EnvOk K Λ F0 H0 F' H σ (δ.set i (.v d)):=by
 have hi:i<δ.length:=(List.getElem?_eq_some_iff.mp hx).1
 have z:=I.slot i
 rw[hx] at z
 obtain⟨a,z1,z2,z3,z4⟩:=z
 obtain⟨u,hu⟩:=z4.obj
 have hs:Same F (upd F a u):=Same.upd z3
 have sl:∀j:Nat,i≠j→Sl.own δ[j]?=true→σ[j]?≠some (some (V.ref a)):=fun j hj h e=>I.dist i j a hj (by rw[hx];rfl) h z1 e
 refine⟨upd F a u,hs,⟨I.ext.ff.trans hs,I.ext.hh,fun b w q=>?_,fun p o h1 h2=>?_⟩,by simp[I.len],fun j=>?_,fun j k b hjk g1 g2 g3 g4=>?_,fun y hy=>?_,I.tabsOf (fun k ll h=>by
   by_cases e:i=k
   ·subst e;rw[List.getElem?_set_self hi] at h;cases h
   ·rw[List.getElem?_set_ne e] at h;exact⟨h,rfl⟩) (fun k r bs T g1 g2 t f dj=>by
   have e:i≠k:=fun e=>by subst e;rw[hx] at g1;cases g1
   exact⟨t.mono hs (.refl _),fun b hb=>by rw[zaz (show b≠a from fun e'=>dj i a e (by rw[hx];rfl) z1 (e' ▸ hb))];exact (f b hb).2⟩) fun k j ll r b bs _ _ _ _ ho hs=>.inl (by
   by_cases e:i=j
   ·subst e;rw[List.getElem?_set_self hi] at ho;cases ho
   ·rw[List.getElem?_set_ne e] at ho;exact⟨ho,hs⟩)⟩
 ·by_cases e:b=a
  ·subst e;rw[zaX] at q;cases q;exact hu
  ·rw[zaz e] at q;exact I.ext.fh _ _ q
 ·rw[zaz (zaG h2 z2)];exact I.ext.nw p o h1 h2
 ·by_cases e:i=j
  ·subst e
   rw[List.getElem?_set_self hi]
   refine⟨.ref a,z1,?_⟩
   cases d with
   | lst l=>
    obtain⟨vs,h2,h3⟩:=z4
    rw[hu] at h2;cases h2
    simp only[Rep]
    exact⟨a,vs,rfl,zaX,h3.mono hs⟩
   | dct ks l=>
    obtain⟨vs,h2,h3,h4⟩:=z4
    rw[hu] at h2;cases h2
    simp only[Rep]
    exact⟨a,vs,rfl,zaX,h3,h4.mono hs⟩
   | obj c ks l=>
    obtain⟨dx,vs,h2,h3,h4⟩:=z4
    rw[hu] at h2;cases h2
    simp only[Rep]
    exact⟨a,dx,vs,rfl,zaX,h3,h4.mono hs⟩
   | _=>exact z4.elim
  ·rw[List.getElem?_set_ne e]
   have w:=I.slot j
   cases q:δ[j]? with
   | none=>trivial
   | some y=>
    rw[q] at w
    cases y with
    | no=>trivial
    | v d=>obtain⟨v,w1,w2⟩:=w;exact⟨v,w1,Rep.mono hs d w2⟩
    | o d=>
     obtain⟨b,w1,w2,w3,w4⟩:=w
     exact⟨b,w1,w2,by rw[zaz (show b≠a from fun e'=>sl j e (by rw[q];rfl) (by rw[w1,e']))];exact w3,w4.mono hs (.refl _)⟩
    | p ll=>
     obtain⟨r,bs,t1,t2,t3,t4,t5⟩:=I.tab q
     exact⟨r,bs,t1,t2.mono hs (.refl _),fun b hb=>⟨(t3 b hb).1,by rw[zaz (show b≠a from fun e'=>t4 i a e (by rw[hx];rfl) z1 (e' ▸ hb))];exact (t3 b hb).2⟩⟩
    | l d=>
     obtain⟨b,w1,w2,w3,w4⟩:=w
     exact⟨b,w1,w2,by rw[zaz (show b≠a from fun e'=>sl j e (by rw[q];rfl) (by rw[w1,e']))];exact w3,w4.mono hs (.refl _)⟩
 ·have ow:∀k:Nat,Sl.own (δ.set i (.v d))[k]?=true→Sl.own δ[k]?=true:=by
   intro k h
   by_cases e:i=k
   ·subst e;rw[List.getElem?_set_self hi] at h;cases h
   ·rw[List.getElem?_set_ne e] at h;exact h
  exact I.dist j k b hjk (ow j g1) (ow k g2) g3 g4
 ·obtain⟨⟨d2,g1⟩,g2,g3⟩:=I.lent y hy
  have n:i≠y.1:=by
   intro e
   rw[← e,hx] at g1
   cases g1
  exact⟨⟨d2,by rw[List.getElem?_set_ne n];exact g1⟩,g2,g3⟩
end
end PM
namespace PM
open PySem L2
abbrev XOT:=Xc→Hp→Hp→Value→Option Addr→Prop
def Aft {α:Type} (E:St→XK) (XO:XOT) (σ:St) (F H:Hp) (P:α→Hp→Hp→Prop):R α→Prop
 | .no=>False
 | .ok a=>∀F' H',Ext F H F' H'→P a F' H'
 | .ex x=>∀C dct F' H',Ext F H F' H'→XO x F' H' C dct→E σ C dct H'
section
variable {E:St→XK} {XO:XOT} {σ:St} {F H F1 H1:Hp} {α β:Type} {P P':α→Hp→Hp→Prop}
theorem Aft.mono (e:Ext F H F1 H1):∀ {r:R α},Aft E XO σ F H P r→Aft E XO σ F1 H1 P r
 | .no,h=>h
 | .ok _,h=>fun F' H' e'=>h F' H' (e.trans e')
 | .ex _,h=>fun C dct F' H' e' x=>h C dct F' H' (e.trans e') x
theorem Aft.imp (i:∀a F1 H1,Ext F H F1 H1→P a F1 H1→P' a F1 H1):∀ {r:R α},Aft E XO σ F H P r→Aft E XO σ F H P' r
 | .no,h=>h
 | .ok _,h=>fun F' H' e'=>i _ F' H' e' (h F' H' e')
 | .ex _,h=>h
theorem Aft.bind {P:β→Hp→Hp→Prop} {f:α→R β}:∀ {r:R α},Aft E XO σ F H P (r.bind f)→Aft E XO σ F H (fun a F1 H1=>Aft E XO σ F1 H1 P (f a)) r
 | .no,h=>h
 | .ok _,h=>fun F' H' e'=>Aft.mono e' h
 | .ex _,h=>h
end
inductive Prd (T:D→V→Prop):List D→List V→Prop where
 | nil:Prd T [] []
 | cons {d:D} {v:V} {ds:List D} {vs:List V}:T d v→Prd T ds vs→Prd T (d::ds) (v::vs)
section
variable (K:Kx) (XO:XOT) (E:St→XK)
def SE (t:TE) (m:En→R D):Prop:=∀Λ F0 H0 F H σ δ Q,EnvOk K Λ F0 H0 F H σ δ→Aft E XO σ F H (fun d F' H'=>∀v,Rep K F' d v→Q v H') (m δ)→t σ H Q
def SEr (t:TE) (m:En→R D):Prop:=∀Λ F0 H0 F H σ δ Q,EnvOk K Λ F0 H0 F H σ δ→Aft E XO σ F H (fun d F' H'=>∀v,Top K F' H' d v→Q v H') (m δ)→t σ H Q
def SEo (t:TE) (m:En→R D):Prop:=∀Λ F0 H0 F H σ δ Q,EnvOk K Λ F0 H0 F H σ δ→Aft E XO σ F H (fun d F' H'=>∀p,F' p=none→H p=none→Own K F' H' d p→Q (.ref p) H') (m δ)→t σ H Q
def ST (t:TT) (m:En→R Bool):Prop:=∀Λ F0 H0 F H σ δ Q,EnvOk K Λ F0 H0 F H σ δ→Aft E XO σ F H (fun b _ H'=>Q b H') (m δ)→t σ H Q
def SA (t:TA) (m:En→R (List D)):Prop:=∀Λ F0 H0 F H σ δ Q,EnvOk K Λ F0 H0 F H σ δ→Aft E XO σ F H (fun ds F' H'=>∀vs,RepL K F' ds vs→Q vs H') (m δ)→t σ H Q
def SAr (t:TA) (m:En→R (List D)):Prop:=∀Λ F0 H0 F H σ δ Q,EnvOk K Λ F0 H0 F H σ δ→Aft E XO σ F H (fun ds F' H'=>∀vs,Prd (Top K F' H') ds vs→Q vs H') (m δ)→t σ H Q
end
section
variable {K:Kx} {XO:XOT} {E:St→XK} {t ta tb te:TE} {m ma mb me:En→R D}
theorem SE.r (h:SE K XO E t m):SEr K XO E t m:=fun Λ F0 H0 F H σ δ Q I a=>h Λ F0 H0 F H σ δ Q I (a.imp fun d F1 H1 e p v r=>p v (r.top e.fh))
theorem SEo.e (h:SEo K XO E t m):SE K XO E t m:=fun Λ F0 H0 F H σ δ Q I a=>h Λ F0 H0 F H σ δ Q I (by
 cases q:m δ with
 | no=>rw[q] at a;exact a
 | ex x=>rw[q] at a;exact a
 | ok d=>
  rw[q] at a
  intro F1 H1 e p h0 h1 o
  obtain⟨F2,e2,s2,r⟩:=o.freeze e h0 h1
  exact a F2 H1 e2 _ r)
def mVar (i:Nat) (δ:En):R D:=match δ[i]? with|some (.v d)=>.ok d|_=>.no
def mRd (i:Nat) (δ:En):R D:=match δ[i]? with|some (.v d)=>.ok d|some (.o d)=>.ok d|some (.l d)=>.ok d|_=>.no
theorem zah {i:Nat}:SE K XO E (tVar i) (mVar i):=by
 intro Λ F0 H0 F H σ δ Q I a
 unfold mVar at a
 have z:=I.slot i
 split at a
 ·rename_i d q
  rw[q] at z
  obtain⟨u,h1,h2⟩:=z
  exact⟨u,h1,a F H (.refl I.same) u h2⟩
 ·exact a.elim
theorem zad {i:Nat}:SEr K XO E (tVar i) (mRd i):=by
 intro Λ F0 H0 F H σ δ Q I a
 unfold mRd at a
 have z:=I.slot i
 split at a
 ·rename_i d q
  rw[q] at z
  obtain⟨u,h1,h2⟩:=z
  exact⟨u,h1,a F H (.refl I.same) u (h2.top I.same)⟩
 ·rename_i d q
  rw[q] at z
  obtain⟨u,h1,_,_,h2⟩:=z
  exact⟨_,h1,a F H (.refl I.same) _ h2.top⟩
 ·rename_i d q
  rw[q] at z
  obtain⟨u,h1,_,_,h2⟩:=z
  exact⟨_,h1,a F H (.refl I.same) _ h2.top⟩
 ·exact a.elim
def mC (d:D) (_:En):R D:=.ok d
theorem zai {i:Int}:SE K XO E (tC (.int i)) (mC (.int i)):=fun Λ F0 H0 F H σ δ Q I a=>a F H (.refl I.same) _ (by simp only[Rep])
theorem zkd {i:Bool}:SE K XO E (tC (.bl i)) (mC (.bl i)):=fun Λ F0 H0 F H σ δ Q I a=>a F H (.refl I.same) _ (by simp only[Rep])
theorem zbT {i:Str}:SE K XO E (tC (.str i)) (mC (.str i)):=fun Λ F0 H0 F H σ δ Q I a=>a F H (.refl I.same) _ (by simp only[Rep])
def R.of {α:Type}:Option α→R α
 | some a=>.ok a
 | none=>.no
@[simp] theorem R.of_some {α:Type} (a:α):R.of (some a)=.ok a:=rfl
@[simp] theorem R.of_none {α:Type}:R.of (none:Option α)=.no:=rfl
def m2 (f:D→D→Option D) (ma mb:En→R D) (δ:En):R D:=(ma δ).bind fun x=>(mb δ).bind fun y=>R.of (f x y)
def m1 (f:D→Option D) (ma:En→R D) (δ:En):R D:=(ma δ).bind fun x=>R.of (f x)
@[simp] theorem zel {f:D→D→Option D} {ma mb:En→R D} {δ:En}:m2 f ma mb δ=(ma δ).bind fun x=>(mb δ).bind fun y=>R.of (f x y):=rfl
@[simp] theorem zsw {f:D→Option D} {ma:En→R D} {δ:En}:m1 f ma δ=(ma δ).bind fun x=>R.of (f x):=rfl
variable (K) in
def SR (r:R2) (f:D→D→Option D):Prop:=∀F H x y dx dy d Q,Same F H→Top K F H dx x→Top K F H dy y→f dx dy=some d→(∀v F' H',Ext F H F' H'→Rep K F' d v→Q v H')→r x y H Q
variable (K) in
def SRo (r:R2) (f:D→D→Option D):Prop:=∀F H x y dx dy d Q,Same F H→Top K F H dx x→Top K F H dy y→f dx dy=some d→(∀p F' H',Ext F H F' H'→F' p=none→H p=none→Own K F' H' d p→Q (.ref p) H')→r x y H Q
theorem zam {r:R2} {f:D→D→Option D} (hr:SR K r f) (ha:SEr K XO E ta ma) (hb:SEr K XO E tb mb):SE K XO E (tOp r ta tb) (m2 f ma mb):=by
 intro Λ F0 H0 F H σ δ Q I a
 refine ha Λ F0 H0 F H σ δ _ I (a.bind.imp fun dx F1 H1 e1 a1 x rx=>?_)
 refine hb Λ F0 H0 F1 H1 σ δ _ (I.grow e1) (a1.bind.imp fun dy F2 H2 e2 a2 y ry=>?_)
 cases q:f dx dy with
 | none=>rw[q] at a2;exact a2.elim
 | some d=>
  rw[q] at a2
  exact hr F2 H2 x y dx dy d Q e2.fh (rx.mono e2.ff e2.hh) ry q fun v F' H' e r=>a2 F' H' e v r
theorem zgu {r:R2} {f:D→D→Option D} (hr:SRo K r f) (ha:SEr K XO E ta ma) (hb:SEr K XO E tb mb):SEo K XO E (tOp r ta tb) (m2 f ma mb):=by
 intro Λ F0 H0 F H σ δ Q I a
 refine ha Λ F0 H0 F H σ δ _ I (a.bind.imp fun dx F1 H1 e1 a1 x rx=>?_)
 refine hb Λ F0 H0 F1 H1 σ δ _ (I.grow e1) (a1.bind.imp fun dy F2 H2 e2 a2 y ry=>?_)
 cases q:f dx dy with
 | none=>rw[q] at a2;exact a2.elim
 | some d=>
  rw[q] at a2
  exact hr F2 H2 x y dx dy d Q e2.fh (rx.mono e2.ff e2.hh) ry q fun p F' H' e h0 h1 o=>a2 F' H' e p h0 (e1.hh.free (e2.hh.free h1)) o
def mNil (_:En):R (List D):=.ok []
def zab (ma:En→R D) (mr:En→R (List D)) (δ:En):R (List D):=(ma δ).bind fun x=>(mr δ).bind fun l=>.ok (x::l)
theorem zak:SA K XO E tNil mNil:=fun Λ F0 H0 F H σ δ Q I a=>a F H (.refl I.same) _ .nil
theorem zac {tr:TA} {mr:En→R (List D)} (ha:SE K XO E ta ma) (hr:SA K XO E tr mr):SA K XO E (zd3 ta tr) (zab ma mr):=by
 intro Λ F0 H0 F H σ δ Q I a
 refine ha Λ F0 H0 F H σ δ _ I (a.bind.imp fun dx F1 H1 e1 a1 x rx=>?_)
 refine hr Λ F0 H0 F1 H1 σ δ _ (I.grow e1) (a1.bind.imp fun dy F2 H2 e2 a2 y ry=>?_)
 exact a2 F2 H2 (.refl e2.fh) _ (.cons (Rep.mono e2.ff _ rx) ry)
theorem zaR:SAr K XO E tNil mNil:=fun Λ F0 H0 F H σ δ Q I a=>a F H (.refl I.same) _ .nil
theorem zaD {tr:TA} {mr:En→R (List D)} (ha:SEr K XO E ta ma) (hr:SAr K XO E tr mr):SAr K XO E (zd3 ta tr) (zab ma mr):=by
 intro Λ F0 H0 F H σ δ Q I a
 refine ha Λ F0 H0 F H σ δ _ I (a.bind.imp fun dx F1 H1 e1 a1 x rx=>?_)
 refine hr Λ F0 H0 F1 H1 σ δ _ (I.grow e1) (a1.bind.imp fun dy F2 H2 e2 a2 y ry=>?_)
 exact a2 F2 H2 (.refl e2.fh) _ (.cons (rx.mono e2.ff e2.hh) ry)
def mTup (ml:En→R (List D)) (δ:En):R D:=(ml δ).bind fun l=>ifC (l.length≤sizeLine) (.ok (.tup l)) .no
def mLst (ml:En→R (List D)) (δ:En):R D:=(ml δ).bind fun l=>ifC (l.length≤sizeLine) (.ok (.lst l)) .no
theorem zbC {tl:TA} {ml:En→R (List D)} (h:SA K XO E tl ml):SE K XO E (tTup tl) (mTup ml):=by
 intro Λ F0 H0 F H σ δ Q I a
 refine h Λ F0 H0 F H σ δ _ I (a.bind.imp fun ds F1 H1 e1 a1 vs r=>?_)
 unfold ifC at a1
 split at a1
 ·rename_i hl
  refine⟨by rw[r.length];exact hl,fun p hp=>a1 _ _ (.new e1.fh hp) _ ?_⟩
  simp only[Rep]
  exact⟨p,vs,rfl,zaX,r.mono (Same.upd (e1.fh.free hp))⟩
 ·exact a1.elim
theorem zbc {tl:TA} {ml:En→R (List D)} (h:SA K XO E tl ml):SEo K XO E (tLst tl) (mLst ml):=by
 intro Λ F0 H0 F H σ δ Q I a
 refine h Λ F0 H0 F H σ δ _ I (a.bind.imp fun ds F1 H1 e1 a1 vs r=>?_)
 unfold ifC at a1
 split at a1
 ·rename_i hl
  refine⟨by rw[r.length];exact hl,fun p hp=>a1 _ _ (.newO e1.fh hp) _ (e1.fh.free hp) (e1.hh.free hp) ⟨vs,zaX,r⟩⟩
 ·exact a1.elim
theorem zo2:SEo K XO E zpy (mC (.dct [] [])):=fun Λ F0 H0 F H σ δ Q I a p hp=>a F _ (.newO I.same hp) p (I.same.free hp) hp ⟨[],zaX,rfl,.nil⟩
def asB:D→Option Bool
 | .bl b=>some b
 | _=>none
def zaA (me:En→R D) (δ:En):R Bool:=(me δ).bind fun d=>R.of (asB d)
theorem za2 (h:SE K XO E te me):ST K XO E (zrg te) (zaA me):=by
 intro Λ F0 H0 F H σ δ Q I a
 refine h Λ F0 H0 F H σ δ _ I (a.bind.imp fun d F1 H1 e1 a1 v r=>?_)
 cases d with
 | bl b=>simp only[Rep] at r;exact⟨b,r,a1 F1 H1 (.refl e1.fh)⟩
 | _=>exact a1.elim
theorem st_b (h:SE K XO E te me):ST K XO E (tB te) (zaA me):=za2 h
variable {tA tB':TT} {nA nB:En→R Bool}
def mOr (nA nB:En→R Bool) (δ:En):R Bool:=(nA δ).bind fun b=>if b=true then .ok true else nB δ
def mNot (nA:En→R Bool) (δ:En):R Bool:=(nA δ).bind fun b=>.ok (!b)
theorem zrp (h:ST K XO E tA nA) (h':ST K XO E tB' nB):ST K XO E (tOr tA tB') (mOr nA nB):=by
 intro Λ F0 H0 F H σ δ Q I a
 refine h Λ F0 H0 F H σ δ _ I (a.bind.imp fun b F1 H1 e1 a1=>?_)
 cases b with
 | false=>exact h' Λ F0 H0 F1 H1 σ δ _ (I.grow e1) a1
 | true=>exact a1 F1 H1 (.refl e1.fh)
theorem zmi (h:ST K XO E tA nA):ST K XO E (tNot tA) (mNot nA):=by
 intro Λ F0 H0 F H σ δ Q I a
 exact h Λ F0 H0 F H σ δ _ I (a.bind.imp fun b F1 H1 e1 a1=>a1 F1 H1 (.refl e1.fh))
def zit (ma mb:En→R D) (δ:En):R D:=(ma δ).bind fun d=>(R.of (asB d)).bind fun b=>if b=true then mb δ else .ok (.bl false)
def mOrV (ma mb:En→R D) (δ:En):R D:=(ma δ).bind fun d=>(R.of (asB d)).bind fun b=>if b=true then .ok (.bl true) else mb δ
def zh9 (ma:En→R D) (δ:En):R D:=(ma δ).bind fun d=>(R.of (asB d)).bind fun b=>.ok (.bl (!b))
theorem znY (h:SE K XO E ta ma) (h':SE K XO E tb mb):SE K XO E (zq4 ta tb) (zit ma mb):=by
 intro Λ F0 H0 F H σ δ Q I a
 refine h Λ F0 H0 F H σ δ _ I (a.bind.imp fun d F1 H1 e1 a1 v r=>?_)
 cases d with
 | bl b=>
  simp only[Rep] at r
  refine⟨b,r,?_⟩
  cases b with
  | true=>exact h' Λ F0 H0 F1 H1 σ δ _ (I.grow e1) a1
  | false=>exact a1 F1 H1 (.refl e1.fh) _ (by simp only[Rep])
 | _=>exact a1.elim
theorem znA (h:SE K XO E ta ma) (h':SE K XO E tb mb):SE K XO E (tOrV ta tb) (mOrV ma mb):=by
 intro Λ F0 H0 F H σ δ Q I a
 refine h Λ F0 H0 F H σ δ _ I (a.bind.imp fun d F1 H1 e1 a1 v r=>?_)
 cases d with
 | bl b=>
  simp only[Rep] at r
  refine⟨b,r,?_⟩
  cases b with
  | false=>exact h' Λ F0 H0 F1 H1 σ δ _ (I.grow e1) a1
  | true=>exact a1 F1 H1 (.refl e1.fh) _ (by simp only[Rep])
 | _=>exact a1.elim
theorem znR (h:SE K XO E ta ma):SE K XO E (zq8 ta) (zh9 ma):=by
 intro Λ F0 H0 F H σ δ Q I a
 refine h Λ F0 H0 F H σ δ _ I (a.bind.imp fun d F1 H1 e1 a1 v r=>?_)
 cases d with
 | bl b=>
  simp only[Rep] at r
  exact⟨b,r,a1 F1 H1 (.refl e1.fh) _ (by simp only[Rep])⟩
 | _=>exact a1.elim
def spM (K:Kx) (XO:XOT) (f:List D→R D):Sp:=fun vs H Q E=>∃F ds,Same F H∧RepL K F ds vs∧Aft (fun _=>E) XO [] F H (fun d F' H'=>∀v,Rep K F' d v→Q v H') (f ds)
def R.nev {α:Type}:R α→R α
 | .ex _=>.no
 | r=>r
@[simp] theorem R.nev_ok {α:Type} (a:α):(R.ok a).nev=.ok a:=rfl
def zaf (f:List D→R D) (ml:En→R (List D)) (δ:En):R D:=(ml δ).bind fun l=>(f l).nev
theorem Aft.any {α:Type} {E E':St→XK} {σ σ':St} {F H:Hp} {P:α→Hp→Hp→Prop} {r:R α} (h:Aft E XO σ F H P r.nev):Aft E' XO σ' F H P r:=by
 cases r with
 | no=>exact h
 | ok a=>exact h
 | ex x=>exact h.elim
theorem zal {f:List D→R D} {tl:TA} {ml:En→R (List D)} {E':XK} (h:SA K XO E tl ml):SE K XO E (zlq (spM K XO f) [] E' tl) (zaf f ml):=by
 intro Λ F0 H0 F H σ δ Q I a
 refine h Λ F0 H0 F H σ δ _ I (a.bind.imp fun ds F1 H1 e1 a1 vs r=>⟨F1,ds,e1.fh,by rw[List.append_nil];exact r,a1.any⟩)
variable (K) in
def SG (g:TG) (b:D→En→Option En):Prop:=∀Λ F0 H0 F H σ δ d v δ' Q,EnvOk K Λ F0 H0 F H σ δ→Rep K F d v→b d δ=some δ'→(∀σ',EnvOk K Λ F0 H0 F H σ' δ'→Q σ' H)→g v σ H Q
variable (K) in
def SGs (g:TGs) (b:List D→En→Option En):Prop:=∀Λ F0 H0 F H σ δ d v δ' Q,EnvOk K Λ F0 H0 F H σ δ→RepL K F d v→b d δ=some δ'→(∀σ',EnvOk K Λ F0 H0 F H σ' δ'→Q σ' H)→g v σ H Q
def zat (i:Nat) (d:D) (δ:En):Option En:=match δ[i]? with|none=>none|some (.l _)=>none|some _=>some (δ.set i (.v d))
def zaE (i:Nat) (d:D) (δ:En):Option En:=match δ[i]? with|some .no=>some (δ.set i (.v d))|_=>none
def bNil (l:List D) (δ:En):Option En:=match l with|[]=>some δ|_=>none
def zbj (b:D→En→Option En) (c:List D→En→Option En) (l:List D) (δ:En):Option En:=match l with|d::r=>(b d δ).bind (c r)|[]=>none
def bTup (n:Nat) (c:List D→En→Option En) (d:D) (δ:En):Option En:=match d with|.tup l=>if l.length=n then c l δ else none|_=>none
def bLst (n:Nat) (c:List D→En→Option En) (d:D) (δ:En):Option En:=match d with|.lst l=>if l.length=n then c l δ else none|_=>none
theorem zap {i:Nat}:SG K (ziP i) (zat i):=by
 intro Λ F0 H0 F H σ δ d v δ' Q I r e q
 unfold zat at e
 split at e
 ·cases e
 ·cases e
 ·rename_i x h2 h1
  cases e
  exact q _ (I.put ⟨x,h1,fun d' z=>h2 d' (by rw[z])⟩ r)
theorem zaP {i:Nat}:SG K (ziP i) (zaE i):=by
 intro Λ F0 H0 F H σ δ d v δ' Q I r e q
 unfold zaE at e
 split at e
 ·rename_i h1
  cases e
  exact q _ (I.put ⟨_,h1,fun d' z=>by cases z⟩ r)
 ·cases e
theorem zcH:SGs K gNil bNil:=by
 intro Λ F0 H0 F H σ δ d v δ' Q I r e q
 cases d with
 | nil=>simp only[RepL] at r;cases e;exact⟨r,q _ I⟩
 | cons x l=>cases e
theorem zaV {g:TG} {h:TGs} {b:D→En→Option En} {c:List D→En→Option En} (hg:SG K g b) (hh:SGs K h c):SGs K (zrN g h) (zbj b c):=by
 intro Λ F0 H0 F H σ δ d v δ' Q I r e q
 cases d with
 | nil=>cases e
 | cons x l=>
  simp only[RepL] at r
  obtain⟨u,w,rfl,r1,r2⟩:=r
  change (b x δ).bind (c l)=some δ' at e
  cases z:b x δ with
  | none=>rw[z] at e;cases e
  | some δ1=>
   rw[z] at e
   exact⟨u,w,rfl,hg Λ F0 H0 F H σ δ x u δ1 _ I r1 z fun σ1 I1=>hh Λ F0 H0 F H σ1 δ1 l w δ' Q I1 r2 e q⟩
theorem zdP {n:Nat} {h:TGs} {c:List D→En→Option En} (hh:SGs K h c):SG K (gTup K.f n h) (bTup n c):=by
 intro Λ F0 H0 F H σ δ d v δ' Q I r e q
 cases d with
 | tup l=>
  simp only[Rep] at r
  obtain⟨a,vs,rfl,h1,h2⟩:=r
  simp only[bTup] at e
  split at e
  ·rename_i hn
   exact⟨a,vs,rfl,.inl (.inl (I.same _ _ h1)),by rw[h2.length];exact hn,hh Λ F0 H0 F H σ δ l vs δ' Q I h2 e q⟩
  ·cases e
 | _=>cases e
theorem zrI {n:Nat} {h:TGs} {c:List D→En→Option En} (hh:SGs K h c):SG K (gLst K.f n h) (bLst n c):=by
 intro Λ F0 H0 F H σ δ d v δ' Q I r e q
 cases d with
 | lst l=>
  simp only[Rep] at r
  obtain⟨a,vs,rfl,h1,h2⟩:=r
  simp only[bLst] at e
  split at e
  ·rename_i hn
   exact⟨a,vs,rfl,.inl (PM.Same.rdp I.same h1),by rw[h2.length];exact hn,hh Λ F0 H0 F H σ δ l vs δ' Q I h2 e q⟩
  ·cases e
 | _=>cases e
def Weak (δ δ':En):Prop:=δ.length=δ'.length∧∀i:Nat,δ[i]?=some .no∨δ[i]?=δ'[i]?
theorem Weak.refl (δ:En):Weak δ δ:=⟨rfl,fun _=>.inr rfl⟩
theorem Weak.trans {a b c:En} (h:Weak a b) (h':Weak b c):Weak a c:=⟨h.1.trans h'.1,fun i=>by
 rcases h.2 i with z|z
 ·exact .inl z
 ·rcases h'.2 i with y|y
  ·exact .inl (z.trans y)
  ·exact .inr (z.trans y)⟩
def BW (b:D→En→Option En):Prop:=∀d δ δ',b d δ=some δ'→Weak δ δ'
def BWs (b:List D→En→Option En):Prop:=∀d δ δ',b d δ=some δ'→Weak δ δ'
theorem za3 {i:Nat}:BW (zaE i):=by
 intro d δ δ' e
 unfold zaE at e
 split at e
 ·rename_i h1
  cases e
  refine⟨by simp,fun j=>?_⟩
  by_cases h:i=j
  ·subst h;exact .inl h1
  ·exact .inr (by rw[List.getElem?_set_ne h])
 ·cases e
theorem zex:BWs bNil:=by
 intro d δ δ' e
 cases d with
 | nil=>cases e;exact .refl _
 | cons x l=>cases e
theorem zbU {b:D→En→Option En} {c:List D→En→Option En} (h:BW b) (h':BWs c):BWs (zbj b c):=by
 intro d δ δ' e
 cases d with
 | nil=>cases e
 | cons x l=>
  change (b x δ).bind (c l)=some δ' at e
  cases z:b x δ with
  | none=>rw[z] at e;cases e
  | some δ1=>rw[z] at e;exact (h _ _ _ z).trans (h' _ _ _ e)
theorem zfR {n:Nat} {c:List D→En→Option En} (h:BWs c):BW (bTup n c):=by
 intro d δ δ' e
 cases d with
 | tup l=>
  simp only[bTup] at e
  split at e
  ·exact h _ _ _ e
  ·cases e
 | _=>cases e
variable (K) in
def IsIt (J:It) (P:Hp→Hp→Prop) (ds:List D):Prop:=∀F2 H2,P F2 H2→∀i:Nat,(∀d,ds[i]?=some d→J.go i H2∧∀x H',J.yld i H2 x H'→∃F3,Ext F2 H2 F3 H'∧Rep K F3 d x)∧(ds[i]?=none→J.stop i H2)
variable (K XO E) in
def SI (wi:TI) (m:En→R (List D)):Prop:=∀Λ F0 H0 F H σ δ R,EnvOk K Λ F0 H0 F H σ δ→Aft E XO σ F H (fun ds F1 H1=>∀J,IsIt K J (fun F2 H2=>Same F1 F2∧Same F2 H2) ds→R J H1) (m δ)→wi σ H R
variable (K XO E) in
def SIc (wi:TI) (m:En→R (List D)):Prop:=∀Λ F0 H0 F H σ δ R,EnvOk K Λ F0 H0 F H σ δ→Aft E XO σ F H (fun ds F1 H1=>∀J,IsIt K J (fun F2 H2=>Ext F1 H1 F2 H2) ds→R J H1) (m δ)→wi σ H R
theorem SI.c {wi:TI} {m:En→R (List D)} (h:SI K XO E wi m):SIc K XO E wi m:=fun Λ F0 H0 F H σ δ R I a=>h Λ F0 H0 F H σ δ R I (a.imp fun ds F1 H1 e p J hJ=>p J fun F2 H2 x=>hJ F2 H2 ⟨x.ff,x.fh⟩)
def asL:D→Option (List D)
 | .lst l=>some l
 | .scr l=>some (l.map .int)
 | _=>none
def mItL (ml:En→R D) (δ:En):R (List D):=(ml δ).bind fun d=>R.of (asL d)
theorem zgN {a:Addr} {ds:List D} {vs:List V} {F1:Hp} {P:Hp→Hp→Prop} (r:RepL K F1 ds vs) (h:∀F2 H2,P F2 H2→Same F1 F2∧Same F2 H2∧SqL K.f H2 a vs):IsIt K (Itl K.f a) P ds:=by
 intro F2 H2 p i
 obtain⟨s1,s2,q⟩:=h F2 H2 p
 refine⟨fun d hd=>?_,fun hn=>?_⟩
 ·obtain⟨v,hv,rv⟩:=r.get hd
  refine⟨⟨vs,v,q,hv⟩,fun x H' y=>?_⟩
  obtain⟨rfl,y⟩:=y
  have z:=y vs q
  rw[hv] at z;cases z
  exact⟨F2,.refl s2,Rep.mono s1 _ rv⟩
 ·exact⟨vs,q,by rw[r.length];exact List.getElem?_eq_none_iff.mp hn⟩
theorem zew (h:SE K XO E te me):SI K XO E (zp1 K.f te) (mItL me):=by
 intro Λ F0 H0 F H σ δ R I a
 refine h Λ F0 H0 F H σ δ _ I (a.bind.imp fun d F1 H1 e1 a1 v r=>?_)
 cases d with
 | lst l=>
  simp only[Rep] at r
  obtain⟨a,vs,rfl,h1,h2⟩:=r
  exact⟨a,rfl,⟨vs,.inl (PM.Same.rdp e1.fh h1)⟩,a1 F1 H1 (.refl e1.fh) _ (zgN h2 fun F2 H2 x=>⟨x.1,x.2,.inl (PM.Same.rd x.2 (PM.Same.rdp x.1 h1))⟩)⟩
 | scr l=>
  simp only[Rep] at r
  obtain⟨a,rfl,h1⟩:=r
  exact⟨a,rfl,⟨_,e1.fh.seq h1⟩,a1 F1 H1 (.refl e1.fh) _ (zgN .ints fun F2 H2 x=>⟨x.1,x.2,x.2.seq (x.1.seq h1)⟩)⟩
 | _=>exact a1.elim
theorem zbM (h:SEr K XO E te me):SIc K XO E (zp1 K.f te) (mItL me):=by
 intro Λ F0 H0 F H σ δ R I a
 refine h Λ F0 H0 F H σ δ _ I (a.bind.imp fun d F1 H1 e1 a1 v r=>?_)
 cases d with
 | lst l=>
  obtain⟨a,vs,rfl,h1,h2⟩:=r
  exact⟨a,rfl,⟨vs,.inl h1⟩,a1 F1 H1 (.refl e1.fh) _ (zgN h2 fun F2 H2 x=>⟨x.ff,x.fh,.inl (PM.Same.rd x.hh h1)⟩)⟩
 | scr l=>
  simp only[Top,Rep] at r
  obtain⟨a,rfl,h1⟩:=r
  exact⟨a,rfl,⟨_,e1.fh.seq h1⟩,a1 F1 H1 (.refl e1.fh) _ (zgN .ints fun F2 H2 x=>⟨x.ff,x.fh,x.fh.seq (x.ff.seq h1)⟩)⟩
 | _=>exact a1.elim
def zgp (lo:Int) (n:Nat):List D:=(List.range n).map fun (k:Nat)=>D.int (lo+(k:Int))
theorem zi8 {lo:Int} {n:Nat} {P:Hp→Hp→Prop} (h:∀F2 H2,P F2 H2→Same F2 H2):IsIt K (Itr lo n) P (zgp lo n):=by
 intro F2 H2 p i
 unfold zgp
 rw[List.getElem?_map]
 have er:(List.range n)[i]?=if i<n then some i else none:=by
  by_cases hi:i<n
  ·rw[if_pos hi,List.getElem?_range hi]
  ·rw[if_neg hi,List.getElem?_eq_none_iff];simpa using hi
 rw[er]
 refine⟨fun d hd=>?_,fun hn=>?_⟩
 ·by_cases hi:i<n
  ·rw[if_pos hi] at hd
   cases hd
   refine⟨hi,fun x H' y=>?_⟩
   obtain⟨rfl,rfl⟩:=y
   exact⟨F2,.refl (h F2 _ p),by simp only[Rep]⟩
  ·rw[if_neg hi] at hd;cases hd
 ·by_cases hi:i<n
  ·rw[if_pos hi] at hn;cases hn
  ·exact Nat.le_of_not_lt hi
def rng (l:List D):Option (List D):=match l with
 | [.int j]=>ifC (-(2 ^ 62)≤j∧j<2 ^ 62) (some (zgp 0 j.toNat)) none
 | [.int i,.int j]=>ifC (-(2 ^ 62)≤i∧i<2 ^ 62∧-(2 ^ 62)≤j∧j<2 ^ 62) (some (zgp i (j - i).toNat)) none
 | _=>none
def mRng (ml:En→R (List D)) (δ:En):R (List D):=(ml δ).bind fun l=>R.of (rng l)
theorem RepL.one {F:Hp} {d:D} {vs:List V} (r:RepL K F [d] vs):∃v,vs=[v]∧Rep K F d v:=by
 simp only[RepL] at r
 obtain⟨v,r',rfl,h,rfl⟩:=r
 exact⟨v,rfl,h⟩
theorem RepL.two {F:Hp} {d e:D} {vs:List V} (r:RepL K F [d,e] vs):∃v u,vs=[v,u]∧Rep K F d v∧Rep K F e u:=by
 simp only[RepL] at r
 obtain⟨v,r',rfl,h,v2,r2,rfl,h2,rfl⟩:=r
 exact⟨v,v2,rfl,h,h2⟩
theorem zcb {tl:TA} {ml:En→R (List D)} (hn:∀δ l,ml δ=.ok l→l.length=1) (h:SA K XO E tl ml):SI K XO E (zre tl) (mRng ml):=by
 intro Λ F0 H0 F H σ δ R I a
 unfold mRng at a
 cases hm:ml δ with
 | no=>rw[hm] at a;exact a.elim
 | ex x=>refine h Λ F0 H0 F H σ δ _ I ?_;rw[hm] at a ⊢;exact a
 | ok l=>
  refine h Λ F0 H0 F H σ δ _ I ?_
  rw[hm] at a ⊢
  intro F1 H1 e1 vs r
  have h1:=hn δ l hm
  match l,h1 with
  | [d],_=>
   obtain⟨v,rfl,rv⟩:=r.one
   have a1:=Aft.mono e1 a
   cases d with
   | int j=>
    simp only[Rep] at rv
    subst rv
    change Aft E XO σ F1 H1 _ (PM.R.of (ifC (-(2 ^ 62)≤j∧j<2 ^ 62) _ _)) at a1
    by_cases hj : -(2 ^ 62)≤j∧j<2 ^ 62
    ·rw[zbf hj] at a1
     exact⟨j,rfl,hj.1,hj.2,a1 F1 H1 (.refl e1.fh) _ (zi8 fun F2 H2 x=>x.2)⟩
    ·rw[zoq hj] at a1;exact a1.elim
   | _=>exact a1.elim
theorem zgo {tl:TA} {ml:En→R (List D)} (hn:∀δ l,ml δ=.ok l→l.length=2) (h:SA K XO E tl ml):SI K XO E (zrJ tl) (mRng ml):=by
 intro Λ F0 H0 F H σ δ R I a
 unfold mRng at a
 cases hm:ml δ with
 | no=>rw[hm] at a;exact a.elim
 | ex x=>refine h Λ F0 H0 F H σ δ _ I ?_;rw[hm] at a ⊢;exact a
 | ok l=>
  refine h Λ F0 H0 F H σ δ _ I ?_
  rw[hm] at a ⊢
  intro F1 H1 e1 vs r
  have h1:=hn δ l hm
  match l,h1 with
  | [d,d'],_=>
   obtain⟨v,u,rfl,rv,ru⟩:=r.two
   have a1:=Aft.mono e1 a
   cases d with
   | int i=>
    cases d' with
    | int j=>
     simp only[Rep] at rv ru
     subst rv ru
     change Aft E XO σ F1 H1 _ (PM.R.of (ifC (-(2 ^ 62)≤i∧i<2 ^ 62∧-(2 ^ 62)≤j∧j<2 ^ 62) _ _)) at a1
     by_cases hj : -(2 ^ 62)≤i∧i<2 ^ 62∧-(2 ^ 62)≤j∧j<2 ^ 62
     ·rw[zbf hj] at a1
      exact⟨i,j,rfl,hj,a1 F1 H1 (.refl e1.fh) _ (zi8 fun F2 H2 x=>x.2)⟩
     ·rw[zoq hj] at a1;exact a1.elim
    | _=>exact a1.elim
   | _=>exact a1.elim
theorem len1 {ma:En→R D}:∀δ l,zab ma mNil δ=.ok l→l.length=1:=by
 intro δ l h
 unfold zab mNil at h
 cases e:ma δ with
 | ok d=>rw[e] at h;cases h;rfl
 | no=>rw[e] at h;cases h
 | ex x=>rw[e] at h;cases h
theorem len2 {ma mb:En→R D}:∀δ l,zab ma (zab mb mNil) δ=.ok l→l.length=2:=by
 intro δ l h
 unfold zab mNil at h
 cases e:ma δ with
 | ok d=>
  rw[e] at h
  cases e2:mb δ with
  | ok d=>rw[R.bind_ok,e2] at h;cases h;rfl
  | no=>rw[R.bind_ok,e2] at h;cases h
  | ex x=>rw[R.bind_ok,e2] at h;cases h
 | no=>rw[e] at h;cases h
 | ex x=>rw[e] at h;cases h
def zgV (l:List D):List D:=l.mapIdx fun i d=>.tup [.int i,d]
theorem zkP {a:Addr} {ds:List D} {vs:List V} {F1:Hp} {P:Hp→Hp→Prop} (r:RepL K F1 ds vs) (h:∀F2 H2,P F2 H2→Same F1 F2∧Same F2 H2∧SqL K.f H2 a vs):IsIt K (Ite K.f a) P (zgV ds):=by
 intro F2 H2 p i
 obtain⟨s1,s2,q⟩:=h F2 H2 p
 unfold zgV
 rw[List.getElem?_mapIdx]
 refine⟨fun d hd=>?_,fun hn=>?_⟩
 ·cases e:ds[i]? with
  | none=>rw[e] at hd;cases hd
  | some x=>
   rw[e] at hd
   cases hd
   obtain⟨v,hv,rv⟩:=r.get e
   refine⟨⟨vs,v,q,hv⟩,fun x' H' y=>?_⟩
   obtain⟨p',y',rfl,hp,rfl,y⟩:=y
   have z:=y vs q
   rw[hv] at z;cases z
   refine⟨_,.new s2 hp,?_⟩
   simp only[Rep]
   exact⟨p',_,rfl,zaX,.cons (by simp only[Rep]) (.cons (Rep.mono (s1.trans (Same.upd (s2.free hp))) _ rv) .nil)⟩
 ·cases e:ds[i]? with
  | none=>exact⟨vs,q,by rw[r.length];exact List.getElem?_eq_none_iff.mp e⟩
  | some x=>rw[e] at hn;cases hn
def asL':D→Option (List D)
 | .lst l=>some l
 | _=>none
def zo4:List D→Option (List D)
 | [d]=>(asL' d).map zgV
 | _=>none
def zgk (ml:En→R (List D)) (δ:En):R (List D):=(ml δ).bind fun l=>R.of (zo4 l)
theorem zi5 {l r:List D} (h:zo4 l=some r):∃x,l=[.lst x]∧r=zgV x:=by
 cases l with
 | nil=>cases h
 | cons d t=>
  cases t with
  | cons _ _=>cases h
  | nil=>
   cases d with
   | lst x=>cases h;exact⟨x,rfl,rfl⟩
   | _=>cases h
theorem zlL {tl:TA} {ml:En→R (List D)} (h:SA K XO E tl ml):SI K XO E (zqC K.f tl) (zgk ml):=by
 intro Λ F0 H0 F H σ δ R I a
 refine h Λ F0 H0 F H σ δ _ I (a.bind.imp fun ds F1 H1 e1 a1 vs r=>?_)
 cases q:zo4 ds with
 | none=>rw[q] at a1;exact a1.elim
 | some z=>
  rw[q] at a1
  obtain⟨l,rfl,rfl⟩:=zi5 q
  obtain⟨v,rfl,r'⟩:=RepL.one r
  simp only[Rep] at r'
  obtain⟨a,vs,rfl,h1,h2⟩:=r'
  exact⟨a,rfl,⟨vs,.inl (PM.Same.rdp e1.fh h1)⟩,a1 F1 H1 (.refl e1.fh) _ (zkP h2 fun F2 H2 x=>⟨x.1,x.2,.inl (PM.Same.rd x.2 (PM.Same.rdp x.1 h1))⟩)⟩
theorem zjw {tl:TA} {ml:En→R (List D)} (h:SAr K XO E tl ml):SIc K XO E (zqC K.f tl) (zgk ml):=by
 intro Λ F0 H0 F H σ δ R I a
 refine h Λ F0 H0 F H σ δ _ I (a.bind.imp fun ds F1 H1 e1 a1 vs r=>?_)
 cases q:zo4 ds with
 | none=>rw[q] at a1;exact a1.elim
 | some z=>
  rw[q] at a1
  obtain⟨l,rfl,rfl⟩:=zi5 q
  cases r with
  | cons r r'=>
   cases r'
   obtain⟨a,vs,rfl,h1,h2⟩:=r
   exact⟨a,rfl,⟨vs,.inl h1⟩,a1 F1 H1 (.refl e1.fh) _ (zkP h2 fun F2 H2 x=>⟨x.ff,x.fh,.inl (PM.Same.rd x.hh h1)⟩)⟩
end
end PM
namespace PM
open PySem L2
section
variable (K:Kx) (XO:XOT) (E:St→XK)
def AftS (Λ:List (Nat×Addr×HO)) (F0 H0:Hp) (Dn:Ends):O→Prop
 | .no=>False
 | .nx δ=>∀σ F H,EnvOk K Λ F0 H0 F H σ δ→Dn.nx σ H
 | .bk δ=>∀σ F H,EnvOk K Λ F0 H0 F H σ δ→Dn.bk σ H
 | .ct δ=>∀σ F H,EnvOk K Λ F0 H0 F H σ δ→Dn.ct σ H
 | .rt d=>∀v F H,Ext F0 H0 F H→Rep K F d v→Dn.rt v H
 | .ro d=>∀p F H,Ext F0 H0 F H→F p=none→H0 p=none→Own K F H d p→Dn.rt (.ref p) H
 | .ex δ x=>∀σ F H C dct,EnvOk K Λ F0 H0 F H σ δ→XO x F H C dct→E σ C dct H
def SS (t:TS) (m:En→O):Prop:=∀Λ F0 H0 F H σ δ Dn,EnvOk K Λ F0 H0 F H σ δ→AftS K XO E Λ F0 H0 Dn (m δ)→t Dn σ H
end
def R.toO {α:Type} (r:R α) (δ:En) (f:α→O):O:=match r with|.no=>.no|.ok a=>f a|.ex x=>.ex δ x
@[simp] theorem R.toO_ok {α:Type} (a:α) (δ:En) (f:α→O):(R.ok a).toO δ f=f a:=rfl
@[simp] theorem R.toO_no {α:Type} (δ:En) (f:α→O):(R.no:R α).toO δ f=.no:=rfl
@[simp] theorem R.toO_ex {α:Type} (x:Xc) (δ:En) (f:α→O):(R.ex x:R α).toO δ f=.ex δ x:=rfl
section
variable {K:Kx} {XO:XOT} {E:St→XK} {ta tb te:TE} {ma mb me:En→R D} {t u:TS} {m n:En→O} {Λ:List (Nat×Addr×HO)} {F0 H0 F H F1 H1:Hp} {σ:St} {δ:En} {Dn:Ends}
theorem AftS.of {α:Type} {r:R α} {f:α→O} (I:EnvOk K Λ F0 H0 F H σ δ) (a:AftS K XO E Λ F0 H0 Dn (r.toO δ f)):Aft E XO σ F H (fun a _ _=>AftS K XO E Λ F0 H0 Dn (f a)) r:=by
 cases r with
 | no=>exact a
 | ok b=>exact fun _ _ _=>a
 | ex x=>exact fun C dct F' H' e h=>a σ F' H' C dct (I.grow e) h
theorem AftS.up (e:Ext F0 H0 F1 H1):∀ {o:O},AftS K XO E Λ F0 H0 Dn o→AftS K XO E Λ F1 H0 Dn o
 | .no,h=>h
 | .nx _,h=>fun σ F H I=>h σ F H (I.down e)
 | .bk _,h=>fun σ F H I=>h σ F H (I.down e)
 | .ct _,h=>fun σ F H I=>h σ F H (I.down e)
 | .rt _,h=>fun v F H x=>h v F H (e.base x)
 | .ro _,h=>fun p F H x=>h p F H (e.base x)
 | .ex _ _,h=>fun σ F H C d I=>h σ F H C d (I.down e)
def zbb (δ:En):O:=.nx δ
def mSeq (m n:En→O) (δ:En):O:=match m δ with|.nx δ'=>n δ'|r=>r
theorem za4:SS K XO E zn4 zbb:=fun Λ F0 H0 F H σ δ Dn I a=>a σ F H I
theorem zan (h:SS K XO E t m) (h':SS K XO E u n):SS K XO E (tSeq t u) (mSeq m n):=by
 intro Λ F0 H0 F H σ δ Dn I a
 refine h Λ F0 H0 F H σ δ _ I ?_
 unfold mSeq at a
 cases q:m δ with
 | no=>rw[q] at a;exact a
 | nx δ'=>rw[q] at a;exact fun σ' F' H' I'=>h' Λ F0 H0 F' H' σ' δ' Dn I' a
 | rt d=>rw[q] at a;exact a
 | ro d=>rw[q] at a;exact a
 | bk δ'=>rw[q] at a;exact a
 | ct δ'=>rw[q] at a;exact a
 | ex δ' x=>rw[q] at a;exact a
theorem ze8:SS K XO E zpB (fun _=>.no):=fun Λ F0 H0 F H σ δ Dn I a=>a
def mRet (me:En→R D) (δ:En):O:=(me δ).toO δ .rt
theorem za7 (h:SE K XO E te me):SS K XO E (tRet te) (mRet me):=by
 intro Λ F0 H0 F H σ δ Dn I a
 exact h Λ F0 H0 F H σ δ _ I ((AftS.of I a).imp fun d F1 H1 e p v r=>p v F1 H1 (I.ext.trans e) r)
def zck (me:En→R D) (δ:En):O:=(me δ).toO δ .ro
theorem zcI (h:SEo K XO E te me):SS K XO E (tRet te) (zck me):=by
 intro Λ F0 H0 F H σ δ Dn I a
 exact h Λ F0 H0 F H σ δ _ I ((AftS.of I a).imp fun d F1 H1 e p v h0 h1 o=>p v F1 H1 (I.ext.trans e) h0 (I.ext.hh.free h1) o)
def zpq (i:Nat) (δ:En):O:=match δ[i]? with|some (.o d)=>.ro d|_=>.no
theorem zok {i:Nat}:SS K XO E (tRet (tVar i)) (zpq i):=by
 intro Λ F0 H0 F H σ δ Dn I a
 unfold zpq at a
 split at a
 ·rename_i d q
  have z:=I.slot i
  rw[q] at z
  obtain⟨p,z1,z2,z3,z4⟩:=z
  exact⟨_,z1,a p F H I.ext z3 z2 z4⟩
 ·exact a.elim
def mDo (me:En→R D) (δ:En):O:=(me δ).toO δ fun _=>.nx δ
theorem zbq (h:SE K XO E te me):SS K XO E (zkv te) (mDo me):=by
 intro Λ F0 H0 F H σ δ Dn I a
 exact h Λ F0 H0 F H σ δ _ I ((AftS.of I a).imp fun d F1 H1 e p v r=>p σ F1 H1 (I.grow e))
def mIfS (n:En→R Bool) (m m':En→O) (δ:En):O:=(n δ).toO δ fun b=>if b=true then m δ else m' δ
theorem zcf {tc:TT} {nc:En→R Bool} (h:ST K XO E tc nc) (ha:SS K XO E t m) (hb:SS K XO E u n):SS K XO E (tIfS tc t u) (mIfS nc m n):=by
 intro Λ F0 H0 F H σ δ Dn I a
 refine h Λ F0 H0 F H σ δ _ I ((AftS.of I a).imp fun b F1 H1 e p=>?_)
 cases b with
 | true=>exact ha Λ F0 H0 F1 H1 σ δ Dn (I.grow e) p
 | false=>exact hb Λ F0 H0 F1 H1 σ δ Dn (I.grow e) p
def O.of:Option En→O
 | some δ=>.nx δ
 | none=>.no
@[simp] theorem O.of_some (δ:En):O.of (some δ)=.nx δ:=rfl
@[simp] theorem O.of_none:O.of none=.no:=rfl
def mAsg (me:En→R D) (b:D→En→Option En) (δ:En):O:=(me δ).toO δ fun d=>O.of (b d δ)
theorem zaC {g:TG} {b:D→En→Option En} (h:SE K XO E te me) (hg:SG K g b):SS K XO E (tAsg te g) (mAsg me b):=by
 intro Λ F0 H0 F H σ δ Dn I a
 refine h Λ F0 H0 F H σ δ _ I ((AftS.of I a).imp fun d F1 H1 e p v r=>?_)
 cases q:b d δ with
 | none=>rw[q] at p;exact p.elim
 | some δ'=>rw[q] at p;exact hg Λ F0 H0 F1 H1 σ δ d v δ' _ (I.grow e) r q fun σ' I'=>p σ' F1 H1 I'
def bNew (i:Nat) (d:D) (δ:En):Option En:=match δ[i]? with|none=>none|some (.l _)=>none|some _=>some (δ.set i (.o d))
theorem zdz {i:Nat} (h:SEo K XO E te me):SS K XO E (tAsg te (ziP i)) (mAsg me (bNew i)):=by
 intro Λ F0 H0 F H σ δ Dn I a
 refine h Λ F0 H0 F H σ δ _ I ((AftS.of I a).imp fun d F1 H1 e p v h0 h1 o=>?_)
 unfold bNew at p
 split at p
 ·exact p.elim
 ·exact p.elim
 ·rename_i x h3 h2
  exact p _ F1 H1 (I.putO ⟨x,h2,fun d' z=>h3 d' (by rw[z])⟩ e h0 h1 o)
def mPar (i j:Nat) (ml:En→R (List D)) (δ:En):O:=(ml δ).toO δ fun l=>match l with|[x,y]=>O.of ((zat i x δ).bind (zat j y))|_=>.no
theorem zrm {i j:Nat} {tl:TA} {ml:En→R (List D)} (h:SA K XO E tl ml):SS K XO E (tPar i j tl) (mPar i j ml):=by
 intro Λ F0 H0 F H σ δ Dn I a
 refine h Λ F0 H0 F H σ δ _ I ((AftS.of I a).imp fun l F1 H1 e p vs r=>?_)
 match l,p,r with
 | [],p,_=>exact p.elim
 | [_],p,_=>exact p.elim
 | _::_::_::_,p,_=>exact p.elim
 | [x,y],p,r=>
  obtain⟨v,w,rfl,r1,r2⟩:=RepL.two r
  refine⟨v,w,rfl,?_⟩
  cases q:zat i x δ with
  | none=>simp only[q] at p;exact p.elim
  | some δ1=>
   cases q2:zat j y δ1 with
   | none=>simp only[q,Option.bind_some,q2] at p;exact p.elim
   | some δ2=>
    simp only[q,Option.bind_some,q2] at p
    exact zap Λ F0 H0 F1 H1 σ δ x v δ1 (fun σ1 H=>Dn.nx (σ1.set j (some w)) H) (I.grow e) r1 q fun σ1 I1=>
     zap Λ F0 H0 F1 H1 σ1 δ1 y w δ2 Dn.nx I1 r2 q2 fun σ2 I2=>p σ2 F1 H1 I2
def mFrz (i:Nat) (m:En→O) (δ:En):O:=match δ[i]? with|some (.o d)=>m (δ.set i (.v d))|some (.v _)=>m δ|_=>.no
theorem zgJ {i:Nat} (h:SS K XO E t m):SS K XO E t (mFrz i m):=by
 intro Λ F0 H0 F H σ δ Dn I a
 unfold mFrz at a
 split at a
 ·rename_i d q
  obtain⟨F',_,I'⟩:=I.frz q
  exact h Λ F0 H0 F' H σ _ Dn I' a
 ·exact h Λ F0 H0 F H σ _ Dn I a
 ·exact a.elim
def zgX (b:D→En→Option En) (m:En→O):List D→En→O
 | [],δ=>.nx δ
 | d::l,δ=>match b d δ with
  | none=>.no
  | some δ1=>match m δ1 with
   | .nx δ2=>zgX b m l δ2
   | .ct δ2=>zgX b m l δ2
   | .bk δ2=>.nx δ2
   | r=>r
def mFor (mi:En→R (List D)) (b:D→En→Option En) (m:En→O) (δ:En):O:=(mi δ).toO δ fun l=>zgX b m l δ
theorem zqO {J:It} {P:Hp→Hp→Prop} {g:TG} {b:D→En→Option En} {ds:List D} (hJ:IsIt K J P ds) (hP:∀σ δ F H,EnvOk K Λ F0 H0 F H σ δ→P F H) (hg:SG K g b) (hb:SS K XO E t m) (I:EnvOk K Λ F0 H0 F H σ δ)
  (a:AftS K XO E Λ F0 H0 Dn (zgX b m ds δ)):∃W:Nat→Nat→St→Hp→Prop,(∃k,W 0 k σ H)∧∀i k σ H,W i k σ H →
   (J.stop i H∧Dn.nx σ H)∨(J.go i H∧∃N:St→Hp→Prop,(∀σ' H',N σ' H'→∃k',k'<k∧W (i+1) k' σ' H')∧∀x H',J.yld i H x H'→g x σ H' fun σ2 H2=>t { Dn with nx:=N,ct:=N,bk:=Dn.nx } σ2 H2):=by
 let W:Nat→Nat→St→Hp→Prop:=fun i k σ H=>∃F δ,EnvOk K Λ F0 H0 F H σ δ∧k=ds.length - i∧i≤ds.length∧AftS K XO E Λ F0 H0 Dn (zgX b m (ds.drop i) δ)
 refine⟨W,⟨ds.length,F,δ,I,rfl,Nat.zero_le _,a⟩,?_⟩
 rintro i k σ H ⟨F,δ,I,rfl,hi,a⟩
 have hP':=hP σ δ F H I
 by_cases hlt:i<ds.length
 ·have e:ds.drop i=ds[i]::ds.drop (i+1):=List.drop_eq_getElem_cons hlt
  obtain⟨h1,h2⟩:=(hJ F H hP' i).1 ds[i] (by simp[hlt])
  refine .inr ⟨h1,W (i+1) (ds.length - (i+1)),fun σ' H' w=>⟨_,by omega,w⟩,fun x H' y=>?_⟩
  obtain⟨F3,e3,r⟩:=h2 x H' y
  rw[e] at a
  unfold zgX at a
  cases q:b ds[i] δ with
  | none=>rw[q] at a;exact a.elim
  | some δ1=>
   rw[q] at a
   refine hg Λ F0 H0 F3 H' σ δ _ x δ1 _ (I.grow e3) r q fun σ1 I1=>hb Λ F0 H0 F3 H' σ1 δ1 _ I1 ?_
   cases q2:m δ1 with
   | no=>simp only[q2] at a;exact a
   | nx δ2=>simp only[q2] at a;exact fun σ' F' H' I'=>⟨F',δ2,I',rfl,hlt,a⟩
   | ct δ2=>simp only[q2] at a;exact fun σ' F' H' I'=>⟨F',δ2,I',rfl,hlt,a⟩
   | bk δ2=>simp only[q2] at a;exact a
   | rt d=>simp only[q2] at a;exact a
   | ro d=>simp only[q2] at a;exact a
   | ex δ' x=>simp only[q2] at a;exact a
 ·have e:i=ds.length:=by omega
  subst e
  rw[List.drop_length] at a
  exact .inl ⟨(hJ F H hP' _).2 (by simp),a σ F H I⟩
theorem zce {wi:TI} {mi:En→R (List D)} {g:TG} {b:D→En→Option En} (hi:SI K XO E wi mi) (hg:SG K g b) (hb:SS K XO E t m):SS K XO E (tFor wi g t) (mFor mi b m):=by
 intro Λ F0 H0 F H σ δ Dn I a
 refine hi Λ F0 H0 F H σ δ _ I ((AftS.of I a).imp fun ds F1 H1 e p J hJ=>?_)
 have I1:=I.grow e
 exact zqO (F0:=F1) hJ (fun σ δ F H I=>⟨I.ext.ff,I.ext.fh⟩) hg hb I1.up (p.up I1.ext)
def zfO (c:En→R Bool) (m:En→O):Nat→En→O
 | 0,_=>.no
 | n+1,δ=>(c δ).toO δ fun b=>if b=true then (match m δ with|.nx δ2=>zfO c m n δ2|.ct δ2=>zfO c m n δ2|.bk δ2=>.nx δ2|r=>r) else .nx δ
open Classical in
def ziq (c:En→R Bool) (m:En→O) (δ:En):O:=if h:∃n,zfO c m n δ≠.no then zfO c m (choose h) δ else .no
theorem zmp {tc:TT} {nc:En→R Bool} (hc:ST K XO E tc nc) (hb:SS K XO E t m):SS K XO E (zpC tc t) (ziq nc m):=by
 intro Λ F0 H0 F H σ δ Dn I a
 unfold ziq at a
 split at a
 ·rename_i h
  refine⟨fun k σ H=>∃F δ,EnvOk K Λ F0 H0 F H σ δ∧AftS K XO E Λ F0 H0 Dn (zfO nc m k δ),⟨_,F,δ,I,a⟩,?_⟩
  rintro k σ H ⟨F,δ,I,a⟩
  cases k with
  | zero=>exact a.elim
  | succ k=>
   unfold zfO at a
   refine hc Λ F0 H0 F H σ δ _ I ((AftS.of I a).imp fun b F1 H1 e p=>?_)
   cases b with
   | false=>exact p σ F1 H1 (I.grow e)
   | true=>
    refine⟨fun σ H=>∃F δ,EnvOk K Λ F0 H0 F H σ δ∧AftS K XO E Λ F0 H0 Dn (zfO nc m k δ),fun σ' H' w=>⟨k,Nat.lt_succ_self _,w⟩,hb Λ F0 H0 F1 H1 σ δ _ (I.grow e) ?_⟩
    rw[if_pos rfl] at p
    cases q2:m δ with
    | no=>simp only[q2] at p;exact p
    | nx δ2=>simp only[q2] at p;exact fun σ' F' H' I'=>⟨F',δ2,I',p⟩
    | ct δ2=>simp only[q2] at p;exact fun σ' F' H' I'=>⟨F',δ2,I',p⟩
    | bk δ2=>simp only[q2] at p;exact p
    | rt d=>simp only[q2] at p;exact p
    | ro d=>simp only[q2] at p;exact p
    | ex δ' x=>simp only[q2] at p;exact p
 ·exact a.elim
end
end PM
namespace PM
open PySem L2
def asK:D→Option Key
 | .int i=>some (.inl i)
 | .str x=>some (.inr x)
 | _=>none
def getK (ks:List Key) (l:List D) (k:Key):Option D:=match ks,l with
 | a::r,d::t=>if a=k then some d else getK r t k
 | _,_=>none
def putL (ks:List Key) (l:List D) (k:Key) (x:D):List D:=match ks,l with
 | a::r,d::t=>(if a=k then x else d)::putL r t k x
 | _,t=>t
def putD (ks:List Key) (l:List D) (k:Key) (x:D):D:=if ks.any (fun a=>decide (a=k))=true then .dct ks (putL ks l k x) else .dct (ks++[k]) (l++[x])
section
variable {K:Kx} {F H:Hp}
theorem znO {d:D} {v:V} {k:Key} (h:asK d=some k) (r:Rep K F d v):v=kV k:=by
 cases d with
 | int i=>cases h;simp only[Rep] at r;exact r
 | str i=>cases h;simp only[Rep] at r;exact r
 | _=>cases h
theorem zpR {k:Key}:∀ {kvs:List (Key×V)} {ks:List Key} {l:List D},kvs.map (·.1)=ks→RepL K F l (kvs.map (·.2)) →
  (∀d,getK ks l k=some d→∃v,valV kvs k=some v∧Rep K F d v)∧(getK ks l k=none→valV kvs k=none)
 | [],ks,l,h1,h2=>by
  subst h1
  refine⟨fun d h=>?_,fun _=>rfl⟩
  simp[getK] at h
 | (a,v)::kvs,ks,l,h1,h2=>by
  subst h1
  cases l with
  | nil=>simp[RepL] at h2
  | cons d t=>
   simp only[List.map_cons,RepL] at h2
   obtain⟨v',r,e,h3,h4⟩:=h2
   cases e
   have ih:=zpR (k:=k) (kvs:=kvs) rfl h4
   simp only[List.map_cons,getK]
   by_cases hk:a=k
   ·rw[if_pos hk]
    refine⟨fun d' e=>?_,fun e=>by cases e⟩
    cases e
    exact⟨v,by simp[valV,hk],h3⟩
   ·rw[if_neg hk]
    have e:valV ((a,v)::kvs) k=valV kvs k:=by simp[valV,hk]
    rw[e]
    exact ih
theorem zsl {kvs:List (Key×V)} {ks:List Key} (h:kvs.map (·.1)=ks):kvs.length=ks.length:=by rw[← h,List.length_map]
theorem znr {k:Key} {x:D} {u:V} (hu:Rep K F x u):∀ {kvs:List (Key×V)} {ks:List Key} {l:List D},kvs.map (·.1)=ks→RepL K F l (kvs.map (·.2)) →
  RepL K F (putL ks l k x) ((kvs.map (fun kv=>if kv.1=k then (kv.1,u) else kv)).map (·.2))
 | [],ks,l,h1,h2=>by
  subst h1
  cases l with
  | nil=>exact .nil
  | cons d t=>simp[RepL] at h2
 | (a,v)::kvs,ks,l,h1,h2=>by
  subst h1
  cases l with
  | nil=>simp[RepL] at h2
  | cons d t=>
   simp only[List.map_cons,RepL] at h2
   obtain⟨v',r,e,h3,h4⟩:=h2
   cases e
   have ih:=znr (k:=k) hu (kvs:=kvs) rfl h4
   simp only[List.map_cons,putL]
   refine .cons ?_ ih
   by_cases hk:a=k
   ·rw[if_pos hk,if_pos hk];exact hu
   ·rw[if_neg hk,if_neg hk];exact h3
theorem zrC {k:Key} {x:D} {u:V} {a:Addr} (hu:Rep K F x u) {kvs:List (Key×V)} {ks:List Key} {l:List D} (h1:kvs.map (·.1)=ks) (h2:RepL K F l (kvs.map (·.2))):Own K F (upd H a (.dK (putK kvs k u))) (putD ks l k x) a:=by
 have e:ks.any (fun a=>decide (a=k))=kvs.any (fun kv=>decide (kv.1=k)):=by rw[← h1,List.any_map];rfl
 unfold putD putK
 rw[e]
 split
 ·refine⟨_,zaX,?_,znr hu h1 h2⟩
  rw[← h1,List.map_map]
  refine List.map_congr_left fun kv _=>?_
  simp only[Function.comp]
  split <;> rfl
 ·exact⟨_,zaX,by rw[List.map_append,h1];rfl,by rw[List.map_append];exact h2.append (.cons hu .nil)⟩
end
section
variable {K:Kx} {XO:XOT} {E:St→XK} {ta tb te ty td:TE} {ma mb me my md:En→R D} {t u:TS} {m n:En→O} {Λ:List (Nat×Addr×HO)} {F0 H0 F H F1 H1:Hp} {σ:St} {δ:En} {Dn:Ends}
theorem EnvOk.own {i:Nat} {d:D} (I:EnvOk K Λ F0 H0 F H σ δ) (hx:δ[i]?=some (.o d)):∃a,σ[i]?=some (some (.ref a))∧Own K F H d a:=by
 have z:=I.slot i
 rw[hx] at z
 obtain⟨a,z1,z2,z3,z4⟩:=z
 exact⟨a,z1,z4⟩
def zbw (i:Nat) (me:En→R D) (δ:En):O:=match δ[i]? with
 | some (.o (.lst l))=>(me δ).toO δ fun d=>ifC (l.length<sizeLine) (.nx (δ.set i (.o (.lst (l++[d]))))) .no
 | _=>.no
theorem zcr {i:Nat} (h:SE K XO E te me):SS K XO E (zkv (tBM K.f "list" zhg (tVar i) (zd3 te tNil))) (zbw i me):=by
 intro Λ F0 H0 F H σ δ Dn I a
 unfold zbw at a
 split at a
 ·rename_i l q
  obtain⟨p,s1,vs,s2,s3⟩:=I.own q
  refine⟨_,s1,.inl ⟨rfl,vs,.inl (.inl s2)⟩,?_⟩
  refine h Λ F0 H0 F H σ δ _ I ((AftS.of I a).imp fun d F1 H1 e c v r=>?_)
  unfold ifC at c
  split at c
  ·rename_i hl
   refine⟨p,vs,v,rfl,rfl,e.hh _ _ s2,by rw[s3.length];exact hl,?_⟩
   exact c σ F1 _ ((I.grow e).chg q s1 ⟨_,zaX,(s3.mono e.ff).append (.cons r .nil)⟩)
  ·exact c.elim
 ·exact a.elim
def zll (i:Nat) (mk me:En→R D) (δ:En):O:=match δ[i]? with
 | some (.o (.dct ks l))=>(me δ).toO δ fun d=>(mk δ).toO δ fun k=>match asK k with
  | some k=>ifC (ks.length<sizeLine) (.nx (δ.set i (.o (putD ks l k d)))) .no
  | none=>.no
 | _=>.no
theorem zqK {i:Nat} {tk:TE} {mk:En→R D} (hk:SE K XO E tk mk) (h:SE K XO E te me):SS K XO E (zru (tVar i) tk te) (zll i mk me):=by
 intro Λ F0 H0 F H σ δ Dn I a
 unfold zll at a
 split at a
 ·rename_i ks l q
  obtain⟨p,s1,vs,s2,s0,s3⟩:=I.own q
  refine h Λ F0 H0 F H σ δ _ I ((AftS.of I a).imp fun d F1 H1 e c v r=>⟨_,s1,?_⟩)
  refine hk Λ F0 H0 F1 H1 σ δ _ (I.grow e) ((AftS.of (I.grow e) c).imp fun k F2 H2 e2 c2 v2 r2=>?_)
  cases z:asK k with
  | none=>rw[z] at c2;exact c2.elim
  | some k=>
   rw[z] at c2
   dsimp only at c2
   unfold ifC at c2
   split at c2
   ·rename_i hl
    cases znO z r2
    refine⟨p,_,rfl,DPut.k (e2.hh _ _ (e.hh _ _ s2)) (by rw[zsl s0];exact hl),?_⟩
    exact c2 σ F2 _ (((I.grow e).grow e2).chg q s1 (zrC (Rep.mono e2.ff _ r) s0 ((s3.mono e.ff).mono e2.ff)))
   ·exact c2.elim
 ·exact a.elim
def dIn (k d:D):Option D:=match asK k,d with|some k,.dct ks l=>some (.bl (getK ks l k).isSome)|_,_=>none
def zk0 (k d:D):Option D:=match asK k,d with|some k,.dct ks l=>some (.bl (!(getK ks l k).isSome))|_,_=>none
theorem zoW {ks:List Key} {l:List D} {x:V} {k:Key} (h:Top K F H (.dct ks l) x):∃p o,x=.ref p∧DGet H p (kV k) o∧(∀d,getK ks l k=some d→∃v,o=some v∧Rep K F d v)∧(getK ks l k=none→o=none):=by
 obtain⟨a,kvs,rfl,h1,h2,h3⟩:=h
 exact⟨a,_,rfl,.k h1,zpR h2 h3⟩
theorem zog (hy:SE K XO E ty my) (hd:SEr K XO E td md):SE K XO E (znl ty td) (m2 zk0 my md):=by
 intro Λ F0 H0 F H σ δ Q I a
 refine hy Λ F0 H0 F H σ δ _ I (a.bind.imp fun dk F1 H1 e1 a1 y ry=>?_)
 refine hd Λ F0 H0 F1 H1 σ δ _ (I.grow e1) (a1.bind.imp fun dd F2 H2 e2 a2 x rx=>?_)
 unfold zk0 at a2
 cases z:asK dk with
 | none=>rw[z] at a2;exact a2.elim
 | some k=>
  rw[z] at a2
  cases dd with
  | dct ks l=>
   obtain⟨p,o,rfl,g,g1,g2⟩:=zoW (k:=k) rx
   cases znO z ry
   refine⟨p,o,rfl,g,a2 F2 H2 (.refl e2.fh) _ ?_⟩
   cases q:getK ks l k with
   | none=>rw[g2 q];simp only[Rep];rfl
   | some d=>obtain⟨v,rfl,_⟩:=g1 d q;simp only[Rep];rfl
  | _=>exact a2.elim
def i2 (f:Int→Int→D) (x y:D):Option D:=match x,y with|.int i,.int j=>some (f i j)|_,_=>none
def i2c (C:Int→Int→Prop) (f:Int→Int→D) (x y:D):Option D:=match x,y with|.int i,.int j=>ifC (C i j) (some (f i j)) none|_,_=>none
theorem zpl {g:Int→Int→V} {f:Int→Int→D} (h:∀i j F,Rep K F (f i j) (g i j)):SR K (rI0 g) (i2 f):=by
 intro F H x y dx dy d Q s hx hy e q
 cases dx with
 | int i=>
  cases dy with
  | int j=>
   cases e
   simp only[Top,Rep] at hx hy
   exact⟨i,j,hx,hy,q _ F H (.refl s) (h i j F)⟩
  | _=>cases e
 | _=>cases e
theorem zl0 {C:Int→Int→Prop} {g:Int→Int→V} {f:Int→Int→D} (h:∀i j F,Rep K F (f i j) (g i j)):SR K (rI C g) (i2c C f):=by
 intro F H x y dx dy d Q s hx hy e q
 cases dx with
 | int i=>
  cases dy with
  | int j=>
   simp only[Top,Rep] at hx hy
   simp only[i2c] at e
   unfold ifC at e
   split at e
   ·rename_i hc
    cases e
    exact⟨i,j,hx,hy,hc,q _ F H (.refl s) (h i j F)⟩
   ·cases e
  | _=>cases e
 | _=>cases e
def oAdd:D→D→Option D:=i2 fun i j=>.int (i+j)
def oSub:D→D→Option D:=i2 fun i j=>.int (i - j)
def oMul:D→D→Option D:=i2c (fun i j=>Fit i∧Fit j) fun i j=>.int (i*j)
def oDiv:D→D→Option D:=i2c (fun _ j=>j≠0∧Fit j) fun i j=>.int (i.fdiv j)
def oMod:D→D→Option D:=i2c (fun _ j=>0<j) fun i j=>.int (i%j)
def oPow:D→D→Option D:=i2c CPow fun i j=>.int (i ^ j.toNat)
def oLt:D→D→Option D:=i2 fun i j=>.bl (decide (i<j))
def oGt:D→D→Option D:=i2 fun i j=>.bl (decide (j<i))
theorem zb2:SR K (rI0 fun i j=>.int (i+j)) oAdd:=zpl fun _ _ _=>by simp only[Rep]
theorem ziC:SR K (rI0 fun i j=>.int (i - j)) oSub:=zpl fun _ _ _=>by simp only[Rep]
theorem zdR:SR K (rI (fun i j=>Fit i∧Fit j) fun i j=>.int (i*j)) oMul:=zl0 fun _ _ _=>by simp only[Rep]
theorem zc4:SR K (rI (fun _ j=>j≠0∧Fit j) fun i j=>.int (i.fdiv j)) oDiv:=zl0 fun _ _ _=>by simp only[Rep]
theorem zbF:SR K (rI (fun _ j=>0<j) fun i j=>.int (i%j)) oMod:=zl0 fun _ _ _=>by simp only[Rep]
theorem zig:SR K (rI CPow fun i j=>.int (i ^ j.toNat)) oPow:=zl0 fun _ _ _=>by simp only[Rep]
theorem zlO:SR K (rI0 fun i j=>.bl (decide (i<j))) oLt:=zpl fun _ _ _=>by simp only[Rep]
theorem zfq:SR K (rI0 fun i j=>.bl (decide (j<i))) oGt:=zpl fun _ _ _=>by simp only[Rep]
def fl:D→Option V
 | .non=>some .non
 | .bl b=>some (.bl b)
 | .int i=>some (.int i)
 | .str x=>some (.str x)
 | _=>none
theorem zl2 {d:D} {v x:V} (h:fl d=some v) (r:Top K F H d x):x=v:=by
 cases d with
 | non=>cases h;simpa only[Top,Rep] using r
 | bl _=>cases h;simpa only[Top,Rep] using r
 | int _=>cases h;simpa only[Top,Rep] using r
 | str _=>cases h;simpa only[Top,Rep] using r
 | _=>cases h
def oEq (x y:D):Option D:=match fl x,fl y with|some a,some b=>if scal a b=true then some (.bl (decide (a=b))) else none|_,_=>none
def oNe (x y:D):Option D:=match fl x,fl y with|some a,some b=>if scal a b=true then some (.bl (!decide (a=b))) else none|_,_=>none
theorem zcO:SR K rEq oEq:=by
 intro F H x y dx dy d Q s hx hy e q
 unfold oEq at e
 split at e
 ·rename_i a b h1 h2
  split at e
  ·rename_i hs
   cases e
   cases zl2 h1 hx;cases zl2 h2 hy
   exact⟨hs,q _ F H (.refl s) (by simp only[Rep])⟩
  ·cases e
 ·cases e
theorem zng:SR K rNe oNe:=by
 intro F H x y dx dy d Q s hx hy e q
 unfold oNe at e
 split at e
 ·rename_i a b h1 h2
  split at e
  ·rename_i hs
   cases e
   cases zl2 h1 hx;cases zl2 h2 hy
   exact⟨hs,q _ F H (.refl s) (by simp only[Rep])⟩
  ·cases e
 ·cases e
def oIxL (x y:D):Option D:=match x,y with|.lst l,.int i=>atI l i|.scr l,.int i=>(atI l i).map .int|_,_=>none
def oIxT (x y:D):Option D:=match x,y with|.tup l,.int i=>atI l i|_,_=>none
theorem zlX {l:List D} {vs:List V} {i:Int} {d:D} (r:RepL K F l vs) (h:atI l i=some d):∃v,atI vs i=some v∧Rep K F d v:=by
 unfold atI at h ⊢
 rw[r.length]
 cases q:ixN l.length i with
 | none=>rw[q] at h;cases h
 | some j=>rw[q] at h;exact r.get h
theorem za9:SR K (rIxL K.f) oIxL:=by
 intro F H x y dx dy d Q s hx hy e q
 cases dx with
 | lst l=>
  cases dy with
  | int i=>
   obtain⟨a,vs,rfl,h1,h2⟩:=hx
   simp only[Top,Rep] at hy
   obtain⟨v,g1,g2⟩:=zlX h2 e
   exact⟨a,vs,i,v,rfl,hy,.inl h1,g1,q _ F H (.refl s) g2⟩
  | _=>cases e
 | scr l=>
  cases dy with
  | int i=>
   simp only[Top,Rep] at hx hy
   obtain⟨a,rfl,h1⟩:=hx
   simp only[oIxL] at e
   cases z:atI l i with
   | none=>rw[z] at e;cases e
   | some n=>
    rw[z] at e;cases e
    obtain⟨v,g1,g2⟩:=zlX (F:=F) (K:=K) (l:=l.map .int) (vs:=l.map V.int) (i:=i) (d:=.int n) .ints (by
     unfold atI at z ⊢
     rw[List.length_map]
     cases q:ixN l.length i with
     | none=>rw[q] at z;cases z
     | some j=>
      rw[q] at z
      change l[j]?=some n at z
      show (l.map D.int)[j]?=_
      rw[List.getElem?_map,z];rfl)
    exact⟨a,_,i,v,rfl,hy,s.seq h1,g1,q _ F H (.refl s) g2⟩
  | _=>cases e
 | _=>cases e
theorem zbL:SR K (rIxT K.f) oIxT:=by
 intro F H x y dx dy d Q s hx hy e q
 cases dx with
 | tup l=>
  cases dy with
  | int i=>
   simp only[Top,Rep] at hx hy
   obtain⟨a,vs,rfl,h1,h2⟩:=hx
   obtain⟨v,g1,g2⟩:=zlX h2 e
   exact⟨a,vs,i,v,rfl,hy,.inl (.inl (s _ _ h1)),g1,q _ F H (.refl s) g2⟩
  | _=>cases e
 | _=>cases e
end
end PM
namespace PM
open PySem L2
section
variable {K:Kx} {XO:XOT} {E:St→XK} {ta tb te ty td:TE} {ma mb me my md:En→R D} {t u:TS} {m n:En→O} {Λ:List (Nat×Addr×HO)} {F0 H0 F H F1 H1:Hp} {σ:St} {δ:En} {Dn:Ends}
abbrev EN:St→XK:=fun _ _ _ _=>False
def zlH:Sl→Sl
 | .o d=>.l d
 | .p _=>.no
 | s=>s
def zbl (δ:En) (ix:List Nat) (n:Nat):En:=ix.map (fun i=>zlH (δ[i]?.getD .no))++List.replicate n .no
def zc5 (f:D→R (Option D)):List D→R (List D)
 | []=>.ok []
 | d::l=>(f d).bind fun o=>(zc5 f l).bind fun r=>.ok (o.toList++r)
def zcn (b:D→En→Option En) (nc:Option (En→R Bool)) (me:En→R D) (δ:En) (d:D):R (Option D):=match b d δ with
 | none=>.no
 | some δ1=>(match nc with
  | none=>(me δ1).nev.bind fun x=>.ok (some x)
  | some c=>(c δ1).nev.bind fun k=>if k=true then (me δ1).nev.bind fun x=>.ok (some x) else .ok none)
def zcS (mi:En→R (List D)) (ix:List Nat) (n:Nat) (b:D→En→Option En) (nc:Option (En→R Bool)) (me:En→R D) (δ:En):R D:=
 (mi δ).bind fun ds=>ifC (ds.length≤sizeLine) ((zc5 (zcn b nc me (zbl δ ix n)) ds).nev.bind fun l=>.ok (.lst l)) .no
theorem znu {ix:List Nat} {n:Nat} (I:EnvOk K Λ F0 H0 F H σ δ) (hix:ix.Nodup) :
  ∃Λc,EnvOk K Λc F0 H0 F H (zea σ ix n) (zbl δ ix n)∧(∀i:Nat,Sl.own (zbl δ ix n)[i]?=true→∃x∈Λc,x.1=i)∧∀x∈Λc,∃o,H x.2.1=some o:=by
 have gd:∀j:Nat,j<ix.length→(zbl δ ix n)[j]?=some (zlH (δ[ix.getD j 0]?.getD .no)):=fun j hj=>by
  unfold zbl
  rw[List.getElem?_append_left (by simpa using hj),List.getElem?_map,List.getElem?_eq_getElem hj]
  simp[List.getD_eq_getElem?_getD,List.getElem?_eq_getElem hj]
 have gs:∀j:Nat,j<ix.length→(zea σ ix n)[j]?=some ((σ[ix.getD j 0]?).getD none):=fun j hj=>by
  unfold zea
  rw[List.getElem?_append_left (by simpa using hj),List.getElem?_map,List.getElem?_eq_getElem hj]
  simp[List.getD_eq_getElem?_getD,List.getElem?_eq_getElem hj]
 have gn:∀j:Nat,¬ j<ix.length→(zbl δ ix n)[j]?=some .no∨(zbl δ ix n)[j]?=none:=fun j hj=>by
  unfold zbl
  rw[List.getElem?_append_right (by simpa using hj),List.getElem?_replicate]
  split
  ·exact .inl rfl
  ·exact .inr rfl
 have own:∀j:Nat,Sl.own (zbl δ ix n)[j]?=true→j<ix.length∧∃d a o,δ[ix.getD j 0]?=some d∧Sl.own (some d)=true∧(zbl δ ix n)[j]?=some (zlH d)∧(∃e,zlH d=.l e)∧σ[ix.getD j 0]?=some (some (.ref a))∧(zea σ ix n)[j]?=some (some (.ref a))∧H a=some o∧H0 a=none∧F a=none:=fun j h=>by
  by_cases hj:j<ix.length
  ·refine⟨hj,?_⟩
   rw[gd j hj] at h
   have z:=I.slot (ix.getD j 0)
   cases q:δ[ix.getD j 0]? with
   | none=>rw[q] at h;cases h
   | some s=>
    rw[q] at h z
    cases s with
    | no=>cases h
    | v d=>cases h
    | o d=>
     obtain⟨a,z1,z2,z3,z4⟩:=z
     obtain⟨o,ho⟩:=z4.obj
     exact⟨_,a,o,rfl,rfl,by rw[gd j hj,q];rfl,⟨d,rfl⟩,z1,by rw[gs j hj,z1];rfl,ho,z2,z3⟩
    | l d=>
     obtain⟨a,z1,z2,z3,z4⟩:=z
     obtain⟨o,ho⟩:=z4.obj
     exact⟨_,a,o,rfl,rfl,by rw[gd j hj,q];rfl,⟨d,rfl⟩,z1,by rw[gs j hj,z1];rfl,ho,z2,z3⟩
    | p ll=>cases h
  ·rcases gn j hj with z|z <;> (rw[z] at h;cases h)
 let Λc:List (Nat×Addr×HO):=(List.range ix.length).filterMap fun (j:Nat)=>match (zea σ ix n)[j]? with
  | some (some (V.ref a))=>if Sl.own (zbl δ ix n)[j]?=true then (H a).map fun o=>(j,a,o) else none
  | _=>none
 have mem:∀x∈Λc,(zea σ ix n)[x.1]?=some (some (.ref x.2.1))∧Sl.own (zbl δ ix n)[x.1]?=true∧H x.2.1=some x.2.2:=fun x hx=>by
  obtain⟨j,_,h⟩:=List.mem_filterMap.mp hx
  split at h
  ·rename_i a q
   split at h
   ·rename_i ow
    cases q2:H a with
    | none=>rw[q2] at h;cases h
    | some o=>rw[q2] at h;cases h;exact⟨q,ow,q2⟩
   ·cases h
  ·cases h
 have zmU:∀(j:Nat) (ll:Tr),(zbl δ ix n)[j]?≠some (.p ll):=fun j ll h=>by
  by_cases hj:j<ix.length
  ·rw[gd j hj] at h
   cases q:δ[ix.getD j 0]? with
   | none=>rw[q] at h;cases h
   | some s=>rw[q] at h;cases s <;> cases h
  ·rcases gn j hj with z|z <;> (rw[z] at h;cases h)
 refine⟨Λc,⟨I.ext,?_,fun j=>?_,fun i j a hij h1 h2 h3 h4=>?_,fun x hx=>?_,fun j ll h=>absurd h (zmU j ll)⟩,fun j h=>?_,fun x hx=>⟨_,(mem x hx).2.2⟩⟩
 ·unfold zea zbl
  simp
 ·by_cases hj:j<ix.length
  ·rw[gd j hj,gs j hj]
   have z:=I.slot (ix.getD j 0)
   cases q:δ[ix.getD j 0]? with
   | none=>trivial
   | some s=>
    rw[q] at z
    cases s with
    | no=>trivial
    | v d=>obtain⟨u,z1,z2⟩:=z;exact⟨u,by rw[z1];rfl,z2⟩
    | o d=>obtain⟨a,z1,z2⟩:=z;exact⟨a,by rw[z1];rfl,z2⟩
    | l d=>obtain⟨a,z1,z2⟩:=z;exact⟨a,by rw[z1];rfl,z2⟩
    | p ll=>trivial
  ·rcases gn j hj with z|z <;> (rw[z];trivial)
 ·obtain⟨i1,d1,a1,o1,i2,i3,i4,i5,i6,i7,i8⟩:=own i h1
  obtain⟨j1,d2,a2,o2,j2,j3,j4,j5,j6,j7,j8⟩:=own j h2
  rw[i7] at h3;cases h3
  rw[j7] at h4;cases h4
  refine I.dist (ix.getD i 0) (ix.getD j 0) a (fun e=>hij ?_) (by rw[i2];exact i3) (by rw[j2];exact j3) i6 j6
  rw[List.getD_eq_getElem?_getD,List.getD_eq_getElem?_getD,List.getElem?_eq_getElem i1,List.getElem?_eq_getElem j1] at e
  exact ((List.getElem?_inj i1 hix).mp (by rw[List.getElem?_eq_getElem i1,List.getElem?_eq_getElem j1];exact congrArg some e))
 ·obtain⟨m1,m2,m3⟩:=mem x hx
  obtain⟨_,d,_,_,_,_,h4,⟨e,h5⟩,_⟩:=own x.1 m2
  exact⟨⟨e,by rw[h4,h5]⟩,m1,m3⟩
 ·obtain⟨i1,d1,a1,o1,i2,i3,i4,i5,i6,i7,i8,_⟩:=own j h
  refine⟨(j,a1,o1),List.mem_filterMap.mpr ⟨j,List.mem_range.mpr i1,?_⟩,rfl⟩
  rw[i7]
  show (if Sl.own (zbl δ ix n)[j]?=true then (H a1).map fun o=>(j,a1,o) else none)=_
  rw[if_pos h,i8]
  rfl
theorem EnvOk.side {p:Addr} {w:HO} (I:EnvOk K Λ F0 H0 F H σ δ) (ho:∀i:Nat,Sl.own δ[i]?=true→∃x∈Λ,x.1=i) (hp:∀x∈Λ,x.2.1≠p) (h0:H0 p=none) (h1:F p=none):EnvOk K Λ F0 H0 F (upd H p w) σ δ:=by
 have ne:∀(i:Nat) (a:Addr),Sl.own δ[i]?=true→σ[i]?=some (some (.ref a))→a≠p:=fun i a h h'=>by
  obtain⟨x,hx,e⟩:=ho i h
  have z:=(I.lent x hx).2.1
  rw[e,h'] at z
  cases z
  exact hp x hx
 have zmU:∀(j:Nat) (ll:Tr),δ[j]?≠some (.p ll):=fun j ll h=>by
  obtain⟨x,hx,e⟩:=ho j (by rw[h];rfl)
  obtain⟨d,hd⟩:=(I.lent x hx).1
  rw[e,h] at hd;cases hd
 refine⟨⟨I.ext.ff,fun b o q=>?_,fun b o q=>?_,I.ext.nw⟩,I.len,fun i=>?_,I.dist,fun x hx=>?_,fun j ll h=>absurd h (zmU j ll)⟩
 ·rw[zaz (zaG q h0)];exact I.ext.hh b o q
 ·rw[zaz (zaG q h1)];exact I.ext.fh b o q
 ·have z:=I.slot i
  cases q:δ[i]? with
  | none=>trivial
  | some s=>
   rw[q] at z
   cases s with
   | no=>trivial
   | v d=>exact z
   | o d=>obtain⟨a,z1,z2,z3,z4⟩:=z;exact⟨a,z1,z2,z3,z4.at (zaz (ne i a (by rw[q];rfl) z1))⟩
   | l d=>obtain⟨a,z1,z2,z3,z4⟩:=z;exact⟨a,z1,z2,z3,z4.at (zaz (ne i a (by rw[q];rfl) z1))⟩
   | p ll=>exact absurd q (zmU i ll)
 ·obtain⟨z1,z2,z3⟩:=I.lent x hx
  exact⟨z1,z2,by rw[zaz (hp x hx)];exact z3⟩
theorem EnvOk.weakL {δ':En} (w:Weak δ δ') (hl:∀x∈Λ,∃d,δ[x.1]?=some (.l d)) (I:EnvOk K Λ F0 H0 F H σ δ'):EnvOk K Λ F0 H0 F H σ δ:=by
 refine⟨I.ext,I.len.trans w.1.symm,fun i=>?_,fun i j a hij h1 h2 h3 h4=>?_,fun x hx=>⟨hl x hx,(I.lent x hx).2⟩,I.tabsOf (fun k ll h=>⟨(w.2 k).elim (fun z=>by rw[z] at h;cases h) fun z=>by rw[← z];exact h,rfl⟩) (fun _ _ _ _ _ _ t f _=>⟨t,fun b hb=>(f b hb).2⟩) fun k j ll r b bs _ _ _ _ ho hs=>.inl ⟨(w.2 j).elim (fun z=>by rw[z] at ho;cases ho) fun z=>by rw[← z];exact ho,hs⟩⟩
 ·rcases w.2 i with z|z
  ·rw[z];trivial
  ·rw[z];exact I.slot i
 ·have ow:∀k:Nat,Sl.own δ[k]?=true→Sl.own δ'[k]?=true:=fun k h=>by
   rcases w.2 k with z|z
   ·rw[z] at h;cases h
   ·rw[← z];exact h
  exact I.dist i j a hij (ow i h1) (ow j h2) h3 h4
theorem zln {f:D→R (Option D)} {d:D} {l r:List D} (h:(zc5 f (d::l)).nev=.ok r):∃o r',f d=.ok o∧(zc5 f l).nev=.ok r'∧r=o.toList++r':=by
 unfold zc5 at h
 cases q:f d with
 | no=>rw[q] at h;cases h
 | ex x=>rw[q] at h;cases h
 | ok o=>
  rw[q] at h
  cases q2:zc5 f l with
  | no=>rw[R.bind_ok,q2] at h;cases h
  | ex x=>rw[R.bind_ok,q2] at h;cases h
  | ok r'=>rw[R.bind_ok,q2] at h;cases h;exact⟨o,r',rfl,rfl,rfl⟩
theorem nev_ok {α:Type} {r:R α} {a:α} (h:r.nev=.ok a):r=.ok a:=by
 cases r with
 | no=>cases h
 | ok b=>cases h;rfl
 | ex x=>cases h
theorem zba {wi:TI} {mi:En→R (List D)} {ix:List Nat} {n:Nat} {g:TG} {b:D→En→Option En} {tc:Option TT} {nc:Option (En→R Bool)}
  (hi:SIc K XO E wi mi) (hix:ix.Nodup) (hg:SG K g b) (hw:BW b) (hc:(tc=none∧nc=none)∨∃c k,tc=some c∧nc=some k∧ST K XO EN c k) (he:SE K XO EN te me):SEo K XO E (zpY wi ix n g tc te) (zcS mi ix n b nc me):=by
 intro Λ F0 H0 F H σ δ Q I a
 refine hi Λ F0 H0 F H σ δ _ I (a.bind.imp fun ds F1 H1 e1 a1 J hJ p hp=>?_)
 unfold ifC at a1
 split at a1
 case isFalse=>exact a1.elim
 rename_i hsz
 have I1:=I.grow e1
 obtain⟨Λc,Ic,hown,hall⟩:=znu (n:=n) I1 hix
 cases qg:(zc5 (zcn b nc me (zbl δ ix n)) ds).nev with
 | no=>rw[qg] at a1;exact a1.elim
 | ex x=>cases q2:zc5 (zcn b nc me (zbl δ ix n)) ds <;> (rw[q2] at qg;cases qg)
 | ok l=>
 rw[qg] at a1
 have hlent:∀x∈Λc,∃d,(zbl δ ix n)[x.1]?=some (.l d):=fun x hx=>(Ic.lent x hx).1
 have hpn:∀x∈Λc,x.2.1≠p:=fun x hx e=>by
  obtain⟨o,ho⟩:=hall x hx
  rw[e,hp] at ho;cases ho
 have p0:H0 p=none:=I1.ext.hh.free hp
 have f1:F1 p=none:=e1.fh.free hp
 refine⟨fun i k ys σ2 H2=>∃F2 l1 l2,EnvOk K Λc F0 H0 F2 H2 σ2 (zbl δ ix n)∧Ext F1 H1 F2 H2∧H2 p=some (.lst ys)∧F2 p=none∧RepL K F2 l1 ys∧(zc5 (zcn b nc me (zbl δ ix n)) (ds.drop i)).nev=.ok l2∧l=l1++l2∧k=ds.length - i∧i≤ds.length∧ys.length≤i,
  ⟨_,F1,[],l,?_,.newO e1.fh hp,zaX,f1,.nil,qg,rfl,rfl,Nat.zero_le _,Nat.le_refl _⟩,?_⟩
 ·exact Ic.grow (.newO e1.fh hp)
 rintro i k ys σ2 H2 ⟨F2,l1,l2,I2,x2,hD,hF,r,qd,rfl,rfl,hil,hys⟩
 refine⟨hD,?_⟩
 by_cases hlt:i<ds.length
 ·have e:ds.drop i=ds[i]::ds.drop (i+1):=List.drop_eq_getElem_cons hlt
  rw[e] at qd
  obtain⟨o,l3,q1,q3,rfl⟩:=zln qd
  obtain⟨h1,h2⟩:=(hJ F2 H2 x2 i).1 ds[i] (by simp[hlt])
  refine .inr ⟨h1,fun ys' σ' H'=>∃F' l1',EnvOk K Λc F0 H0 F' H' σ' (zbl δ ix n)∧Ext F1 H1 F' H'∧H' p=some (.lst ys')∧F' p=none∧RepL K F' l1' ys'∧l1++(o.toList++l3)=l1'++l3∧ys'.length≤i+1,
   fun ys' σ' H' ⟨F',l1',w1,w2,w3,w4,w5,w6,w7⟩=>⟨_,by omega,F',l1',l3,w1,w2,w3,w4,w5,q3,w6,rfl,hlt,w7⟩,fun x H' y=>?_⟩
  obtain⟨F3,e3,rx⟩:=h2 x H' y
  have hp2:∀ {F5 H5:Hp},Ext F2 H2 F5 H5→H5 p=some (.lst ys)∧F5 p=none:=fun z=>⟨z.hh _ _ hD,z.nw p _ hF hD⟩
  unfold zcn at q1
  cases qb:b ds[i] (zbl δ ix n) with
  | none=>rw[qb] at q1;cases q1
  | some δ1=>
   rw[qb] at q1
   have hwk:=hw _ _ _ qb
   refine hg Λc F0 H0 F3 H' σ2 _ _ x δ1 _ (I2.grow e3) rx qb fun σ3 I3=>?_
   have fin:∀F4 H4,Ext F3 H' F4 H4→(me δ1).nev.bind (fun x=>R.ok (some x))=.ok o→te σ3 H4 fun y H5=>H5 p=some (.lst ys)∧ys.length<sizeLine ∧
     ∃F' l1',EnvOk K Λc F0 H0 F' (upd H5 p (.lst (ys++[y]))) σ3 (zbl δ ix n)∧Ext F1 H1 F' (upd H5 p (.lst (ys++[y])))∧upd H5 p (.lst (ys++[y])) p=some (.lst (ys++[y]))∧F' p=none∧RepL K F' l1' (ys++[y])∧l1++(o.toList++l3)=l1'++l3∧(ys++[y]).length≤i+1:=by
    intro F4 H4 e4 qe
    cases qm:me δ1 with
    | no=>rw[qm] at qe;cases qe
    | ex x=>rw[qm] at qe;cases qe
    | ok d=>
     rw[qm] at qe
     cases qe
     refine he Λc F0 H0 F4 H4 σ3 δ1 _ (I3.grow e4) ?_
     rw[qm]
     intro F5 H5 e5 v rv
     have z:=e3.trans (e4.trans e5)
     obtain⟨z1,z2⟩:=hp2 z
     refine⟨z1,by omega,F5,l1++[d],(((I3.grow e4).grow e5).weakL hwk hlent).side hown hpn p0 z2,?_,zaX,z2,(r.mono z.ff).append (.cons rv .nil),by simp,by simpa using hys⟩
     have w:=x2.trans z
     exact⟨w.ff,fun c o q=>by rw[zaz (zaG q hp)];exact w.hh c o q,fun c o q=>by rw[zaz (zaG q z2)];exact w.fh c o q,w.nw⟩
   rcases hc with ⟨rfl,rfl⟩|⟨c,kc,rfl,rfl,hcc⟩
   ·have z:=fin F3 H' (.refl e3.fh) q1
    unfold zpH
    simp only[if_true]
    exact z
   ·simp only at q1
    refine hcc Λc F0 H0 F3 H' σ3 δ1 _ I3 ?_
    cases qk:kc δ1 with
    | no=>rw[qk] at q1;cases q1
    | ex x=>rw[qk] at q1;cases q1
    | ok bb=>
     rw[qk] at q1
     intro F4 H4 e4
     cases bb with
     | true=>rw[if_pos rfl];exact fin F4 H4 e4 q1
     | false=>
      rw[if_neg Bool.false_ne_true]
      have eo:o=none:=by
       rw[R.nev_ok,R.bind_ok,if_neg Bool.false_ne_true] at q1
       cases q1;rfl
      subst eo
      have z:=e3.trans e4
      obtain⟨z1,z2⟩:=hp2 z
      exact⟨F4,l1,(I3.grow e4).weakL hwk hlent,x2.trans z,z1,z2,r.mono z.ff,rfl,by omega⟩
 ·have e:i=ds.length:=by omega
  subst e
  rw[List.drop_length] at qd
  cases qd
  refine .inl ⟨(hJ F2 H2 x2 _).2 (by simp),a1 F2 H2 x2 p hF (e1.hh.free hp) ⟨ys,hD,?_⟩⟩
  rw[List.append_nil]
  exact r
def zbz (n:Nat) (ds:List D):En:=ds.map .v++List.replicate n .no
def runF (np nv:Nat) (m:En→O) (ds:List D):R D:=if ds.length=np then (match m (zbz nv ds) with|.rt d=>.ok d|.nx _=>.ok .non|.ex _ x=>.ex x|_=>.no) else .no
theorem zl1 {np nv:Nat} {N:List Str} {ds:List D} {vs:List V} (s:Same F H) (r:RepL K F ds vs) (hn:N.length=np+nv) (hl:ds.length=np):EnvOk K [] F H F H (L2.start N vs) (zbz nv ds):=by
 have hv:=r.length
 unfold L2.start zbz
 have en:N.length - vs.length=nv:=by omega
 rw[en]
 refine⟨.refl s,by simp[hv],fun i=>?_,fun i j a _ h1 _ _ _=>?_,fun x hx=>(by cases hx),fun i ll h1=>(by
  by_cases hi:i<ds.length
  ·rw[List.getElem?_append_left (by simpa using hi),List.getElem?_map,List.getElem?_eq_getElem hi] at h1
   cases h1
  ·rw[List.getElem?_append_right (by simpa using hi),List.getElem?_replicate] at h1
   split at h1 <;> cases h1)⟩
 ·by_cases hi:i<ds.length
  ·rw[List.getElem?_append_left (by simpa using hi),List.getElem?_append_left (by simp;omega),List.getElem?_map,List.getElem?_map,List.getElem?_eq_getElem hi]
   obtain⟨v,h1,h2⟩:=r.get (List.getElem?_eq_getElem hi)
   rw[h1]
   exact⟨v,rfl,h2⟩
  ·rw[List.getElem?_append_right (by simpa using hi),List.getElem?_replicate]
   split <;> trivial
 ·by_cases hi:i<ds.length
  ·rw[List.getElem?_append_left (by simpa using hi),List.getElem?_map,List.getElem?_eq_getElem hi] at h1
   cases h1
  ·rw[List.getElem?_append_right (by simpa using hi),List.getElem?_replicate] at h1
   split at h1 <;> cases h1
theorem zcv {np nv:Nat} {N:List Str} {vs:List V} {Q:VK} {E:XK} (h:SS K XO (fun _=>E) t m) (hn:N.length=np+nv) (sp:spM K XO (runF np nv m) vs H Q E):t { nx:=fun _ H'=>Q .non H',rt:=Q } (L2.start N vs) H:=by
 obtain⟨F,ds,s,r,a⟩:=sp
 unfold runF at a
 split at a
 ·rename_i hl
  refine h [] F H F H _ _ _ (zl1 s r hn hl) ?_
  cases q:m (zbz nv ds) with
  | no=>rw[q] at a;exact a
  | nx δ=>rw[q] at a;exact fun σ F' H' I=>a F' H' I.ext _ (by simp only[Rep])
  | rt d=>rw[q] at a;exact fun v F' H' e r=>a F' H' e v r
  | ro d=>rw[q] at a;exact a.elim
  | bk δ=>rw[q] at a;exact a.elim
  | ct δ=>rw[q] at a;exact a.elim
  | ex δ x=>rw[q] at a;exact fun σ F' H' C dct I w=>a C dct F' H' I.ext w
 ·exact a.elim
def runO (np nv:Nat) (m:En→O) (ds:List D):R D:=if ds.length=np then (match m (zbz nv ds) with|.ro d=>.ok d|.ex _ x=>.ex x|_=>.no) else .no
def spO (K:Kx) (XO:XOT) (f:List D→R D):Sp:=fun vs H Q E=>∃F ds,Same F H∧RepL K F ds vs∧Aft (fun _=>E) XO [] F H (fun d F' H'=>∀p,F' p=none→H p=none→Own K F' H' d p→Q (.ref p) H') (f ds)
theorem zfm {np nv:Nat} {N:List Str} {vs:List V} {Q:VK} {E:XK} (h:SS K XO (fun _=>E) t m) (hn:N.length=np+nv) (sp:spO K XO (runO np nv m) vs H Q E):t { nx:=fun _ H'=>Q .non H',rt:=Q } (L2.start N vs) H:=by
 obtain⟨F,ds,s,r,a⟩:=sp
 unfold runO at a
 split at a
 ·rename_i hl
  refine h [] F H F H _ _ _ (zl1 s r hn hl) ?_
  cases q:m (zbz nv ds) with
  | no=>rw[q] at a;exact a
  | nx δ=>rw[q] at a;exact a.elim
  | rt d=>rw[q] at a;exact a.elim
  | ro d=>rw[q] at a;exact fun p F' H' e h0 h1 o=>a F' H' e p h0 h1 o
  | bk δ=>rw[q] at a;exact a.elim
  | ct δ=>rw[q] at a;exact a.elim
  | ex δ x=>rw[q] at a;exact fun σ F' H' C dct I w=>a C dct F' H' I.ext w
 ·exact a.elim
theorem zdU {np nv:Nat} {vs:List V} {Q:VK} {E:XK} (sp:spO K XO (runO np nv m) vs H Q E):vs.length=np:=by
 obtain⟨F,ds,s,r,a⟩:=sp
 unfold runO at a
 split at a
 ·rename_i hl;rw[r.length];exact hl
 ·exact a.elim
theorem zbd {np nv:Nat} {vs:List V} {Q:VK} {E:XK} (sp:spM K XO (runF np nv m) vs H Q E):vs.length=np:=by
 obtain⟨F,ds,s,r,a⟩:=sp
 unfold runF at a
 split at a
 ·rename_i hl;rw[r.length];exact hl
 ·exact a.elim
theorem zrk {f:List D→R D} {ns:List Int} {a:Addr} {Q:VK} {E:XK} (hf:f [.scr ns]=.ok (.bl true)) (h:SqL K.f H a (ns.map V.int)) (q:∀H',Q (.bl true) H'):spM K XO f [.ref a] H Q E:=by
 refine⟨fun b=>if b=a then H b else none,[.scr ns],fun b o e=>?_,.cons ?_ .nil,?_⟩
 ·dsimp only at e
  split at e
  ·exact e
  ·cases e
 ·simp only[Rep]
  refine⟨a,rfl,?_⟩
  rcases h with (h|⟨o,h⟩)|h
  ·exact .inl (.inl (by dsimp only;rw[if_pos rfl];exact h))
  ·exact .inl (.inr ⟨o,by dsimp only;rw[if_pos rfl];exact h⟩)
  ·exact .inr h
 ·rw[hf]
  intro F' H' _ v r
  simp only[Rep] at r
  subst r
  exact q H'
theorem zbg {f:List D→R D} {tl:TA} {ml:En→R (List D)} {E':XK} (h:SA K XO E tl ml):SEo K XO E (zlq (spO K XO f) [] E' tl) (zaf f ml):=by
 intro Λ F0 H0 F H σ δ Q I a
 refine h Λ F0 H0 F H σ δ _ I (a.bind.imp fun ds F1 H1 e1 a1 vs r=>⟨F1,ds,e1.fh,by rw[List.append_nil];exact r,?_⟩)
 exact Aft.imp (fun d F2 H2 e2 p q h0 h1 o=>p q h0 (e1.hh.free h1) o) (Aft.any a1)
mutual
def zgl:D→Bool
 | .tup l=>zl7 l
 | .lst _=>false
 | .dct _ _=>false
 | .scr _=>false
 | .exc _=>false
 | .fd _ _=>false
 | .obj _ _ _=>false
 | _=>true
def zl7:List D→Bool
 | []=>true
 | d::l=>zgl d && zl7 l
end
variable (K) in
def Bor (F H:Hp) (d:D) (v:V):Prop:=Rep K F d v∨(∃a,v=.ref a∧Own K F H d a)∨∃T fp,d=trD T∧TrOk K F H T v fp
variable (K XO E) in
def SAb (t:TA) (m:En→R (List D)):Prop:=∀Λ F0 H0 F H σ δ Q,EnvOk K Λ F0 H0 F H σ δ→Aft E XO σ F H (fun ds F' H'=>∀vs,Prd (Bor K F' H') ds vs→Q vs H') (m δ)→t σ H Q
theorem Bor.mono {F H F' H':Hp} (e:Ext F H F' H') {d:D} {v:V}:Bor K F H d v→Bor K F' H' d v
 | .inl h=>.inl (Rep.mono e.ff _ h)
 | .inr (.inl ⟨a,h1,h2⟩)=>.inr (.inl ⟨a,h1,h2.mono e.ff e.hh⟩)
 | .inr (.inr ⟨T,fp,h1,h2⟩)=>.inr (.inr ⟨T,fp,h1,TrOk.mono e.ff e.hh T h2⟩)
theorem zlw:SAb K XO E tNil mNil:=fun Λ F0 H0 F H σ δ Q I a=>a F H (.refl I.same) _ .nil
theorem zjs {tr:TA} {mr:En→R (List D)} (ha:SE K XO E ta ma) (hr:SAb K XO E tr mr):SAb K XO E (zd3 ta tr) (zab ma mr):=by
 intro Λ F0 H0 F H σ δ Q I a
 refine ha Λ F0 H0 F H σ δ _ I (a.bind.imp fun dx F1 H1 e1 a1 x rx=>?_)
 refine hr Λ F0 H0 F1 H1 σ δ _ (I.grow e1) (a1.bind.imp fun dy F2 H2 e2 a2 y ry=>?_)
 exact a2 F2 H2 (.refl e2.fh) _ (.cons (.inl (Rep.mono e2.ff _ rx)) ry)
theorem zlA {i:Nat} {tr:TA} {mr:En→R (List D)} (hr:SAb K XO E tr mr):SAb K XO E (zd3 (tVar i) tr) (zab (mRd i) mr):=by
 intro Λ F0 H0 F H σ δ Q I a
 have key:∀d v,mRd i δ=.ok d→σ[i]?=some (some v)→Bor K F H d v→zd3 (tVar i) tr σ H Q:=fun d v hm hs b=>by
  unfold zab at a
  rw[hm] at a
  refine⟨v,hs,hr Λ F0 H0 F H σ δ _ I (Aft.imp (fun dy F2 H2 e2 a2 y ry=>?_) (Aft.bind a))⟩
  exact a2 F2 H2 (.refl e2.fh) _ (.cons (b.mono e2) ry)
 have z:=I.slot i
 unfold zab at a
 cases q:δ[i]? with
 | none=>
  have e:mRd i δ=.no:=by unfold mRd;rw[q]
  rw[e] at a;exact a.elim
 | some s=>
  rw[q] at z
  cases s with
  | no=>
   have e:mRd i δ=.no:=by unfold mRd;rw[q]
   rw[e] at a;exact a.elim
  | v d=>obtain⟨u,z1,z2⟩:=z;exact key d u (by unfold mRd;rw[q]) z1 (.inl z2)
  | o d=>obtain⟨u,z1,_,_,z2⟩:=z;exact key d _ (by unfold mRd;rw[q]) z1 (.inr (.inl ⟨u,rfl,z2⟩))
  | l d=>obtain⟨u,z1,_,_,z2⟩:=z;exact key d _ (by unfold mRd;rw[q]) z1 (.inr (.inl ⟨u,rfl,z2⟩))
  | p ll=>
   have e:mRd i δ=.no:=by unfold mRd;rw[q]
   rw[e] at a;exact a.elim
def zd1 (F H:Hp):Hp:=fun b=>match F b with
 | some o=>some o
 | none=>match H b with
  | some (.lst vs)=>some (.lst vs)
  | some (.dK kvs)=>some (.dK kvs)
  | some (.frz o u)=>some (.frz o u)
  | some (.ins C dx fs)=>some (.ins C dx fs)
  | _=>none
theorem zfE {F H:Hp}:Same F (zd1 F H):=fun b o h=>by unfold zd1;rw[h]
theorem znE {F H:Hp} (s:Same F H):Same (zd1 F H) H:=fun b o h=>by
 unfold zd1 at h
 cases q:F b with
 | some u=>rw[q] at h;cases h;exact s _ _ q
 | none=>
  simp only[q] at h
  cases q2:H b with
  | none=>rw[q2] at h;cases h
  | some u=>cases u <;> simp only[q2] at h <;> cases h <;> rfl
theorem zpZ {a:Addr} {vs:List V} (s:Same F H) (h:H a=some (.lst vs)):zd1 F H a=some (.lst vs):=by
 unfold zd1
 cases q:F a with
 | some u=>rw[s _ _ q] at h;exact h
 | none=>simp only[h]
mutual
theorem zjM (s:Same F H):∀(T:Tr) {v:V} {fp:List Addr},TrOk K F H T v fp→Rep K (zd1 F H) (trD T) v
 | .d x,v,fp,h=>by
  simp only[TrOk] at h
  simp only[trD]
  exact Rep.mono zfE x h.2
 | .l ts,v,fp,h=>by
  simp only[TrOk] at h
  obtain⟨a,vs,fs,rfl,h2,h3,h4⟩:=h
  simp only[trD,Rep]
  exact⟨a,vs,rfl,zpZ s h3,zh1 s ts h4⟩
 | .t ts,v,fp,h=>by
  simp only[TrOk] at h
  obtain⟨a,vs,rfl,h3,h4⟩:=h
  simp only[trD,Rep]
  exact⟨a,vs,rfl,zfE _ _ h3,zh1 s ts h4⟩
theorem zh1 (s:Same F H):∀(ts:List Tr) {vs:List V} {fp:List Addr},TrOkL K F H ts vs fp→RepL K (zd1 F H) (trDL ts) vs
 | [],vs,fp,h=>by
  simp only[TrOkL] at h
  rw[h.1]
  simp only[trDL]
  exact .nil
 | t::ts,vs,fp,h=>by
  simp only[TrOkL] at h
  obtain⟨v,r,f1,f2,rfl,h2,h3,h4⟩:=h
  simp only[trDL]
  exact .cons (zjM s t h3) (zh1 s ts h4)
end
theorem zlv {F H:Hp} (s:Same F H):∀ {d:D} {v:V},Bor K F H d v→Rep K (zd1 F H) d v:=by
 intro d v h
 rcases h with h|⟨a,rfl,h⟩|⟨T,fp,rfl,h⟩
 ·exact Rep.mono zfE _ h
 ·cases d with
  | lst l=>
   obtain⟨vs,h1,h2⟩:=h
   simp only[Rep]
   refine⟨a,vs,rfl,?_,h2.mono zfE⟩
   unfold zd1
   cases q:F a with
   | some u=>rw[s _ _ q] at h1;exact h1
   | none=>simp only[h1]
  | dct ks l=>
   obtain⟨vs,h1,h0,h2⟩:=h
   simp only[Rep]
   refine⟨a,vs,rfl,?_,h0,h2.mono zfE⟩
   unfold zd1
   cases q:F a with
   | some u=>rw[s _ _ q] at h1;exact h1
   | none=>simp only[h1]
  | obj c ks l=>
   obtain⟨dx,vs,h1,h0,h2⟩:=h
   simp only[Rep]
   refine⟨a,dx,vs,rfl,?_,h0,h2.mono zfE⟩
   unfold zd1
   cases q:F a with
   | some u=>rw[s _ _ q] at h1;exact h1
   | none=>simp only[h1]
  | _=>exact h.elim
 ·exact zjM s T h
theorem zmx {F H:Hp} (s:Same F H):∀ {ds:List D} {vs:List V},Prd (Bor K F H) ds vs→RepL K (zd1 F H) ds vs
 | _,_,.nil=>.nil
 | _,_,.cons h t=>.cons (zlv s h) (zmx s t)
open Classical in
def minH (F H F':Hp):Hp:=fun b=>if F b=none∧H b≠none then none else F' b
theorem zrE {F H F' H':Hp} (e:Ext (zd1 F H) H F' H') {a:Addr} {o:HO} (h:F' a=some o) (h1:∀vs,o≠.lst vs) (h2:∀kvs,o≠.dK kvs) (h3:∀q u,o≠.frz q u) (h4:∀C dx fs,o≠.ins C dx fs):minH F H F' a=some o:=by
 unfold minH
 split
 ·rename_i hc
  exfalso
  cases qh:H a with
  | none=>exact hc.2 qh
  | some u=>
   have np:zd1 F H a=match H a with|some (.lst vs)=>some (.lst vs)|some (.dK kvs)=>some (.dK kvs)|some (.frz o u)=>some (.frz o u)|some (.ins C dx fs)=>some (.ins C dx fs)|_=>none:=by
    unfold zd1;rw[hc.1]
   cases u with
   | lst vs=>rw[qh] at np;have z:=e.ff a _ np;rw[h] at z;cases z;exact h1 vs rfl
   | dK vs=>rw[qh] at np;have z:=e.ff a _ np;rw[h] at z;cases z;exact h2 vs rfl
   | frz q w=>rw[qh] at np;have z:=e.ff a _ np;rw[h] at z;cases z;exact h3 q w rfl
   | ins C dx fs=>rw[qh] at np;have z:=e.ff a _ np;rw[h] at z;cases z;exact h4 C dx fs rfl
   | _=>rw[qh] at np;have z:=e.nw a _ np qh;rw[h] at z;cases z
 ·exact h
mutual
theorem zlt {F H F' H':Hp} (e:Ext (zd1 F H) H F' H'):∀(d:D) {v:V},zgl d=true→Rep K F' d v→Rep K (minH F H F') d v
 | .non,v,_,h=>by simp only[Rep] at h ⊢;exact h
 | .bl _,v,_,h=>by simp only[Rep] at h ⊢;exact h
 | .int _,v,_,h=>by simp only[Rep] at h ⊢;exact h
 | .str _,v,_,h=>by simp only[Rep] at h ⊢;exact h
 | .lst _,v,c,h=>by simp only[zgl] at c;cases c
 | .dct _ _,v,c,h=>by simp only[zgl] at c;cases c
 | .scr _,v,c,h=>by simp only[zgl] at c;cases c
 | .exc _,v,c,h=>by simp only[zgl] at c;cases c
 | .fd _ _,v,c,h=>by simp only[zgl] at c;cases c
 | .obj _ _ _,v,c,h=>by simp only[zgl] at c;cases c
 | .tup l,v,c,h=>by
  simp only[zgl] at c
  simp only[Rep] at h ⊢
  obtain⟨a,vs,h1,h2,h3⟩:=h
  exact⟨a,vs,h1,zrE e h2 (fun _ z=>by cases z) (fun _ z=>by cases z) (fun _ _ z=>by cases z) (fun _ _ _ z=>by cases z),zlY e l c h3⟩
theorem zlY {F H F' H':Hp} (e:Ext (zd1 F H) H F' H'):∀(l:List D) {vs:List V},zl7 l=true→RepL K F' l vs→RepL K (minH F H F') l vs
 | [],vs,_,h=>by simp only[RepL] at h ⊢;exact h
 | d::l,vs,c,h=>by
  simp only[zl7,Bool.and_eq_true] at c
  simp only[RepL] at h ⊢
  obtain⟨v,r,h1,h2,h3⟩:=h
  exact⟨v,r,h1,zlt e d c.1 h2,zlY e l c.2 h3⟩
end
theorem zn5 {F H F' H':Hp} (e:Ext (zd1 F H) H F' H'):Ext F H (minH F H F') H':=by
 refine⟨fun b o h=>?_,e.hh,fun b o h=>?_,fun p o h1 h2=>?_⟩
 ·unfold minH
  rw[if_neg (fun hc=>by rw[h] at hc;cases hc.1)]
  exact e.ff b o (zfE b o h)
 ·unfold minH at h
  split at h
  ·cases h
  ·exact e.fh b o h
 ·unfold minH
  rw[if_pos ⟨h1,by rw[h2];intro z;cases z⟩]
def zhT (f:List D→R D) (ml:En→R (List D)) (δ:En):R D:=(ml δ).bind fun l=>(f l).nev.bind fun d=>if zgl d=true then .ok d else .no
theorem zjz {f:List D→R D} {tl:TA} {ml:En→R (List D)} {E':XK} (h:SAb K XO E tl ml):SE K XO E (zlq (spM K XO f) [] E' tl) (zhT f ml):=by
 intro Λ F0 H0 F H σ δ Q I a
 refine h Λ F0 H0 F H σ δ _ I (a.bind.imp fun ds F1 H1 e1 a1 vs r=>⟨zd1 F1 H1,ds,znE e1.fh,by rw[List.append_nil];exact zmx e1.fh r,?_⟩)
 cases q:f ds with
 | no=>rw[q] at a1;exact a1.elim
 | ex x=>rw[q] at a1;exact a1.elim
 | ok d=>
  rw[q] at a1
  intro F2 H2 e2 v rv
  simp only[R.nev_ok,R.bind_ok] at a1
  split at a1
  ·rename_i hc
   exact a1 _ H2 (zn5 e2) v (zlt e2 d hc rv)
  ·exact a1.elim
variable (K) in
def SC (r:List V→Hp→VK→Prop) (f:List D→Option D):Prop:=∀F H vs ds d Q,Same F H→Prd (Top K F H) ds vs→f ds=some d→(∀v F' H',Ext F H F' H'→Rep K F' d v→Q v H')→r vs H Q
def mCB (f:List D→Option D) (ml:En→R (List D)) (δ:En):R D:=(ml δ).bind fun l=>R.of (f l)
theorem zcc {r:List V→Hp→VK→Prop} {f:List D→Option D} {tl:TA} {ml:En→R (List D)} (hr:SC K r f) (h:SAr K XO E tl ml):SE K XO E (tCB r tl) (mCB f ml):=by
 intro Λ F0 H0 F H σ δ Q I a
 refine h Λ F0 H0 F H σ δ _ I (a.bind.imp fun ds F1 H1 e1 a1 vs rv=>?_)
 cases q:f ds with
 | none=>rw[q] at a1;exact a1.elim
 | some d=>rw[q] at a1;exact hr F1 H1 vs ds d Q e1.fh rv q fun v F' H' e r=>a1 F' H' e v r
def fLen:List D→Option D
 | [.lst l]=>some (.int l.length)
 | [.scr l]=>some (.int l.length)
 | [.tup l]=>some (.int l.length)
 | _=>none
theorem zcK:SC K (fun xs H Q=>∃p ys,xs=[.ref p]∧(SqL K.f H p ys∨SqT K.f H p ys)∧Q (.int ys.length) H) fLen:=by
 intro F H vs ds d Q s r e q
 unfold fLen at e
 split at e
 ·cases e
  cases r with
  | cons r r'=>
   cases r'
   obtain⟨a,xs,rfl,h1,h2⟩:=r
   exact⟨a,xs,rfl,.inl (.inl h1),q _ F H (.refl s) (by simp only[Rep];rw[h2.length])⟩
 ·cases e
  cases r with
  | cons r r'=>
   cases r'
   simp only[Top,Rep] at r
   obtain⟨a,rfl,h1⟩:=r
   exact⟨a,_,rfl,.inl (s.seq h1),q _ F H (.refl s) (by simp only[Rep];rw[List.length_map])⟩
 ·cases e
  cases r with
  | cons r r'=>
   cases r'
   simp only[Top,Rep] at r
   obtain⟨a,xs,rfl,h1,h2⟩:=r
   exact⟨a,xs,rfl,.inr (.inl (.inl (s _ _ h1))),q _ F H (.refl s) (by simp only[Rep];rw[h2.length])⟩
 ·cases e
def fAbs:List D→Option D
 | [.int i]=>some (.int (if i<0 then -i else i))
 | _=>none
theorem zmD:SC K (fun xs H Q=>∃i,xs=[.int i]∧Q (.int (if i<0 then -i else i)) H) fAbs:=by
 intro F H vs ds d Q s r e q
 unfold fAbs at e
 split at e
 ·rename_i i
  cases e
  cases r with
  | cons r r'=>
   cases r'
   simp only[Top,Rep] at r
   subst r
   exact⟨i,rfl,q _ F H (.refl s) (by simp only[Rep])⟩
 ·cases e
def asI:D→Option Int
 | .int i=>some i
 | _=>none
def mNoP (_:En):R (Option Int):=.ok none
def zc1 (me:En→R D) (δ:En):R (Option Int):=(me δ).bind fun d=>(R.of (asI d)).bind fun i=>.ok (some i)
variable (K XO E) in
def SO (t:TO) (m:En→R (Option Int)):Prop:=∀Λ F0 H0 F H σ δ Q,EnvOk K Λ F0 H0 F H σ δ→Aft E XO σ F H (fun o _ H'=>Q o H') (m δ)→t σ H Q
theorem zhX:SO K XO E znt mNoP:=fun Λ F0 H0 F H σ δ Q I a=>a F H (.refl I.same)
theorem zeg (h:SE K XO E te me):SO K XO E (zq0 te) (zc1 me):=by
 intro Λ F0 H0 F H σ δ Q I a
 refine h Λ F0 H0 F H σ δ _ I (a.bind.imp fun d F1 H1 e1 a1 v r=>?_)
 cases d with
 | int i=>simp only[Rep] at r;exact⟨i,r,a1 F1 H1 (.refl e1.fh)⟩
 | _=>exact a1.elim
def cutD (xs:List D) (lo hi:Option Int):List D:=(xs.drop (HT.sIx xs.length 0 lo)).take (HT.sIx xs.length xs.length hi - HT.sIx xs.length 0 lo)
def mSl (me:En→R D) (ml mh:En→R (Option Int)) (δ:En):R D:=(me δ).bind fun d=>(ml δ).bind fun lo=>(mh δ).bind fun hi=>(R.of (asL d)).bind fun l=>.ok (.lst (cutD l lo hi))
theorem zcU {tl th:TO} {ml mh:En→R (Option Int)} (h:SEr K XO E te me) (hl:SO K XO E tl ml) (hh:SO K XO E th mh):SEo K XO E (tSl (rSlL K.f) te tl th) (mSl me ml mh):=by
 intro Λ F0 H0 F H σ δ Q I a
 refine h Λ F0 H0 F H σ δ _ I (a.bind.imp fun d F1 H1 e1 a1 v r=>?_)
 refine hl Λ F0 H0 F1 H1 σ δ _ (I.grow e1) (a1.bind.imp fun lo F2 H2 e2 a2=>?_)
 refine hh Λ F0 H0 F2 H2 σ δ _ ((I.grow e1).grow e2) (a2.bind.imp fun hi F3 H3 e3 a3=>?_)
 cases d with
 | lst l=>
  obtain⟨p,vs,rfl,h1,h2⟩:=r
  refine⟨p,vs,rfl,.inl (PM.Same.rd e3.hh (PM.Same.rd e2.hh h1)),fun q hq=>a3 F3 _ (.newO e3.fh hq) q (e3.fh.free hq) (e1.hh.free (e2.hh.free (e3.hh.free hq))) ⟨_,zaX,?_⟩⟩
  unfold cutD cutV
  rw[← h2.length]
  exact (((h2.mono e2.ff).mono e3.ff).drop _).take _
 | scr l=>
  simp only[Top,Rep] at r
  obtain⟨p,rfl,h1⟩:=r
  refine⟨p,_,rfl,e3.hh.seq (e2.hh.seq (e1.fh.seq h1)),fun q hq=>a3 F3 _ (.newO e3.fh hq) q (e3.fh.free hq) (e1.hh.free (e2.hh.free (e3.hh.free hq))) ⟨_,zaX,?_⟩⟩
  unfold cutD cutV
  rw[List.length_map,List.length_map]
  exact (RepL.ints.drop _).take _
 | _=>exact a3.elim
end
end PM
namespace PM
open PySem L2
def oCat (x y:D):Option D:=match x,y with|.lst l,.lst r=>ifC (l.length+r.length≤sizeLine) (some (.lst (l++r))) none|_,_=>none
def zcM:Nat→D→Bool
 | _,.non=>true
 | _,.int _=>true
 | n+1,.tup l=>l.all (zcM n)
 | n+1,.lst l=>l.all (zcM n)
 | _,_=>false
open Classical in
def oEqD (x y:D):Option D:=ifC (zcM 8 x=true∧zcM 8 y=true) (some (.bl (decide (x=y)))) none
def isiB:String→D→Bool
 | "int",.int _=>true
 | "int",.bl _=>true
 | "bool",.bl _=>true
 | "list",.lst _=>true
 | "tuple",.tup _=>true
 | "str",.str _=>true
 | _,_=>false
def okI:D→Bool
 | .scr _=>false
 | .exc _=>false
 | .fd _ _=>false
 | .obj _ _ _=>false
 | _=>true
def oIsi (c:String) (d:D):Option D:=match d with|.scr _=>none|.exc _=>none|.fd _ _=>none|.obj _ _ _=>none|d=>some (.bl (isiB c d))
def asIs:List D→Option (List Int)
 | []=>some []
 | .int i::l=>(asIs l).map (i::·)
 | _=>none
theorem zmj (ns:List Int):asIs (ns.map .int)=some ns:=by
 induction ns with
 | nil=>rfl
 | cons a l ih=>simp[asIs,ih]
theorem zkO {l:List D} {ns:List Int} (h:asIs l=some ns):l=ns.map .int:=by
 induction l generalizing ns with
 | nil=>cases h;rfl
 | cons d l ih=>
  cases d with
  | int i=>
   simp only[asIs] at h
   cases q:asIs l with
   | none=>rw[q] at h;cases h
   | some m=>rw[q] at h;cases h;rw[ih q];rfl
  | _=>cases h
theorem zoy {c:En→R Bool} {m:En→O} {δ:En} {n:Nat} {o:O} (h:zfO c m n δ=o) (ho:o≠.no):ziq c m δ=o:=by
 have mono:∀k n δ,zfO c m n δ≠.no→zfO c m (n+k) δ=zfO c m n δ:=by
  intro k n
  induction n with
  | zero=>intro δ h;exact absurd rfl h
  | succ n ih=>
   intro δ h
   have e:n+1+k=(n+k)+1:=by omega
   rw[e]
   unfold zfO at h ⊢
   cases q:c δ with
   | no=>rfl
   | ex x=>rfl
   | ok b=>
    rw[q] at h
    cases b with
    | false=>rfl
    | true=>
     simp only[R.toO_ok,if_true] at h ⊢
     cases q2:m δ <;> simp only[q2] at h ⊢ <;> exact ih _ h
 have hex:∃n,zfO c m n δ≠.no:=⟨n,by rw[h];exact ho⟩
 unfold ziq
 rw[dif_pos hex]
 have h1:=mono n (Classical.choose hex) δ (Classical.choose_spec hex)
 have h2:=mono (Classical.choose hex) n δ (by rw[h];exact ho)
 rw[← h1,Nat.add_comm,h2,h]
theorem zk4 {c:En→R Bool} {m:En→O} {α:Type} (env:α→En) (go:α→Bool) (nxt:α→α) (P:α→Prop) (μ:α→Nat) (hc:∀a,P a→c (env a)=.ok (go a)) (hs:∀a,P a→go a=true→m (env a)=.nx (env (nxt a))∧P (nxt a)∧μ (nxt a)<μ a)
  (a:α) (h:P a):∃b,P b∧go b=false∧ziq c m (env a)=.nx (env b)∧∃k,b=Nat.repeat nxt k a:=by
 have key:∀n a,P a→μ a<n→∃b,P b∧go b=false∧zfO c m n (env a)=.nx (env b)∧∃k,b=Nat.repeat nxt k a:=by
  intro n
  induction n with
  | zero=>intro a _ h;omega
  | succ n ih=>
   intro a hp hm
   cases g:go a with
   | false=>exact⟨a,hp,g,by unfold zfO;rw[hc a hp,g];rfl,0,rfl⟩
   | true=>
    obtain⟨h1,h2,h3⟩:=hs a hp g
    obtain⟨b,b1,b2,b3,k,b4⟩:=ih (nxt a) h2 (by omega)
    refine⟨b,b1,b2,?_,k+1,?_⟩
    ·unfold zfO
     rw[hc a hp,g]
     simp only[R.toO_ok,if_true,h1]
     exact b3
    ·rw[b4]
     clear b4 b3 b2 b1 b h3 h2 h1 hm hp ih
     induction k with
     | zero=>rfl
     | succ k ih=>show nxt (Nat.repeat nxt k (nxt a))=nxt (Nat.repeat nxt (k+1) a);rw[ih]
 obtain⟨b,b1,b2,b3,k⟩:=key (μ a+1) a h (Nat.lt_succ_self _)
 exact⟨b,b1,b2,zoy b3 (by intro z;cases z),k⟩
theorem zgZ {β:Type} {f:D→R (Option D)} (enc:β→D) (g:β→Option D):∀(l:List β),(∀x∈l,f (enc x)=.ok (g x))→zc5 f (l.map enc)=.ok (l.filterMap g)
 | [],_=>rfl
 | x::l,h=>by
  rw[List.map_cons]
  unfold zc5
  rw[h x List.mem_cons_self,R.bind_ok,zgZ enc g l fun y hy=>h y (List.mem_cons_of_mem _ hy)]
  cases q:g x with
  | none=>rw[List.filterMap_cons_none q];rfl
  | some d=>rw[List.filterMap_cons_some q];rfl
theorem small {n:Nat} (h:n≤100000):n≤sizeLine:=Nat.le_trans h (by decide)
theorem zqk {n:Nat} (h:n≤100000):n<sizeLine:=Nat.lt_of_le_of_lt h (by decide)
end PM
namespace PM
open PySem L2
theorem fitN {i:Int} (n:Nat) (h:i.natAbs≤n) (h2:n<2 ^ 8000:=by decide +kernel):Fit i:=Nat.lt_of_le_of_lt h h2
@[simp] theorem zso (i j:Int):oAdd (.int i) (.int j)=some (.int (i+j)):=rfl
@[simp] theorem zsq (i j:Int):oSub (.int i) (.int j)=some (.int (i - j)):=rfl
theorem zdX {i j:Int} (h:Fit i) (h':Fit j):oMul (.int i) (.int j)=some (.int (i*j)):=zbf (p:=Fit i∧Fit j) ⟨h,h'⟩
theorem zri {i j:Int} (h:j≠0) (h':Fit j):oDiv (.int i) (.int j)=some (.int (i.fdiv j)):=zbf (p:=j≠0∧Fit j) ⟨h,h'⟩
theorem zdk {i j:Int} (h:0<j) (h':Fit j):oDiv (.int i) (.int j)=some (.int (i/j)):=by
 rw[zri (by omega) h',Int.fdiv_eq_ediv_of_nonneg _ (by omega)]
theorem zbV {i j:Int} (h:0<j):oMod (.int i) (.int j)=some (.int (i%j)):=zbf (p:=0<j) h
theorem zkY {i j:Int} (h:CPow i j):oPow (.int i) (.int j)=some (.int (i ^ j.toNat)):=zbf (p:=CPow i j) h
@[simp] theorem zsu (i j:Int):oLt (.int i) (.int j)=some (.bl (decide (i<j))):=rfl
@[simp] theorem zsv (i j:Int):oGt (.int i) (.int j)=some (.bl (decide (j<i))):=rfl
@[simp] theorem zq1 (i j:Int):oEq (.int i) (.int j)=some (.bl (decide (i=j))):=by simp[oEq,fl,scal]
@[simp] theorem zss (i j:Int):oNe (.int i) (.int j)=some (.bl (!decide (i=j))):=by simp[oNe,fl,scal]
@[simp] theorem zsi (b:Bool):asB (.bl b)=some b:=rfl
@[simp] theorem zst (l:List D):asL (.lst l)=some l:=rfl
@[simp] theorem zoU (i:Int):asI (.int i)=some i:=rfl
@[simp] theorem zrf (l:List D):fLen [.lst l]=some (.int l.length):=rfl
@[simp] theorem zsn (l:List D):fLen [.tup l]=some (.int l.length):=rfl
@[simp] theorem zsm (a b:D):oIxT (.tup [a,b]) (.int 0)=some a:=rfl
@[simp] theorem zsj (a b:D):oIxT (.tup [a,b]) (.int 1)=some b:=rfl
theorem atI_nat {α:Type} {l:List α} {k:Nat} {d:α} (h:l[k]?=some d):atI l (k:Int)=some d:=by
 have hk:=(List.getElem?_eq_some_iff.mp h).1
 unfold atI ixN
 rw[if_pos (by omega),if_pos (by omega)]
 exact h
theorem zrV {l:List D} {k:Nat} {d:D} (h:l[k]?=some d):oIxL (.lst l) (.int (k:Int))=some d:=atI_nat h
theorem zgF {l:List D} {i:Int} {d:D} (h0:0≤i) (h:l[i.toNat]?=some d):oIxL (.lst l) (.int i)=some d:=by
 have e:i=((i.toNat:Nat):Int):=by omega
 rw[e]
 exact zrV h
theorem rng1 {n:Int} (h0:0≤n) (h:n≤100000):rng [.int n]=some (zgp 0 n.toNat):=by
 show ifC _ _ _=_
 rw[zbf (by omega)]
theorem rng2 {a b:Int} (h0 : -100000≤a∧a≤100000) (h : -100000≤b∧b≤100000):rng [.int a,.int b]=some (zgp a (b - a).toNat):=by
 show ifC _ _ _=_
 rw[zbf (by omega)]
theorem znh (n:Nat):zgp 0 n=(List.range n).map fun (k:Nat)=>D.int (k:Int):=by
 unfold zgp
 exact List.map_congr_left fun k _=>by simp
theorem zmv (l:List D):zgV l=(l.zipIdx).map fun p=>D.tup [.int (p.2:Int),p.1]:=by
 unfold zgV
 rw[List.mapIdx_eq_zipIdx_map]
@[simp] theorem zsr (a b:α):([a,b].length≤sizeLine)=True:=by simp[sizeLine]
end PM
namespace PM
open PySem L2
def sv:Option D→Sl
 | none=>.no
 | some d=>.v d
theorem za5 {i:Nat} {d:D} {δ:En} {o:Option D} (h:δ[i]?=some (sv o)):zat i d δ=some (δ.set i (.v d)):=by
 unfold zat
 rw[h]
 cases o <;> rfl
@[simp] theorem zr9:sv none=.no:=rfl
@[simp] theorem zr3 (d:D):sv (some d)=.v d:=rfl
def dk (L:List Int):D:=.dct (L.map .inl) (L.map fun _=>.bl true)
theorem zr0 (L:List Int) (t:Int):getK (L.map .inl) (L.map fun _=>.bl true) (.inl t)=if t∈L then some (.bl true) else none:=by
 induction L with
 | nil=>rfl
 | cons a l ih=>
  simp only[List.map_cons,getK,ih]
  by_cases h:a=t
  ·subst h;simp
  ·have h':¬ (Sum.inl a:Key)=Sum.inl t:=fun e=>h (Sum.inl.inj e)
   rw[if_neg h']
   have e:(t∈a::l)=(t∈l):=by
    rw[List.mem_cons]
    exact propext ⟨fun z=>z.resolve_left (fun e=>h e.symm),.inr⟩
   simp only[e]
theorem zrq (L:List Int) (t:Int):(L.map (.inl:Int→Key)).any (fun a=>decide (a=.inl t))=decide (t∈L):=by
 rw[Bool.eq_iff_iff]
 simp only[List.any_eq_true,List.mem_map,decide_eq_true_eq]
 constructor
 ·rintro⟨x,⟨a,h1,rfl⟩,h2⟩
  cases h2;exact h1
 ·intro h
  exact⟨_,⟨t,h,rfl⟩,rfl⟩
theorem zqc (L:List Int) (t:Int):putL (L.map .inl) (L.map fun _=>.bl true) (.inl t) (.bl true)=L.map fun _=>.bl true:=by
 induction L with
 | nil=>rfl
 | cons a l ih=>simp only[List.map_cons,putL,ih,ite_self]
theorem zrL (L:List Int) (t:Int):putD (L.map .inl) (L.map fun _=>.bl true) (.inl t) (.bl true)=dk (if t∈L then L else L++[t]):=by
 unfold putD
 rw[zrq]
 by_cases h:t∈L
 ·rw[if_pos (by simpa using h),if_pos h,zqc];rfl
 ·rw[if_neg (by simpa using h),if_neg h]
  simp[dk]
@[simp] theorem zrD (L:List Int) (t:Int):zk0 (.int t) (dk L)=some (.bl (!decide (t∈L))):=by
 simp only[zk0,asK,dk,zr0]
 by_cases h:t∈L <;> simp[h]
theorem zo3 {i:Nat} {mk me:En→R D} {δ:En} {L:List Int} {t:Int} (h:δ[i]?=some (.o (dk L))) (h1:mk δ=.ok (.int t)) (h2:me δ=.ok (.bl true)) (hl:L.length≤100000) :
  zll i mk me δ=.nx (δ.set i (.o (dk (if t∈L then L else L++[t])))):=by
 unfold zll
 rw[h]
 simp only[dk,h2,h1,R.toO_ok,asK]
 rw[zbf (by rw[List.length_map];exact zqk hl),zrL]
 rfl
def iL (l:List Int):D:=.lst (l.map .int)
theorem zjN {α:Type} {f:D→R (Option D)} (enc:α→D) (p:α→Bool) (l:List α) (h:∀x∈l,f (enc x)=.ok (if p x=true then some (enc x) else none)):zc5 f (l.map enc)=.ok ((l.filter p).map enc):=by
 rw[zgZ enc (fun x=>if p x=true then some (enc x) else none) l h]
 congr 1
 induction l with
 | nil=>rfl
 | cons a l ih=>
  have ih':=ih fun x hx=>h x (List.mem_cons_of_mem _ hx)
  by_cases hp:p a=true
  ·rw[List.filterMap_cons_some (b:=enc a) (by simp[hp]),ih',List.filter_cons_of_pos hp,List.map_cons]
  ·rw[List.filterMap_cons_none (by simp[hp]),ih',List.filter_cons_of_neg hp]
theorem zbi {α:Type} {f:D→R (Option D)} (enc:α→D) (g:α→D) (l:List α) (h:∀x∈l,f (enc x)=.ok (some (g x))):zc5 f (l.map enc)=.ok (l.map g):=by
 rw[zgZ enc (fun x=>some (g x)) l h,List.filterMap_eq_map']
end PM
namespace PM
open PySem L2
theorem zaZ {mi:En→R (List D)} {ix:List Nat} {n:Nat} {b:D→En→Option En} {nc:Option (En→R Bool)} {me:En→R D} {δ:En} {l r:List D} (h1:mi δ=.ok l) (hl:l.length≤100000)
  (h2:zc5 (zcn b nc me (zbl δ ix n)) l=.ok r):zcS mi ix n b nc me δ=.ok (.lst r):=by
 unfold zcS
 rw[h1,R.bind_ok,zbf (small hl),h2]
 rfl
theorem zbP {mi:En→R (List D)} {b:D→En→Option En} {m:En→O} {δ:En} {l:List D} (h:mi δ=.ok l):mFor mi b m δ=zgX b m l δ:=by
 unfold mFor
 rw[h]
 rfl
theorem zbp {np nv:Nat} {m:En→O} {ds:List D} {d:D} (h:m (zbz nv ds)=.rt d) (hl:ds.length=np:=by rfl):runF np nv m ds=.ok d:=by
 unfold runF
 rw[if_pos hl,h]
theorem zls {np nv:Nat} {m:En→O} {ds:List D} {δ:En} (h:m (zbz nv ds)=.nx δ) (hl:ds.length=np:=by rfl):runF np nv m ds=.ok .non:=by
 unfold runF
 rw[if_pos hl,h]
theorem zdp {np nv:Nat} {m:En→O} {ds:List D} {d:D} (h:m (zbz nv ds)=.ro d) (hl:ds.length=np:=by rfl):runO np nv m ds=.ok d:=by
 unfold runO
 rw[if_pos hl,h]
theorem zau {m n:En→O} {δ δ':En} (h:m δ=.nx δ'):mSeq m n δ=n δ':=by unfold mSeq;rw[h]
theorem zaT {me:En→R D} {b:D→En→Option En} {δ δ':En} {d:D} (h:me δ=.ok d) (h2:b d δ=some δ'):mAsg me b δ=.nx δ':=by unfold mAsg;rw[h,R.toO_ok,h2];rfl
theorem zd0 {n:En→R Bool} {m m':En→O} {δ:En} (h:n δ=.ok true):mIfS n m m' δ=m δ:=by unfold mIfS;rw[h];rfl
theorem zcL {n:En→R Bool} {m m':En→O} {δ:En} (h:n δ=.ok false):mIfS n m m' δ=m' δ:=by unfold mIfS;rw[h];rfl
theorem zbh {β:Type} {b:D→En→Option En} {m:En→O} (enc:β→D) (P:List β→En→Prop) (all:List β)
  (step:∀pre x post δ,all=pre++x::post→P pre δ→∃δ1 δ2,b (enc x) δ=some δ1∧(m δ1=.nx δ2∨m δ1=.ct δ2)∧P (pre++[x]) δ2) (δ:En) (h:P [] δ):∃δ2,zgX b m (all.map enc) δ=.nx δ2∧P all δ2:=by
 have key:∀(post pre:List β) (δ:En),all=pre++post→P pre δ→∃δ2,zgX b m (post.map enc) δ=.nx δ2∧P all δ2:=by
  intro post
  induction post with
  | nil=>intro pre δ e h;exact⟨δ,rfl,by rw[e,List.append_nil];exact h⟩
  | cons x post ih=>
   intro pre δ e h
   obtain⟨δ1,δ2,h1,h2,h3⟩:=step pre x post δ e h
   obtain⟨δ3,h4,h5⟩:=ih (pre++[x]) δ2 (by rw[e];simp) h3
   refine⟨δ3,?_,h5⟩
   rw[List.map_cons]
   unfold zgX
   rw[h1]
   rcases h2 with h2|h2 <;> (simp only[h2];exact h4)
 exact key all [] δ rfl h
end PM
namespace PM
open PySem L2
@[simp] theorem zr5 (l:List Int):fLen [iL l]=some (.int l.length):=by simp[iL]
@[simp] theorem zsp (l:List Int):asL (iL l)=some (l.map .int):=rfl
theorem zbR {α:Type} {l:List α} {pre post:List (α×Nat)} {x:α×Nat} (h:l.zipIdx=pre++x::post):x.2=pre.length∧l[x.2]?=some x.1∧∀q∈pre,q.2<x.2:=by
 have at':∀(k:Nat) (y:α×Nat),(pre++x::post)[k]?=some y→l[k]?=some y.1∧y.2=k:=by
  intro k y hk
  rw[← h,List.getElem?_zipIdx] at hk
  cases e:l[k]? with
  | none=>rw[e] at hk;cases hk
  | some a=>rw[e] at hk;cases hk;exact⟨rfl,by simp⟩
 obtain⟨h1,h2⟩:=at' pre.length x (by simp)
 refine⟨h2,by rw[h2];exact h1,fun q hq=>?_⟩
 obtain⟨k,hk,e⟩:=List.getElem_of_mem hq
 obtain⟨_,h3⟩:=at' k q (by rw[List.getElem?_append_left hk,List.getElem?_eq_getElem hk,e])
 omega
end PM
namespace PM
open PySem L2
theorem zoN {l:List D} {k:Nat} (h:k≤l.length):cutD l none (some (k:Int))=l.take k:=by
 unfold cutD
 have e:HT.sIx l.length l.length (some (k:Int))=k:=by
  show (if (k:Int)<0 then ((k:Int)+(l.length:Int)).toNat else min (k:Int).toNat l.length)=k
  rw[if_neg (by omega)];omega
 rw[e]
 show (l.drop 0).take (k - 0)=_
 simp
theorem zmz {l:List D} {k:Nat} (h:k≤l.length):cutD l (some (k:Int)) none=l.drop k:=by
 unfold cutD
 have e:HT.sIx l.length 0 (some (k:Int))=k:=by
  show (if (k:Int)<0 then ((k:Int)+(l.length:Int)).toNat else min (k:Int).toNat l.length)=k
  rw[if_neg (by omega)];omega
 rw[e]
 show (l.drop k).take (l.length - k)=_
 rw[List.take_of_length_le (by simp)]
theorem zmC (l:List Int) (lo hi:Option Int):∃cs:List Int,cutD (l.map .int) lo hi=cs.map .int∧cs.length≤l.length:=by
 refine⟨(l.drop (HT.sIx l.length 0 lo)).take (HT.sIx l.length l.length hi - HT.sIx l.length 0 lo),?_,by rw[List.length_take,List.length_drop];omega⟩
 unfold cutD
 rw[List.length_map,List.map_take,List.map_drop]
theorem zqJ {x y:D} (hx:zcM 8 x=true) (hy:zcM 8 y=true) (h:x=y):oEqD x y=some (.bl true):=by
 unfold oEqD
 rw[zbf ⟨hx,hy⟩]
 simp[h]
theorem zl6 (l:List Int):zcM 8 (iL l)=true:=by
 show (l.map D.int).all (zcM 7)=true
 rw[List.all_map,List.all_eq_true]
 intro x _;rfl
end PM
namespace PM
open PySem L2 PyProof.Rows
section
variable {K:Kx} {ca:Nat→Addr} {an:Nat→Str} {XO:XOT} {E:L2.St→XK} {ta tb te:TE} {ma mb me:En→R D} {X:Cx}
def zq6:R2:=fun x y H Q=>∃l b xs zs,x=.ref l∧y=.ref b∧Rd H l (.lst xs)∧Rd H b (.lst zs)∧xs.length+zs.length≤sizeLine∧∀p,H p=none→Q (.ref p) (upd H p (.lst (xs++zs)))
theorem zeZ:OpR X (binaryOp .Add) zq6:=by
 intro pins s σ H x y v u Q I rx ry h
 obtain⟨l,b,xs,zs,rfl,rfl,hH,hB,hz,q⟩:=h
 cases rx
 cases ry
 obtain⟨z,its,n,r,e⟩:=hH.ok I.hok
 obtain⟨z2,its2,n2,r2,e2⟩:=hB.ok I.hok
 have hl:=r.length
 have hl2:=r2.length
 refine PySem.P.add_list e e2 ?_ (by rw[List.size_toArray,List.size_toArray];omega)
 have ea:its.toArray++its2.toArray=(its++its2).toArray:=by simp
 rw[ea]
 exact⟨.ref _,_,I.lnew (t':=s.toks) (r.append r2) (by rw[List.length_append];omega),rfl,q _ I.fresh⟩
theorem zgE:SRo K zq6 oCat:=by
 intro F H x y dx dy d Q s hx hy e q
 cases dx with
 | lst l=>
  cases dy with
  | lst r=>
   simp only[oCat] at e
   unfold ifC at e
   split at e
   ·rename_i hc
    cases e
    obtain⟨a,vs,rfl,h1,h2⟩:=hx
    obtain⟨b,ws,rfl,g1,g2⟩:=hy
    exact⟨a,b,vs,ws,rfl,rfl,h1,g1,by rw[h2.length,g2.length];exact hc,fun p hp=>q p F _ (.newO s hp) (s.free hp) hp ⟨_,zaX,h2.append g2⟩⟩
   ·cases e
  | _=>cases e
 | _=>cases e
theorem zil {F:Hp}:∀ {ns:List Int} {xs:List V},RepL K F (ns.map .int) xs→xs=ns.map V.int
 | [],xs,h=>by simpa only[List.map_nil,RepL] using h
 | n::ns,xs,h=>by
  simp only[List.map_cons,RepL,Rep] at h
  obtain⟨v,r,rfl,rfl,h3⟩:=h
  rw[zil h3];rfl
theorem zqL {K:W.Frag} {S T:String} (h2:PySem.W.kitMeta T=true) (h3:(PySem.fastBuiltinMro S).map (·.contains (.type T))=some true):PySem.W.kitOne K (.type S) (.type T)=some true:=by
 unfold PySem.W.kitOne
 split
 ·rfl
 ·show (if PySem.W.kitMeta T=true then PySem.W.subIn K (.type S) (.type T) else none)=some true
  rw[if_pos h2]
  exact h3
def zhR:D→String
 | .non=>"NoneType"
 | .bl _=>"bool"
 | .int _=>"int"
 | .str _=>"str"
 | .tup _=>"tuple"
 | .lst _=>"list"
 | .dct _ _=>"dict"
 | .scr _=>"list"
 | .exc _=>"object"
 | .fd _ _=>"object"
 | .obj _ _ _=>"object"
theorem zhG {K:W.Frag}:PySem.W.kitOne K (.type "NoneType") (.type "int")=some false:=L2.kit_no (by decide +kernel) (by decide +kernel) (by decide +kernel)
theorem kit_int_bool {K:W.Frag}:PySem.W.kitOne K (.type "bool") (.type "int")=some true:=zqL (by decide +kernel) (by decide +kernel)
theorem zlV {K:W.Frag}:PySem.W.kitOne K (.type "int") (.type "int")=some true:=L2.kit_self
theorem zlp {K:W.Frag}:PySem.W.kitOne K (.type "str") (.type "int")=some false:=L2.kit_no (by decide +kernel) (by decide +kernel) (by decide +kernel)
theorem zjG {K:W.Frag}:PySem.W.kitOne K (.type "tuple") (.type "int")=some false:=L2.kit_no (by decide +kernel) (by decide +kernel) (by decide +kernel)
theorem zkp {K:W.Frag}:PySem.W.kitOne K (.type "list") (.type "int")=some false:=L2.kit_no (by decide +kernel) (by decide +kernel) (by decide +kernel)
theorem zkc {K:W.Frag}:PySem.W.kitOne K (.type "dict") (.type "int")=some false:=L2.kit_no (by decide +kernel) (by decide +kernel) (by decide +kernel)
theorem zg3 {K:W.Frag}:PySem.W.kitOne K (.type "NoneType") (.type "bool")=some false:=L2.kit_no (by decide +kernel) (by decide +kernel) (by decide +kernel)
theorem zjn {K:W.Frag}:PySem.W.kitOne K (.type "bool") (.type "bool")=some true:=L2.kit_self
theorem zkG {K:W.Frag}:PySem.W.kitOne K (.type "int") (.type "bool")=some false:=L2.kit_no (by decide +kernel) (by decide +kernel) (by decide +kernel)
theorem zkn {K:W.Frag}:PySem.W.kitOne K (.type "str") (.type "bool")=some false:=L2.kit_no (by decide +kernel) (by decide +kernel) (by decide +kernel)
theorem ziS {K:W.Frag}:PySem.W.kitOne K (.type "tuple") (.type "bool")=some false:=L2.kit_no (by decide +kernel) (by decide +kernel) (by decide +kernel)
theorem zjD {K:W.Frag}:PySem.W.kitOne K (.type "list") (.type "bool")=some false:=L2.kit_no (by decide +kernel) (by decide +kernel) (by decide +kernel)
theorem zjH {K:W.Frag}:PySem.W.kitOne K (.type "dict") (.type "bool")=some false:=L2.kit_no (by decide +kernel) (by decide +kernel) (by decide +kernel)
theorem zha {K:W.Frag}:PySem.W.kitOne K (.type "NoneType") (.type "list")=some false:=L2.kit_no (by decide +kernel) (by decide +kernel) (by decide +kernel)
theorem zju {K:W.Frag}:PySem.W.kitOne K (.type "bool") (.type "list")=some false:=L2.kit_no (by decide +kernel) (by decide +kernel) (by decide +kernel)
theorem zkF {K:W.Frag}:PySem.W.kitOne K (.type "int") (.type "list")=some false:=L2.kit_no (by decide +kernel) (by decide +kernel) (by decide +kernel)
theorem zlb {K:W.Frag}:PySem.W.kitOne K (.type "str") (.type "list")=some false:=L2.kit_no (by decide +kernel) (by decide +kernel) (by decide +kernel)
theorem ziV {K:W.Frag}:PySem.W.kitOne K (.type "tuple") (.type "list")=some false:=L2.kit_no (by decide +kernel) (by decide +kernel) (by decide +kernel)
theorem zji {K:W.Frag}:PySem.W.kitOne K (.type "list") (.type "list")=some true:=L2.kit_self
theorem zjp {K:W.Frag}:PySem.W.kitOne K (.type "dict") (.type "list")=some false:=L2.kit_no (by decide +kernel) (by decide +kernel) (by decide +kernel)
theorem zgn {K:W.Frag}:PySem.W.kitOne K (.type "NoneType") (.type "tuple")=some false:=L2.kit_no (by decide +kernel) (by decide +kernel) (by decide +kernel)
theorem ziR {K:W.Frag}:PySem.W.kitOne K (.type "bool") (.type "tuple")=some false:=L2.kit_no (by decide +kernel) (by decide +kernel) (by decide +kernel)
theorem zjo {K:W.Frag}:PySem.W.kitOne K (.type "int") (.type "tuple")=some false:=L2.kit_no (by decide +kernel) (by decide +kernel) (by decide +kernel)
theorem zj0 {K:W.Frag}:PySem.W.kitOne K (.type "str") (.type "tuple")=some false:=L2.kit_no (by decide +kernel) (by decide +kernel) (by decide +kernel)
theorem zik {K:W.Frag}:PySem.W.kitOne K (.type "tuple") (.type "tuple")=some true:=L2.kit_self
theorem ziX {K:W.Frag}:PySem.W.kitOne K (.type "list") (.type "tuple")=some false:=L2.kit_no (by decide +kernel) (by decide +kernel) (by decide +kernel)
theorem ziI {K:W.Frag}:PySem.W.kitOne K (.type "dict") (.type "tuple")=some false:=L2.kit_no (by decide +kernel) (by decide +kernel) (by decide +kernel)
theorem zhH {K:W.Frag}:PySem.W.kitOne K (.type "NoneType") (.type "str")=some false:=L2.kit_no (by decide +kernel) (by decide +kernel) (by decide +kernel)
theorem zkh {K:W.Frag}:PySem.W.kitOne K (.type "bool") (.type "str")=some false:=L2.kit_no (by decide +kernel) (by decide +kernel) (by decide +kernel)
theorem zlE {K:W.Frag}:PySem.W.kitOne K (.type "int") (.type "str")=some false:=L2.kit_no (by decide +kernel) (by decide +kernel) (by decide +kernel)
theorem zlo {K:W.Frag}:PySem.W.kitOne K (.type "str") (.type "str")=some true:=L2.kit_self
theorem zjt {K:W.Frag}:PySem.W.kitOne K (.type "tuple") (.type "str")=some false:=L2.kit_no (by decide +kernel) (by decide +kernel) (by decide +kernel)
theorem zkj {K:W.Frag}:PySem.W.kitOne K (.type "list") (.type "str")=some false:=L2.kit_no (by decide +kernel) (by decide +kernel) (by decide +kernel)
theorem zj8 {K:W.Frag}:PySem.W.kitOne K (.type "dict") (.type "str")=some false:=L2.kit_no (by decide +kernel) (by decide +kernel) (by decide +kernel)
theorem zmw {K:W.Frag} (d:D) (h:okI d=true):PySem.W.kitOne K (.type (zhR d)) (.type "int")=some (isiB "int" d):=by
 cases d with
 | non=>exact zhG
 | bl b=>exact kit_int_bool
 | int b=>exact zlV
 | str b=>exact zlp
 | tup b=>exact zjG
 | lst b=>exact zkp
 | dct b b'=>exact zkc
 | scr b=>cases h
 | exc b=>cases h
 | fd b b'=>cases h
 | obj b b' b''=>cases h
theorem znQ {K:W.Frag} (d:D) (h:okI d=true):PySem.W.kitOne K (.type (zhR d)) (.type "bool")=some (isiB "bool" d):=by
 cases d with
 | non=>exact zg3
 | bl b=>exact zjn
 | int b=>exact zkG
 | str b=>exact zkn
 | tup b=>exact ziS
 | lst b=>exact zjD
 | dct b b'=>exact zjH
 | scr b=>cases h
 | exc b=>cases h
 | fd b b'=>cases h
 | obj b b' b''=>cases h
theorem zhU {K:W.Frag} (d:D) (h:okI d=true):PySem.W.kitOne K (.type (zhR d)) (.type "list")=some (isiB "list" d):=by
 cases d with
 | non=>exact zha
 | bl b=>exact zju
 | int b=>exact zkF
 | str b=>exact zlb
 | tup b=>exact ziV
 | lst b=>exact zji
 | dct b b'=>exact zjp
 | scr b=>cases h
 | exc b=>cases h
 | fd b b'=>cases h
 | obj b b' b''=>cases h
theorem zi1 {K:W.Frag} (d:D) (h:okI d=true):PySem.W.kitOne K (.type (zhR d)) (.type "tuple")=some (isiB "tuple" d):=by
 cases d with
 | non=>exact zgn
 | bl b=>exact ziR
 | int b=>exact zjo
 | str b=>exact zj0
 | tup b=>exact zik
 | lst b=>exact ziX
 | dct b b'=>exact ziI
 | scr b=>cases h
 | exc b=>cases h
 | fd b b'=>cases h
 | obj b b' b''=>cases h
theorem zmh {K:W.Frag} (d:D) (h:okI d=true):PySem.W.kitOne K (.type (zhR d)) (.type "str")=some (isiB "str" d):=by
 cases d with
 | non=>exact zhH
 | bl b=>exact zkh
 | int b=>exact zlE
 | str b=>exact zlo
 | tup b=>exact zjt
 | lst b=>exact zkj
 | dct b b'=>exact zj8
 | scr b=>cases h
 | exc b=>cases h
 | fd b b'=>cases h
 | obj b b' b''=>cases h
theorem zhq {c:String} (hk:∀d,okI d=true→PySem.W.kitOne K.f (.type (zhR d)) (.type c)=some (isiB c d)) (ha:SEr K XO E ta ma):SE K XO E (tCB (rIs K.f) (zd3 ta (zd3 (tC (.ty c)) tNil))) (m1 (oIsi c) ma):=by
 intro Λ F0 H0 F H σ δ Q I a
 refine ha Λ F0 H0 F H σ δ _ I (a.bind.imp fun d F1 H1 e1 a1 x rx=>?_)
 by_cases hs':okI d=true
 case neg=>
  cases d with
  | scr _=>exact a1.elim
  | exc _=>exact a1.elim
  | fd _ _=>exact a1.elim
  | obj _ _ _=>exact a1.elim
  | _=>exact absurd rfl hs'
 have a2:Aft E XO σ F1 H1 (fun d F' H'=>∀v,Rep K F' d v→Q v H') (.ok (.bl (isiB c d))):=by
  cases d with
  | scr l=>cases hs'
  | exc l=>cases hs'
  | fd _ _=>cases hs'
  | obj _ _ _=>cases hs'
  | _=>exact a1
 have fin:=a2 F1 H1 (.refl e1.fh) (.bl (isiB c d)) (by simp only[Rep])
 suffices h:TyOf K.f H1 x (.type (zhR d)) from ⟨x,.ty c,.type c,_,_,rfl,rfl,h,hk d hs',fin⟩
 cases d with
 | non=>simp only[Top,Rep] at rx;subst rx;exact .non
 | bl b=>simp only[Top,Rep] at rx;subst rx;exact .bl _
 | int b=>simp only[Top,Rep] at rx;subst rx;exact .int _
 | str b=>simp only[Top,Rep] at rx;subst rx;exact .str _
 | tup l=>
  simp only[Top,Rep] at rx
  obtain⟨p,vs,rfl,h1,h2⟩:=rx
  exact .tup (e1.fh _ _ h1)
 | lst l=>
  obtain⟨p,vs,rfl,h1,h2⟩:=rx
  rcases h1 with h|⟨o,h⟩
  ·exact .lst h
  ·exact .frz h
 | dct ks l=>obtain⟨p,kvs,rfl,h1,h2⟩:=rx;exact .dK h1
 | scr l=>cases hs'
 | exc l=>cases hs'
 | fd _ _=>cases hs'
 | obj _ _ _=>cases hs'
def toPy:Nat→D→PyData
 | _,.non=>.none
 | _,.int i=>.int i
 | n+1,.tup l=>.tuple (l.map (toPy n))
 | n+1,.lst l=>.list (l.map (toPy n))
 | _,_=>.none
theorem zmo:∀(n:Nat) (d:D),zcM n d=true→(toPy n d).canLay0=true∧(toPy n d).depth≤n:=by
 intro n
 induction n with
 | zero=>
  intro d h
  cases d with
  | non=>exact⟨rfl,Nat.le_refl _⟩
  | int i=>exact⟨rfl,Nat.le_refl _⟩
  | _=>cases h
 | succ n ih=>
  have all:∀l:List D,l.all (zcM n)=true→PyData.canLayAll0 (l.map (toPy n))=true∧PyData.depthAll (l.map (toPy n))≤n:=by
   intro l
   induction l with
   | nil=>intro _;exact⟨rfl,Nat.zero_le _⟩
   | cons a l ih2=>
    intro h
    rw[List.all_cons,Bool.and_eq_true] at h
    obtain⟨h1,h2⟩:=ih a h.1
    obtain⟨h3,h4⟩:=ih2 h.2
    refine⟨?_,?_⟩
    ·simp only[List.map_cons,PyData.canLayAll0,h1,h3,Bool.and_self]
    ·simp only[List.map_cons,PyData.depthAll];omega
  intro d h
  cases d with
  | non=>exact⟨rfl,Nat.zero_le _⟩
  | int i=>exact⟨rfl,Nat.zero_le _⟩
  | tup l=>obtain⟨h1,h2⟩:=all l h;exact⟨by simpa only[toPy,PyData.canLay0] using h1,by simp only[toPy,PyData.depth];omega⟩
  | lst l=>obtain⟨h1,h2⟩:=all l h;exact⟨by simpa only[toPy,PyData.canLay0] using h1,by simp only[toPy,PyData.depth];omega⟩
  | _=>cases h
open Classical in
theorem zp0:∀(n:Nat) (d d':D),zcM n d=true→zcM n d'=true→PyData.eqv (toPy n d) (toPy n d')=decide (d=d'):=by
 intro n
 induction n with
 | zero=>
  intro d d' h h'
  cases d with
  | non=>cases d' <;> first|(simp[toPy,PyData.eqv];done)|cases h'
  | int i=>
   cases d' with
   | int j=>simp only[toPy,PyData.eqv];by_cases e:i=j <;> simp[e]
   | _=>first|(simp[toPy,PyData.eqv];done)|cases h'
  | _=>cases h
 | succ n ih=>
  have all:∀l l':List D,l.all (zcM n)=true→l'.all (zcM n)=true→PyData.eqvAll (l.map (toPy n)) (l'.map (toPy n))=decide (l=l'):=by
   intro l
   induction l with
   | nil=>intro l' _ _;cases l' <;> simp[PyData.eqvAll]
   | cons a l ih2=>
    intro l' h h'
    cases l' with
    | nil=>simp[PyData.eqvAll]
    | cons b l'=>
     rw[List.all_cons,Bool.and_eq_true] at h h'
     simp only[List.map_cons,PyData.eqvAll,ih a b h.1 h'.1,ih2 l' h.2 h'.2]
     by_cases e1:a=b <;> by_cases e2:l=l' <;> simp[e1,e2]
  intro d d' h h'
  cases d with
  | non=>cases d' <;> first|(simp[toPy,PyData.eqv];done)|cases h'
  | int i=>
   cases d' with
   | int j=>simp only[toPy,PyData.eqv];by_cases e:i=j <;> simp[e]
   | _=>first|(simp[toPy,PyData.eqv];done)|cases h'
  | tup l=>
   cases d' with
   | tup l'=>simp only[toPy,PyData.eqv,all l l' h h'];simp
   | _=>first|(simp[toPy,PyData.eqv];done)|cases h'
  | lst l=>
   cases d' with
   | lst l'=>simp only[toPy,PyData.eqv,all l l' h h'];simp
   | _=>first|(simp[toPy,PyData.eqv];done)|cases h'
  | _=>cases h
theorem zl3 {pins:List (Addr×Obj)} {σ:L2.St} {H F:Hp} {s:Shared} (I:Inv X pins σ H s) (sm:Same F H):∀(n:Nat) (d:D) (v:V) (u:Value),zcM n d=true→Rep ⟨X.K,ca,an⟩ F d v→RelV v u→∃as,Reads s.heap u (toPy n d) as:=by
 intro n
 induction n with
 | zero=>
  intro d v u h r ru
  cases d with
  | non=>simp only[Rep] at r;subst r;cases ru;exact⟨_,.none⟩
  | int i=>simp only[Rep] at r;subst r;obtain⟨t,rfl⟩:=ru;exact⟨_,.int i t⟩
  | _=>cases h
 | succ n ih=>
  have all:∀(l:List D) (vs:List V) (us:List Value),l.all (zcM n)=true→RepL ⟨X.K,ca,an⟩ F l vs→Vals vs us→∃as,ReadsAll s.heap us (l.map (toPy n)) as:=by
   intro l
   induction l with
   | nil=>intro vs us _ r ru;simp only[RepL] at r;subst r;cases ru;exact⟨_,.nil⟩
   | cons a l ih2=>
    intro vs us h r ru
    rw[List.all_cons,Bool.and_eq_true] at h
    simp only[RepL] at r
    obtain⟨v,r',rfl,r1,r2⟩:=r
    cases ru with
    | cons ru ru'=>
     obtain⟨as,h1⟩:=ih a v _ h.1 r1 ru
     obtain⟨bs,h2⟩:=ih2 r' _ h.2 r2 ru'
     exact⟨_,.cons h1 h2⟩
  intro d v u h r ru
  cases d with
  | non=>simp only[Rep] at r;subst r;cases ru;exact⟨_,.none⟩
  | int i=>simp only[Rep] at r;subst r;obtain⟨t,rfl⟩:=ru;exact⟨_,.int i t⟩
  | tup l=>
   simp only[Rep] at r
   obtain⟨a,vs,rfl,h1,h2⟩:=r
   cases ru
   obtain⟨its,rv,⟨o,e,c,k,dd⟩,_⟩:=I.tuple (show SqT X.K H a vs from .inl (.inl (sm _ _ h1)))
   obtain⟨as,h3⟩:=all l vs its h h2 rv
   exact⟨_,.tuple e c dd (by simpa using h3)⟩
  | lst l=>
   simp only[Rep] at r
   obtain⟨a,vs,rfl,h1,h2⟩:=r
   cases ru
   obtain⟨its,rv,⟨o,k,e,c,_,dd⟩,_⟩:=I.list (show SqL X.K H a vs from .inl (PM.Same.rdp sm h1))
   obtain⟨as,h3⟩:=all l vs its h h2 rv
   exact⟨_,.list e c dd (by simpa using h3)⟩
  | _=>cases h
theorem zow {pins:List (Addr×Obj)} {σ:L2.St} {H F:Hp} {s:Shared} (I:Inv X pins σ H s) (sm:Same F H) (n:Nat):∀(l:List D) (vs:List V) (us:List Value),l.all (zcM n)=true→RepL ⟨X.K,ca,an⟩ F l vs→Vals vs us→∃as,ReadsAll s.heap us (l.map (toPy n)) as:=by
 intro l
 induction l with
 | nil=>intro vs us _ r ru;simp only[RepL] at r;subst r;cases ru;exact⟨_,.nil⟩
 | cons a l ih2=>
  intro vs us h r ru
  rw[List.all_cons,Bool.and_eq_true] at h
  simp only[RepL] at r
  obtain⟨v,r',rfl,r1,r2⟩:=r
  cases ru with
  | cons ru ru'=>
   obtain⟨as,h1⟩:=zl3 (ca:=ca) (an:=an) I sm n a v _ h.1 r1 ru
   obtain⟨bs,h2⟩:=ih2 r' _ h.2 r2 ru'
   exact⟨_,.cons h1 h2⟩
theorem zkT {pins:List (Addr×Obj)} {σ:L2.St} {H F:Hp} {s:Shared} (I:Inv X pins σ H s) (sm:Same F H) {n:Nat} {d:D} {v:V} {u:Value} (h:zcM n d=true) (r:Top ⟨X.K,ca,an⟩ F H d v) (ru:RelV v u):∃as,Reads s.heap u (toPy n d) as:=by
 cases d with
 | lst l=>
  cases n with
  | zero=>cases h
  | succ n=>
   obtain⟨a,vs,rfl,h1,h2⟩:=r
   cases ru
   obtain⟨its,rv,⟨o,k,e,c,_,dd⟩,_⟩:=I.list (show SqL X.K H a vs from .inl h1)
   obtain⟨as,h3⟩:=zow (ca:=ca) (an:=an) I sm n l vs its h h2 rv
   exact⟨_,.list e c dd (by simpa using h3)⟩
 | dct ks l=>cases n <;> cases h
 | obj c ks l=>cases n <;> cases h
 | _=>exact zl3 (ca:=ca) (an:=an) I sm n _ v u h r ru
open Classical in
def rEqD (K:Kx) (neg:Bool):R2:=fun x y H Q=>∃(F:Hp) (dx dy:D),Same F H∧Top K F H dx x∧Top K F H dy y∧zcM 8 dx=true∧zcM 8 dy=true∧Q (.bl (if neg=true then !decide (dx=dy) else decide (dx=dy))) H
theorem zrA (hu:X.A.units+64<cLine):OpR X (compareOp .Eq) (rEqD ⟨X.K,ca,an⟩ false):=by
 intro pins s σ H x y v u Q I rx ry h
 obtain⟨F,dx,dy,sm,tx,ty,px,py,q⟩:=h
 obtain⟨as,ra⟩:=zkT I sm px tx rx
 obtain⟨bs,rb⟩:=zkT I sm py ty ry
 obtain⟨l1,l2⟩:=zmo 8 dx px
 obtain⟨m1,m2⟩:=zmo 8 dy py
 refine SeqAt.compareEq_reads ra rb l1 m1 (by omega) ?_
 rw[zp0 8 dx dy px py]
 exact⟨.bl _,H,I,rfl,q⟩
theorem zrx:SR K (rEqD K false) oEqD:=by
 intro F H x y dx dy d Q s hx hy e q
 unfold oEqD ifC at e
 split at e
 ·rename_i h
  cases e
  exact⟨F,dx,dy,s,hx,hy,h.1,h.2,q _ F H (.refl s) (by simp only[Rep];rfl)⟩
 ·cases e
end
end PM
namespace L2
open PySem PySem.Spec PyProof.Rows
def zmy (scope osc:Scope):Scope:={ scope with names:=scope.names.map fun (n,k)=>if (k == .free && osc.kind == .function && osc.names.lookup n == some .cell) then (n,.cell) else (n,k) }
section
variable {X:Cx}
end
end L2
namespace PM
open PySem L2
section
variable {K:Kx} {XO:XOT} {E:L2.St→XK}
end
end PM
namespace PM
open PySem L2
section
variable {K:Kx} {E:L2.St→XK} {ta:TE} {ma:En→R D} {t u:TS} {m n:En→O} {Λ:List (Nat×Addr×HO)} {F0 H0 F H:Hp} {σ:L2.St} {δ:En}
end
end PM
namespace L2
open PySem PySem.Spec PyProof.Rows
section
variable {P:Program} {w:World} {B:Around} {Z:Result→Shared→Prop} {J S:Addr} {fp wr:List Addr} {n:Nat} {Pv:Nat→Value→Prop} {Sn:Nat→Heap→Prop}
end
section
variable {P:Program} {w:World} {B:Around} {E:Value→Shared→Prop} {s:Shared} {Q:Value→Shared→Prop} {l:Addr} {xs:Array (Int×Tok)} {df:Value}
end
end L2
namespace L2
open PySem PySem.Spec PyProof.Rows
section
variable {X:Cx}
end
end L2
namespace PM
open PySem L2
section
variable {K:Kx} {XO:XOT} {E:L2.St→XK} {td te:TE} {md me:En→R D}
end
end PM
namespace L2
open PySem PySem.Spec PyProof.Rows
section
variable {X:Cx}
end
end L2
namespace PM
open PySem L2
section
variable {K:Kx} {XO:XOT} {E:L2.St→XK} {td ty tx:TE} {md my mx:En→R D}
def oIn (x y:D):Option D:=match x,y with|.int i,.lst l=>(asIs l).map fun ns=>.bl (decide (i∈ns))|.int i,.tup l=>(asIs l).map fun ns=>.bl (decide (i∈ns))|_,_=>none
theorem zmg {i:Int} {ns:List Int}:inV (.int i) (ns.map V.int)=decide (i∈ns):=by
 rw[Bool.eq_iff_iff]
 unfold inV
 simp only[List.any_map,List.any_eq_true,Function.comp,decide_eq_true_eq]
 constructor
 ·rintro⟨a,h1,h2⟩
  have:a=i:=by simpa[eqV] using h2
  subst this;exact h1
 ·intro h
  exact⟨i,h,by simp[eqV]⟩
theorem zka {ns:List Int}:(ns.map V.int).all zjv=true:=by
 rw[List.all_map,List.all_eq_true]
 intro x _;rfl
theorem zr1:SR K (rIn K.f false) oIn:=by
 intro F H x y dx dy d Q s hx hy e q
 cases dx with
 | int i=>
  simp only[Top,Rep] at hx
  subst hx
  cases dy with
  | lst l=>
   obtain⟨a,vs,rfl,h1,h2⟩:=hy
   simp only[oIn] at e
   cases z:asIs l with
   | none=>rw[z] at e;cases e
   | some ns=>
    rw[z] at e;cases e
    have el:=zkO z;subst el
    have ev:=zil h2;subst ev
    exact⟨a,_,rfl,.inl (.inl h1),rfl,zka,q _ F H (.refl s) (by simp only[Rep];rw[zmg];rfl)⟩
  | tup l=>
   simp only[Top,Rep] at hy
   obtain⟨a,vs,rfl,h1,h2⟩:=hy
   simp only[oIn] at e
   cases z:asIs l with
   | none=>rw[z] at e;cases e
   | some ns=>
    rw[z] at e;cases e
    have el:=zkO z;subst el
    have ev:=zil h2;subst ev
    exact⟨a,_,rfl,.inr (.inl (.inl (s _ _ h1))),rfl,zka,q _ F H (.refl s) (by simp only[Rep];rw[zmg];rfl)⟩
  | _=>cases e
 | _=>cases e
end
end PM
namespace L2
open PySem PySem.Spec PyProof.Rows
section
variable {X:Cx}
end
end L2
namespace PM
open PySem L2
section
variable {K:Kx} {XO:XOT} {E:L2.St→XK}
end
end PM
namespace L2
open PySem PySem.Spec PyProof.Rows
theorem Inv.turnedL {X:Cx} {pins:List (Addr×Obj)} {σ:St} {H:Hp} {s:Shared} {h':Heap} {t':Nat} (ch:List Addr) (I:Inv X pins σ H s) (hf:∀b∈ch,FpOk X pins H b) (k:∀b o,b∉ch→s.heap.get? b=some o→h'.get? b=some o):Inv X pins σ H { s with heap:=h',toks:=t' }:=by
 have nit:∀b u,H b=some u→b∉ch:=fun b u e z=>by
  obtain⟨f0,_⟩:=hf b z
  rw[f0] at e;cases e
 refine I.step (g':=s.gens) (d':=s.drawn) (ch:=ch) (fun b hb=>?_) (fun b o _ _ hc e _=>k b o hc e) (fun b o _ _ hc e _=>⟨o.slots,k b o hc e⟩) (fun _ _ _ _ n=>n)
  (fun b o hc e=>⟨o,k b o hc e⟩) (fun _ _ e=>e) (fun _ _ _ e=>e) (fun b ps e=>⟨#[],by rw[e];simp⟩) (fun m hm=>?_) (fun b u e=>?_) I.bare
 ·obtain⟨f0,f1,f2,f3,f4,f5⟩:=hf b hb
  exact⟨f3,f1,f4,f5⟩
 ·obtain⟨o,es,ep,ho,r⟩:=hm
  refine⟨o,es,ep,k _ o (fun z=>?_) ho,r⟩
  obtain⟨_,f1,_⟩:=hf _ z
  exact f1 rfl
 ·refine (I.hok b u e).stay (fun c v hc q=>k c v ?_ q) (fun _ q=>q) fun _ _ q=>q
  rcases hc with z|z
  ·rw[z];exact nit b u e
  ·exact nit c _ z
theorem Inv.laidT {X:Cx} {pins:List (Addr×Obj)} {σ:St} {H:Hp} {s:Shared} {h':Heap} {t':Nat} (ch:List Addr) {xs:List V} {us:List Value} (I:Inv X pins σ H s) (hf:∀b∈ch,FpOk X pins H b) (k:∀b o,b∉ch→s.heap.get? b=some o→h'.get? b=some o)
  (hl:xs.length≤sizeLine) (rv:Vals xs us) (ht:h'.get? s.heap.objs.size=some { cls:=.type "tuple",data:=.seq us.toArray }):Inv X pins σ (upd H s.heap.objs.size (.tup xs)) { s with heap:=h',toks:=t' }:=by
 have hT:H s.heap.objs.size=none:=I.hok.fresh (Nat.le_refl _)
 have nit:∀b u,H b=some u→b∉ch:=fun b u e z=>by
  obtain⟨f0,_⟩:=hf b z
  rw[f0] at e;cases e
 refine I.step (h':=h') (g':=s.gens) (d':=s.drawn) (t':=t') (ch:=ch) (fun b hb=>?_) (fun b o _ _ hb q _=>k b o hb q) (fun b o _ _ hb q _=>⟨o.slots,k b o hb q⟩) (fun b o hb q n=>?_) (fun b o hb q=>⟨o,k b o hb q⟩) (fun b ys q=>?_) (fun b o ys q=>?_) (fun b ps q=>⟨#[],?_⟩) (fun m hm=>?_) ?_ I.bare
 ·obtain⟨f0,f1,f2,f3,f4,f5⟩:=hf b hb
  exact⟨f3,f1,f4,f5⟩
 ·rw[zaz (Nat.ne_of_lt (Heap.lt_size q))];exact n
 ·rw[zaz (zaG q hT)];exact q
 ·rw[zaz (zaG q hT)];exact q
 ·rw[zaz (zaG q hT),q];simp
 ·obtain⟨o,es',ep,ho',r⟩:=hm
  refine⟨o,es',ep,k _ o (fun z=>?_) ho',r⟩
  obtain⟨_,f1,_⟩:=hf _ z
  exact f1 rfl
 ·intro b o q
  by_cases hb:b=s.heap.objs.size
  ·subst hb
   rw[zaX] at q;cases q
   exact⟨hl,us,rv,⟨_,ht,rfl,_,rfl⟩⟩
  ·rw[zaz hb] at q
   refine (I.hok b o q).stay (fun c v hc' q'=>?_) (fun c q'=>by rw[zaz (zaG q' hT)];exact q') fun c ys q'=>by rw[zaz (zaG q' hT)];exact q'
   rcases hc' with rfl|hc'
   ·exact k _ v (nit _ _ q) q'
   ·exact k _ v (nit _ _ hc') q'
theorem zkQ {h:Heap} {z TI TO i1 i2 a b:Addr} {f0 u v:Value} {k1 k2:Nat} {xs ys:Array Value} (hd : [z,TI,TO,i1,i2].Nodup) (h1:IsZip h z TI TO f0) (h3:IsPair h TO u v) (h4:h.IsListIter i1 a k1) (h5:h.IsListIter i2 b k2) (p:PlainL h a xs) (p':PlainL h b ys):ZipApart z TI TO i1 i2 a b:=by
 obtain⟨o,n,e,c,_⟩:=p
 obtain⟨o',n',e',c',_⟩:=p'
 obtain⟨j1,g1,d1,_⟩:=h4
 obtain⟨j2,g2,d2,_⟩:=h5
 simp only[List.nodup_cons,List.mem_cons,List.not_mem_nil,or_false,not_or,List.nodup_nil,and_true,not_false_eq_true] at hd
 obtain⟨⟨z1,z2,z3,z4⟩,⟨y1,y2,y3⟩,⟨x1,x2⟩,w1⟩:=hd
 have q1:∀ {o:Obj} {l:Addr},h.get? l=some o→o.cls=.type "list"→l≠z:=fun e c r=>by subst r;rw[h1] at e;cases e;simp at c
 have q2:∀ {o:Obj} {l:Addr},h.get? l=some o→o.cls=.type "list"→l≠TO:=fun e c r=>by subst r;rw[h3] at e;cases e;simp at c
 have q3:∀ {o:Obj} {l:Addr},h.get? l=some o→o.cls=.type "list"→l≠i1:=fun e c r=>by subst r;rw[g1] at e;cases e;rw[d1] at c;simp at c
 have q4:∀ {o:Obj} {l:Addr},h.get? l=some o→o.cls=.type "list"→l≠i2:=fun e c r=>by subst r;rw[g2] at e;cases e;rw[d2] at c;simp at c
 exact⟨Ne.symm z1,Ne.symm z2,Ne.symm z3,Ne.symm z4,y1,y2,y3,x1,x2,w1,q1 e c,q2 e c,q3 e c,q4 e c,q1 e' c',q2 e' c',q3 e' c',q4 e' c'⟩
def Itz (K:PySem.W.Frag) (a b:Addr):It:=
 ⟨fun i H=>∃xs ys x y,SqL K H a xs∧SqL K H b ys∧xs[i]?=some x∧ys[i]?=some y,
  fun i H v H'=>∃p x y,v=.ref p∧H p=none∧H'=upd H p (.tup [x,y])∧(∀xs,SqL K H a xs→xs[i]?=some x)∧∀ys,SqL K H b ys→ys[i]?=some y,
  fun i H=>∃xs ys,SqL K H a xs∧SqL K H b ys∧(xs.length≤i∨ys.length≤i)⟩
theorem zmB {P:Program} {w:World} {K:PySem.W.Frag} {es:List Expr} {k} {pos:Pos} (a b z TI TO i1 i2:Addr) (hd : [z,TI,TO,i1,i2].Nodup) :
  Turn P w K (.Tuple es k pos) (Itz K a b) [z,TI,TO,i1,i2] z (fun i h=>IsZip h z TI TO .none∧IsPair h TI (.ref i1) (.ref i2)∧(∃u v,IsPair h TO u v)∧h.IsListIter i1 a i∧h.IsListIter i2 b i) where
 mem:=by simp
 obj:=fun i h st c hc=>by
  obtain⟨h1,h2,⟨u,v,h3⟩,⟨o1,h4,c1,d1⟩,o2,h5,c2,d2⟩:=st
  simp only[List.mem_cons,List.not_mem_nil,or_false] at hc
  rcases hc with rfl|rfl|rfl|rfl|rfl
  ·exact⟨_,h1,fun v z=>by cases (show Data.fields _=Data.cell v from z)⟩
  ·exact⟨_,h2,fun v z=>by cases (show Data.seq _=Data.cell v from z)⟩
  ·exact⟨_,h3,fun v z=>by cases (show Data.seq _=Data.cell v from z)⟩
  ·exact⟨o1,h4,fun v z=>by rw[d1] at z;cases z⟩
  ·exact⟨o2,h5,fun v z=>by rw[d2] at z;cases z⟩
 keep:=fun i h h' st q=>by
  obtain⟨h1,h2,⟨u,v,h3⟩,h4,h5⟩:=st
  exact⟨q z (by simp) _ h1,q TI (by simp) _ h2,⟨u,v,q TO (by simp) _ h3⟩,h4.at fun o e=>q i1 (by simp) o e,h5.at fun o e=>q i2 (by simp) o e⟩
 item:=by
  intro X hP hw hK hc i pins s σ H E I hf st hg
  subst hP hw hK
  obtain⟨xs,ys,x,y,q1,q2,hx,hy⟩:=hg
  obtain⟨its,rv,p,hz⟩:=I.list q1
  obtain⟨its',rv',p',hz'⟩:=I.list q2
  obtain⟨u,hu,ru⟩:=rv.get hx
  obtain⟨u',hu',ru'⟩:=rv'.get hy
  obtain⟨h1,h2,⟨f,g,h3⟩,h4,h5⟩:=st
  have D:=zkQ hd h1 h3 h4 h5 p p'
  have hT:H s.heap.objs.size=none:=I.hok.fresh (Nat.le_refl _)
  have nT:∀c o,s.heap.get? c=some o→c≠s.heap.objs.size:=fun c o e=>Nat.ne_of_lt (Heap.lt_size e)
  refine wpAny_pyNext_zip_item D h1 h2 h3 h4 h5 p.isList p'.isList (x:=u) (y:=u') (by simpa using hu) (by simpa using hu') fun h' a1 a2 a3 a4 a5 a6 hk=>⟨_,rfl,?_⟩
  refine wpAny_letOwnedTupleGo_zip a1 fun h'' b1 hs''=>?_
  have hs2:Heap.SameBut z h' h'':=hs''
  have nzT:=nT z _ h1
  have hk2:∀c o,c∉[z,TI,TO,i1,i2]→s.heap.get? c=some o→h''.get? c=some o:=fun c o hc q=>by
   simp only[List.mem_cons,List.not_mem_nil,or_false,not_or] at hc
   exact (hs2.2 c hc.1).trans (hk c o hc.1 hc.2.2.1 hc.2.2.2.1 hc.2.2.2.2 q)
  refine⟨.ref s.heap.objs.size,upd H s.heap.objs.size (.tup [x,y]),?_,rfl,⟨_,x,y,rfl,hT,rfl,fun xs' h=>by rw[I.list_inj h q1];exact hx,fun ys' h=>by rw[I.list_inj h q2];exact hy⟩,
   ⟨b1,(hs2.2 _ D.TIz).trans (hk _ _ D.TIz D.TITO D.TIi1 D.TIi2 h2),⟨u,u',(hs2.2 _ D.TOz).trans a2⟩,a3.at fun o e=>(hs2.2 _ D.i1z).trans e,a4.at fun o e=>(hs2.2 _ D.i2z).trans e⟩,fun c hc=>?_⟩
  ·exact I.laidT (t':=s.toks) [z,TI,TO,i1,i2] hf hk2 (by show 2≤sizeLine;decide) (.cons ru (.cons ru' .nil)) ((hs2.2 _ (Ne.symm nzT)).trans a5)
  ·obtain⟨f0,_⟩:=hf c hc
   rw[zaz]
   ·exact f0
   ·obtain⟨o1,e4,_⟩:=h4
    obtain⟨o2,e5,_⟩:=h5
    simp only[List.mem_cons,List.not_mem_nil,or_false] at hc
    rcases hc with rfl|rfl|rfl|rfl|rfl
    ·exact nT _ _ h1
    ·exact nT _ _ h2
    ·exact nT _ _ h3
    ·exact nT _ _ e4
    ·exact nT _ _ e5
 done:=by
  intro X hP hw hK hc i pins s σ H E I hf st hg
  subst hP hw hK
  obtain⟨xs,ys,q1,q2,he⟩:=hg
  obtain⟨its,rv,p,hz⟩:=I.list q1
  obtain⟨its',rv',p',hz'⟩:=I.list q2
  obtain⟨h1,h2,⟨f,g,h3⟩,h4,h5⟩:=st
  have D:=zkQ hd h1 h3 h4 h5 p p'
  have l1:=rv.length
  have l2:=rv'.length
  refine wpAny_pyNext_zip_end (I.ok.hd hc) D h1 h2 h3 h4 h5 p.isList p'.isList (he.imp (fun z=>by simp;omega) fun z=>by simp;omega) fun h' hk=>⟨rfl,?_⟩
  exact I.turnedL (t':=s.toks) [z,TI,TO,i1,i2] hf fun c o hc q=>by
   simp only[List.mem_cons,List.not_mem_nil,or_false,not_or] at hc
   exact hk c o hc.1 hc.2.2.1 hc.2.2.2.1 hc.2.2.2.2 q
 self:=fun _ _ _ _ _ st h=>wpAny_pyIter_zip st.1 h
section
variable {X:Cx}
def iZip (K:PySem.W.Frag) (ta:TA):TI:=fun σ H R=>ta σ H fun vs H1=>∃a b,vs=[.ref a,.ref b]∧(∃xs,SqL K H1 a xs)∧(∃ys,SqL K H1 b ys)∧R (Itz K a b) H1
theorem zmE {es:List Expr} {k} {tp:Pos} {l l':Expr} {ta:TA} {p pos:Pos} (hg:Gl X "zip") (hm:X.mg "zip"=none) (ha:PA X [l,l'] ta) (hs:starEach [l,l'] X.env=(false,eval l X.env)::starEach [l'] X.env:=by rfl) (hs2:(backTo pos (starEach [l'] X.env)).any (·.1)=false:=by rfl) :
  PI X (.Tuple es k tp) (.Call (.Name "zip" p) [l,l'] [] pos) (iZip X.K ta):=by
 intro pins s σ H R I h
 refine Call_ (zhp I hg hm PyProof.Rows.boot_zip (PyProof.Rows.callWith_type1 (thn (ha pos pins s σ H _ I h) fun us s1 ⟨vs,H1,I1,r1,q1⟩=>?_) hs hs2))
 obtain⟨a,b,e,⟨xs,hq⟩,⟨ys,hq'⟩,q⟩:=q1
 subst e
 obtain⟨u,v,rfl,rx,ry⟩:=zoJ r1
 cases rx
 cases ry
 obtain⟨its,rv,pl,hz⟩:=I1.list hq
 obtain⟨its',rv',pl',hz'⟩:=I1.list hq'
 refine call_zip_2 pl.isList pl'.isList fun h' c1 c2 c3 c4 c5 hsz hk=>?_
 have I2:Inv X pins σ H1 { s1 with heap:=h' }:=I1.kept (t':=s1.toks) hk
 obtain⟨m,em⟩:∃m,m=s1.heap.objs.size:=⟨_,rfl⟩
 have hnd : [m+4,m+2,m+3,m,m+1].Nodup:=by simp
 rw[← em] at c1 c2 c3 c4 c5 ⊢
 refine wpAny_pyIter_zip c1 ⟨m+4,[m+4,m+2,m+3,m,m+1],_,_,H1,rfl,I2,zmB a b _ _ _ _ _ hnd,⟨c1,c2,⟨_,_,c3⟩,c4,c5⟩,fun d hd=>?_,q⟩
 have hd':s1.heap.objs.size≤d:=by
  simp only[List.mem_cons,List.not_mem_nil,or_false] at hd
  rcases hd with rfl|rfl|rfl|rfl|rfl <;> omega
 exact I1.fpOk hd' (I1.hok.fresh hd')
end
end L2
namespace PM
open PySem L2
section
variable {K:Kx} {XO:XOT} {E:L2.St→XK}
def zipD (l r:List D):List D:=List.zipWith (fun x y=>.tup [x,y]) l r
def zip1:List D→Option (List D)
 | [x,y]=>(asL' x).bind fun l=>(asL' y).map (zipD l)
 | _=>none
def mZip (ml:En→R (List D)) (δ:En):R (List D):=(ml δ).bind fun l=>R.of (zip1 l)
theorem zkX {l r:List D} (h:zip1 l=some r):∃x y,l=[.lst x,.lst y]∧r=zipD x y:=by
 match l,h with
 | [x,y],h=>
  cases x with
  | lst x=>
   cases y with
   | lst y=>cases h;exact⟨x,y,rfl,rfl⟩
   | _=>cases h
  | _=>cases h
theorem zj4 {a b:Addr} {ds es:List D} {vs ws:List V} {F1:Hp} {P:Hp→Hp→Prop} (r:RepL K F1 ds vs) (r':RepL K F1 es ws) (h:∀F2 H2,P F2 H2→Same F1 F2∧Same F2 H2∧SqL K.f H2 a vs∧SqL K.f H2 b ws):IsIt K (Itz K.f a b) P (zipD ds es):=by
 intro F2 H2 p i
 obtain⟨s1,s2,q,q'⟩:=h F2 H2 p
 unfold zipD
 rw[List.getElem?_zipWith]
 refine⟨fun d hd=>?_,fun hn=>?_⟩
 ·cases e:ds[i]? with
  | none=>rw[e] at hd;cases hd
  | some x=>
   cases e':es[i]? with
   | none=>rw[e,e'] at hd;cases hd
   | some y=>
    rw[e,e'] at hd
    cases hd
    obtain⟨v,hv,rv⟩:=r.get e
    obtain⟨w,hw,rw'⟩:=r'.get e'
    refine⟨⟨vs,ws,v,w,q,q',hv,hw⟩,fun x' H' y=>?_⟩
    obtain⟨p',x1,y1,rfl,hp,rfl,z1,z2⟩:=y
    have z:=z1 vs q
    rw[hv] at z;cases z
    have z:=z2 ws q'
    rw[hw] at z;cases z
    refine⟨_,.new s2 hp,?_⟩
    simp only[Rep]
    have m:=s1.trans (Same.upd (u:=.tup [v,w]) (s2.free hp))
    exact⟨p',_,rfl,zaX,.cons (Rep.mono m _ rv) (.cons (Rep.mono m _ rw') .nil)⟩
 ·cases e:ds[i]? with
  | none=>exact⟨vs,ws,q,q',.inl (by rw[r.length];exact List.getElem?_eq_none_iff.mp e)⟩
  | some x=>
   cases e':es[i]? with
   | none=>exact⟨vs,ws,q,q',.inr (by rw[r'.length];exact List.getElem?_eq_none_iff.mp e')⟩
   | some y=>rw[e,e'] at hn;cases hn
theorem zpx {tl:TA} {ml:En→R (List D)} (h:SA K XO E tl ml):SI K XO E (iZip K.f tl) (mZip ml):=by
 intro Λ F0 H0 F H σ δ R I a
 refine h Λ F0 H0 F H σ δ _ I (a.bind.imp fun ds F1 H1 e1 a1 vs r=>?_)
 cases q:zip1 ds with
 | none=>rw[q] at a1;exact a1.elim
 | some z=>
  rw[q] at a1
  obtain⟨l,l',rfl,rfl⟩:=zkX q
  obtain⟨v,w,rfl,r1,r2⟩:=RepL.two r
  simp only[Rep] at r1 r2
  obtain⟨a,vs,rfl,h1,h2⟩:=r1
  obtain⟨b,ws,rfl,h3,h4⟩:=r2
  exact⟨a,b,rfl,⟨vs,.inl (PM.Same.rdp e1.fh h1)⟩,⟨ws,.inl (PM.Same.rdp e1.fh h3)⟩,a1 F1 H1 (.refl e1.fh) _ (zj4 h2 h4 fun F2 H2 x=>⟨x.1,x.2,.inl (PM.Same.rd x.2 (PM.Same.rdp x.1 h1)),.inl (PM.Same.rd x.2 (PM.Same.rdp x.1 h3))⟩)⟩
theorem zoF {tl:TA} {ml:En→R (List D)} (h:SAr K XO E tl ml):SIc K XO E (iZip K.f tl) (mZip ml):=by
 intro Λ F0 H0 F H σ δ R I a
 refine h Λ F0 H0 F H σ δ _ I (a.bind.imp fun ds F1 H1 e1 a1 vs r=>?_)
 cases q:zip1 ds with
 | none=>rw[q] at a1;exact a1.elim
 | some z=>
  rw[q] at a1
  obtain⟨l,l',rfl,rfl⟩:=zkX q
  cases r with
  | cons r r'=>
   cases r' with
   | cons r2 r3=>
    cases r3
    obtain⟨a,vs,rfl,h1,h2⟩:=r
    obtain⟨b,ws,rfl,h3,h4⟩:=r2
    exact⟨a,b,rfl,⟨vs,.inl h1⟩,⟨ws,.inl h3⟩,a1 F1 H1 (.refl e1.fh) _ (zj4 h2 h4 fun F2 H2 x=>⟨x.ff,x.fh,.inl (PM.Same.rd x.hh h1),.inl (PM.Same.rd x.hh h3)⟩)⟩
end
end PM
namespace PM
end PM
namespace L2
open PySem PySem.Spec PyProof.Rows
section
variable {X:Cx}
end
end L2
namespace PM
open PySem L2
section
variable {K:Kx}
def zoL:List D→Option D
 | [.int i,.int j]=>some (.int (if j > i then j else i))
 | _=>none
def znH:List D→Option D
 | [.int i,.int j]=>some (.int (if j<i then j else i))
 | _=>none
theorem zqq:SC K (fun xs H Q=>∃i j,xs=[.int i,.int j]∧Q (.int (if j > i then j else i)) H) zoL:=by
 intro F H vs ds d Q s r e q
 unfold zoL at e
 split at e
 ·rename_i i j
  cases e
  cases r with
  | cons r r'=>
   cases r' with
   | cons r2 r3=>
    cases r3
    simp only[Top,Rep] at r r2
    subst r r2
    exact⟨i,j,rfl,q _ F H (.refl s) (by simp only[Rep])⟩
 ·cases e
theorem zqM:SC K (fun xs H Q=>∃i j,xs=[.int i,.int j]∧Q (.int (if j<i then j else i)) H) znH:=by
 intro F H vs ds d Q s r e q
 unfold znH at e
 split at e
 ·rename_i i j
  cases e
  cases r with
  | cons r r'=>
   cases r' with
   | cons r2 r3=>
    cases r3
    simp only[Top,Rep] at r r2
    subst r r2
    exact⟨i,j,rfl,q _ F H (.refl s) (by simp only[Rep])⟩
 ·cases e
end
end PM
namespace L2
open PySem PySem.Spec PyProof.Rows
section
variable {X:Cx}
end
end L2
namespace PM
open PySem L2
section
variable {K:Kx}
end
end PM
namespace PM
open PySem L2
section
variable {K:Kx} {XO:XOT} {E:L2.St→XK} {te:TE} {me:En→R D}
theorem RepL.eraseIdx {F:Hp}:∀ {l:List D} {vs:List V} (k:Nat),RepL K F l vs→RepL K F (l.eraseIdx k) (vs.eraseIdx k)
 | [],vs,k,h=>by
  simp only[RepL] at h
  subst h
  simp only[List.eraseIdx_nil]
  exact .nil
 | d::l,vs,k,h=>by
  simp only[RepL] at h
  obtain⟨v,r,rfl,h1,h2⟩:=h
  cases k with
  | zero=>exact h2
  | succ k=>exact .cons h1 (RepL.eraseIdx k h2)
def zp9 (i:Nat) (me:En→R D) (b:D→En→Option En) (δ:En):O:=match δ[i]? with
 | some (.o (.lst l))=>(me δ).toO δ fun k=>match k with
  | .int (.ofNat k)=>(match l[k]? with|some d=>if k<2 ^ 63 then O.of (b d (δ.set i (.o (.lst (l.eraseIdx k))))) else .no|none=>.no)
  | _=>.no
 | _=>.no
theorem zsa {k n:Nat} (h:k<n):seqIndex? (k:Int) n=some k:=by
 unfold seqIndex?
 have e:¬ (k:Int)<0:=by omega
 simp only[e,if_false]
 rw[if_pos (by simp;omega)]
 simp
theorem zqo {i:Nat} {g:TG} {b:D→En→Option En} (h:SE K XO E te me) (hg:SG K g b):SS K XO E (tAsg (tBM K.f "list" zpK (tVar i) (zd3 te tNil)) g) (zp9 i me b):=by
 intro Λ F0 H0 F H σ δ Dn I a
 unfold zp9 at a
 split at a
 ·rename_i l q
  obtain⟨p,s1,vs,s2,s3⟩:=I.own q
  refine⟨_,s1,.inl ⟨rfl,vs,.inl (.inl s2)⟩,?_⟩
  refine h Λ F0 H0 F H σ δ _ I ((AftS.of I a).imp fun d F1 H1 e c v r=>?_)
  split at c
  ·rename_i k
   simp only[Rep] at r
   subst r
   cases z:l[k]? with
   | none=>simp only[z] at c;exact c.elim
   | some y=>
    simp only[z] at c
    split at c
    ·rename_i hk
     have hlt:k<l.length:=(List.getElem?_eq_some_iff.mp z).1
     obtain⟨w,hw,rw'⟩:=(s3.mono e.ff).get z
     have I2:=(I.grow e).chg (u:=.lst (vs.eraseIdx k)) (d':=.lst (l.eraseIdx k)) q s1 ⟨_,zaX,(s3.mono e.ff).eraseIdx k⟩
     refine⟨p,vs,(k:Int),k,w,rfl,rfl,e.hh _ _ s2,by omega,by omega,zsa (by rw[s3.length];exact hlt),hw,?_⟩
     cases zz:b y (δ.set i (.o (.lst (l.eraseIdx k)))) with
     | none=>rw[zz] at c;exact c.elim
     | some δ'=>rw[zz] at c;exact hg Λ F0 H0 F1 _ σ _ y w δ' _ I2 rw' zz fun σ' I'=>c σ' F1 _ I'
    ·exact c.elim
  ·exact c.elim
 ·exact a.elim
end
end PM
namespace L2
open PySem PySem.Spec PyProof.Rows
section
variable {X:Cx}
end
end L2
namespace PM
open PySem L2
section
variable {K:Kx} {XO:XOT} {E:L2.St→XK} {tl te:TE} {ml me:En→R D}
end
end PM
namespace L2
open PySem PySem.Spec PyProof.Rows
open Sem (wp)
section
variable {P:Program} {w:World} {B:Around} {Er:Value→Shared→Prop} {hp:Heap} {gs:Array GenState} {dr:Drawn} {tk:Nat} {os:OsState}
variable {nm q:Str} {C N:Addr} {bs bm bmB:List Value} {hdct:Bool} {sn:List Str} {sub:List Value} {ab:Bool} {col:Option Bool} {dd:Option Addr} {k0 k1 k2 k3 k5:Option Value} {B0 Bn newId nid initId inN:String} {bmN:List Value}
end
end L2
namespace L2
open PySem PySem.Spec PyProof.Rows
section
variable {P:Program} {w:World} {B:Around} {Er:Value→Shared→Prop} {s:Shared}
end
end L2
namespace L2
open PySem PySem.Spec PyProof.Rows
section
variable {X:Cx}
end
end L2
namespace PM
open PySem L2
section
variable {K:Kx} {XO:XOT} {E:L2.St→XK}
end
end PM
namespace L2
open PySem PySem.Spec PyProof.Rows
section
variable {X:Cx}
end
end L2
namespace PM
open PySem L2
section
variable {K:Kx} {XO:XOT} {E:L2.St→XK}
end
end PM
namespace L2
open PySem PySem.Spec PyProof.Rows
section
variable {X:Cx}
end
end L2
namespace PM
open PySem L2
section
variable {K:Kx} {XO:XOT} {E:L2.St→XK} {tk te:TE} {mk me:En→R D}
end
end PM
namespace PM
open PySem L2
section
variable {K:Kx} {XO:XOT} {E:St→XK} {ta tb te:TE} {ma mb me:En→R D} {t u:TS} {m n:En→O} {Λ:List (Nat×Addr×HO)} {F0 H0 F H F' H' F1 H1:Hp} {σ:St} {δ:En} {Dn:Ends}
def tabD (ll:List (List Int)):D:=.lst (ll.map iL)
def zoM:Sl→Sl
 | .o d=>.v d
 | .l d=>.v d
 | .p T=>.v (trD T)
 | s=>s
def peek (δ:En):En:=δ.map zoM
theorem zqe (I:EnvOk K Λ F0 H0 F H σ δ):EnvOk K [] (zd1 F H) H (zd1 F H) H σ (peek δ):=by
 have pk:∀i:Nat,(peek δ)[i]?=(δ[i]?).map zoM:=fun i=>by unfold peek;rw[List.getElem?_map]
 have no:∀i:Nat,Sl.own (peek δ)[i]?=false:=fun i=>by
  rw[pk]
  cases q:δ[i]? with
  | none=>rfl
  | some s=>cases s <;> rfl
 refine⟨.refl (znE I.same),by rw[I.len];simp[peek],fun i=>?_,fun i j a _ h1=>(by rw[no i] at h1;cases h1),fun x hx=>(by cases hx),fun i T h=>?_⟩
 ·have z:=I.slot i
  rw[pk]
  cases q:δ[i]? with
  | none=>trivial
  | some s=>
   rw[q] at z
   cases s with
   | no=>trivial
   | v d=>obtain⟨u,z1,z2⟩:=z;exact⟨u,z1,Rep.mono zfE d z2⟩
   | o d=>obtain⟨a,z1,_,_,z4⟩:=z;exact⟨_,z1,zlv I.same (.inr (.inl ⟨a,rfl,z4⟩))⟩
   | l d=>obtain⟨a,z1,_,_,z4⟩:=z;exact⟨_,z1,zlv I.same (.inr (.inl ⟨a,rfl,z4⟩))⟩
   | p T=>obtain⟨a,bs,z1,z2,_⟩:=z;exact⟨_,z1,zjM I.same T z2.ok⟩
 ·have:=no i
  rw[h] at this;cases this
def zfN (m:En→R D) (δ:En):R D:=match m (peek δ) with|.ok d=>if zgl d=true then .ok d else .no|_=>.no
theorem zlk (h:SE K XO E te me):SE K XO E te (zfN me):=by
 intro Λ F0 H0 F H σ δ Q I a
 refine h [] (zd1 F H) H (zd1 F H) H σ (peek δ) Q (zqe I) ?_
 unfold zfN at a
 cases q:me (peek δ) with
 | no=>rw[q] at a;exact a
 | ex x=>rw[q] at a;exact a.elim
 | ok d=>
  rw[q] at a
  dsimp only at a
  split at a
  ·rename_i hc
   intro F2 H2 e2 v rv
   exact a _ H2 (zn5 e2) v (zlt e2 d hc rv)
  ·exact a.elim
def zmU (i:Nat) (δ:En):Bool:=(List.range δ.length).all fun j=>j == i || match δ[j]? with|some (.p _)=>false|_=>true
theorem EnvOk.putP {i:Nat} {T:Tr} {a:Addr} {bs:List Addr} (I:EnvOk K Λ F0 H0 F H σ δ) (hl:∃x,δ[i]?=some x∧∀d,x≠.l d) (e:Ext F H F' H') (t:Tab K F' H' a bs T) (h0:∀b∈a::bs,F' b=none∧H b=none) :
  EnvOk K Λ F0 H0 F' H' (σ.set i (some (.ref a))) (δ.set i (.p T)):=by
 obtain⟨x,hx,hnl⟩:=hl
 have hi:i<δ.length:=(List.getElem?_eq_some_iff.mp hx).1
 have hi':i<σ.length:=by rw[I.len];exact hi
 have fresh:∀(k:Nat) (b:Addr),k≠i→Sl.own δ[k]?=true→σ[k]?=some (some (.ref b))→b∉a::bs:=fun k b hki hk hs hb=>by
  have z:=I.slot k
  have hn':=(h0 b hb).2
  cases q:δ[k]? with
  | none=>rw[q] at hk;cases hk
  | some y=>
   rw[q] at hk z
   cases y with
   | no=>cases hk
   | v d=>cases hk
   | o d=>obtain⟨c,z1,_,_,z4⟩:=z;rw[hs] at z1;cases z1;obtain⟨u,hu⟩:=z4.obj;rw[hn'] at hu;cases hu
   | l d=>obtain⟨c,z1,_,_,z4⟩:=z;rw[hs] at z1;cases z1;obtain⟨u,hu⟩:=z4.obj;rw[hn'] at hu;cases hu
   | p l2=>obtain⟨c,cs,z1,z2,_⟩:=z;rw[hs] at z1;cases z1;obtain⟨u,hu⟩:=z2.obj b (by simp);rw[hn'] at hu;cases hu
 have J:=I.grow e
 have f3:∀b∈a::bs,H0 b=none∧F' b=none:=fun b hb=>⟨I.ext.hh.free (h0 b hb).2,(h0 b hb).1⟩
 refine⟨J.ext,by simp[I.len],fun j=>?_,fun j k b hjk g1 g2 g3 g4=>?_,fun y hy=>?_,fun j l2 g1=>?_⟩
 ·by_cases ee:i=j
  ·subst ee
   rw[List.getElem?_set_self hi,List.getElem?_set_self hi']
   exact⟨a,bs,rfl,t,f3⟩
  ·rw[List.getElem?_set_ne ee,List.getElem?_set_ne ee]
   exact J.slot j
 ·by_cases e1:i=j
  ·subst e1
   rw[List.getElem?_set_self hi'] at g3;cases g3
   rw[List.getElem?_set_ne hjk] at g2 g4
   exact fresh k a (Ne.symm hjk) g2 g4 (by simp)
  ·by_cases e2:i=k
   ·subst e2
    rw[List.getElem?_set_self hi'] at g4;cases g4
    rw[List.getElem?_set_ne e1] at g1 g3
    exact fresh j a (Ne.symm e1) g1 g3 (by simp)
   ·rw[List.getElem?_set_ne e1] at g1 g3
    rw[List.getElem?_set_ne e2] at g2 g4
    exact I.dist j k b hjk g1 g2 g3 g4
 ·obtain⟨⟨d',g1⟩,g2,g3⟩:=J.lent y hy
  have ne:i≠y.1:=by
   intro ee
   rw[← ee,hx] at g1
   exact hnl d' (Option.some.inj g1)
  exact⟨⟨d',by rw[List.getElem?_set_ne ne];exact g1⟩,by rw[List.getElem?_set_ne ne];exact g2,g3⟩
 ·-- the other trees: what they hold was there
  have old:∀(k:Nat) (T2:Tr),k≠i→δ[k]?=some (.p T2)→∃a2 bs2,σ[k]?=some (some (.ref a2))∧Tab K F' H' a2 bs2 T2∧(∀b∈a2::bs2,b∉a::bs)∧(∀b∈a2::bs2,H0 b=none∧F' b=none)∧(∀(j:Nat) (b:Addr),j≠k→Sl.own δ[j]?=true→σ[j]?=some (some (.ref b))→b∉a2::bs2)∧∀(j:Nat) (T':Tr),j≠k→δ[j]?=some (.p T')→∃a' bs',σ[j]?=some (some (.ref a'))∧Tab K F' H' a' bs' T'∧∀b∈a'::bs',b∉a2::bs2:=fun k T2 hk q=>by
   obtain⟨a2,bs2,s1,s2,s3,s4,s5⟩:=I.tab q
   refine⟨a2,bs2,s1,s2.mono e.ff e.hh,fun b hb hb2=>?_,fun b hb=>?_,s4,fun j T' hj hT=>?_⟩
   ·obtain⟨o,ho⟩:=s2.obj b hb
    rw[(h0 b hb2).2] at ho;cases ho
   ·obtain⟨o,ho⟩:=s2.obj b hb
    exact⟨(s3 b hb).1,e.nw b o (s3 b hb).2 ho⟩
   ·obtain⟨a',bs',u1,u2,u3⟩:=s5 j T' hj hT
    exact⟨a',bs',u1,u2.mono e.ff e.hh,u3⟩
  by_cases ee:i=j
  ·subst ee
   rw[List.getElem?_set_self hi] at g1;cases g1
   refine⟨a,bs,List.getElem?_set_self hi',t,f3,fun k b hk ho hs hb=>?_,fun k l3 hk hT=>?_⟩
   ·rw[List.getElem?_set_ne (Ne.symm hk)] at ho hs
    exact fresh k b hk ho hs hb
   ·rw[List.getElem?_set_ne (Ne.symm hk)] at hT
    obtain⟨a2,bs2,s1,s2,s3,_⟩:=old k l3 hk hT
    exact⟨a2,bs2,by rw[List.getElem?_set_ne (Ne.symm hk)];exact s1,s2,s3⟩
  ·rw[List.getElem?_set_ne ee] at g1
   obtain⟨a2,bs2,s1,s2,s3,s4,s5,s6⟩:=old j l2 (Ne.symm ee) g1
   refine⟨a2,bs2,by rw[List.getElem?_set_ne ee];exact s1,s2,s4,fun k b hk ho hs hb=>?_,fun k l3 hk hT=>?_⟩
   ·by_cases e2:i=k
    ·subst e2
     rw[List.getElem?_set_self hi'] at hs;cases hs
     exact s3 a hb (by simp)
    ·rw[List.getElem?_set_ne e2] at ho hs
     exact s5 k b hk ho hs hb
   ·by_cases e2:i=k
    ·subst e2
     rw[List.getElem?_set_self hi] at hT;cases hT
     exact⟨a,bs,List.getElem?_set_self hi',t,fun b hb hb2=>s3 b hb2 hb⟩
    ·rw[List.getElem?_set_ne e2] at hT
     obtain⟨a',bs',u1,u2,u3⟩:=s6 k l3 hk hT
     exact⟨a',bs',by rw[List.getElem?_set_ne e2];exact u1,u2,u3⟩
structure TabAt (K:Kx) (H0 F H:Hp) (σ:St) (δ:En) (i:Nat) (a:Addr) (bs:List Addr) (T:Tr):Prop where
 is:δ[i]?=some (.p T)
 at':σ[i]?=some (some (.ref a))
 tab:Tab K F H a bs T
 free:∀b∈a::bs,H0 b=none∧F b=none
 dist:∀(j:Nat) (b:Addr),j≠i→Sl.own δ[j]?=true→σ[j]?=some (some (.ref b))→b∉a::bs
 one:∀(j:Nat) (T':Tr),j≠i→δ[j]?=some (.p T')→∃a' bs',σ[j]?=some (some (.ref a'))∧Tab K F H a' bs' T'∧∀b∈a'::bs',b∉a::bs
theorem EnvOk.tabAt (I:EnvOk K Λ F0 H0 F H σ δ) {i:Nat} {T:Tr} (hx:δ[i]?=some (.p T)):∃a bs,TabAt K H0 F H σ δ i a bs T:=by
 obtain⟨a,bs,s1,s2,s3,s4,s5⟩:=I.tab hx
 exact⟨a,bs,hx,s1,s2,s3,s4,s5⟩
theorem TabAt.grow {i:Nat} {a:Addr} {bs:List Addr} {T:Tr} (t:TabAt K H0 F H σ δ i a bs T) (e:Ext F H F' H'):TabAt K H0 F' H' σ δ i a bs T:=
 ⟨t.is,t.at',t.tab.mono e.ff e.hh,fun b hb=>let ⟨o,ho⟩:=t.tab.obj b hb;⟨(t.free b hb).1,e.nw b o (t.free b hb).2 ho⟩,t.dist,fun j T' hj hT=>let ⟨a',bs',u1,u2,u3⟩:=t.one j T' hj hT;⟨a',bs',u1,u2.mono e.ff e.hh,u3⟩⟩
theorem EnvOk.chgT {i:Nat} {T T':Tr} {a b:Addr} {bs bs':List Addr} {u:HO} (I:EnvOk K Λ F0 H0 F H σ δ) (t:TabAt K H0 F H σ δ i a bs T) (hb:b∈a::bs) (t':Tab K F (upd H b u) a bs' T') (sub:∀c∈bs',c∈bs) :
  EnvOk K Λ F0 H0 F (upd H b u) σ (δ.set i (.p T')):=by
 have hx:=t.is
 have hi:i<δ.length:=(List.getElem?_eq_some_iff.mp hx).1
 have fb:=t.free b hb
 have sub':∀c∈a::bs',c∈a::bs:=fun c hc=>by
  rcases List.mem_cons.mp hc with rfl|hc
  ·simp
  ·exact List.mem_cons_of_mem _ (sub c hc)
 have oth:∀(j:Nat) (c:Addr),i≠j→Sl.own δ[j]?=true→σ[j]?=some (some (.ref c))→c≠b:=fun j c hj ho hs ee=>t.dist j c (Ne.symm hj) ho hs (by rw[ee];exact hb)
 have ow:∀k2:Nat,Sl.own (δ.set i (.p T'))[k2]?=true→Sl.own δ[k2]?=true:=by
  intro k2 h
  by_cases ee:i=k2
  ·subst ee;rw[hx];rfl
  ·rw[List.getElem?_set_ne ee] at h;exact h
 refine⟨⟨I.ext.ff,fun c w q=>?_,fun c w q=>?_,I.ext.nw⟩,by simp[I.len],fun j=>?_,fun j k2 c hjk g1 g2 g3 g4=>?_,fun y hy=>?_,fun j l2 g1=>?_⟩
 ·rw[zaz (zaG q fb.1)];exact I.ext.hh c w q
 ·rw[zaz (zaG q fb.2)];exact I.ext.fh c w q
 ·by_cases ee:i=j
  ·subst ee
   rw[List.getElem?_set_self hi]
   exact⟨a,bs',t.at',t',fun c hc=>t.free c (sub' c hc)⟩
  ·rw[List.getElem?_set_ne ee]
   have w:=I.slot j
   cases q:δ[j]? with
   | none=>trivial
   | some y=>
    rw[q] at w
    cases y with
    | no=>trivial
    | v d=>exact w
    | o d=>obtain⟨c,w1,w2,w3,w4⟩:=w;exact⟨c,w1,w2,w3,w4.at (zaz (oth j c ee (by rw[q];rfl) w1))⟩
    | l d=>obtain⟨c,w1,w2,w3,w4⟩:=w;exact⟨c,w1,w2,w3,w4.at (zaz (oth j c ee (by rw[q];rfl) w1))⟩
    | p l2=>
     obtain⟨a',bs',u1,u2,u3⟩:=t.one j l2 (Ne.symm ee) q
     obtain⟨c,cs,w1,w2,w3⟩:=w
     rw[u1] at w1;cases w1
     have eb:=zhB w2 u2
     subst eb
     exact⟨_,cs,u1,u2.at' fun x hx=>zaz fun z=>u3 x hx (z ▸ hb),w3⟩
 ·exact I.dist j k2 c hjk (ow j g1) (ow k2 g2) g3 g4
 ·obtain⟨⟨d2,g1⟩,g2,g3⟩:=I.lent y hy
  have ne:i≠y.1:=by
   intro ee
   rw[← ee,hx] at g1
   cases g1
  exact⟨⟨d2,by rw[List.getElem?_set_ne ne];exact g1⟩,g2,by rw[zaz (oth y.1 y.2.1 ne (by rw[g1];rfl) g2)];exact g3⟩
 ·by_cases ee:i=j
  ·subst ee
   rw[List.getElem?_set_self hi] at g1;cases g1
   refine⟨a,bs',t.at',t',fun c hc=>t.free c (sub' c hc),fun k2 c hk ho hs hc=>?_,fun k2 l3 hk hT=>?_⟩
   ·exact t.dist k2 c hk (ow k2 ho) hs (sub' c hc)
   ·rw[List.getElem?_set_ne (Ne.symm hk)] at hT
    obtain⟨a',cs,u1,u2,u3⟩:=t.one k2 l3 hk hT
    exact⟨a',cs,u1,u2.at' fun x hx=>zaz fun z=>u3 x hx (z ▸ hb),fun x hx hx2=>u3 x hx (sub' x hx2)⟩
  ·rw[List.getElem?_set_ne ee] at g1
   obtain⟨a2,bs2,s1,s2,s3,s4,s5⟩:=I.tab g1
   obtain⟨a',cs,u1,u2,u3⟩:=t.one j l2 (Ne.symm ee) g1
   rw[u1] at s1;cases s1
   have eb:=zhB s2 u2
   subst eb
   refine⟨_,bs2,u1,u2.at' fun x hx=>zaz fun z=>u3 x hx (z ▸ hb),s3,fun k2 c hk ho hs hc=>s4 k2 c hk (ow k2 ho) hs hc,fun k2 l3 hk hT=>?_⟩
   by_cases e2:i=k2
   ·subst e2
    rw[List.getElem?_set_self hi] at hT;cases hT
    exact⟨a,bs',t.at',t',fun x hx hx2=>u3 x hx2 (sub' x hx)⟩
   ·rw[List.getElem?_set_ne e2] at hT
    obtain⟨a3,cs3,v1,v2,v3⟩:=s5 k2 l3 hk hT
    obtain⟨a4,cs4,x1,x2,x3⟩:=t.one k2 l3 (Ne.symm e2) hT
    rw[v1] at x1;cases x1
    have eb:=zhB v2 x2
    subst eb
    exact⟨_,cs3,v1,v2.at' fun x hx=>zaz fun z=>x3 x hx (z ▸ hb),v3⟩
def zp6 (i:Nat) (δ:En):O:=match δ[i]? with|some (.p T)=>.ro (trD T)|_=>.no
open Classical in
def ziJ (F H:Hp) (bs:List Addr):Hp:=fun b=>if b∈bs then H b else F b
mutual
theorem zqj {F1:Hp} (s:Same F F1):∀(T:Tr) {v:V} {fp:List Addr},TrOk K F H T v fp→(∀b∈fp,F1 b=H b)→Rep K F1 (trD T) v
 | .d x,v,fp,h,_=>by
  simp only[TrOk] at h
  simp only[trD]
  exact Rep.mono s x h.2
 | .l ts,v,fp,h,e=>by
  simp only[TrOk] at h
  obtain⟨a,vs,fs,rfl,h2,h3,h4⟩:=h
  subst h2
  simp only[trD,Rep]
  exact⟨a,vs,rfl,(e a (by simp)).trans h3,zhL s ts h4 fun b hb=>e b (List.mem_cons_of_mem _ hb)⟩
 | .t ts,v,fp,h,e=>by
  simp only[TrOk] at h
  obtain⟨a,vs,rfl,h3,h4⟩:=h
  simp only[trD,Rep]
  exact⟨a,vs,rfl,s _ _ h3,zhL s ts h4 e⟩
theorem zhL {F1:Hp} (s:Same F F1):∀(ts:List Tr) {vs:List V} {fp:List Addr},TrOkL K F H ts vs fp→(∀b∈fp,F1 b=H b)→RepL K F1 (trDL ts) vs
 | [],vs,fp,h,_=>by
  simp only[TrOkL] at h
  rw[h.1]
  simp only[trDL]
  exact .nil
 | t::ts,vs,fp,h,e=>by
  simp only[TrOkL] at h
  obtain⟨v,r,f1,f2,rfl,h2,h3,h4⟩:=h
  subst h2
  simp only[trDL]
  exact .cons (zqj s t h3 fun b hb=>e b (List.mem_append_left _ hb)) (zhL s ts h4 fun b hb=>e b (List.mem_append_right _ hb))
end
theorem zp4 {i:Nat}:SS K XO E (tRet (tVar i)) (zp6 i):=by
 intro Λ F0 H0 F H σ δ Dn I a
 unfold zp6 at a
 split at a
 ·rename_i T q
  obtain⟨p,bs,s1,s2,s3,_⟩:=I.tab q
  have nd:=List.nodup_cons.mp s2.nd
  have ff:Same F (ziJ F H bs):=fun b o h=>by
   unfold ziJ
   rw[if_neg fun z=>by rw[(s3 b (List.mem_cons_of_mem _ z)).2] at h;cases h]
   exact h
  have fh:Same (ziJ F H bs) H:=fun b o h=>by
   unfold ziJ at h
   split at h
   ·exact h
   ·exact I.same b o h
  have fp:ziJ F H bs p=none:=by
   unfold ziJ
   rw[if_neg nd.1]
   exact (s3 p (by simp)).2
  refine⟨_,s1,a p (ziJ F H bs) H ⟨I.ext.ff.trans ff,I.ext.hh,fh,fun b o h1 h2=>?_⟩ fp (s3 p (by simp)).1 ?_⟩
  ·unfold ziJ
   rw[if_neg fun z=>by rw[(s3 b (List.mem_cons_of_mem _ z)).1] at h2;cases h2]
   exact I.ext.nw b o h1 h2
  ·have ok:=s2.ok
   have hb:∀b∈bs,ziJ F H bs b=H b:=fun b hb=>by unfold ziJ;rw[if_pos hb]
   cases T with
   | d x=>simp only[TrOk] at ok;cases ok.1
   | t ts=>
    simp only[TrOk] at ok
    obtain⟨a',vs,h1,h2,_⟩:=ok
    cases h1
    rw[(s3 p (by simp)).2] at h2;cases h2
   | l ts=>
    simp only[TrOk] at ok
    obtain⟨a',vs,fs,h1,h2,h3,h4⟩:=ok
    cases h1;cases h2
    simp only[trD]
    exact⟨vs,h3,zhL ff ts h4 hb⟩
 ·exact a.elim
end
end PM
namespace L2
open PySem PySem.Spec PyProof.Rows
section
variable {X:Cx} {x:Str} {np hpos pos:Pos} {body:List Stmt} {b₀:Stmt} {suite:List Stmt} {D':Addr} {tb:(St→XK)→TS} {th:TS}
end
end L2
namespace PM
open PySem L2
section
variable {K:Kx} {E:L2.St→XK}
end
end PM
namespace PM
end PM
namespace L2
open PySem PySem.Spec PyProof.Rows
section
variable {prog:Program} {w:World} {A:Around} {E:Value→Shared→Prop} {s:Shared}
end
section
variable {prog:Program} {w:World} {A:Around} {R:Result→Shared→Prop} {I S:Addr} {fp wr:List Addr} {n:Nat} {P:Nat→Value→Prop} {St:Nat→Heap→Prop} {bt:Nat→Nat→Bool}
end
section
variable {prog:Program} {w:World} {A:Around} {E:Value→Shared→Prop} {s:Shared}
end
section
variable {X:Cx}
end
end L2
namespace PM
open PySem L2
section
variable {K:Kx}
end
end PM
namespace L2
open PySem PySem.Spec PyProof.Rows
section
variable {X:Cx}
end
end L2
namespace PM
open PySem L2
section
variable {K:Kx} {XO:XOT} {E:L2.St→XK}
end
end PM
namespace L2
open PySem PySem.Spec PyProof.Rows
section
variable {X:Cx} {a b c:Expr} {ta tb tc:TE} {pos:Pos}
def rAll:List V→Hp→VK→Prop:=fun xs H Q=>∃(p:Addr) (bs:List Bool),xs=[.ref p]∧Rd H p (.lst (bs.map V.bl))∧Q (.bl (bs.all id)) H
theorem zkI {bs:List Bool} {its:List Value} (rv:Vals (bs.map V.bl) its):its=bs.map Value.bool:=by
 induction bs generalizing its with
 | nil=>cases rv;rfl
 | cons a l ih=>
  cases rv with
  | cons h t=>
   have:_=Value.bool a:=h
   rw[this,ih t];rfl
theorem zkr:∀(bs:List Bool),((List.range bs.length).all fun i=>bs.getD i false)=bs.all id
 | []=>rfl
 | b::bs=>by
  rw[List.length_cons,List.range_succ_eq_map,List.all_cons,List.all_map,List.all_cons,← zkr bs]
  rfl
theorem znG (hc:X.calm=true):zhF X (.builtin "all") rAll:=by
 intro pins s σ H xs us Q I r h
 obtain⟨p,bs,rfl,hq,q⟩:=h
 obtain⟨u,rfl,rx⟩:=zkx r
 cases rx
 obtain⟨z,its,n,rv,e⟩:=hq.ok I.hok
 have ei:=zkI rv
 subst ei
 have isl:s.heap.IsList p (bs.map Value.bool).toArray:=⟨_,e,rfl,n,rfl⟩
 have plt:p<s.heap.objs.size:=Heap.lt_size e
 refine call_all_walk (wpAny_pyIter_list isl ?_)
 refine⟨s.heap.objs.size,[s.heap.objs.size,p],[s.heap.objs.size],(bs.map Value.bool).toArray.size,_,_,(fun i=>bs.getD i false),rfl,Walks.list (A:=X.A.in1) (I.ok.hd hc) s.heap.objs.size p (Nat.ne_of_lt plt) (bs.map Value.bool).toArray,⟨⟨_,Heap.get?_push_size _ rfl,rfl,rfl⟩,isl.push _⟩,?_,?_⟩
 ·intro i v s' Q' E' hi hQ
  have hi':(bs.map Value.bool).toArray[i]?=some v:=hi
  rw[List.getElem?_toArray,List.getElem?_map] at hi'
  cases z:bs[i]? with
  | none=>rw[z] at hi';cases hi'
  | some b=>
   rw[z] at hi'
   cases hi'
   refine wpAny_truthy_bool ?_
   have:bs.getD i false=b:=by rw[List.getD_eq_getElem?_getD,z];rfl
   have hQ':Q' (bs.getD i false) s':=hQ
   rw[this] at hQ'
   exact hQ'
 ·intro h' tk hk
  rw[List.size_toArray,List.length_map,zkr]
  refine⟨.bl _,H,I.kept (t':=tk) (fun b o eo=>hk b o (fun hm=>?_) (Heap.get?_push_of_some _ eo)),rfl,q⟩
  rw[List.mem_singleton.mp hm] at eo
  exact absurd (Heap.lt_size eo) (Nat.lt_irrefl _)
end
end L2
namespace PM
open PySem L2
section
variable {K:Kx} {XO:XOT} {E:L2.St→XK} {ta tb tc:TE} {ma mb mc:En→R D}
def asBs:List D→Option (List Bool)
 | []=>some []
 | .bl b::l=>(asBs l).map fun bs=>b::bs
 | _::_=>none
theorem zim:∀ {l:List D} {bs:List Bool},asBs l=some bs→l=bs.map .bl
 | [],_,h=>by cases h;rfl
 | d::l,bs,h=>by
  cases d with
  | bl b=>
   unfold asBs at h
   cases q:asBs l with
   | none=>rw[q] at h;cases h
   | some r=>rw[q] at h;cases h;rw[zim q];rfl
  | _=>unfold asBs at h;cases h
theorem zmu (bs:List Bool):asBs (bs.map .bl)=some bs:=by
 induction bs with
 | nil=>rfl
 | cons b bs ih=>simp[asBs,ih]
def fAll:List D→Option D
 | [.lst l]=>(asBs l).map fun bs=>.bl (bs.all id)
 | _=>none
theorem zg0 {F:Hp}:∀ {bs:List Bool} {vs:List V},RepL K F (bs.map .bl) vs→vs=bs.map V.bl
 | [],vs,h=>h
 | b::bs,vs,h=>by
  obtain⟨v,r,rfl,h1,h2⟩:=h
  have:v=.bl b:=h1
  rw[this,zg0 h2];rfl
theorem zrY:SC K rAll fAll:=by
 intro F H vs ds d Q s r e q
 unfold fAll at e
 split at e
 ·rename_i l
  cases q2:asBs l with
  | none=>rw[q2] at e;cases e
  | some bs=>
   rw[q2] at e
   cases e
   cases r with
   | cons r r'=>
    cases r'
    obtain⟨p,xs,rfl,h1,h2⟩:=r
    rw[zim q2] at h2
    have:=zg0 h2
    subst this
    exact⟨p,bs,rfl,h1,q _ F H (.refl s) (by simp only[Rep])⟩
 ·cases e
end
end PM
namespace L2
open PySem PySem.Spec PyProof.Rows
section
variable {X:Cx} {e st:Expr} {te ts:TE} {p2 pos:Pos}
end
end L2
namespace PM
open PySem L2
section
variable {K:Kx} {XO:XOT} {E:L2.St→XK} {te ts:TE} {me ms:En→R D}
end
end PM
namespace L2
open PySem PySem.Spec PyProof.Rows
section
variable {prog:Program} {w:World} {A:Around} {E:Value→Shared→Prop} {s:Shared}
end
section
variable {prog:Program} {w:World} {A:Around} {E:Value→Shared→Prop} {s:Shared}
end
section
variable {X:Cx} {l:Expr} {tl:TE}
end
end L2
namespace PM
open PySem L2
section
variable {K:Kx} {XO:XOT} {E:L2.St→XK} {te:TE} {me:En→R D}
end
end PM
namespace L2
open PySem PySem.Spec PyProof.Rows Builtin Builtin.ObjectAttr
section
variable {prog:Program} {w:World} {A:Around} {E:Value→Shared→Prop} {s:Shared} {K:PySem.W.Frag} {x C:Addr} {ox:Obj} {od:Option Obj} {name:Str} {tk:Tok} {v:Value} {R:Result→Shared→Prop}
end
section
variable {X:Cx} {o e value:Expr} {f:Str} {pos pos' tpos:Pos} {ta tv:TE}
end
section
variable {M:Model} {A:Around} {E:Value→Shared→Prop} {s:Shared} {B:Heap} {env:Env} {outer l:List Env} {L e:Addr} {Q:Unit→Shared→Prop}
end
section
variable {P:Program} {w:World} {K:PySem.W.Frag} {mg:Str→Option Value} {base:Heap} {N:List Str} {qual:Str} {scope:Scope} {f:Addr} {cd:Value} {A:Around} {outer:List Env} {s0:Shared} {H0:Hp} {E:XK}
end
section
variable {M:Model} {A:Around} {E:Value→Shared→Prop} {env:Env}
variable {nm q:Str} {C N:Addr} {bs bm:List Value} {hdct:Bool} {sn:List Str} {sub:List Value} {ab:Bool} {col:Option Bool} {dd:Option Addr} {k0 k1 k2 k3 k5:Option Value} {newId:String}
end
section
variable {P:Program} {w:World} {K:PySem.W.Frag} {mg:Str→Option Value} {base:Heap} {N:List Str} {qual:Str} {scope:Scope} {f:Addr} {cd:Value} {A:Around} {outer:List Env} {s0:Shared} {H0:Hp} {E:XK}
end
section
variable {X:Cx} {CX:CXT} {k:Nat} {fa:Addr} {fd:FuncData} {ps:List Str} {sp:Sp} {x:Str} {np cpos pos:Pos} {e₀:Expr} {rest:List Expr} {C:Addr} {bmB bmN:List Value} {newId Bn B nid inN initId:String} {E:St→XK} {t:TA}
end
end L2
namespace PM
open PySem L2
section
variable {X:Cx} {fa:Addr} {ps:List Str} {sp:Sp} {x:Str} {np cpos pos:Pos} {e₀:Expr} {rest:List Expr} {C:Addr} {bmB bmN:List Value} {newId Bn B nid inN initId:String} {E:L2.St→XK} {t:TA}
end
section
variable {K:Kx} {XO:XOT} {E:L2.St→XK} {ta:TE} {ma:En→R D} {Λ:List (Nat×Addr×HO)} {F0 H0 F H:Hp} {σ:L2.St} {δ:En}
end
end PM
namespace L2
open PySem PyProof.Rows
section
variable {N:Nat} {p:Array Nat}
end
section
variable {ky:Nat→Int} {N:Nat} {cmp:Nat→Nat→(Bool→Shared→Prop)→Shared→Prop}
end
end L2
namespace L2
open PySem PySem.Spec PyProof.Rows
section
variable {prog:Program} {w:World} {A:Around} {E:Value→Shared→Prop} {s:Shared}
end
section
variable {X:Cx} {pins:List (Addr×Obj)} {σ:St} {H:Hp} {s:Shared} {h':Heap}
end
end L2
namespace PM
open PySem L2
section
variable {K:Kx} {XO:XOT} {E:L2.St→XK}
end
end PM
namespace L2
open PySem PySem.Spec PyProof.Rows
section
variable {P:Program} {w:World} {K:PySem.W.Frag} {mg mb:Str→Option Value} {CX:CXT} {k:Nat} {fa a tP:Addr} {fd:FuncData} {x:Str} {sp:Sp} {s₁:Shared} {vs:List Value} {ns:List Int}
end
end L2
namespace L2
open PySem PySem.Spec PyProof.Rows
section
variable {X:Cx}
end
end L2
namespace PM
open PySem L2
section
variable {K:Kx} {XO:XOT} {E:L2.St→XK}
end
end PM
namespace PM
open PySem L2
section
variable {K:Kx}
end
end PM
namespace L2
open PySem PySem.Spec PyProof.Rows
section
variable {prog:Program} {w:World} {A:Around} {E:Value→Shared→Prop} {s:Shared}
end
end L2
namespace L2
open PySem PySem.Spec PyProof.Rows
section
variable {prog:Program} {w:World} {A:Around} {E:Value→Shared→Prop} {s:Shared}
end
section
variable {X:Cx} {pins:List (Addr×Obj)} {σ:St} {A:Around} {R:Result→Shared→Prop}
end
end L2
namespace PM
open PySem L2
section
variable {K:Kx} {XO:XOT} {E:L2.St→XK}
end
end PM
namespace L2
open PySem PySem.Spec PyProof.Rows
section
variable {X:Cx} {pins:List (Addr×Obj)} {σ:St} {H:Hp} {s:Shared} {a:Addr} {kvs:List (Key×V)}
end
section
variable {X:Cx}
end
end L2
namespace PM
open PySem L2
section
variable {K:Kx} {XO:XOT} {E:L2.St→XK}
end
end PM
namespace L2
open PySem PySem.Spec PyProof.Rows
section
variable {P:Program} {w:World} {K:PySem.W.Frag} {mg:Str→Option Value} {base:Heap} {CX:CXT} {k:Nat} {x:Str} {ps:List Str} {sp:Sp} {d:V}
end
section
variable {X:Cx} {CX:CXT} {k:Nat} {x:Str} {ps:List Str} {sp:Sp} {E:XK} {p pos:Pos} {a b:Expr} {ta tb:TE} {d:V}
end
section
variable {P:Program} {w:World} {K:PySem.W.Frag} {mg:Str→Option Value} {base:Heap} {d:V}
end
end L2
namespace PM
open PySem L2
section
variable {K:Kx} {F H:Hp}
end
section
variable {K:Kx} {XO:XOT} {E:L2.St→XK} {ta te:TE} {ma me:En→R D}
end
section
variable {K:Kx} {XO:XOT} {E:L2.St→XK} {F0 H0 F H:Hp} {σ:L2.St} {δ:En}
end
end PM
namespace L2
open PySem PySem.Spec PyProof.Rows
section
variable {prog:Program} {w:World} {A:Around} {E:Value→Shared→Prop} {s:Shared}
theorem zjW {it t:Addr} {i:Nat} {items:Array Value} {x:Value} {Q:Value→Shared→Prop} (hit:s.heap.IsTupleIter it t i) (ht:s.heap.IsTuple t items) (hx:items[i]?=some x)
  (hQ:∀h',h'.IsTupleIter it t (i+1)→Heap.SameBut it s.heap h'→Q x { s with heap:=h' }):wpAny (model prog w) A (Builtin.SmallTypes.nextOf (.ref it)) Q E s:=by
 obtain⟨o,ho,hc,hd⟩:=id hit
 obtain⟨ol,hol,_,nl,hdl⟩:=ht
 unfold Builtin.SmallTypes.nextOf
 refine wpAny_bind (wpAny_callSpecial?_slot (name:=Str.ofString "__next__") hit.typeIs F.slot_tuple_iterator_next (wpAny_call_entry F.slot_tuple_iterator_next hit.typeIs F.entry_tuple_iterator_next ?_ (F.args_tuple_iterator_next_1 _)))
 show wpAny _ A.in1 (field (.ref it) 0 >>= _) _ _ s
 refine wpAny_bind (wpAny_field ho hd (x:=.ref t) rfl ?_)
 show wpAny _ A.in1 (if (Value.ref t == Value.none)=true then _ else _) _ _ s
 rw[if_neg (fun z:(Value.ref t == Value.none)=true=>Bool.false_ne_true z)]
 show wpAny _ A.in1 (field (.ref it) 1 >>= _) _ _ s
 refine wpAny_bind (wpAny_field ho hd (x:=.int i 0) rfl ?_)
 show wpAny _ A.in1 (seqItems? (.ref t) >>= _) _ _ s
 refine wpAny_bind (wpAny_seqItems hol hdl ?_)
 simp only[Int.toNat_natCast,hx]
 refine wpAny_bind (wpAny_setField ho hd (by simp) (wpAny_pure ⟨x,rfl,wpAny_pure (hQ _ ⟨_,Heap.get?_update_self _ ho (Obj.isFreed_of_fields (Obj.data_mapFields hd _)),(Obj.cls_mapFields ..).trans hc,?_⟩ (Heap.SameBut.update ..))⟩))
 rw[Obj.data_mapFields hd]
 simp[rawInt]
theorem zj9 {it t:Addr} {i:Nat} {items:Array Value} {Q:Value→Shared→Prop} (hh:A.handled=none) (hit:s.heap.IsTupleIter it t i) (ht:s.heap.IsTuple t items) (hx:items[i]?=none)
  (hE:∀h' e,Heap.ExtBut it s.heap h'→(∃o,h'.get? e=some o∧o.cls=.type "StopIteration")→E (.ref e) { s with heap:=h' }):wpAny (model prog w) A (Builtin.SmallTypes.nextOf (.ref it)) Q E s:=by
 obtain⟨o,ho,hc,hd⟩:=id hit
 obtain⟨ol,hol,_,nl,hdl⟩:=ht
 unfold Builtin.SmallTypes.nextOf
 refine wpAny_bind (wpAny_callSpecial?_slot (name:=Str.ofString "__next__") hit.typeIs F.slot_tuple_iterator_next (wpAny_call_entry F.slot_tuple_iterator_next hit.typeIs F.entry_tuple_iterator_next ?_ (F.args_tuple_iterator_next_1 _)))
 show wpAny _ A.in1 (field (.ref it) 0 >>= _) _ _ s
 refine wpAny_bind (wpAny_field ho hd (x:=.ref t) rfl ?_)
 show wpAny _ A.in1 (if (Value.ref t == Value.none)=true then _ else _) _ _ s
 rw[if_neg (fun z:(Value.ref t == Value.none)=true=>Bool.false_ne_true z)]
 show wpAny _ A.in1 (field (.ref it) 1 >>= _) _ _ s
 refine wpAny_bind (wpAny_field ho hd (x:=.int i 0) rfl ?_)
 show wpAny _ A.in1 (seqItems? (.ref t) >>= _) _ _ s
 refine wpAny_bind (wpAny_seqItems hol hdl ?_)
 simp only[Int.toNat_natCast,hx]
 refine wpAny_bind (wpAny_rule (wpAny_bind (wpAny_setField ho hd (by simp) ?_)))
 show wpAny _ A.in1 (newExc (.type "StopIteration") [] >>= _) _ _ _
 refine wpAny_bind ?_
 simp only[newExc,newTuple]
 refine wpAny_bind (wpAny_newObj_type ?_ (by size_fits))
 refine wpAny_bind (m:=firstArgMember _ _) (wpAny_of_eq (a:=Value.none) (by first|rfl|(simp only[firstArgMember];rfl)) (wpAny_newObj_type ?_ (by size_fits)))
 simp only[raiseNew]
 refine wpAny_bind (wpAny_handled ?_)
 first|rw[show A.in1.handled=none from hh]|rw[hh]
 exact wpAny_bind (wpAny_pure (wpAny_throw (hE _ _ (((Heap.SameBut.update ..).extBut.push _).push _) ⟨_,Heap.get?_push_size _ rfl,rfl⟩)))
end
end L2
namespace L2
open PySem PySem.Spec PyProof.Rows
section
variable {X:Cx}
end
end L2
namespace PM
open PySem L2
section
variable {K:Kx} {XO:XOT} {E:L2.St→XK}
end
end PM
namespace L2
open PySem PySem.Spec PyProof.Rows
section
variable {X:Cx} {CX:CXT} {k:Nat} {x m:Str} {C:Addr} {ps:List Str} {sp:Sp} {E:XK} {p pos apos:Pos} {e o:Expr} {es:List Expr} {t:TA} {ta:TE}
end
end L2
namespace PM
open PySem L2
section
variable {K:Kx} {XO:XOT} {E:L2.St→XK} {F0 H0 F H:Hp} {σ:L2.St} {δ:En}
end
end PM
namespace PM
open PySem L2
section
variable {K:Kx} {XO:XOT} {E:L2.St→XK} {F0 H0 F H F1 H1 F' H':Hp}
end
end PM
namespace L2
open PySem PySem.Spec PyProof.Rows
section
variable {P:Program} {w:World} {K:PySem.W.Frag} {mg:Str→Option Value} {base:Heap} {CX:CXT} {k:Nat} {x m qual:Str} {C:Addr} {st:Stmt} {f:Addr} {fd:FuncData} {ps:List Str} {sp:Sp}
end
end L2
namespace L2
open PySem PySem.Spec PyProof.Rows
section
variable {X:Cx} {CX:CXT} {k:Nat} {x:Str} {C:Addr} {ps:List Str} {sp:Sp} {E:St→XK} {p pos:Pos} {e:Expr} {es:List Expr} {t:TA}
end
end L2
namespace PM
open PySem L2
section
variable {K:Kx} {XO:XOT} {E:L2.St→XK} {F0 H0 F H F1 H1 F' H':Hp}
end
end PM
namespace L2
open PySem PySem.Spec PyProof.Rows
section
variable {prog:Program} {w:World} {A:Around} {E:Value→Shared→Prop} {s:Shared}
end
section
variable {X:Cx}
end
end L2
namespace PM
open PySem L2
section
variable {K:Kx} {XO:XOT} {E:L2.St→XK}
end
end PM
namespace L2
open PySem PySem.Spec PyProof.Rows
section
variable {prog:Program} {w:World} {A:Around} {E:Value→Shared→Prop} {s:Shared}
end
section
variable {X:Cx}
end
end L2
namespace PM
open PySem L2
section
variable {K:Kx} {XO:XOT} {E:L2.St→XK}
end
end PM
namespace L2
open PySem PySem.Spec PyProof.Rows
end L2
namespace L2
open PySem PySem.Spec PyProof.Rows
section
variable {prog:Program} {w:World} {K:Type} [DecidableEq K] {knd:KeyKind prog w K} {A:Around} {E:Value→Shared→Prop} {s:Shared}
end
section
variable {prog:Program} {w:World} {K:Type} [DecidableEq K] {knd:KeyKind prog w K} {A:Around} {E:Value→Shared→Prop} {s:Shared}
end
section
variable {prog:Program} {w:World} {K:Type} [DecidableEq K] {knd:KeyKind prog w K} {A:Around} {E:Value→Shared→Prop} {s:Shared}
end
end L2
namespace L2
open PySem PySem.Spec PyProof.Rows
section
variable {X:Cx}
end
end L2
namespace PM
open PySem L2
section
variable {K:Kx} {XO:XOT} {E:L2.St→XK}
end
end PM
namespace PM
open PySem L2
section
variable {K:Kx} {XO:XOT} {E:St→XK} {ta tb te:TE} {ma mb me:En→R D} {t u:TS} {m n:En→O} {Λ:List (Nat×Addr×HO)} {F0 H0 F H F' H' F1 H1:Hp} {σ:St} {δ:En} {Dn:Ends}
theorem leaf_iff:∀ {l:List D} {vs:List V} {fp:List Addr},TrOkL K F H (l.map .d) vs fp↔RepL K F l vs∧fp=[]
 | [],vs,fp=>by simp only[List.map_nil,TrOkL,RepL]
 | d::l,vs,fp=>by
  simp only[List.map_cons,TrOkL,TrOk,RepL]
  constructor
  ·rintro⟨v,r,f1,f2,rfl,rfl,⟨rfl,h1⟩,h2⟩
   obtain⟨h3,rfl⟩:=leaf_iff.mp h2
   exact⟨⟨v,r,rfl,h1,h3⟩,rfl⟩
  ·rintro⟨⟨v,r,rfl,h1,h3⟩,rfl⟩
   exact⟨v,r,[],[],rfl,rfl,⟨rfl,h1⟩,leaf_iff.mpr ⟨h3,rfl⟩⟩
theorem TrOkL.append:∀ {ts:List Tr} {vs:List V} {f1:List Addr} {us:List Tr} {ws:List V} {f2:List Addr},TrOkL K F H ts vs f1→TrOkL K F H us ws f2→TrOkL K F H (ts++us) (vs++ws) (f1++f2)
 | [],vs,f1,us,ws,f2,h,h'=>by
  simp only[TrOkL] at h
  obtain⟨rfl,rfl⟩:=h
  exact h'
 | t::ts,vs,f1,us,ws,f2,h,h'=>by
  simp only[TrOkL] at h
  obtain⟨v,r,g1,g2,rfl,rfl,h3,h4⟩:=h
  simp only[List.cons_append,TrOkL]
  exact⟨v,r++ws,g1,g2++f2,rfl,by rw[List.append_assoc],h3,TrOkL.append h4 h'⟩
theorem TrOkL.length:∀ {ts:List Tr} {vs:List V} {fp:List Addr},TrOkL K F H ts vs fp→vs.length=ts.length
 | [],vs,fp,h=>by simp only[TrOkL] at h;rw[h.1];rfl
 | t::ts,vs,fp,h=>by
  simp only[TrOkL] at h
  obtain⟨v,r,g1,g2,rfl,rfl,h3,h4⟩:=h
  simp[TrOkL.length h4]
theorem TrOkL.focus:∀ {ts:List Tr} {vs:List V} {fp:List Addr} {k:Nat} {t:Tr},TrOkL K F H ts vs fp→ts[k]?=some t→∃v f0 f1 f2,vs[k]?=some v∧fp=f0++(f1++f2)∧TrOk K F H t v f1∧∀(H':Hp) (t':Tr) (v':V) (f1':List Addr),(∀b∈f0++f2,H' b=H b)→TrOk K F H' t' v' f1'→TrOkL K F H' (ts.set k t') (vs.set k v') (f0++(f1'++f2))
 | [],vs,fp,k,t,h,e=>by simp at e
 | x::ts,vs,fp,0,t,h,e=>by
  simp only[TrOkL] at h
  obtain⟨v,r,g1,g2,rfl,rfl,h3,h4⟩:=h
  simp at e;subst e
  refine⟨v,[],g1,g2,rfl,rfl,h3,fun H' t' v' f1' hb h'=>?_⟩
  simp only[List.set_cons_zero,List.nil_append,TrOkL]
  exact⟨v',r,f1',g2,rfl,rfl,h',TrOkL.at' ts h4 fun b hb'=>hb b (by simpa using hb')⟩
 | x::ts,vs,fp,k+1,t,h,e=>by
  simp only[TrOkL] at h
  obtain⟨v,r,g1,g2,rfl,rfl,h3,h4⟩:=h
  obtain⟨w,f0,f1,f2,i1,rfl,i3,i4⟩:=TrOkL.focus (k:=k) (t:=t) h4 (by simpa using e)
  refine⟨w,g1++f0,f1,f2,by simpa using i1,by rw[List.append_assoc],i3,fun H' t' v' f1' hb h'=>?_⟩
  simp only[List.set_cons_succ,TrOkL]
  exact⟨v,_,g1,_,rfl,by rw[List.append_assoc],TrOk.at' x h3 fun b hb'=>hb b (by simp[hb']),i4 H' t' v' f1' (fun b hb'=>hb b (by rcases List.mem_append.mp hb' with z|z <;> simp[z])) h'⟩
theorem EnvOk.chgG {i:Nat} {T T':Tr} {a c:Addr} {bs':List Addr} {u:HO} (I:EnvOk K Λ F0 H0 F H σ δ) (hx:δ[i]?=some (.p T)) (ha:σ[i]?=some (some (.ref a))) (one:∀(j:Nat) (T':Tr),j≠i→δ[j]?=some (.p T')→∃a' bs2,σ[j]?=some (some (.ref a'))∧Tab K F H a' bs2 T'∧∀b∈a'::bs2,b∉a::bs'∧b≠c)
  (hc:H0 c=none∧F c=none) (oc:∀j:Nat,j≠i→Sl.own δ[j]?=true→σ[j]?≠some (some (.ref c))) (t':Tab K F (upd H c u) a bs' T') (fr:∀b∈a::bs',H0 b=none∧F b=none)
  (dj:∀(j:Nat) (b:Addr),j≠i→Sl.own δ[j]?=true→σ[j]?=some (some (.ref b))→b∉a::bs'):EnvOk K Λ F0 H0 F (upd H c u) σ (δ.set i (.p T')):=by
 have hi:i<δ.length:=(List.getElem?_eq_some_iff.mp hx).1
 have oth:∀(j:Nat) (b:Addr),i≠j→Sl.own δ[j]?=true→σ[j]?=some (some (.ref b))→b≠c:=fun j b hj ho hs ee=>oc j (Ne.symm hj) ho (by rw[← ee];exact hs)
 have ow:∀k2:Nat,Sl.own (δ.set i (.p T'))[k2]?=true→Sl.own δ[k2]?=true:=by
  intro k2 h
  by_cases ee:i=k2
  ·subst ee;rw[hx];rfl
  ·rw[List.getElem?_set_ne ee] at h;exact h
 refine⟨⟨I.ext.ff,fun b w q=>?_,fun b w q=>?_,I.ext.nw⟩,by simp[I.len],fun j=>?_,fun j k2 b hjk g1 g2 g3 g4=>?_,fun y hy=>?_,fun j l2 g1=>?_⟩
 ·rw[zaz (zaG q hc.1)];exact I.ext.hh b w q
 ·rw[zaz (zaG q hc.2)];exact I.ext.fh b w q
 ·by_cases ee:i=j
  ·subst ee
   rw[List.getElem?_set_self hi]
   exact⟨a,bs',ha,t',fr⟩
  ·rw[List.getElem?_set_ne ee]
   have w:=I.slot j
   cases q:δ[j]? with
   | none=>trivial
   | some y=>
    rw[q] at w
    cases y with
    | no=>trivial
    | v d=>exact w
    | o d=>obtain⟨b,w1,w2,w3,w4⟩:=w;exact⟨b,w1,w2,w3,w4.at (zaz (oth j b ee (by rw[q];rfl) w1))⟩
    | l d=>obtain⟨b,w1,w2,w3,w4⟩:=w;exact⟨b,w1,w2,w3,w4.at (zaz (oth j b ee (by rw[q];rfl) w1))⟩
    | p l2=>
     obtain⟨a',bs2,u1,u2,u3⟩:=one j l2 (Ne.symm ee) q
     obtain⟨x,xs,w1,w2,w3⟩:=w
     rw[u1] at w1;cases w1
     have eb:=zhB w2 u2
     subst eb
     exact⟨_,xs,u1,u2.at' fun y hy=>zaz (u3 y hy).2,w3⟩
 ·exact I.dist j k2 b hjk (ow j g1) (ow k2 g2) g3 g4
 ·obtain⟨⟨d2,g1⟩,g2,g3⟩:=I.lent y hy
  have ne:i≠y.1:=by
   intro ee
   rw[← ee,hx] at g1
   cases g1
  exact⟨⟨d2,by rw[List.getElem?_set_ne ne];exact g1⟩,g2,by rw[zaz (oth y.1 y.2.1 ne (by rw[g1];rfl) g2)];exact g3⟩
 ·by_cases ee:i=j
  ·subst ee
   rw[List.getElem?_set_self hi] at g1;cases g1
   refine⟨a,bs',ha,t',fr,fun k2 b hk ho hs hb=>dj k2 b hk (ow k2 ho) hs hb,fun k2 l3 hk hT=>?_⟩
   rw[List.getElem?_set_ne (Ne.symm hk)] at hT
   obtain⟨a',cs,u1,u2,u3⟩:=one k2 l3 hk hT
   exact⟨a',cs,u1,u2.at' fun x hx=>zaz (u3 x hx).2,fun x hx=>(u3 x hx).1⟩
  ·rw[List.getElem?_set_ne ee] at g1
   obtain⟨a2,bs2,s1,s2,s3,s4,s5⟩:=I.tab g1
   obtain⟨a',cs,u1,u2,u3⟩:=one j l2 (Ne.symm ee) g1
   rw[u1] at s1;cases s1
   have eb:=zhB s2 u2
   subst eb
   refine⟨_,bs2,u1,u2.at' fun x hx=>zaz (u3 x hx).2,s3,fun k2 b hk ho hs hb=>s4 k2 b hk (ow k2 ho) hs hb,fun k2 l3 hk hT=>?_⟩
   by_cases e2:i=k2
   ·subst e2
    rw[List.getElem?_set_self hi] at hT;cases hT
    exact⟨a,bs',ha,t',fun x hx hx2=>(u3 x hx2).1 hx⟩
   ·rw[List.getElem?_set_ne e2] at hT
    obtain⟨a3,cs3,v1,v2,v3⟩:=s5 k2 l3 hk hT
    obtain⟨a4,cs4,x1,x2,x3⟩:=one k2 l3 (Ne.symm e2) hT
    rw[v1] at x1;cases x1
    have eb:=zhB v2 x2
    subst eb
    exact⟨_,cs3,v1,v2.at' fun x hx=>zaz (x3 x hx).2,v3⟩
def zoP (me:En→R D) (i:Nat) (δ:En):O:=(me δ).toO δ fun d=>match d with
 | .lst l=>(match δ[i]? with
  | none=>.no
  | some (.l _)=>.no
  | some _=>if zmU i δ=true then .nx (δ.set i (.p (.l (l.map .d)))) else .no)
 | _=>.no
theorem zp2 {i:Nat} (h:SEo K XO E te me):SS K XO E (tAsg te (ziP i)) (zoP me i):=by
 intro Λ F0 H0 F H σ δ Dn I a
 refine h Λ F0 H0 F H σ δ _ I ((AftS.of I a).imp fun d F1 H1 e c p p0 p1 po=>?_)
 cases d with
 | lst l=>
  dsimp only at c
  obtain⟨vs,o1,o2⟩:=po
  have tt:Tab K F1 H1 p [] (.l (l.map .d)):=by
   refine⟨?_,by simp⟩
   simp only[TrOk]
   exact⟨p,vs,[],rfl,rfl,o1,leaf_iff.mpr ⟨o2,rfl⟩⟩
  cases q:δ[i]? with
  | none=>simp only[q] at c;exact c.elim
  | some x=>
   simp only[q] at c
   cases x with
   | l d=>exact c.elim
   | no|v d|o d|p l2=>
    dsimp only at c
    split at c
    ·rename_i hn
     exact c _ F1 H1 (I.putP ⟨_,q,fun d z=>by cases z⟩ e tt fun b hb=>by
      rw[List.mem_singleton.mp hb];exact⟨p0,p1⟩)
    ·exact c.elim
 | _=>exact c.elim
theorem EnvOk.dropO {j:Nat} {d:D} (I:EnvOk K Λ F0 H0 F H σ δ) (hj:δ[j]?=some (.o d)):EnvOk K Λ F0 H0 F H σ (δ.set j .no):=by
 have hi:j<δ.length:=(List.getElem?_eq_some_iff.mp hj).1
 refine EnvOk.weakL ⟨by simp,fun k=>?_⟩ (fun x hx=>?_) I
 ·by_cases e:j=k
  ·subst e;exact .inl (List.getElem?_set_self hi)
  ·exact .inr (List.getElem?_set_ne e)
 ·obtain⟨⟨d',h1⟩,_⟩:=I.lent x hx
  have n:j≠x.1:=fun e=>by rw[← e,hj] at h1;cases h1
  exact⟨d',by rw[List.getElem?_set_ne n];exact h1⟩
def zoZ (i j:Nat) (me:En→R D) (δ:En):O:=match δ[i]?,δ[j]? with
 | some (.p (.l ts)),some (.o (.lst l))=>(me δ).toO δ fun d=>ifC (ts.length<sizeLine) (.nx ((δ.set j .no).set i (.p (.l (ts++[.t [.d d,.l (l.map .d)]]))))) .no
 | _,_=>.no
theorem zqm {i j:Nat} (h:SE K XO E te me):SS K XO E (zkv (tBM K.f "list" zhg (tVar i) (zd3 (tTup (zd3 te (zd3 (tVar j) tNil))) tNil))) (zoZ i j me):=by
 intro Λ F0 H0 F H σ δ Dn I a
 unfold zoZ at a
 split at a
 ·rename_i ts l q1 q2
  obtain⟨p,bs,tt⟩:=I.tabAt q1
  have ok:=tt.tab.ok
  simp only[TrOk] at ok
  obtain⟨p',vs,fs,e1,e2,hp,hL⟩:=ok
  cases e1;cases e2
  have z:=I.slot j
  rw[q2] at z
  obtain⟨b,b1,b2,b3,ws,b4,b5⟩:=z
  have hij:j≠i:=fun e=>by rw[e,q1] at q2;cases q2
  have bn:b∉p::bs:=tt.dist j b hij (by rw[q2];rfl) b1
  refine⟨_,tt.at',.inl ⟨rfl,vs,.inl (.inl hp)⟩,?_⟩
  refine h Λ F0 H0 F H σ δ _ I ((AftS.of I a).imp fun d G K1 e c v rv=>⟨_,b1,by simp[sizeLine],fun c' hc'=>?_⟩)
  unfold ifC at c
  split at c
  case isFalse=>exact c.elim
  rename_i hl
  have x2:Ext G K1 (upd G c' (.tup [v,.ref b])) (upd K1 c' (.tup [v,.ref b])):=.new e.fh hc'
  have I2:=(I.grow e).grow x2
  have t2:=(tt.grow e).grow x2
  have hp1:K1 p=some (.lst vs):=e.hh _ _ hp
  have pc:p≠c':=zaG hp1 hc'
  have hb1:K1 b=some (.lst ws):=e.hh _ _ b4
  have bc:b≠c':=zaG hb1 hc'
  have bp:b≠p:=fun z=>bn (by rw[z];simp)
  refine⟨p,vs,.ref c',rfl,rfl,by rw[zaz pc];exact hp1,by rw[hL.length];exact hl,?_⟩
  have nd:=List.nodup_cons.mp tt.tab.nd
  have J:=I2.dropO q2
  have f2:∀x∈p::(bs++[b]),H0 x=none∧upd G c' (.tup [v,.ref b]) x=none:=fun x hx=>by
   have:x∈p::bs∨x=b:=by
    rcases List.mem_cons.mp hx with z|z
    ·exact .inl (by rw[z];simp)
    ·rcases List.mem_append.mp z with z|z
     ·exact .inl (List.mem_cons_of_mem _ z)
     ·exact .inr (List.mem_singleton.mp z)
   rcases this with z|z
   ·exact t2.free x z
   ·subst z
    exact⟨b2,by rw[zaz bc];exact e.nw _ _ b3 b4⟩
  refine c σ _ _ (J.chgG (i:=i) (T:=.l ts) (c:=p) (a:=p) (bs':=bs++[b]) (by rw[List.getElem?_set_ne hij];exact q1) tt.at' (fun k T' hki hk=>?_) (f2 p (by simp)) (fun k hk ho hs=>?_) ⟨?_,?_⟩ f2 fun k x hk ho hs hx=>?_)
  ·by_cases ee:j=k
   ·subst ee;rw[List.getElem?_set_self (List.getElem?_eq_some_iff.mp q2).1] at hk;cases hk
   ·rw[List.getElem?_set_ne ee] at hk
    obtain⟨a',cs,u1,u2,u3⟩:=t2.one k T' hki hk
    obtain⟨a3,cs3,v1,v2,_,v4,_⟩:=I2.tab hk
    rw[u1] at v1;cases v1
    have eb:=zhB v2 u2
    subst eb
    refine⟨_,cs3,u1,u2,fun x hx=>⟨fun hx2=>?_,fun z=>u3 x hx (by rw[z];simp)⟩⟩
    rw[← List.cons_append] at hx2
    rcases List.mem_append.mp hx2 with z|z
    ·exact u3 x hx z
    ·rw[List.mem_singleton.mp z] at hx
     exact v4 j b ee (by rw[q2];rfl) b1 hx
  ·have ee:j≠k:=fun ee=>by subst ee;rw[List.getElem?_set_self (List.getElem?_eq_some_iff.mp q2).1] at ho;cases ho
   rw[List.getElem?_set_ne ee] at ho
   exact tt.dist k p hk ho hs (by simp)
  ·simp only[TrOk]
   refine⟨p,vs++[.ref c'],bs++[b],rfl,rfl,zaX,TrOkL.append ?_ ?_⟩
   ·refine TrOkL.at' ts (TrOkL.mono (e.ff.trans x2.ff) (e.hh.trans x2.hh) ts hL) fun x hx=>zaz fun z=>nd.1 (z ▸ hx)
   ·simp only[TrOkL,TrOk]
    refine⟨.ref c',[],[b],[],rfl,rfl,⟨c',[v,.ref b],rfl,zaX,v,[.ref b],[],[b],rfl,rfl,⟨rfl,Rep.mono x2.ff d rv⟩,.ref b,[],[b],[],rfl,rfl,⟨b,ws,[],rfl,rfl,?_,leaf_iff.mpr ⟨b5.mono (e.ff.trans x2.ff),rfl⟩⟩,rfl,rfl⟩,rfl,rfl⟩
    rw[zaz bp,zaz bc];exact hb1
  ·rw[← List.cons_append,List.nodup_append]
   exact⟨tt.tab.nd,by simp,fun x hx y hy ee=>bn (by rw[← List.mem_singleton.mp hy,← ee];exact hx)⟩
  ·have ee:j≠k:=fun ee=>by subst ee;rw[List.getElem?_set_self (List.getElem?_eq_some_iff.mp q2).1] at ho;cases ho
   rw[List.getElem?_set_ne ee] at ho
   rw[← List.cons_append] at hx
   rcases List.mem_append.mp hx with z|z
   ·exact tt.dist k x hk ho hs z
   ·rw[List.mem_singleton.mp z] at hs
    exact I.dist j k b ee (by rw[q2];rfl) ho b1 hs
 ·exact a.elim
end
end PM
namespace PM
open PySem L2
section
variable {K:Kx} {XO:XOT} {E:St→XK} {ta tb te:TE} {ma mb me:En→R D} {t u:TS} {m n:En→O} {Λ:List (Nat×Addr×HO)} {F0 H0 F H F' H' F1 H1:Hp} {σ:St} {δ:En} {Dn:Ends}
theorem zjC {α:Type}:∀ {l:List α} {i:Nat} {x:α},l[i]?=some x→l.set i x=l
 | [],i,x,h=>by simp at h
 | y::l,0,x,h=>by simp at h;rw[List.set_cons_zero,h]
 | y::l,i+1,x,h=>by rw[List.set_cons_succ,zjC (by simpa using h)]
def zkC (i:Nat) (mk mn me:En→R D) (δ:En):O:=match δ[i]? with
 | some (.p (.l ts))=>(mk δ).toO δ fun k=>(match k with
  | .int k=>(match ixN ts.length k with
   | some k'=>(match ts[k']? with
    | some (.t us)=>(mn δ).toO δ fun n=>(match n with
     | .int n=>(match ixN us.length n with
      | some n'=>(match us[n']? with
       | some (.l ws)=>(me δ).toO δ fun d=>ifC (ws.length<sizeLine) (.nx (δ.set i (.p (.l (ts.set k' (.t (us.set n' (.l (ws++[.d d]))))))))) .no
       | _=>.no)
      | none=>.no)
     | _=>.no)
    | _=>.no)
   | none=>.no)
  | _=>.no)
 | _=>.no
theorem zqw {p q:Addr} {bs:List Addr} {ts us ws:List Tr} {vs uvs wvs:List V} {tA:Addr} {k n:Nat} {d:D} {v:V} (tt:Tab K F H p bs (.l ts)) (hp:H p=some (.lst vs)) (zt:ts[k]?=some (.t us)) (zv:vs[k]?=some (.ref tA)) (zA:F tA=some (.tup uvs)) (zu:us[n]?=some (.l ws)) (zw:uvs[n]?=some (.ref q)) (hq:H q=some (.lst wvs)) (rv:Rep K F d v) :
  q∈bs∧Tab K F (upd H q (.lst (wvs++[v]))) p bs (.l (ts.set k (.t (us.set n (.l (ws++[.d d])))))):=by
 have ok:=tt.ok
 simp only[TrOk] at ok
 obtain⟨p',vs',fs,e1,e2,hp',hL⟩:=ok
 cases e1;cases e2
 rw[hp] at hp';cases hp'
 obtain⟨v1,f0,f1,f2,g1,g2,g3,g4⟩:=hL.focus zt
 rw[zv] at g1;cases g1
 simp only[TrOk] at g3
 obtain⟨a1,uvs',e3,g5,hU⟩:=g3
 cases e3
 rw[zA] at g5;cases g5
 obtain⟨w1,h0,hm,h2,i1,i2,i3,i4⟩:=hU.focus zu
 rw[zw] at i1;cases i1
 simp only[TrOk] at i3
 obtain⟨q',wvs',ffs,e4,i5,i6,hW⟩:=i3
 cases e4
 rw[hq] at i6;cases i6
 subst i5 i2 g2
 have nd:=tt.nd
 have qm:q∈f0++(h0++(q::ffs++h2)++f2):=by simp
 have nd2:=List.nodup_cons.mp nd
 have pq:p≠q:=fun e=>nd2.1 (e ▸ qm)
 have nA:=List.nodup_append.mp nd2.2
 have nB:=List.nodup_append.mp nA.2.1
 have nC:=List.nodup_append.mp nB.1
 have nD:=List.nodup_append.mp nC.2.1
 have q1:q∈h0++(q::ffs++h2):=by simp
 have q2:q∈q::ffs++h2:=by simp
 have x0:∀b∈f0++f2,b≠q:=fun b hb e=>by
  rcases List.mem_append.mp hb with z|z
  ·exact nA.2.2 b z q (List.mem_append_left _ q1) e
  ·exact nB.2.2 q q1 b z e.symm
 have x1:∀b∈h0++h2,b≠q:=fun b hb e=>by
  rcases List.mem_append.mp hb with z|z
  ·exact nC.2.2 b z q q2 e
  ·exact nD.2.2 q (by simp) b z e.symm
 have x2:q∉ffs:=(List.nodup_cons.mp nD.1).1
 refine⟨qm,?_,nd⟩
 have s1:TrOk K F (upd H q (.lst (wvs++[v]))) (.l (ws++[.d d])) (.ref q) (q::ffs):=by
  simp only[TrOk]
  refine⟨q,wvs++[v],ffs,rfl,rfl,zaX,?_⟩
  have:=TrOkL.append (TrOkL.at' (H':=upd H q (.lst (wvs++[v]))) ws hW fun b hb=>zaz fun e=>x2 (e ▸ hb)) (us:=[.d d]) (ws:=[v]) (f2:=[]) (by simp only[TrOkL,TrOk];exact⟨v,[],[],[],rfl,rfl,⟨rfl,rv⟩,rfl,rfl⟩)
  rwa [List.append_nil] at this
 have s2:=i4 _ _ _ _ (fun b hb=>zaz (x1 b hb)) s1
 rw[zjC zw] at s2
 have s3:TrOk K F (upd H q (.lst (wvs++[v]))) (.t (us.set n (.l (ws++[.d d])))) (.ref tA) (h0++(q::ffs++h2)):=by
  simp only[TrOk]
  exact⟨tA,uvs,rfl,zA,s2⟩
 have s4:=g4 _ _ _ _ (fun b hb=>zaz (x0 b hb)) s3
 rw[zjC zv] at s4
 simp only[TrOk]
 exact⟨p,vs,_,rfl,rfl,by rw[zaz pq];exact hp,s4⟩
theorem zo9 {i:Nat} {tk tn:TE} {mk mn:En→R D} (h1:SE K XO E tk mk) (h2:SE K XO E tn mn) (h:SE K XO E te me):SS K XO E (zkv (tBM K.f "list" zhg (tOp (rIxT K.f) (tOp (rIxL K.f) (tVar i) tk) tn) (zd3 te tNil))) (zkC i mk mn me):=by
 intro Λ F0 H0 F H σ δ Dn I a
 unfold zkC at a
 split at a
 ·rename_i ts q
  obtain⟨p,bs,tt⟩:=I.tabAt q
  have ok:=tt.tab.ok
  simp only[TrOk] at ok
  obtain⟨p',vs,fs,e1,e2,hp,hL⟩:=ok
  cases e1;cases e2
  refine⟨_,tt.at',h1 Λ F0 H0 F H σ δ _ I ((AftS.of I a).imp fun k G1 K1 x1 c1 y ry=>?_)⟩
  split at c1
  case h_2=>exact c1.elim
  rename_i k
  simp only[Rep] at ry
  subst ry
  cases z:ixN ts.length k with
  | none=>rw[z] at c1;exact c1.elim
  | some k'=>
  rw[z] at c1
  dsimp only at c1
  split at c1
  case h_2=>exact c1.elim
  rename_i us zt
  obtain⟨v,f0,f1,f2,g1,g2,g3,_⟩:=hL.focus zt
  simp only[TrOk] at g3
  obtain⟨tA,uvs,rfl,g5,hU⟩:=g3
  refine⟨p,vs,k,.ref tA,rfl,rfl,.inl (.inl (x1.hh _ _ hp)),?_,?_⟩
  ·unfold atI
   rw[hL.length,z]
   exact g1
  have I1:=I.grow x1
  refine h2 Λ F0 H0 G1 K1 σ δ _ I1 ((AftS.of I1 c1).imp fun n G2 K2 x2 c2 y2 ry2=>?_)
  split at c2
  case h_2=>exact c2.elim
  rename_i n
  simp only[Rep] at ry2
  subst ry2
  cases zn:ixN us.length n with
  | none=>rw[zn] at c2;exact c2.elim
  | some n'=>
  rw[zn] at c2
  dsimp only at c2
  split at c2
  case h_2=>exact c2.elim
  rename_i ws zu
  obtain⟨w,h0,hm,h2',i1,i2,i3,_⟩:=hU.focus zu
  simp only[TrOk] at i3
  obtain⟨r,wvs,ffs,rfl,i5,i6,hW⟩:=i3
  have I2:=I1.grow x2
  have x12:=x1.trans x2
  refine⟨tA,uvs,n,.ref r,rfl,rfl,.inl (.inl (x12.fh _ _ (x12.ff _ _ g5))),?_,.inl ⟨rfl,wvs,.inl (.inl (x12.hh _ _ i6))⟩,?_⟩
  ·unfold atI
   rw[hU.length,zn]
   exact i1
  refine h Λ F0 H0 G2 K2 σ δ _ I2 ((AftS.of I2 c2).imp fun d G3 K3 x3 c3 y3 ry3=>?_)
  unfold ifC at c3
  split at c3
  case isFalse=>exact c3.elim
  rename_i hl
  have x13:=x12.trans x3
  have t3:=tt.grow x13
  obtain⟨m1,m2⟩:=zqw (d:=d) (v:=y3) t3.tab (x13.hh _ _ hp) zt g1 (x13.ff _ _ g5) zu i1 (x13.hh _ _ i6) ry3
  exact⟨r,wvs,y3,rfl,rfl,x13.hh _ _ i6,by rw[hW.length];exact hl,c3 σ G3 _ ((I.grow x13).chgT t3 (List.mem_cons_of_mem _ m1) m2 fun c hc=>hc)⟩
 ·exact a.elim
end
end PM
namespace PM
open PySem L2
section
variable {K:Kx} {XO:XOT} {E:St→XK} {ta tb te to:TE} {ma mb me mo:En→R D} {t u:TS} {m n:En→O} {Λ:List (Nat×Addr×HO)} {F0 H0 F H F' H' F1 H1:Hp} {σ:St} {δ:En} {Dn:Ends}
theorem EnvOk.ownObj (I:EnvOk K Λ F0 H0 F H σ δ) {k:Nat} {b:Addr} (ho:Sl.own δ[k]?=true) (hs:σ[k]?=some (some (.ref b))):∃o,H b=some o:=by
 have z:=I.slot k
 cases q:δ[k]? with
 | none=>rw[q] at ho;cases ho
 | some y=>
  rw[q] at ho z
  cases y with
  | no=>cases ho
  | v d=>cases ho
  | o d=>obtain⟨c,z1,_,_,z4⟩:=z;rw[hs] at z1;cases z1;exact z4.obj
  | l d=>obtain⟨c,z1,_,_,z4⟩:=z;rw[hs] at z1;cases z1;exact z4.obj
  | p T=>obtain⟨c,bs,z1,z2,_⟩:=z;rw[hs] at z1;cases z1;exact z2.obj b (by simp)
def zkD (i:Nat) (me mo:En→R D) (δ:En):O:=match δ[i]? with
 | some (.p (.l ts))=>(me δ).toO δ fun d=>(mo δ).toO δ fun o=>(match o with
  | .lst l=>ifC (ts.length<sizeLine) (.nx (δ.set i (.p (.l (ts++[.t [.d d,.l (l.map .d)]]))))) .no
  | _=>.no)
 | _=>.no
theorem zoO {i:Nat} (h:SE K XO E te me) (ho:SEo K XO E to mo):SS K XO E (zkv (tBM K.f "list" zhg (tVar i) (zd3 (tTup (zd3 te (zd3 to tNil))) tNil))) (zkD i me mo):=by
 intro Λ F0 H0 F H σ δ Dn I a
 unfold zkD at a
 split at a
 ·rename_i ts q1
  obtain⟨p,bs,tt⟩:=I.tabAt q1
  have ok:=tt.tab.ok
  simp only[TrOk] at ok
  obtain⟨p',vs,fs,e1,e2,hp,hL⟩:=ok
  cases e1;cases e2
  refine⟨_,tt.at',.inl ⟨rfl,vs,.inl (.inl hp)⟩,?_⟩
  refine h Λ F0 H0 F H σ δ _ I ((AftS.of I a).imp fun d G1 K1 e c v rv=>?_)
  have I1:=I.grow e
  refine ho Λ F0 H0 G1 K1 σ δ _ I1 ((AftS.of I1 c).imp fun o G K2 x c2 b b0 b1 bo=>⟨by simp[sizeLine],fun c' hc'=>?_⟩)
  split at c2
  case h_2=>exact c2.elim
  rename_i l
  obtain⟨ws,b4,b5⟩:=bo
  unfold ifC at c2
  split at c2
  case isFalse=>exact c2.elim
  rename_i hl
  have ex:=e.trans x
  have x2:Ext G K2 (upd G c' (.tup [v,.ref b])) (upd K2 c' (.tup [v,.ref b])):=.new x.fh hc'
  have I2:=(I.grow ex).grow x2
  have t2:=(tt.grow ex).grow x2
  have hp1:K2 p=some (.lst vs):=ex.hh _ _ hp
  have pc:p≠c':=zaG hp1 hc'
  have bc:b≠c':=zaG b4 hc'
  have bn:b∉p::bs:=fun z=>by
   obtain⟨o,w⟩:=(tt.grow e).tab.obj b z
   rw[b1] at w;cases w
  have bp:b≠p:=fun z=>bn (by rw[z];simp)
  refine⟨p,vs,.ref c',rfl,rfl,by rw[zaz pc];exact hp1,by rw[hL.length];exact hl,?_⟩
  have nd:=List.nodup_cons.mp tt.tab.nd
  have f2:∀y∈p::(bs++[b]),H0 y=none∧upd G c' (.tup [v,.ref b]) y=none:=fun y hy=>by
   rw[← List.cons_append] at hy
   rcases List.mem_append.mp hy with z|z
   ·exact t2.free y z
   ·rw[List.mem_singleton.mp z]
    exact⟨I1.ext.hh.free b1,by rw[zaz bc];exact b0⟩
  refine c2 σ _ _ (I2.chgG (i:=i) (T:=.l ts) (c:=p) (a:=p) (bs':=bs++[b]) q1 tt.at' (fun k T' hki hk=>by
    obtain⟨a',cs,u1,u2,u3⟩:=tt.one k T' hki hk
    refine⟨a',cs,u1,(u2.mono ex.ff ex.hh).mono x2.ff x2.hh,fun y hy=>⟨fun hy2=>?_,fun z=>u3 y hy (by rw[z];simp)⟩⟩
    rw[← List.cons_append] at hy2
    rcases List.mem_append.mp hy2 with z|z
    ·exact u3 y hy z
    ·rw[List.mem_singleton.mp z] at hy
     obtain⟨o,w⟩:=(u2.mono e.ff e.hh).obj b hy
     rw[b1] at w;cases w) (f2 p (by simp)) (fun k hk ho hs=>tt.dist k p hk ho hs (by simp)) ⟨?_,?_⟩ f2 fun k y hk ho hs hy=>?_)
  ·simp only[TrOk]
   refine⟨p,vs++[.ref c'],bs++[b],rfl,rfl,zaX,TrOkL.append ?_ ?_⟩
   ·refine TrOkL.at' ts (TrOkL.mono (ex.ff.trans x2.ff) (ex.hh.trans x2.hh) ts hL) fun y hy=>zaz fun z=>nd.1 (z ▸ hy)
   ·simp only[TrOkL,TrOk]
    refine⟨.ref c',[],[b],[],rfl,rfl,⟨c',[v,.ref b],rfl,zaX,v,[.ref b],[],[b],rfl,rfl,⟨rfl,Rep.mono (x.ff.trans x2.ff) d rv⟩,.ref b,[],[b],[],rfl,rfl,⟨b,ws,[],rfl,rfl,?_,leaf_iff.mpr ⟨b5.mono x2.ff,rfl⟩⟩,rfl,rfl⟩,rfl,rfl⟩
    rw[zaz bp,zaz bc];exact b4
  ·rw[← List.cons_append,List.nodup_append]
   exact⟨tt.tab.nd,by simp,fun y hy w hw ee=>bn (by rw[← List.mem_singleton.mp hw,← ee];exact hy)⟩
  ·rw[← List.cons_append] at hy
   rcases List.mem_append.mp hy with z|z
   ·exact tt.dist k y hk ho hs z
   ·rw[List.mem_singleton.mp z] at hs
    obtain⟨o,w⟩:=I1.ownObj ho hs
    rw[b1] at w;cases w
 ·exact a.elim
end
end PM
namespace PM
open PySem L2
section
variable {K:Kx} {XO:XOT} {E:St→XK} {te ti tj:TE} {me mi mj:En→R D} {Λ:List (Nat×Addr×HO)} {F0 H0 F H:Hp} {σ:St} {δ:En} {Dn:Ends}
end
end PM
namespace L2
open PySem PySem.Spec PyProof.Rows
section
variable {X:Cx}
def rAny:List V→Hp→VK→Prop:=fun xs H Q=>∃(p:Addr) (bs:List Bool),xs=[.ref p]∧Rd H p (.lst (bs.map V.bl))∧Q (.bl (bs.any id)) H
theorem zkS:∀(bs:List Bool),((List.range bs.length).any fun i=>bs.getD i false)=bs.any id
 | []=>rfl
 | b::bs=>by
  rw[List.length_cons,List.range_succ_eq_map,List.any_cons,List.any_map,List.any_cons,← zkS bs]
  rfl
theorem zop (hc:X.calm=true):zhF X (.builtin "any") rAny:=by
 intro pins s σ H xs us Q I r h
 obtain⟨p,bs,rfl,hq,q⟩:=h
 obtain⟨u,rfl,rx⟩:=zkx r
 cases rx
 obtain⟨z,its,n,rv,e⟩:=hq.ok I.hok
 have ei:=zkI rv
 subst ei
 have isl:s.heap.IsList p (bs.map Value.bool).toArray:=⟨_,e,rfl,n,rfl⟩
 have plt:p<s.heap.objs.size:=Heap.lt_size e
 refine call_any_walk (wpAny_pyIter_list isl ?_)
 refine⟨s.heap.objs.size,[s.heap.objs.size,p],[s.heap.objs.size],(bs.map Value.bool).toArray.size,_,_,(fun i=>bs.getD i false),rfl,Walks.list (A:=X.A.in1) (I.ok.hd hc) s.heap.objs.size p (Nat.ne_of_lt plt) (bs.map Value.bool).toArray,⟨⟨_,Heap.get?_push_size _ rfl,rfl,rfl⟩,isl.push _⟩,?_,?_⟩
 ·intro i v s' Q' E' hi hQ
  have hi':(bs.map Value.bool).toArray[i]?=some v:=hi
  rw[List.getElem?_toArray,List.getElem?_map] at hi'
  cases z:bs[i]? with
  | none=>rw[z] at hi';cases hi'
  | some b=>
   rw[z] at hi'
   cases hi'
   refine wpAny_truthy_bool ?_
   have:bs.getD i false=b:=by rw[List.getD_eq_getElem?_getD,z];rfl
   have hQ':Q' (bs.getD i false) s':=hQ
   rw[this] at hQ'
   exact hQ'
 ·intro h' tk hk
  rw[List.size_toArray,List.length_map,zkS]
  refine⟨.bl _,H,I.kept (t':=tk) (fun b o eo=>hk b o (fun hm=>?_) (Heap.get?_push_of_some _ eo)),rfl,q⟩
  rw[List.mem_singleton.mp hm] at eo
  exact absurd (Heap.lt_size eo) (Nat.lt_irrefl _)
end
end L2
namespace PM
open PySem L2
section
variable {K:Kx}
def fAny:List D→Option D
 | [.lst l]=>(asBs l).map fun bs=>.bl (bs.any id)
 | _=>none
theorem zrQ:SC K rAny fAny:=by
 intro F H vs ds d Q s r e q
 unfold fAny at e
 split at e
 ·rename_i l
  cases q2:asBs l with
  | none=>rw[q2] at e;cases e
  | some bs=>
   rw[q2] at e
   cases e
   cases r with
   | cons r r'=>
    cases r'
    obtain⟨p,xs,rfl,h1,h2⟩:=r
    rw[zim q2] at h2
    have:=zg0 h2
    subst this
    exact⟨p,bs,rfl,h1,q _ F H (.refl s) (by simp only[Rep])⟩
 ·cases e
end
end PM
namespace L2
open PySem PySem.Spec PyProof.Rows
end L2
namespace PM
end PM
namespace L2
open PySem PySem.Spec PyProof.Rows
section
variable {prog:Program} {w:World} {A:Around} {E:Value→Shared→Prop} {s:Shared}
end
end L2
namespace L2
open PySem PySem.Spec PyProof.Rows
end L2
namespace PM
open PySem L2
end PM
namespace L2
open PySem PySem.Spec PyProof.Rows PM
section
variable {X:Cx} {ca:Nat→Addr} {an:Nat→Str}
end
end L2
namespace PM
open PySem L2
section
variable {K:Kx} {c:Nat} {d:Int→Int→Int} {L:D} {F H F' H' F'' H'':Hp} {x kp dx:Addr} {lv:V} {kvs:List (List Key×V)}
end
section
variable {K:Kx} {XO:XOT} {E:L2.St→XK}
end
end PM
namespace PM
open PySem L2
section
variable {K:Kx} {c m:Nat} {d:Int→Int→Int} {L:D} {E:XK}
end
end PM
namespace PM
open PySem L2
section
variable {K:Kx} {c m:Nat} {d:Int→Int→Int} {L:D}
end
end PM
namespace L2
open PySem PySem.Spec PyProof.Rows
section
variable {P:Program} {w:World} {K:PySem.W.Frag} {mg:Str→Option Value} {base:Heap} {CX:CXT} {k:Nat} {m:Str} {C:Addr} {ps:List Str} {sp sp':Sp}
end
end L2
namespace PM
open PySem L2
section
variable {K:Kx} {c m:Nat} {d:Int→Int→Int} {L:D}
end
end PM
namespace L2
open PySem PySem.Spec PyProof.Rows
section
variable {prog:Program} {w:World} {K:Type} [DecidableEq K] {knd:KeyKind prog w K} {A:Around} {E:Value→Shared→Prop} {s:Shared}
end
section
variable {X:Cx}
end
end L2
namespace PM
open PySem L2
section
variable {K:Kx} {XO:XOT} {E:L2.St→XK}
end
end PM
namespace PM
open PySem L2
section
variable {K:Kx} {XO:XOT} {E:L2.St→XK} {Λ:List (Nat×Addr×HO)} {F0 H0 F H:Hp} {σ:L2.St} {δ:En}
end
end PM
namespace PM
open PySem L2
section
variable {K:Kx} {XO:XOT} {E:L2.St→XK} {Λ:List (Nat×Addr×HO)} {F0 H0 F H:Hp} {σ:L2.St} {δ:En} {t:TS} {m:En→O}
end
end PM
namespace L2
open PySem PySem.Spec PyProof.Rows
section
variable {X:Cx}
end
end L2
namespace PM
open PySem L2
section
variable {X:Cx} {K:Kx} {XO:XOT} {E:L2.St→XK} {te:TE} {me:En→R D} {ca:Nat→Addr} {an:Nat→Str}
end
end PM
namespace L2
open PySem PySem.Spec PyProof.Rows
section
variable {X:Cx}
section
variable {prog:Program} {w:World} {A:Around} {E:Value→Shared→Prop} {s:Shared} {a:Addr} {xs:Array (Int×Tok)}
end
end
end L2
namespace PM
open PySem L2
section
variable {K:Kx}
end
end PM
namespace L2
open PySem PySem.Spec PyProof.Rows
section
variable {prog:Program} {w:World} {A:Around} {E:Value→Shared→Prop} {s:Shared}
end
end L2
namespace PM
open PySem L2
end PM
namespace L2
open PySem PySem.Spec PyProof.Rows PM
section
variable {X:Cx} {ca:Nat→Addr} {an:Nat→Str}
end
end L2
namespace PM
open PySem L2
section
variable {K:Kx}
end
end PM
namespace PM
open PySem L2
section
variable {K:Kx} {XO:XOT} {E:L2.St→XK} {F0 H0 F H F1 H1 F' H':Hp}
end
end PM
namespace L2
open PySem PySem.Spec PyProof.Rows
section
variable {X:Cx}
end
end L2
namespace PM
open PySem L2
section
variable {K:Kx} {XO:XOT} {E:L2.St→XK} {F0 H0 F H F1 H1 F' H':Hp}
end
end PM
namespace PM
open PySem L2
section
variable {K:Kx} {XO:XOT} {E:L2.St→XK} {Λ:List (Nat×Addr×HO)} {F0 H0 F H:Hp} {σ:L2.St} {δ:En}
end
end PM
namespace L2
open PySem PySem.Spec PyProof.Rows
section
variable {prog:Program} {w:World} {A:Around} {E:Value→Shared→Prop} {s:Shared}
end
section
variable {X:Cx}
end
end L2
namespace PM
open PySem L2
section
variable {K:Kx} {XO:XOT} {E:L2.St→XK}
end
end PM
namespace L2
open PySem PySem.Spec PyProof.Rows
section
variable {X:Cx} {x:Str} {C:Addr} {p pos:Pos}
end
end L2
namespace PM
open PySem L2
section
variable {K:Kx} {XO:XOT} {E:L2.St→XK} {F0 H0 F H F1 H1 F' H':Hp}
end
end PM
namespace PM
open PySem L2
section
variable {K:Kx} {XO:XOT} {E:L2.St→XK} {Λ:List (Nat×Addr×HO)} {F0 H0 F H:Hp} {σ:L2.St} {δ:En}
end
end PM
namespace PM
open PySem L2
section
variable {K:Kx} {XO:XOT} {E:L2.St→XK} {F0 H0 F H F1 H1 F' H':Hp} {α:Type} {An:α→V→Hp→Hp→Hp→Prop}
end
end PM
namespace HT
open PySem PyProof.Rows
section
open PySem.SeqAt
open PySem.AutoSeq1 (wpAny_loadPart')
open PySem.MeetsSeq PySem.MeetsSeq2 PySem.MeetsSeq3
variable {prog:Program} {w:World} {A:Around} {E:Value→Shared→Prop} {s:Shared}
end
end HT
namespace L2
open PySem PySem.Spec PyProof.Rows
section
variable {X:Cx}
end
section
variable {P:Program} {w:World} {K:PySem.W.Frag} {mg:Str→Option Value} {base:Heap} {d:V}
end
section
variable {X:Cx} {CX:CXT} {k:Nat} {x:Str} {ps:List Str} {sp:Sp} {p pos:Pos} {a:Expr} {ta:TE} {d:V}
end
end L2
namespace PM
open PySem L2
section
variable {K:Kx} {XO:XOT} {E:L2.St→XK} {F0 H0 F H F1 H1 F' H':Hp}
end
end PM
namespace L2
open PySem PySem.Spec PyProof.Rows
open Builtin Builtin.Str
section
variable {X:Cx} {tg:Expr} {pos:Pos}
theorem zj6:∀(l:List (Str×Tok)),Vals (l.map fun p=>V.str p.1) (strValues l)
 | []=>.nil
 | p::l=>.cons ⟨p.2,rfl⟩ (zj6 l)
theorem zoI:∀ {l:List Str} {us:List Value},Vals (l.map V.str) us→∃ps:List (Str×Tok),us=strValues ps∧ps.map (·.1)=l
 | [],us,r=>by cases r;exact⟨[],rfl,rfl⟩
 | x::l,us,r=>by
  cases r with
  | cons h t=>
   obtain⟨k,rfl⟩:=h
   obtain⟨ps,rfl,e⟩:=zoI t
   exact⟨(x,k)::ps,rfl,by rw[List.map_cons,e]⟩
def zpL:V→List V→Hp→VK→Prop:=fun x vs H Q=>∃z y,x=.str z∧vs=[.str y]∧(y.length == 0)=false∧z.length≤sizeLine∧(Txt.split z y).length≤sizeLine∧∀p,H p=none→Q (.ref p) (upd H p (.lst ((Txt.split z y).map V.str)))
theorem zjq:MtR X "str.split" zpL:=by
 intro pins s σ H x vs v us Q I rx rv h
 obtain⟨z,y,rfl,rfl,hy,hz,hn,q⟩:=h
 obtain⟨t,rfl⟩:=rx
 obtain⟨u,rfl,ru⟩:=rv.one
 obtain⟨k,rfl⟩:=ru
 have fr:H s.heap.objs.size=none:=I.hok.fresh (Nat.le_refl _)
 have fin:∀(ps:List (Str×Tok)) (tk:Nat),ps.map (·.1)=Txt.split z y→EP X pins σ Q (.ref s.heap.objs.size) { s with heap:=s.heap.push { cls:=.type "list",data:=.seq (strValues ps).toArray },toks:=tk }:=fun ps tk e=>by
  have r:=zj6 ps
  rw[show (ps.map fun p=>V.str p.1)=(Txt.split z y).map V.str by rw[← e,List.map_map];rfl] at r
  exact⟨.ref s.heap.objs.size,_,I.laid (t':=tk) (o:=.lst ((Txt.split z y).map V.str)) (fun b ob q=>Heap.get?_push_of_some _ q) (Nat.le_refl _) ⟨by rw[List.length_map];exact hn,_,0,r,Heap.get?_push_size _ rfl⟩,rfl,q _ fr⟩
 cases h1:(decide (z.length<y.length) || decide (strKind z<strKind y)) with
 | true=>exact call_meets F.slot_str_split (typeIs_str _ _ _) F.entry_str_split (F.args_str_split_2 _ _) (meets_str_split_cannot_occur z y t k h1) (fin [(z,t)] s.toks (by unfold Txt.split;rw[if_pos h1];rfl))
 | false=>
  cases hf:(occurrences z y 0 z.length (z.length+1)).isEmpty with
  | true=>exact call_meets F.slot_str_split (typeIs_str _ _ _) F.entry_str_split (F.args_str_split_2 _ _) (meets_str_split_not_found z y t k h1 hy hf) (fin [(z,t)] s.toks (by unfold Txt.split;rw[if_neg (by rw[h1];decide),if_pos hf];rfl))
  | false=>
   have e:Txt.split z y=partsBetween z (occurrences z y 0 z.length (z.length+1)) y.length:=by unfold Txt.split;rw[if_neg (by rw[h1];decide),if_neg (by rw[hf];decide)]
   refine call_meets F.slot_str_split (typeIs_str _ _ _) F.entry_str_split (F.args_str_split_2 _ _) (meets_str_split_sep z y t k h1 hy hf hz (by rw[← e];exact hn)) ?_
   show wants _ _ _ { s with toks:=_,heap:=s.heap.push { cls:=.type "list",data:=.seq (strsFrom s.toks (partsBetween z (occurrences z y 0 z.length (z.length+1)) y.length)).toArray } }
   rw[strsFrom_eq]
   exact fin (numbered s.toks _) _ ((numbered_texts _ _).trans e.symm)
def zrW (K:PySem.W.Frag):V→List V→Hp→VK→Prop:=fun x vs H Q=>∃z p l,x=.str z∧vs=[.ref p]∧SqL K H p (l.map V.str)∧JoinOk z l=true∧Q (.str (Txt.join z l)) H
theorem zgY:MtR X "str.join" (zrW X.K):=by
 intro pins s σ H x vs v us Q I rx rv h
 obtain⟨z,p,l,rfl,rfl,hq,hok,q⟩:=h
 obtain⟨t,rfl⟩:=rx
 obtain⟨u,rfl,ru⟩:=rv.one
 cases ru
 obtain⟨its,r,pl,_⟩:=I.list hq
 obtain⟨ps,rfl,e⟩:=zoI r
 subst e
 have hok':=hok
 unfold JoinOk at hok'
 rw[Bool.not_eq_true'] at hok'
 exact call_meets F.slot_str_join (typeIs_str _ _ _) F.entry_str_join (F.args_str_join_2 _ _) (meets_str_join_list z t p ps hok') ⟨pl.isList,post_join ps ⟨joinFit_length hok',fun t' k=>⟨.str _,H,I.kept (t':=k) fun _ _ e=>e,⟨t',rfl⟩,q⟩⟩⟩
def zrK:List V→Hp→VK→Prop:=fun xs H Q=>∃i:Int,xs=[.int i]∧i.natAbs.log2<1920∧Q (.str (Str.ofString (toString i))) H
theorem zdw:zhF X (.type "str") zrK:=by
 intro pins s σ H xs us Q I r h
 obtain⟨i,rfl,hi,q⟩:=h
 obtain⟨u,rfl,t,rfl⟩:=zkx r
 exact PySem.P.str_of_int hi ⟨.str _,H,I.tok _,⟨_,rfl⟩,q⟩
def zra:List V→Hp→VK→Prop:=fun xs H Q=>∃(x:Str) (n:Int),xs=[.str x]∧PySem.intText? x=some n∧x.length≤640∧Q (.int n) H
theorem zhY:zhF X (.type "int") zra:=by
 intro pins s σ H xs us Q I r h
 obtain⟨x,n,rfl,hn,hl,q⟩:=h
 obtain⟨u,rfl,t,rfl⟩:=zkx r
 exact PySem.W.KIN.call_text hn hl ⟨.int n,H,I.tok _,⟨_,rfl⟩,q⟩
def rInS (f:Bool→Bool):R2:=fun x y H Q=>∃a b,x=.str a∧y=.str b∧Q (.bl (f (Txt.contains b a))) H
theorem znB:OpR X (compareOp .NotIn) (rInS not):=by
 intro pins s σ H x y v u Q I rx ry h
 obtain⟨a,b,rfl,rfl,q⟩:=h
 obtain⟨t,rfl⟩:=rx
 obtain⟨k,rfl⟩:=ry
 exact PySem.SB.notContains ⟨.bl _,H,I,rfl,q⟩
def ItS (x:Str):It:=⟨fun i _=>i<x.cps.size,fun i H v H'=>H'=H∧∃c,x.cps[i]?=some c∧v=.str ⟨#[c]⟩,fun i _=>x.cps.size≤i⟩
theorem zpn {P:Program} {w:World} {K:PySem.W.Frag} {tg:Expr} (x:Str) (t:Tok) (it:Addr):Turn P w K tg (ItS x) [it] it (fun i h=>h.IsStrIter it "str_ascii_iterator" x t i) where
 mem:=by simp
 obj:=fun i h st b hb=>by
  have e:b=it:=by simpa using hb
  subst e
  obtain⟨o,e,c,d⟩:=st
  exact⟨o,e,fun v z=>by rw[d] at z;cases z⟩
 keep:=fun i h h' st k=>by
  obtain⟨o,e,c,d⟩:=st
  exact⟨o,k it (by simp) o e,c,d⟩
 item:=by
  intro X hP hw hK hc i pins s σ H E I hf st hg
  subst hP hw hK
  have hg':i<x.cps.size:=hg
  obtain⟨f0,f1,f2,f3,f4,f5⟩:=hf it (by simp)
  refine wpAny_pyNext_ascii_item st (c:=x.cps[i]) (by simp[hg']) fun h' st' sb=>?_
  have I1:Inv X pins σ H { s with heap:=h',toks:=s.toks+1 }:=I.turned (t':=s.toks+1) (fun b o hb e=>(sb.2 b hb).trans e) f0 f1 f3 f4 f5
  obtain⟨o,e,c,d⟩:=id st'
  exact⟨_,rfl,zpr (s:={ s with heap:=h',toks:=s.toks+1 }) e c d (by decide) ⟨.str ⟨#[x.cps[i]]⟩,H,I1,⟨_,rfl⟩,⟨rfl,x.cps[i],by simp[hg'],rfl⟩,st',fun b hb=>(hf b hb).1⟩⟩
 done:=by
  intro X hP hw hK hc i pins s σ H E I hf st hg
  subst hP hw hK
  have hg':x.cps.size≤i:=hg
  obtain⟨f0,f1,f2,f3,f4,f5⟩:=hf it (by simp)
  exact wpAny_pyNext_ascii_end (I.ok.hd hc) st (by simp[hg']) fun h' eb=>⟨rfl,I.turned (t':=s.toks) (fun b o hb e=>eb b o hb e) f0 f1 f3 f4 f5⟩
 self:=fun _ _ _ _ _ st h=>wpAny_pyIter_striter_ascii st h
def iStr (tl:TE):TI:=fun σ H R=>tl σ H fun x H1=>∃z,x=.str z∧z.cps.all (· < 128)=true∧R (ItS z) H1
theorem zrv {l:Expr} {tl:TE} (hl:PE X l tl):PI X tg l (iStr tl):=by
 intro pins s σ H R I h
 refine thn (hl pins s σ H _ I h) fun v s1 ⟨x,H1,I1,r1,q1⟩=>?_
 obtain⟨z,rfl,ha,q⟩:=q1
 obtain⟨t,rfl⟩:=r1
 refine wpAny_pyIter_ascii ha ?_
 refine⟨s1.heap.objs.size,[s1.heap.objs.size],_,_,H1,rfl,I1.kept (t':=s1.toks) fun b o e=>Heap.get?_push_of_some _ e,zpn z t _,⟨_,Heap.get?_push_size _ rfl,rfl,rfl⟩,fun b hb=>?_,q⟩
 have e:b=s1.heap.objs.size:=by simpa using hb
 subst e
 exact I1.fpOk (Nat.le_refl _) (I1.hok.fresh (Nat.le_refl _))
end
end L2
namespace L2
open PySem PySem.Spec PyProof.Rows
section
variable {X:Cx} {a b:Expr} {ta tb:TE} {pos p1 p2 p3:Pos}
end
end L2
namespace PM
open PySem L2
section
variable {K:Kx} {XO:XOT} {E:L2.St→XK} {ta tb te:TE} {ma mb me:En→R D}
theorem zns {F H:Hp} {z:Str} {v:V} (h:Top K F H (.str z) v):v=.str z:=by simpa only[Top,Rep] using h
def zlK:List D→Option D
 | [.str z]=>ifC (z.length≤sizeLine) (some (.int z.length)) none
 | _=>none
theorem zne:SC K (fun xs H Q=>∃z,xs=[.str z]∧z.length≤sizeLine∧Q (.int z.length) H) zlK:=by
 intro F H vs ds d Q s r e q
 unfold zlK at e
 split at e
 ·rename_i z
  unfold ifC at e
  split at e
  ·rename_i hz
   cases e
   cases r with
   | cons r r'=>
    cases r'
    rw[zns r]
    exact⟨z,rfl,hz,q _ F H (.refl s) (by simp only[Rep])⟩
  ·cases e
 ·cases e
def oIxS (x y:D):Option D:=match x,y with
 | .str z,.int i=>ifC (z.length≤sizeLine) ((atI z.cps.toList i).map fun c=>.str ⟨#[c]⟩) none
 | _,_=>none
theorem zrz:SR K rIxS oIxS:=by
 intro F H x y dx dy d Q s hx hy e q
 unfold oIxS at e
 split at e
 ·rename_i z i
  unfold ifC at e
  split at e
  ·rename_i hz
   cases ec:atI z.cps.toList i with
   | none=>rw[ec] at e;cases e
   | some c=>
    rw[ec] at e
    cases e
    simp only[Top,Rep] at hx hy
    exact⟨z,i,c,hx,hy,hz,ec,q _ F H (.refl s) (by simp only[Rep])⟩
  ·cases e
 ·cases e
def oInS (f:Bool→Bool) (x y:D):Option D:=match x,y with
 | .str a,.str b=>some (.bl (f (Txt.contains b a)))
 | _,_=>none
theorem zrP {f:Bool→Bool}:SR K (rInS f) (oInS f):=by
 intro F H x y dx dy d Q s hx hy e q
 unfold oInS at e
 split at e
 ·rename_i a b
  cases e
  simp only[Top,Rep] at hx hy
  exact⟨a,b,hx,hy,q _ F H (.refl s) (by simp only[Rep])⟩
 ·cases e
def zhi (x:D) (y:Str):R D:=match x with
 | .str z=>ifC ((y.length == 0)=false∧z.length≤sizeLine∧(Txt.split z y).length≤sizeLine) (.ok (.lst ((Txt.split z y).map .str))) .no
 | _=>.no
def zhM (ma:En→R D) (y:Str) (δ:En):R D:=(ma δ).bind fun x=>zhi x y
theorem zkR {F:Hp}:∀(l:List Str),RepL K F (l.map .str) (l.map V.str)
 | []=>.nil
 | x::l=>.cons (by simp only[Rep]) (zkR l)
theorem zh8 {y:Str} (ha:SE K XO E ta ma):SEo K XO E (tBM K.f "str" zpL ta (zd3 (tC (.str y)) tNil)) (zhM ma y):=by
 intro Λ F0 H0 F H σ δ Q I a
 refine ha Λ F0 H0 F H σ δ _ I (a.bind.imp fun x F1 H1 e1 a1 v rv=>?_)
 cases x with
 | str z=>
  simp only[Rep] at rv
  subst rv
  refine⟨rfl,?_⟩
  unfold zhi ifC at a1
  dsimp only at a1
  split at a1
  ·rename_i hc
   refine⟨z,y,rfl,rfl,hc.1,hc.2.1,hc.2.2,fun p hp=>?_⟩
   exact a1 F1 _ (.newO e1.fh hp) p (e1.fh.free hp) (e1.hh.free hp) ⟨_,zaX,zkR _⟩
  ·exact a1.elim
 | _=>exact a1.elim
def asSs:List D→Option (List Str)
 | []=>some []
 | .str x::l=>(asSs l).map (x::·)
 | _=>none
theorem zk3:∀ {l:List D} {xs:List Str},asSs l=some xs→l=xs.map .str
 | [],xs,h=>by cases h;rfl
 | d::l,xs,h=>by
  cases d with
  | str x=>
   simp only[asSs] at h
   cases q:asSs l with
   | none=>rw[q] at h;cases h
   | some r=>rw[q] at h;cases h;rw[zk3 q];rfl
  | _=>cases h
theorem zjQ:∀(xs:List Str),asSs (xs.map .str)=some xs
 | []=>rfl
 | x::xs=>by rw[List.map_cons,asSs,zjQ xs];rfl
theorem zn7 {F:Hp}:∀ {l:List Str} {vs:List V},RepL K F (l.map .str) vs→vs=l.map V.str
 | [],vs,h=>by simpa only[List.map_nil,RepL] using h
 | x::l,vs,h=>by
  simp only[List.map_cons,RepL,Rep] at h
  obtain⟨v,r,rfl,rfl,h3⟩:=h
  rw[zn7 h3];rfl
def zmP (z:Str) (y:D):R D:=match y with
 | .lst l=>(match asSs l with|some xs=>if JoinOk z xs=true then .ok (.str (Txt.join z xs)) else .no|none=>.no)
 | _=>.no
def zeD (z:Str) (mb:En→R D) (δ:En):R D:=(mb δ).bind fun y=>zmP z y
theorem zg5 {z:Str} (hb:SE K XO E tb mb):SE K XO E (tBM K.f "str" (zrW K.f) (tC (.str z)) (zd3 tb tNil)) (zeD z mb):=by
 intro Λ F0 H0 F H σ δ Q I a
 refine⟨rfl,hb Λ F0 H0 F H σ δ _ I (a.bind.imp fun y F1 H1 e1 a1 v rv=>?_)⟩
 unfold zmP at a1
 split at a1
 ·rename_i l
  cases q:asSs l with
  | none=>rw[q] at a1;exact a1.elim
  | some xs=>
   rw[q] at a1
   dsimp only at a1
   split at a1
   ·rename_i hok
    rw[zk3 q] at rv
    simp only[Rep] at rv
    obtain⟨p,vs,rfl,h1,h2⟩:=rv
    rw[zn7 h2] at h1
    exact⟨z,p,xs,rfl,rfl,.inl (PM.Same.rdp e1.fh h1),hok,a1 F1 H1 (.refl e1.fh) _ (by simp only[Rep])⟩
   ·exact a1.elim
 ·exact a1.elim
def zdE:List D→Option D
 | [.int i]=>ifC (i.natAbs.log2<1920) (some (.str (Str.ofString (toString i)))) none
 | _=>none
theorem zeQ:SC K zrK zdE:=by
 intro F H vs ds d Q s r e q
 unfold zdE at e
 split at e
 ·rename_i i
  unfold ifC at e
  split at e
  ·rename_i hz
   cases e
   cases r with
   | cons r r'=>
    cases r'
    simp only[Top,Rep] at r
    subst r
    exact⟨i,rfl,hz,q _ F H (.refl s) (by simp only[Rep])⟩
  ·cases e
 ·cases e
def zjZ:List D→Option D
 | [.str x]=>(PySem.intText? x).bind fun n=>ifC (x.length≤640) (some (.int n)) none
 | _=>none
theorem zlD:SC K zra zjZ:=by
 intro F H vs ds d Q s r e q
 unfold zjZ at e
 split at e
 ·rename_i x
  cases hn:PySem.intText? x with
  | none=>rw[hn] at e;cases e
  | some n=>
   rw[hn] at e
   simp only[Option.bind] at e
   unfold ifC at e
   split at e
   ·rename_i hz
    cases e
    cases r with
    | cons r r'=>
     cases r'
     rw[zns r]
     exact⟨x,n,rfl,hn,hz,q _ F H (.refl s) (by simp only[Rep])⟩
   ·cases e
 ·cases e
def sgnD (z:Str):List D:=z.cps.toList.map fun c=>.str ⟨#[c]⟩
def mItS (me:En→R D) (δ:En):R (List D):=(me δ).bind fun d=>match d with
 | .str z=>if z.cps.all (· < 128)=true then .ok (sgnD z) else .no
 | _=>.no
theorem zq7 (h:SE K XO E te me):SI K XO E (iStr te) (mItS me):=by
 intro Λ F0 H0 F H σ δ R I a
 refine h Λ F0 H0 F H σ δ _ I (a.bind.imp fun d F1 H1 e1 a1 v r=>?_)
 cases d with
 | str z=>
  simp only[Rep] at r
  subst r
  dsimp only at a1
  split at a1
  ·rename_i ha
   refine⟨z,rfl,ha,a1 F1 H1 (.refl e1.fh) _ fun F2 H2 p i=>⟨fun d hd=>?_,fun hn=>?_⟩⟩
   ·unfold sgnD at hd
    rw[List.getElem?_map] at hd
    cases q:z.cps.toList[i]? with
    | none=>rw[q] at hd;cases hd
    | some c=>
     rw[q] at hd
     cases hd
     rw[Array.getElem?_toList] at q
     refine⟨(Array.getElem?_eq_some_iff.mp q).1,fun x H' y=>?_⟩
     obtain⟨rfl,c',h1,rfl⟩:=y
     rw[q] at h1
     cases h1
     exact⟨F2,.refl p.2,by simp only[Rep]⟩
   ·have:z.cps.toList.length≤i:=by
     have:=List.getElem?_eq_none_iff.mp hn
     unfold sgnD at this
     rw[List.length_map] at this;exact this
    rw[Array.length_toList] at this
    exact this
  ·exact a1.elim
 | _=>exact a1.elim
end
end PM
namespace L2
open PySem PySem.Spec PyProof.Rows
section
variable {X:Cx} {x:Str} {pos:Pos}
theorem zc7 {i:Int} (hg:Gl X x) (hm:∃t,X.mg x=some (.int i t)) (hd:(x == ("__debug__" : Str))=false:=by decide):PE X (.Name x pos) (tC (.int i)):=by
 obtain⟨t,hm⟩:=hm
 exact znf hg hm ⟨t,rfl⟩ hd
theorem zpa {z:Str} (hg:Gl X x) (hm:∃t,X.mg x=some (.str z t)) (hd:(x == ("__debug__" : Str))=false:=by decide):PE X (.Name x pos) (tC (.str z)):=by
 obtain⟨t,hm⟩:=hm
 exact znf hg hm ⟨t,rfl⟩ hd
end
end L2
namespace PM
open PySem L2
section
variable {K:Kx}
def zds (x y:D):Option D:=match x,y with
 | .str i,.str j=>ifC (i.length+j.length≤sizeLine) (some (.str (i++j))) none
 | _,_=>none
theorem zey:SR K (fun x y H Q=>∃i j,x=.str i∧y=.str j∧i.length+j.length≤sizeLine∧Q (.str (i++j)) H) zds:=by
 intro F H x y dx dy d Q s hx hy e q
 unfold zds at e
 split at e
 ·rename_i i j
  unfold ifC at e
  split at e
  ·rename_i hz
   cases e
   simp only[Top,Rep] at hx hy
   exact⟨i,j,hx,hy,hz,q _ F H (.refl s) (by simp only[Rep])⟩
  ·cases e
 ·cases e
end
end PM
namespace L2
open PySem PySem.Spec PyProof.Rows
end L2
namespace L2
open PySem PySem.Spec PyProof.Rows
section
variable {prog:Program} {w:World} {A:Around} {E:Value→Shared→Prop} {s:Shared}
theorem znT {z ti tu i j t l:Addr} {k m:Nat} {xs ys:Array Value} {x y p q:Value} {Q:Value→Shared→Prop} (D:ZipApart z ti tu i j t l)
  (hz:IsZip s.heap z ti tu .none) (h3:IsPair s.heap ti (.ref i) (.ref j)) (h4:IsPair s.heap tu p q)
  (h1:s.heap.IsTupleIter i t k) (h2:s.heap.IsTupleIter j l m) (ht:s.heap.IsTuple t xs) (hl:s.heap.IsTuple l ys) (hx:xs[k]?=some x) (hy:ys[m]?=some y)
  (hQ:∀h',IsZip h' z ti tu (rawInt s.heap.objs.size)→IsPair h' tu x y→h'.IsTupleIter i t (k+1)→h'.IsTupleIter j l (m+1)→IsPair h' s.heap.objs.size x y →
   (∀c o,c≠z→c≠tu→c≠i→c≠j→s.heap.get? c=some o→h'.get? c=some o)→Q (.ref s.heap.objs.size) { s with heap:=h' }) :
  wpAny (model prog w) A (Builtin.«zip.__next__» ⟨[.ref z],[]⟩) (fun fin s'=>∃v,fin=.done (.ret v)∧Q v s') E s:=by
 show wpAny _ A (field (.ref z) 2 >>= _) _ _ s
 refine wpAny_bind (wpAny_field hz rfl (x:=.bool false) rfl ?_)
 show wpAny _ A (field (.ref z) 3 >>= _) _ _ s
 refine wpAny_bind (wpAny_field hz rfl (x:=.ref ti) rfl ?_)
 refine wpAny_bind (wpAny_seqItems h3 rfl ?_)
 show wpAny _ A (Builtin.SmallTypes.ownedTupleIsFree (.ref z) >>= _) _ _ s
 refine wpAny_bind ?_
 unfold Builtin.SmallTypes.ownedTupleIsFree
 refine wpAny_bind (wpAny_field hz rfl (x:=.none) rfl (wpAny_pure ?_))
 simp only[if_true]
 refine wpAny_bind (wpAny_rule ?_)
 refine wpAny_bind (wpAny_field hz rfl (x:=.ref tu) rfl ?_)
 refine wpAny_bind (wpAny_setField_rec hz (by simp) fun g1 z1 s1=>?_)
 replace z1:IsZip g1 z ti tu .ellipsis:=z1
 refine wpAny_bind ?_
 simp only[List.zipIdx_cons,List.zipIdx_nil,List.forIn_cons,List.forIn_nil]
 refine wpAny_bind (wpAny_bind (wpAny_onRaise ?_))
 show wpAny _ A (Builtin.SmallTypes.nextOf (.ref i) >>= _) _ _ _
 refine wpAny_bind (zjW (h1.extBut s1.extBut D.i1z) (ht.extBut s1.extBut D.l1z) hx fun g2 p2 s2=>wpAny_pure ?_)
 have u2:IsPair g2 tu p q:=s2.extBut _ _ D.TOi1 (s1.extBut _ _ D.TOz h4)
 refine wpAny_bind (wpAny_seqItems u2 rfl ?_)
 refine wpAny_bind (wpAny_updateSeq_pair u2 fun g3 u3 s3=>?_)
 replace u3:IsPair g3 tu x q:=u3
 refine wpAny_bind (wpAny_letGo (wpAny_pure ?_))
 refine wpAny_bind (wpAny_bind (wpAny_onRaise ?_))
 show wpAny _ A (Builtin.SmallTypes.nextOf (.ref j) >>= _) _ _ _
 refine wpAny_bind (zjW (((h2.extBut s1.extBut D.i2z).extBut s2.extBut D.i12.symm).extBut s3.extBut D.TOi2.symm) (((hl.extBut s1.extBut D.l2z).extBut s2.extBut D.l2i1).extBut s3.extBut D.l2TO) hy fun g4 p4 s4=>wpAny_pure ?_)
 have u4:IsPair g4 tu x q:=s4.extBut _ _ D.TOi2 u3
 refine wpAny_bind (wpAny_seqItems u4 rfl ?_)
 refine wpAny_bind (wpAny_updateSeq_pair u4 fun g5 u5 s5=>?_)
 replace u5:IsPair g5 tu x y:=u5
 refine wpAny_bind (wpAny_letGo (wpAny_pure (wpAny_pure ?_)))
 refine wpAny_bind (wpAny_seqItems u5 rfl ?_)
 refine wpAny_bind (wpAny_newTuple (hsz:=by show 2≤sizeLine;decide) ?_)
 have sz:g5.objs.size=s.heap.objs.size:=by rw[s5.1,s4.1,s3.1,s2.1,s1.1]
 have z5:IsZip g5 z ti tu .ellipsis:=s5.extBut _ _ D.TOz.symm (s4.extBut _ _ D.i2z.symm (s3.extBut _ _ D.TOz.symm (s2.extBut _ _ D.i1z.symm z1)))
 have k5:∀c o,c≠z→c≠tu→c≠i→c≠j→s.heap.get? c=some o→g5.get? c=some o:=fun c o c1 c2 c3 c4 e=>s5.extBut _ _ c2 (s4.extBut _ _ c4 (s3.extBut _ _ c2 (s2.extBut _ _ c3 (s1.extBut _ _ c1 e))))
 have i5:g5.IsTupleIter i t (k+1):=((p2.extBut s3.extBut D.TOi1.symm).extBut s4.extBut D.i12).extBut s5.extBut D.TOi1.symm
 have j5:g5.IsTupleIter j l (m+1):=p4.extBut s5.extBut D.TOi2.symm
 have zl:z<g5.objs.size:=Heap.lt_size z5
 show wpAny _ A (Builtin.SmallTypes.ownedTupleHandOut (.ref z) (.ref g5.objs.size) >>= _) _ _ _
 refine wpAny_bind ?_
 unfold Builtin.SmallTypes.ownedTupleHandOut
 have z6:IsZip (g5.push { cls:=.type "tuple",data:=.seq #[x,y] }) z ti tu .ellipsis:=Heap.get?_push_of_some _ z5
 refine wpAny_bind (wpAny_setField_rec z6 (by simp) fun g7 z7 s7=>?_)
 replace z7:IsZip g7 z ti tu (rawInt g5.objs.size):=z7
 refine wpAny_setField_rec z7 (by simp) fun g8 z8 s8=>?_
 replace z8:IsZip g8 z ti tu (rawInt g5.objs.size):=z8
 have up:∀c o,c≠z→g5.get? c=some o→g8.get? c=some o:=fun c o c1 e=>s8.extBut _ _ c1 (s7.extBut _ _ c1 (Heap.get?_push_of_some _ e))
 have t8:IsPair g8 g5.objs.size x y:=s8.extBut _ _ (Nat.ne_of_gt zl) (s7.extBut _ _ (Nat.ne_of_gt zl) (Heap.get?_push_size _ rfl))
 rw[sz] at z8 t8
 refine wpAny_pure ⟨_,rfl,?_⟩
 show Q (.ref g5.objs.size) _
 rw[sz]
 exact hQ g8 z8 (up _ _ D.TOz u5) (i5.at fun o e=>up _ o D.i1z e) (j5.at fun o e=>up _ o D.i2z e) t8 fun c o c1 c2 c3 c4 e=>up c o c1 (k5 c o c1 c2 c3 c4 e)
theorem zpt {z ti tu i j t l:Addr} {k m:Nat} {xs ys:Array Value} {p q:Value} {Q:Fin→Shared→Prop} (hh:A.handled=none) (D:ZipApart z ti tu i j t l)
  (hz:IsZip s.heap z ti tu .none) (h3:IsPair s.heap ti (.ref i) (.ref j)) (h4:IsPair s.heap tu p q)
  (h1:s.heap.IsTupleIter i t k) (h2:s.heap.IsTupleIter j l m) (ht:s.heap.IsTuple t xs) (hl:s.heap.IsTuple l ys) (he:xs[k]?=none∨ys[m]?=none)
  (hE:∀h' e,(∀c o,c≠z→c≠tu→c≠i→c≠j→s.heap.get? c=some o→h'.get? c=some o)→(∃o,h'.get? e=some o∧o.cls=.type "StopIteration")→E (.ref e) { s with heap:=h' }) :
  wpAny (model prog w) A (Builtin.«zip.__next__» ⟨[.ref z],[]⟩) Q E s:=by
 show wpAny _ A (field (.ref z) 2 >>= _) _ _ s
 refine wpAny_bind (wpAny_field hz rfl (x:=.bool false) rfl ?_)
 show wpAny _ A (field (.ref z) 3 >>= _) _ _ s
 refine wpAny_bind (wpAny_field hz rfl (x:=.ref ti) rfl ?_)
 refine wpAny_bind (wpAny_seqItems h3 rfl ?_)
 show wpAny _ A (Builtin.SmallTypes.ownedTupleIsFree (.ref z) >>= _) _ _ s
 refine wpAny_bind ?_
 unfold Builtin.SmallTypes.ownedTupleIsFree
 refine wpAny_bind (wpAny_field hz rfl (x:=.none) rfl (wpAny_pure ?_))
 simp only[if_true]
 refine wpAny_bind (wpAny_rule ?_)
 refine wpAny_bind (wpAny_field hz rfl (x:=.ref tu) rfl ?_)
 refine wpAny_bind (wpAny_setField_rec hz (by simp) fun g1 z1 s1=>?_)
 replace z1:IsZip g1 z ti tu .ellipsis:=z1
 refine wpAny_bind ?_
 simp only[List.zipIdx_cons,List.zipIdx_nil,List.forIn_cons,List.forIn_nil]
 refine wpAny_bind (wpAny_bind (wpAny_onRaise ?_))
 show wpAny _ A (Builtin.SmallTypes.nextOf (.ref i) >>= _) _ _ _
 cases hx:xs[k]? with
 | none=>
  refine wpAny_bind (zj9 hh (h1.extBut s1.extBut D.i1z) (ht.extBut s1.extBut D.l1z) hx fun g2 e s2 ⟨oe,ho,hc⟩=>?_)
  have z2:IsZip g2 z ti tu .ellipsis:=s2 _ _ D.i1z.symm z1
  have ez:e≠z:=fun r=>by rw[r,z2] at ho;cases ho;simp at hc
  exact wpAny_setField_rec z2 (by simp) fun g3 _ s3=>hE g3 e (fun c o c1 _ c3 _ r=>s3.extBut _ _ c1 (s2 _ _ c3 (s1.extBut _ _ c1 r))) ⟨oe,s3.extBut _ _ ez ho,hc⟩
 | some x=>
  have hy:ys[m]?=none:=he.resolve_left (by rw[hx];simp)
  refine wpAny_bind (zjW (h1.extBut s1.extBut D.i1z) (ht.extBut s1.extBut D.l1z) hx fun g2 p2 s2=>wpAny_pure ?_)
  have u2:IsPair g2 tu p q:=s2.extBut _ _ D.TOi1 (s1.extBut _ _ D.TOz h4)
  refine wpAny_bind (wpAny_seqItems u2 rfl ?_)
  refine wpAny_bind (wpAny_updateSeq_pair u2 fun g3 u3 s3=>?_)
  refine wpAny_bind (wpAny_letGo (wpAny_pure ?_))
  refine wpAny_bind (wpAny_bind (wpAny_onRaise ?_))
  show wpAny _ A (Builtin.SmallTypes.nextOf (.ref j) >>= _) _ _ _
  refine wpAny_bind (zj9 hh (((h2.extBut s1.extBut D.i2z).extBut s2.extBut D.i12.symm).extBut s3.extBut D.TOi2.symm) (((hl.extBut s1.extBut D.l2z).extBut s2.extBut D.l2i1).extBut s3.extBut D.l2TO) hy fun g4 e s4 ⟨oe,ho,hc⟩=>?_)
  have z4:IsZip g4 z ti tu .ellipsis:=s4 _ _ D.i2z.symm (s3.extBut _ _ D.TOz.symm (s2.extBut _ _ D.i1z.symm z1))
  have ez:e≠z:=fun r=>by rw[r,z4] at ho;cases ho;simp at hc
  exact wpAny_setField_rec z4 (by simp) fun g5 _ s5=>hE g5 e (fun c o c1 c2 c3 c4 r=>s5.extBut _ _ c1 (s4 _ _ c4 (s3.extBut _ _ c2 (s2.extBut _ _ c3 (s1.extBut _ _ c1 r))))) ⟨oe,s5.extBut _ _ ez ho,hc⟩
end
def zpW (h:Heap) (t l:Addr):Heap:=((((h.push { cls:=.type "tuple_iterator",data:=.fields #[.ref t,.int 0 0] }).push { cls:=.type "tuple_iterator",data:=.fields #[.ref l,.int 0 0] }).push { cls:=.type "tuple",data:=.seq #[.ref h.objs.size,.ref (h.objs.size+1)] }).push
 { cls:=.type "tuple",data:=.seq #[.none,.none] }).push { cls:=.type "zip",data:=.fields #[.none,.bool false,.bool false,.ref (h.objs.size+2),.ref (h.objs.size+3)] }
theorem zm8 (t l:Addr) (xs ys:Array Value):Meets (Builtin.«zip.__new__» ⟨[.type "zip",.ref t,.ref l],[]⟩) (fun _ R s=>s.heap.IsTuple t xs∧s.heap.IsTuple l ys∧R (.ok (.ret (.ref (s.heap.objs.size+4)))) { s with heap:=zpW s.heap t l }):=
 .of_wp fun prog w A R s h=>by
  obtain⟨hp,g,d,tk,os⟩:=s
  obtain⟨a1,a2,h⟩:=h
  have hsub:=sub_zip
  have b1:IsTup (Shared.heap ⟨hp,g,d,tk,os⟩) t xs:=a1
  have b2:IsTup (Shared.heap ⟨hp.push { cls:=.type "tuple_iterator",data:=.fields #[.ref t,.int 0 0] },g,d,tk,os⟩) l ys:=a2.push _
  wp_walk using iter_tuple b1,iter_tuple b2
  refine⟨_,rfl,?_⟩
  have e1:(hp.push { cls:=.type "tuple_iterator",data:=.fields #[.ref t,.int 0 0] }).objs.size=hp.objs.size+1:=Heap.size_push ..
  simp only[Heap.size_push] at h ⊢
  exact h
theorem zor {prog:Program} {w:World} {A:Around} {E:Value→Shared→Prop} {s:Shared} {t l:Addr} {xs ys:Array Value} {Q:Value→Shared→Prop} (ht:s.heap.IsTuple t xs) (hl:s.heap.IsTuple l ys)
  (h:∀h',IsZip h' (s.heap.objs.size+4) (s.heap.objs.size+2) (s.heap.objs.size+3) .none→IsPair h' (s.heap.objs.size+2) (.ref s.heap.objs.size) (.ref (s.heap.objs.size+1))→IsPair h' (s.heap.objs.size+3) .none .none →
   h'.IsTupleIter s.heap.objs.size t 0→h'.IsTupleIter (s.heap.objs.size+1) l 0→(∀c o,s.heap.get? c=some o→h'.get? c=some o)→Q (.ref (s.heap.objs.size+4)) { s with heap:=h' }) :
  wpAny (model prog w) A (call (.type "zip") [.ref t,.ref l]) Q E s:=by
 refine callType_new F.called_zip (by decide) (F.typeCall_zip_2 _ _) (F.newCall_zip_2 _ _) (fun obj=>F.args_object_init_3 obj _ _) F.entry_zip_new (zm8 t l xs ys) ⟨ht,hl,?_⟩
 obtain⟨n,en⟩:∃n,n=s.heap.objs.size:=⟨_,rfl⟩
 have at_:∀(h:Heap) (o:Obj) (m:Nat),h.objs.size=m→o.isFreed=false→(h.push o).get? m=some o:=fun h o m e f=>by rw[← e];exact Heap.get?_push_size _ f
 have g5:IsZip (zpW s.heap t l) (n+4) (n+2) (n+3) .none:=by rw[en];exact at_ _ _ _ (by simp only[Heap.size_push]) rfl
 have g4:IsPair (zpW s.heap t l) (n+3) .none .none:=by rw[en];exact Heap.get?_push_of_some _ (at_ _ _ _ (by simp only[Heap.size_push]) rfl)
 have g3:IsPair (zpW s.heap t l) (n+2) (.ref n) (.ref (n+1)):=by rw[en];exact Heap.get?_push_of_some _ (Heap.get?_push_of_some _ (at_ _ _ _ (by simp only[Heap.size_push]) rfl))
 have g2:(zpW s.heap t l).get? (n+1)=some { cls:=.type "tuple_iterator",data:=.fields #[.ref l,.int 0 0] }:=by rw[en];exact Heap.get?_push_of_some _ (Heap.get?_push_of_some _ (Heap.get?_push_of_some _ (at_ _ _ _ (by simp only[Heap.size_push]) rfl)))
 have g1:(zpW s.heap t l).get? n=some { cls:=.type "tuple_iterator",data:=.fields #[.ref t,.int 0 0] }:=by rw[en];exact Heap.get?_push_of_some _ (Heap.get?_push_of_some _ (Heap.get?_push_of_some _ (Heap.get?_push_of_some _ (at_ _ _ _ rfl rfl))))
 rw[← en] at h ⊢
 show _∧_
 exact⟨⟨_,g5,rfl⟩,h _ g5 g3 g4 ⟨_,g1,rfl,rfl⟩ ⟨_,g2,rfl,rfl⟩ fun c o x=>Heap.get?_push_of_some _ (Heap.get?_push_of_some _ (Heap.get?_push_of_some _ (Heap.get?_push_of_some _ (Heap.get?_push_of_some _ x))))⟩
theorem zi2 {h:Heap} {z ti tu i j a b:Addr} {f0 u v:Value} {k m:Nat} {xs ys:Array Value} (hd : [z,ti,tu,i,j].Nodup) (h1:IsZip h z ti tu f0) (h3:IsPair h tu u v) (h4:h.IsTupleIter i a k) (h5:h.IsTupleIter j b m) (p:h.IsTuple a xs) (p':h.IsTuple b ys) (bt:a≠tu) (bu:b≠tu):ZipApart z ti tu i j a b:=by
 obtain⟨o,e,c,_⟩:=p'
 obtain⟨o',e',c',_⟩:=p
 obtain⟨j1,g1,d1,_⟩:=h4
 obtain⟨j2,g2,d2,_⟩:=h5
 simp only[List.nodup_cons,List.mem_cons,List.not_mem_nil,or_false,not_or,List.nodup_nil,and_true,not_false_eq_true] at hd
 obtain⟨⟨z1,z2,z3,z4⟩,⟨y1,y2,y3⟩,⟨x1,x2⟩,w1⟩:=hd
 refine⟨Ne.symm z1,Ne.symm z2,Ne.symm z3,Ne.symm z4,y1,y2,y3,x1,x2,w1,fun r=>?_,bt,fun r=>?_,fun r=>?_,fun r=>?_,bu,fun r=>?_,fun r=>?_⟩
 ·subst r;rw[h1] at e';cases e';simp at c'
 ·subst r;rw[g1] at e';cases e';rw[d1] at c';simp at c'
 ·subst r;rw[g2] at e';cases e';rw[d2] at c';simp at c'
 ·subst r;rw[h1] at e;cases e;simp at c
 ·subst r;rw[g1] at e;cases e;rw[d1] at c;simp at c
 ·subst r;rw[g2] at e;cases e;rw[d2] at c;simp at c
def ItzW (K:PySem.W.Frag) (a b:Addr):It:=
 ⟨fun i H=>∃xs ys x y,H a=some (.tup xs)∧H b=some (.tup ys)∧xs[i]?=some x∧ys[i]?=some y,
  fun i H v H'=>∃p x y,v=.ref p∧H p=none∧H'=upd H p (.tup [x,y])∧(∀xs,H a=some (.tup xs)→xs[i]?=some x)∧∀ys,H b=some (.tup ys)→ys[i]?=some y,
  fun i H=>∃xs ys,H a=some (.tup xs)∧H b=some (.tup ys)∧(xs.length≤i∨ys.length≤i)⟩
theorem znM {P:Program} {w:World} {K:PySem.W.Frag} {es:List Expr} {k} {pos:Pos} (a b z ti tu i j:Addr) (hd : [z,ti,tu,i,j].Nodup) :
  Turn P w K (.Tuple es k pos) (ItzW K a b) [z,ti,tu,i,j] z (fun n h=>IsZip h z ti tu .none∧IsPair h ti (.ref i) (.ref j)∧(∃u v,IsPair h tu u v)∧h.IsTupleIter i a n∧h.IsTupleIter j b n) where
 mem:=by simp
 obj:=fun n h st c hc=>by
  obtain⟨h1,h2,⟨u,v,h3⟩,⟨o1,h4,c1,d1⟩,o2,h5,c2,d2⟩:=st
  simp only[List.mem_cons,List.not_mem_nil,or_false] at hc
  rcases hc with rfl|rfl|rfl|rfl|rfl
  ·exact⟨_,h1,fun v z=>by cases (show Data.fields _=Data.cell v from z)⟩
  ·exact⟨_,h2,fun v z=>by cases (show Data.seq _=Data.cell v from z)⟩
  ·exact⟨_,h3,fun v z=>by cases (show Data.seq _=Data.cell v from z)⟩
  ·exact⟨o1,h4,fun v z=>by rw[d1] at z;cases z⟩
  ·exact⟨o2,h5,fun v z=>by rw[d2] at z;cases z⟩
 keep:=fun n h h' st q=>by
  obtain⟨h1,h2,⟨u,v,h3⟩,h4,h5⟩:=st
  exact⟨q z (by simp) _ h1,q ti (by simp) _ h2,⟨u,v,q tu (by simp) _ h3⟩,h4.at fun o e=>q i (by simp) o e,h5.at fun o e=>q j (by simp) o e⟩
 item:=by
  intro X hP hw hK hc n pins s σ H E I hf st hg
  subst hP hw hK
  obtain⟨xs,ys,x,y,q1,q2,hx,hy⟩:=hg
  obtain⟨_,its,rv,p⟩:=I.hok a _ q1
  obtain⟨_,its',rv',p'⟩:=I.hok b _ q2
  have pT:s.heap.IsTuple a its.toArray:=p
  have pT':s.heap.IsTuple b its'.toArray:=p'
  obtain⟨u,hu,ru⟩:=rv.get hx
  obtain⟨u',hu',ru'⟩:=rv'.get hy
  obtain⟨h1,h2,⟨f,g,h3⟩,h4,h5⟩:=st
  have bt:a≠tu:=fun r=>by
   obtain⟨f0,_⟩:=hf tu (by simp)
   rw[r,f0] at q1;cases q1
  have bu:b≠tu:=fun r=>by
   obtain⟨f0,_⟩:=hf tu (by simp)
   rw[r,f0] at q2;cases q2
  have D:=zi2 hd h1 h3 h4 h5 pT pT' bt bu
  have hT:H s.heap.objs.size=none:=I.hok.fresh (Nat.le_refl _)
  have nT:∀c o,s.heap.get? c=some o→c≠s.heap.objs.size:=fun c o e=>Nat.ne_of_lt (Heap.lt_size e)
  have tz:s.TypeIs (.ref z) "zip":=⟨_,h1,rfl⟩
  unfold pyNext
  refine wpAny_bind (wpAny_attempt (wpAny_callSpecial?_slot (name:=Str.ofString "__next__") tz F.slot_zip_next (wpAny_call_entry F.slot_zip_next tz F.entry_zip_next ?_ (F.args_zip_next_1 _))))
  refine znT D h1 h2 h3 h4 h5 pT pT' (x:=u) (y:=u') (by simpa using hu) (by simpa using hu') fun h' a1 a2 a3 a4 a5 hk=>wpAny_pure ⟨_,rfl,?_⟩
  refine wpAny_letOwnedTupleGo_zip a1 fun h'' b1 hs''=>?_
  have hs2:Heap.SameBut z h' h'':=hs''
  have nzT:=nT z _ h1
  have hk2:∀c o,c∉[z,ti,tu,i,j]→s.heap.get? c=some o→h''.get? c=some o:=fun c o hc q=>by
   simp only[List.mem_cons,List.not_mem_nil,or_false,not_or] at hc
   exact (hs2.2 c hc.1).trans (hk c o hc.1 hc.2.2.1 hc.2.2.2.1 hc.2.2.2.2 q)
  refine⟨.ref s.heap.objs.size,upd H s.heap.objs.size (.tup [x,y]),?_,rfl,⟨_,x,y,rfl,hT,rfl,fun xs' h=>by rw[q1] at h;cases h;exact hx,fun ys' h=>by rw[q2] at h;cases h;exact hy⟩,
   ⟨b1,(hs2.2 _ D.TIz).trans (hk _ _ D.TIz D.TITO D.TIi1 D.TIi2 h2),⟨u,u',(hs2.2 _ D.TOz).trans a2⟩,a3.at fun o e=>(hs2.2 _ D.i1z).trans e,a4.at fun o e=>(hs2.2 _ D.i2z).trans e⟩,fun c hc=>?_⟩
  ·exact I.laidT (t':=s.toks) [z,ti,tu,i,j] hf hk2 (by show 2≤sizeLine;decide) (.cons ru (.cons ru' .nil)) ((hs2.2 _ (Ne.symm nzT)).trans a5)
  ·obtain⟨f0,_⟩:=hf c hc
   rw[zaz]
   ·exact f0
   ·obtain⟨o1,e4,_⟩:=h4
    obtain⟨o2,e5,_⟩:=h5
    simp only[List.mem_cons,List.not_mem_nil,or_false] at hc
    rcases hc with rfl|rfl|rfl|rfl|rfl
    ·exact nT _ _ h1
    ·exact nT _ _ h2
    ·exact nT _ _ h3
    ·exact nT _ _ e4
    ·exact nT _ _ e5
 done:=by
  intro X hP hw hK hc n pins s σ H E I hf st hg
  subst hP hw hK
  obtain⟨xs,ys,q1,q2,he⟩:=hg
  obtain⟨_,its,rv,p⟩:=I.hok a _ q1
  obtain⟨_,its',rv',p'⟩:=I.hok b _ q2
  have pT:s.heap.IsTuple a its.toArray:=p
  have pT':s.heap.IsTuple b its'.toArray:=p'
  obtain⟨h1,h2,⟨f,g,h3⟩,h4,h5⟩:=st
  have bt:a≠tu:=fun r=>by
   obtain⟨f0,_⟩:=hf tu (by simp)
   rw[r,f0] at q1;cases q1
  have bu:b≠tu:=fun r=>by
   obtain⟨f0,_⟩:=hf tu (by simp)
   rw[r,f0] at q2;cases q2
  have D:=zi2 hd h1 h3 h4 h5 pT pT' bt bu
  have l1:=rv.length
  have l2:=rv'.length
  have tz:s.TypeIs (.ref z) "zip":=⟨_,h1,rfl⟩
  unfold pyNext
  refine wpAny_bind (wpAny_attempt (wpAny_callSpecial?_slot (name:=Str.ofString "__next__") tz F.slot_zip_next (wpAny_call_entry F.slot_zip_next tz F.entry_zip_next ?_ (F.args_zip_next_1 _))))
  refine zpt (I.ok.hd hc) D h1 h2 h3 h4 h5 pT pT' (he.imp (fun z=>by simp;omega) fun z=>by simp;omega) fun h' e hk ⟨oe,ho,hce⟩=>?_
  refine wpAny_bind (wpAny_isInstance (T:="StopIteration") (b:=true) ⟨oe,ho,hce⟩ isSubtype_stop (wpAny_pure ⟨rfl,?_⟩))
  exact I.turnedL (t':=s.toks) [z,ti,tu,i,j] hf fun c o hc q=>by
   simp only[List.mem_cons,List.not_mem_nil,or_false,not_or] at hc
   exact hk c o hc.1 hc.2.2.1 hc.2.2.2.1 hc.2.2.2.2 q
 self:=fun _ _ _ _ _ st h=>wpAny_pyIter_zip st.1 h
section
variable {X:Cx}
def zrt (K:PySem.W.Frag) (ta:TA):TI:=fun σ H R=>ta σ H fun vs H1=>∃a b,vs=[.ref a,.ref b]∧(((∃xs,H1 a=some (.tup xs))∧(∃ys,H1 b=some (.tup ys))∧R (ItzW K a b) H1)∨((∃xs,SqL K H1 a xs)∧(∃ys,SqL K H1 b ys)∧R (Itz K a b) H1))
theorem zqG {es:List Expr} {k} {tp:Pos} {l l':Expr} {ta:TA} {p pos:Pos} (hg:Gl X "zip") (hm:X.mg "zip"=none) (ha:PA X [l,l'] ta) (hs:starEach [l,l'] X.env=(false,eval l X.env)::starEach [l'] X.env:=by rfl) (hs2:(backTo pos (starEach [l'] X.env)).any (·.1)=false:=by rfl) :
  PI X (.Tuple es k tp) (.Call (.Name "zip" p) [l,l'] [] pos) (zrt X.K ta):=by
 intro pins s σ H R I h
 refine Call_ (zhp I hg hm PyProof.Rows.boot_zip (PyProof.Rows.callWith_type1 (thn (ha pos pins s σ H _ I h) fun us s1 ⟨vs,H1,I1,r1,q1⟩=>?_) hs hs2))
 obtain⟨a,b,e,q1⟩:=q1
 subst e
 obtain⟨u,v,rfl,rx,ry⟩:=zoJ r1
 cases rx
 cases ry
 have fpo:∀d∈[s1.heap.objs.size+4,s1.heap.objs.size+2,s1.heap.objs.size+3,s1.heap.objs.size,s1.heap.objs.size+1],FpOk X pins H1 d:=fun d hd=>by
  have hd':s1.heap.objs.size≤d:=by
   simp only[List.mem_cons,List.not_mem_nil,or_false] at hd
   rcases hd with rfl|rfl|rfl|rfl|rfl <;> omega
  exact I1.fpOk hd' (I1.hok.fresh hd')
 obtain⟨m,em⟩:∃m,m=s1.heap.objs.size:=⟨_,rfl⟩
 have hnd : [m+4,m+2,m+3,m,m+1].Nodup:=by simp
 rw[← em] at fpo
 rcases q1 with ⟨⟨xs,hq⟩,⟨ys,hq'⟩,q⟩|⟨⟨xs,hq⟩,⟨ys,hq'⟩,q⟩
 ·obtain⟨_,its,rv,pl⟩:=I1.hok a _ hq
  obtain⟨_,its',rv',pl'⟩:=I1.hok b _ hq'
  refine zor pl pl' fun h' c1 c2 c3 c4 c5 hk=>?_
  have I2:Inv X pins σ H1 { s1 with heap:=h' }:=I1.kept (t':=s1.toks) hk
  rw[← em] at c1 c2 c3 c4 c5 ⊢
  exact wpAny_pyIter_zip c1 ⟨m+4,[m+4,m+2,m+3,m,m+1],_,_,H1,rfl,I2,znM a b _ _ _ _ _ hnd,⟨c1,c2,⟨_,_,c3⟩,c4,c5⟩,fpo,q⟩
 ·obtain⟨its,rv,pl,hz⟩:=I1.list hq
  obtain⟨its',rv',pl',hz'⟩:=I1.list hq'
  refine call_zip_2 pl.isList pl'.isList fun h' c1 c2 c3 c4 c5 hsz hk=>?_
  have I2:Inv X pins σ H1 { s1 with heap:=h' }:=I1.kept (t':=s1.toks) hk
  rw[← em] at c1 c2 c3 c4 c5 ⊢
  exact wpAny_pyIter_zip c1 ⟨m+4,[m+4,m+2,m+3,m,m+1],_,_,H1,rfl,I2,zmB a b _ _ _ _ _ hnd,⟨c1,c2,⟨_,_,c3⟩,c4,c5⟩,fpo,q⟩
end
end L2
namespace PM
open PySem L2
section
variable {K:Kx} {XO:XOT} {E:L2.St→XK}
def zpc:List D→Option (List D)
 | [.tup x,.tup y]=>some (zipD x y)
 | [.lst x,.lst y]=>some (zipD x y)
 | _=>none
def zp7 (ml:En→R (List D)) (δ:En):R (List D):=(ml δ).bind fun l=>R.of (zpc l)
theorem zmW {l r:List D} (h:zpc l=some r):∃x y,(l=[.tup x,.tup y]∨l=[.lst x,.lst y])∧r=zipD x y:=by
 unfold zpc at h
 split at h
 ·cases h;exact⟨_,_,.inl rfl,rfl⟩
 ·cases h;exact⟨_,_,.inr rfl,rfl⟩
 ·cases h
theorem znp {a b:Addr} {ds es:List D} {vs ws:List V} {F1:Hp} {P:Hp→Hp→Prop} (r:RepL K F1 ds vs) (r':RepL K F1 es ws) (h:∀F2 H2,P F2 H2→Same F1 F2∧Same F2 H2∧H2 a=some (.tup vs)∧H2 b=some (.tup ws)):IsIt K (ItzW K.f a b) P (zipD ds es):=by
 intro F2 H2 p i
 obtain⟨s1,s2,q,q'⟩:=h F2 H2 p
 unfold zipD
 rw[List.getElem?_zipWith]
 refine⟨fun d hd=>?_,fun hn=>?_⟩
 ·cases e:ds[i]? with
  | none=>rw[e] at hd;cases hd
  | some x=>
   cases e':es[i]? with
   | none=>rw[e,e'] at hd;cases hd
   | some y=>
    rw[e,e'] at hd
    cases hd
    obtain⟨v,hv,rv⟩:=r.get e
    obtain⟨w,hw,rw'⟩:=r'.get e'
    refine⟨⟨vs,ws,v,w,q,q',hv,hw⟩,fun x' H' y=>?_⟩
    obtain⟨p',x1,y1,rfl,hp,rfl,z1,z2⟩:=y
    have z:=z1 vs q
    rw[hv] at z;cases z
    have z:=z2 ws q'
    rw[hw] at z;cases z
    refine⟨_,.new s2 hp,?_⟩
    simp only[Rep]
    have m:=s1.trans (Same.upd (u:=.tup [v,w]) (s2.free hp))
    exact⟨p',_,rfl,zaX,.cons (Rep.mono m _ rv) (.cons (Rep.mono m _ rw') .nil)⟩
 ·cases e:ds[i]? with
  | none=>exact⟨vs,ws,q,q',.inl (by rw[r.length];exact List.getElem?_eq_none_iff.mp e)⟩
  | some x=>
   cases e':es[i]? with
   | none=>exact⟨vs,ws,q,q',.inr (by rw[r'.length];exact List.getElem?_eq_none_iff.mp e')⟩
   | some y=>rw[e,e'] at hn;cases hn
theorem zqp {tl:TA} {ml:En→R (List D)} (h:SA K XO E tl ml):SI K XO E (zrt K.f tl) (zp7 ml):=by
 intro Λ F0 H0 F H σ δ R I a
 refine h Λ F0 H0 F H σ δ _ I (a.bind.imp fun ds F1 H1 e1 a1 vs r=>?_)
 cases q:zpc ds with
 | none=>rw[q] at a1;exact a1.elim
 | some z=>
  rw[q] at a1
  obtain⟨l,l',hl,rfl⟩:=zmW q
  rcases hl with rfl|rfl
  ·obtain⟨v,w,rfl,r1,r2⟩:=RepL.two r
   simp only[Rep] at r1 r2
   obtain⟨a,vs,rfl,h1,h2⟩:=r1
   obtain⟨b,ws,rfl,h3,h4⟩:=r2
   exact⟨a,b,rfl,.inl ⟨⟨vs,e1.fh _ _ h1⟩,⟨ws,e1.fh _ _ h3⟩,a1 F1 H1 (.refl e1.fh) _ (znp h2 h4 fun F2 H2 x=>⟨x.1,x.2,x.2 _ _ (x.1 _ _ h1),x.2 _ _ (x.1 _ _ h3)⟩)⟩⟩
  ·obtain⟨v,w,rfl,r1,r2⟩:=RepL.two r
   simp only[Rep] at r1 r2
   obtain⟨a,vs,rfl,h1,h2⟩:=r1
   obtain⟨b,ws,rfl,h3,h4⟩:=r2
   exact⟨a,b,rfl,.inr ⟨⟨vs,.inl (PM.Same.rdp e1.fh h1)⟩,⟨ws,.inl (PM.Same.rdp e1.fh h3)⟩,a1 F1 H1 (.refl e1.fh) _ (zj4 h2 h4 fun F2 H2 x=>⟨x.1,x.2,.inl (PM.Same.rd x.2 (PM.Same.rdp x.1 h1)),.inl (PM.Same.rd x.2 (PM.Same.rdp x.1 h3))⟩)⟩⟩
end
end PM
namespace L2
open PySem PySem.Spec PyProof.Rows
theorem zmL (l:Addr) (items:Array Value) (n:Nat) (b:Addr) (items2:Array Value) (n2:Nat) (dd:Option Addr) (sl:Array (Option Value)) (hs0:¬(!items.isEmpty && Builtin.List.listTooLong (items.size+items2.size))=true) (hs1:items.size≤sizeLine) (hs2:items.size+items2.size≤sizeLine+1) :
  Meets (Builtin.«list.extend» ⟨[.ref l,.ref b],[]⟩) (fun _ R s=>s.heap.get? l=some { cls:=.type "list",dict:=none,data:=.seq items n,slots:=#[] }∧s.heap.get? b=some { cls:=.type "tuple",dict:=dd,data:=.seq items2 n2,slots:=sl }∧R (.ok (.ret Value.none)) { s with heap:=s.heap.update l (Obj.mapSeq fun x=>x++items2),toks:=s.toks }):=
 .of_wp fun prog w A R s h=>by
  obtain⟨hp,g,d,tk,os⟩:=s;obtain⟨hl,hb,h⟩:=h;have f1:=AutoSeq1.idx_int;have f2:=AutoSeq1.sub_tuple_tuple;have f3:=AutoSeq1.sub_list_list;have f4:=AutoSeq1.sub_tuple_list;have f5:=AutoSeq1.sub_list_tuple;
  have hz':(items++items2).size≤sizeLine+1:=by rw[Array.size_append];exact hs2
  wp_walk using (wpAny_updateSeq hl rfl (hz:=hs1) (_hz':=hz')),wpAny_loadPart' hl,wpAny_loadPart' hb;exact⟨_,rfl,h⟩
section
variable {X:Cx}
def zrZ:V→List V→Hp→VK→Prop:=fun x vs H Q=>∃l b xs zs,x=.ref l∧vs=[.ref b]∧H l=some (.lst xs)∧(H b=some (.lst zs)∨H b=some (.tup zs))∧xs.length+zs.length≤sizeLine∧Q .non (upd H l (.lst (xs++zs)))
theorem znP:MtM X "list.extend" zrZ:=by
 intro pins s σ H x vs v us Q I rx rv h
 obtain⟨l,b,xs,zs,rfl,rfl,hH,hB,hz,q⟩:=h
 rcases hB with hB|hB
 ·exact zoo pins s σ H _ _ v us Q I rx rv ⟨l,b,xs,zs,rfl,rfl,hH,hB,hz,q⟩
 cases rx
 obtain⟨u,rfl,ru⟩:=rv.one
 cases ru
 obtain⟨z,its,n,r,hl,e⟩:=I.lstM hH
 obtain⟨z2,its2,r2,e2⟩:=I.hok b _ hB
 have hl2:=r2.length
 obtain⟨⟨cls,dd,da,sl⟩,e2,hc,n2,hd⟩:=e2
 dsimp only at hc hd
 subst hc hd
 have hsz:its.toArray.size+its2.toArray.size≤sizeLine:=by rw[List.size_toArray,List.size_toArray];omega
 have hlong:¬ (!its.toArray.isEmpty && Builtin.List.listTooLong (its.toArray.size+its2.toArray.size))=true:=by
  rw[zmn hsz,Bool.and_false]
  exact Bool.false_ne_true
 refine call_meets F.slot_list_extend ⟨_,e,rfl⟩ F.entry_list_extend (F.args_list_extend_2 _ _)
  (zmL l its.toArray n b its2.toArray n2 dd sl hlong (by rw[List.size_toArray];omega) (by omega)) ⟨e,e2,?_⟩
 refine⟨.non,_,I.lset (its':=its++its2) hH e (by simp) (r.append r2) ?_,rfl,q⟩
 rw[List.length_append]
 omega
end
end L2
namespace PM
open PySem L2
section
variable {K:Kx} {XO:XOT} {E:L2.St→XK} {Λ:List (Nat×Addr×HO)} {F0 H0 F H F1 H1 F' H':Hp} {σ:L2.St} {δ:En}
def zjO (i:Nat) (me:En→R D) (δ:En):O:=match δ[i]? with
 | some (.o (.lst l))=>(me δ).toO δ fun d=>(match d with|.lst r=>ifC (l.length+r.length≤sizeLine) (.nx (δ.set i (.o (.lst (l++r))))) .no|.tup r=>ifC (l.length+r.length≤sizeLine) (.nx (δ.set i (.o (.lst (l++r))))) .no|_=>.no)
 | _=>.no
theorem znx {i:Nat} {te:TE} {me:En→R D} (h:SE K XO E te me):SS K XO E (zkv (tBM K.f "list" zrZ (tVar i) (zd3 te tNil))) (zjO i me):=by
 intro Λ F0 H0 F H σ δ Dn I a
 unfold zjO at a
 split at a
 ·rename_i l q
  obtain⟨p,s1,vs,s2,s3⟩:=I.own q
  refine⟨_,s1,.inl ⟨rfl,vs,.inl (.inl s2)⟩,?_⟩
  refine h Λ F0 H0 F H σ δ _ I ((AftS.of I a).imp fun d F1 H1 e c x rx=>?_)
  cases d with
  | lst r=>
   simp only[Rep] at rx
   obtain⟨b,ws,rfl,b2,b3⟩:=rx
   dsimp only at c
   unfold ifC at c
   split at c
   ·rename_i hl
    refine⟨p,b,vs,ws,rfl,rfl,e.hh _ _ s2,.inl (e.fh _ _ b2),by rw[s3.length,b3.length];exact hl,?_⟩
    exact c σ F1 _ ((I.grow e).chg q s1 ⟨_,zaX,(s3.mono e.ff).append b3⟩)
   ·exact c.elim
  | tup r=>
   simp only[Rep] at rx
   obtain⟨b,ws,rfl,b2,b3⟩:=rx
   dsimp only at c
   unfold ifC at c
   split at c
   ·rename_i hl
    refine⟨p,b,vs,ws,rfl,rfl,e.hh _ _ s2,.inr (e.fh _ _ b2),by rw[s3.length,b3.length];exact hl,?_⟩
    exact c σ F1 _ ((I.grow e).chg q s1 ⟨_,zaX,(s3.mono e.ff).append b3⟩)
   ·exact c.elim
  | _=>exact c.elim
 ·exact a.elim
theorem EnvOk.any {i:Nat} {x:Option V} (I:EnvOk K Λ F0 H0 F H σ δ) (hi:δ[i]?=some .no):EnvOk K Λ F0 H0 F H (σ.set i x) δ:=by
 have key:∀j:Nat,δ[j]?≠some .no→(σ.set i x)[j]?=σ[j]?:=fun j hj=>List.getElem?_set_ne fun e=>hj (by rw[← e];exact hi)
 have own:∀j:Nat,Sl.own δ[j]?=true→δ[j]?≠some .no:=fun j h e=>by rw[e] at h;cases h
 refine⟨I.ext,by simp[I.len],fun j=>?_,fun j k a hjk h1 h2 h3 h4=>?_,fun y hy=>?_,?_⟩
 ·by_cases e:δ[j]?=some .no
  ·rw[e];trivial
  ·rw[key j e];exact I.slot j
 ·rw[key j (own j h1)] at h3
  rw[key k (own k h2)] at h4
  exact I.dist j k a hjk h1 h2 h3 h4
 ·obtain⟨⟨d,g1⟩,g2,g3⟩:=I.lent y hy
  exact⟨⟨d,g1⟩,by rw[key y.1 (by rw[g1];intro z;cases z)];exact g2,g3⟩
 ·exact I.tabsOf (fun k T h=>⟨h,key k (by rw[h];intro z;cases z)⟩) (fun _ _ _ _ _ _ t f _=>⟨t,fun b hb=>(f b hb).2⟩) fun k j T a b bs _ _ _ _ ho hs=>.inl ⟨ho,by rw[← key j (own j ho)];exact hs⟩
def okSp:D→Bool
 | .int _=>true
 | .lst l=>decide (l.length≤1000)
 | _=>false
def noSl:Option Sl→Bool
 | some .no=>true
 | _=>false
theorem znV {x:Option Sl} (h:noSl x=true):x=some .no:=by
 unfold noSl at h
 split at h
 ·rfl
 ·cases h
def asSt:Option Sl→Option Str
 | some (.v (.str x))=>some x
 | _=>none
theorem zp3 {x:Option Sl} {s:Str} (h:asSt x=some s):x=some (.v (.str s)):=by
 unfold asSt at h
 split at h
 ·cases h;rfl
 ·cases h
def zg7 (i:Nat) (nt:En→R Bool) (nu:En→O) (δ:En):D→O
 | .tup [a,b,.tup gs]=>if gs.all okSp && decide (gs.length≤1000) then (match nt (δ.set i (.v (.tup [a,b,.tup gs]))) with|.ok false=>nu δ|_=>.no) else .no
 | _=>.no
def zj7 (n i j:Nat) (f:List D→R D) (nt:En→R Bool) (nu:En→O) (δ:En):O:=match asSt δ[n]? with
 | some x=>if noSl δ[i]? && noSl δ[j]? then (match f [.str x] with|.ok d=>zg7 i nt nu δ d|_=>.no) else .no
 | none=>.no
theorem zlB {i:Nat} {nt:En→R Bool} {nu:En→O} {d:D} (h:zg7 i nt nu δ d≠.no):∃a b gs,d=.tup [a,b,.tup gs]∧gs.all okSp=true∧gs.length≤1000∧nt (δ.set i (.v d))=.ok false∧zg7 i nt nu δ d=nu δ:=by
 unfold zg7 at h ⊢
 split at h
 case h_2=>exact absurd rfl h
 rename_i a b gs
 split at h
 case isFalse=>exact absurd rfl h
 rename_i hc
 rw[Bool.and_eq_true,decide_eq_true_eq] at hc
 split at h
 case h_2=>exact absurd rfl h
 rename_i hn
 refine⟨a,b,gs,rfl,hc.1,hc.2,hn,?_⟩
 simp only[hc.1,hc.2,hn,decide_true,Bool.and_self,if_true]
def zh6 (F G:Hp):Hp:=fun p=>match F p with|some o=>some o|none=>G p
theorem zo6 {n i j:Nat} {f:List D→R D} {E':XK} {tt:TT} {nt:En→R Bool} {ts u:TS} {nu:En→O} (hij:i≠j) (ht:ST K XO E tt nt) (hu:SS K XO E u nu) :
  SS K XO E (tSeq (tAsg (zlq (spM K XO f) [] E' (zd3 (tVar n) tNil)) (ziP i)) (tSeq (tIfS tt ts zn4) (tSeq (tFor (iTup K.f (tOp (rIxT K.f) (tVar i) (tC (.int 2)))) (ziP j)
   (tIfS (tB (tCB (rIs K.f) (zd3 (tVar j) (zd3 (tC (.ty "list")) tNil)))) (zkv (tBM K.f "list" zhg (tVar j) (zd3 (tC (.int 0)) tNil))) zn4)) u))) (zj7 n i j f nt nu):=by
 intro Λ F0 H0 F H σ δ Dn I a
 unfold zj7 at a
 split at a
 case h_2=>exact a.elim
 rename_i x qx
 have qn:=zp3 qx
 split at a
 case isFalse=>exact a.elim
 rename_i hc
 rw[Bool.and_eq_true] at hc
 have qi:=znV hc.1
 have qj:=znV hc.2
 cases qf:f [.str x] with
 | no=>rw[qf] at a;exact a.elim
 | ex x=>rw[qf] at a;exact a.elim
 | ok d=>
 rw[qf] at a
 dsimp only at a
 have hne:zg7 i nt nu δ d≠.no:=fun z=>by rw[z] at a;exact a
 obtain⟨d1,d2,gs,hd,hall,hlen,hnt,hnu⟩:=zlB hne
 rw[hnu] at a
 have sn:=I.slot n
 rw[qn] at sn
 obtain⟨v0,s1,s2⟩:=sn
 simp only[Rep] at s2
 subst s2
 have se:Same (fun _=>none) H:=fun _ _ z=>by cases z
 refine⟨_,s1,fun _=>none,[.str x],se,.cons (by simp only[Rep]) .nil,?_⟩
 rw[qf]
 intro G H1 eG v rv
 have new:∀p o,G p=some o→H p=none:=fun p o h=>by
  cases q:H p with
  | none=>rfl
  | some o'=>rw[eG.nw p o' rfl q] at h;cases h
 have ffU:Same F (zh6 F G):=fun p o h=>by unfold zh6;rw[h]
 have gU:Same G (zh6 F G):=fun p o h=>by
  unfold zh6
  cases q:F p with
  | none=>exact h
  | some o'=>have z:=I.same p o' q;rw[new p o h] at z;cases z
 have eU:Ext F H (zh6 F G) H1:=by
  refine⟨ffU,eG.hh,fun p o h=>?_,fun p o h1 h2=>?_⟩
  ·unfold zh6 at h
   cases q:F p with
   | some o'=>rw[q] at h;cases h;exact eG.hh _ _ (I.same _ _ q)
   | none=>rw[q] at h;exact eG.fh _ _ h
  ·unfold zh6
   rw[h1]
   exact eG.nw p o rfl h2
 have il:i<δ.length:=(List.getElem?_eq_some_iff.mp qi).1
 have jl:j<δ.length:=(List.getElem?_eq_some_iff.mp qj).1
 have I1:=(I.grow eU).put (i:=i) (d:=d) (v:=v) ⟨_,qi,fun _ z=>by cases z⟩ (Rep.mono gU d rv)
 show tIfS tt ts zn4 _ (σ.set i (some v)) H1
 refine ht Λ F0 H0 _ H1 _ _ _ I1 ?_
 rw[hnt]
 intro F2 H2 e2
 show (if false=true then _ else _)
 rw[if_neg Bool.false_ne_true]
 -- the loop
 have rv':=rv
 rw[hd] at rv'
 simp only[Rep,RepL] at rv'
 obtain⟨pa,vs,rfl,ga,v1,r1,rfl,rx1,v2,r2,rfl,rx2,v3,r3,rfl,⟨pg,ws,rfl,gg,rws⟩,rfl⟩:=rv'
 have sGH2:Same G H2:=fun p o h=>e2.hh _ _ (eG.fh _ _ h)
 have sHH2:Same H H2:=fun p o h=>e2.hh _ _ (eG.hh _ _ h)
 have si:(σ.set i (some (V.ref pa)))[i]?=some (some (.ref pa)):=List.getElem?_set_self (by rw[I.len];exact il)
 refine⟨_,si,pa,_,2,.ref pg,rfl,rfl,.inl (.inl (sGH2 _ _ ga)),rfl,pg,rfl,⟨ws,.inl (.inl (sGH2 _ _ gg))⟩,?_⟩
 have hw:ws.length=gs.length:=rws.length
 refine⟨fun c m σ2 H3=>EnvOk K Λ F0 H0 F H σ2 δ∧Same H H3∧H3 pg=some (.tup ws)∧(∀p vs0,V.ref p∈ws→G p=some (.lst vs0)→∃ys,H3 p=some (.lst ys)∧ys.length≤vs0.length+c)∧m=ws.length - c∧c≤ws.length,
  ⟨_,I.any qi,sHH2,sGH2 _ _ gg,fun p vs0 _ h=>⟨vs0,sGH2 _ _ h,by omega⟩,rfl,Nat.zero_le _⟩,?_⟩
 rintro c m σ2 H3 ⟨J,w1,w2,w3,rfl,w5⟩
 have ext3:Ext F H F H3:=⟨.refl _,w1,fun p o h=>w1 _ _ (I.same _ _ h),fun p o h _=>h⟩
 by_cases hlt:c<ws.length
 ·obtain⟨y,hy⟩:∃y,ws[c]?=some y:=⟨ws[c],by simp[hlt]⟩
  have sq:SqT K.f H3 pg ws:=.inl (.inl w2)
  refine .inr ⟨⟨ws,y,sq,hy⟩,fun σ' H'=>EnvOk K Λ F0 H0 F H σ' δ∧Same H H'∧H' pg=some (.tup ws)∧(∀p vs0,V.ref p∈ws→G p=some (.lst vs0)→∃ys,H' p=some (.lst ys)∧ys.length≤vs0.length+(c+1)),
   fun σ' H' ⟨z1,z2,z3,z4⟩=>⟨_,by omega,z1,z2,z3,z4,rfl,hlt⟩,fun y' H' hyl=>?_⟩
  obtain⟨rfl,hyl⟩:=hyl
  have ey:=hyl ws sq
  rw[hy] at ey
  cases ey
  obtain⟨g,hg,rg⟩:=rws.get' hy
  have okg:=List.all_eq_true.mp hall g (List.mem_of_getElem? hg)
  have J2:=J.any (x:=some y) qj
  have sj:(σ2.set j (some y))[j]?=some (some y):=List.getElem?_set_self (by rw[J.len];exact jl)
  have up:∀p vs0,V.ref p∈ws→G p=some (.lst vs0)→∃ys,H' p=some (.lst ys)∧ys.length≤vs0.length+(c+1):=fun p vs0 h1 h2=>by
   obtain⟨ys,h3,h4⟩:=w3 p vs0 h1 h2
   exact⟨ys,h3,by omega⟩
  show tIfS _ _ _ _ (σ2.set j (some y)) H'
  cases g with
  | int k=>
   simp only[Rep] at rg
   subst rg
   refine⟨_,sj,_,.ty "list",.type "list",_,_,rfl,rfl,.int _,zhU (.int k) rfl,_,rfl,?_⟩
   show (if false=true then _ else _)
   rw[if_neg Bool.false_ne_true]
   exact⟨J2,w1,w2,up⟩
  | lst l=>
   simp only[Rep] at rg
   obtain⟨p,vs0,rfl,h1,h2⟩:=rg
   have hl:l.length≤1000:=by simpa[okSp] using okg
   have l0:=h2.length
   have mem:V.ref p∈ws:=List.mem_of_getElem? hy
   obtain⟨ys,h3,h4⟩:=w3 p vs0 mem h1
   refine⟨_,sj,_,.ty "list",.type "list",_,_,rfl,rfl,.lst h3,zhU (.lst l) rfl,_,rfl,?_⟩
   show (if true=true then _ else _)
   rw[if_pos rfl]
   refine⟨_,sj,.inl ⟨rfl,ys,.inl (.inl h3)⟩,p,ys,.int 0,rfl,rfl,h3,by rw[sizeLine_eq];omega,?_⟩
   have hpn:=new p _ h1
   refine⟨J2,fun b o h=>?_,?_,fun p' vs' m' g'=>?_⟩
   ·rw[zaz (zaG h hpn)];exact w1 b o h
   ·rw[zaz (show pg≠p from fun e=>by rw[e,h3] at w2;cases w2)];exact w2
   ·by_cases e:p'=p
    ·subst e
     rw[h1] at g'
     cases g'
     exact⟨_,zaX,by simp;omega⟩
    ·rw[zaz e];exact up p' vs' m' g'
  | _=>cases okg
 ·have e:c=ws.length:=by omega
  subst e
  exact .inl ⟨⟨ws,.inl (.inl w2),Nat.le_refl _⟩,hu Λ F0 H0 F H3 σ2 δ Dn (J.grow ext3) a⟩
end
end PM
namespace L2
open PySem PySem.Spec PyProof.Rows
section
variable {X:Cx}
end
end L2
namespace PM
open PySem L2
section
variable {K:Kx} {XO:XOT} {E:L2.St→XK} {te:TE} {me:En→R D}
end
end PM
namespace L2
open PySem PySem.Spec PyProof.Rows
section
variable {X:Cx} {CX:CXT} {k n:Nat} {x:Str} {ps:List Str} {sp:Sp} {E:XK} {p pos:Pos} {e:Expr} {es:List Expr} {t:TA}
theorem pe_h (G:Has X.prog X.w X.K X.mg X.base CX k x ps sp) (hr:Room n X.A) (hx:zku CX X E) (ha:PA X (e::es) t) (hk:k≤n:=by decide) (hg:Gl X x:=by rfl) (hdb:(x == ("__debug__" : Str))=false:=by decide)
  (he:starEach (e::es) X.env=(false,eval e X.env)::starEach es X.env:=by rfl) (hpl:(backTo pos (starEach es X.env)).any (·.1)=false:=by rfl):PE X (.Call (.Name x p) (e::es) [] pos) (zlq sp [] E t):=zpz G (hr.mono hk) hg hx ha hdb he hpl
theorem scMk {N P:List Str} {sc:Scope} (h1:sc.kind=.function:=by rfl) (h2:sc.isCoroutine=false:=by rfl) (h3:sc.isGenerator=false:=by rfl) (h4:N.Nodup:=by decide +kernel) (h5:N.take P.length=P:=by rfl)
  (h6:∀x∈P,sc.names.lookup x=some .local∨sc.names.lookup x=some .cell:=by decide +kernel) (h7:∀y∈sc.names,y.2≠.free:=by decide +kernel):FnScope N P sc:=⟨h1,h2,h3,h4,h5,h6,h7⟩
end
end L2
namespace L2
open PySem PySem.Spec PyProof.Rows
section
variable {X:Cx} {xe:Value→Shared→Prop} {pins:List (Addr×Obj)} {σ:St} {H:Hp} {s:Shared}
end
section
variable {M:Model} {A:Around} {E:Value→Shared→Prop} {s:Shared} {B:Heap} {env env2:Env} {outer l:List Env} {L e:Addr} {cls:Value} {dct:Option Addr} {fl:Value} {Q:Unit→Shared→Prop}
end
section
variable {X:Cx} {E:XK} {C:Addr} {e:Value} {s':Shared}
end
end L2
namespace L2
open PySem PySem.Spec PyProof.Rows
section
variable {prog:Program} {w:World} {A:Around} {R:Result→Shared→Prop} {s:Shared}
end
section
variable {X:Cx} {scope:Scope} {N':List Str} {ix:List Nat} {n:Nat} {tg elt iter:Expr} {g:TG} {te:TE} {pos:Pos} {E0:XK}
end
section
variable {P:Program} {w:World} {K:PySem.W.Frag} {mg:Str→Option Value} {base:Heap} {N:List Str} {qual:Str} {scope:Scope} {f:Addr} {cd:Value} {A:Around} {outer:List Env} {s0:Shared} {H0:Hp} {E:XK}
end
end L2
namespace PM
open PySem L2
section
variable {K:Kx} {XO:XOT} {E0:XK} {te:TE} {me:En→R D}
end
end PM
namespace My
open PySem L2 PM
def zd2:En→O:=(mSeq (mIfS (zaA (m2 oLt (mRd 1) (mCB fLen (zab (mRd 0) mNil))))
 (mRet (m2 oIxL (mRd 0) (mRd 1)))
 zbb)
 (mRet (mC (.int 0))))
def zaI:List D→R D:=runF 2 0 zd2
def zfG:En→O:=(mRet (m2 oMod (m2 oMul (m2 oAdd (m2 oAdd (m2 oMod (mRd 0) (m2 oPow (mC (.int 10)) (mC (.int 20)))) (m2 oMul (mRd 1) (mRd 1))) (mC (.int 1))) (m2 oAdd (mC (.int 48271)) (m2 oMul (mC (.int 2)) (mRd 1)))) (mC (.int 2147483647))))
def zaK:List D→R D:=runF 2 0 zfG
def zh4:En→O:=(mAsg (m2 oDiv (mRd 0) (mC (.int 2))) (zat 0))
def zjc:En→O:=mFor (mRng (zab (mVar 1) mNil)) (zat 2) zh4
def zkM:En→O:=(mSeq zjc
 (mRet (m2 oMod (mRd 0) (mC (.int 2)))))
def zdS:List D→R D:=runF 2 1 zkM
def zki:En→O:=(mSeq (mAsg (zaf zaK (zab (mVar 0) (zab (m2 oAdd (mRd 1) (mC (.int 50))) mNil))) (zat 3))
 (mSeq (mAsg (m2 oAdd (zaf zdS (zab (mVar 3) (zab (mVar 2) mNil))) (zaf zdS (zab (zaf zaK (zab (mVar 0) (zab (m2 oAdd (mRd 1) (mC (.int 90))) mNil))) (zab (mVar 2) mNil)))) (zat 4))
 (mRet (m2 oGt (mRd 4) (m2 oSub (mC (.int 1)) (m2 oMod (m2 oDiv (mRd 3) (mC (.int 65536))) (mC (.int 2))))))))
def zek:List D→R D:=runF 3 2 zki
def zhn:En→O:=(mSeq (mAsg (zaf zaK (zab (mVar 0) (zab (mVar 1) mNil))) (zat 2))
 (mSeq (mIfS (zaA (m2 oEq (m2 oMod (mRd 2) (mC (.int 3))) (mC (.int 0))))
 (mRet (m2 oMod (m2 oDiv (mRd 2) (mC (.int 3))) (mC (.int 4))))
 zbb)
 (mSeq (mIfS (zaA (m2 oEq (m2 oMod (mRd 2) (mC (.int 3))) (mC (.int 1))))
 (mRet (m2 oMod (m2 oDiv (mRd 2) (mC (.int 3))) (mC (.int 30))))
 zbb)
 (mRet (m2 oMod (m2 oAdd (m2 oMul (m2 oMod (mRd 0) (m2 oPow (mC (.int 10)) (mC (.int 20)))) (mC (.int 6364136223846793005))) (mRd 2)) (m2 oAdd (m2 oPow (mC (.int 10)) (mC (.int 18))) (mC (.int 1))))))))
def zcw:List D→R D:=runF 2 1 zhn
def zga:En→R D:=zcS (mRng (zab (mVar 1) mNil)) [4,3] 1 (zaE 2) (some (zaA (zaf zek (zab (mVar 0) (zab (mVar 1) (zab (mVar 2) mNil)))))) (mVar 2)
def zhj:En→O:=(mSeq (mAsg zga (bNew 5))
 (zoZ 2 5 (zaf zcw (zab (mVar 4) (zab (mVar 3) mNil)))))
def zhP:En→O:=mFor (zgk (zab (mVar 0) mNil)) (bTup 2 (zbj (zat 3) (zbj (zat 4) bNil))) zhj
def zeY:En→R D:=zcS (mItL (mRd 2)) [6] 2 (bTup 2 (zbj (zaE 1) (zbj (zaE 2) bNil))) (some (zaA (m2 oIn (mRd 0) (mRd 2)))) (mC (.int 1))
def zhl:En→O:=(mIfS (zaA (zfN (m2 oEq (mCB fLen (zab zeY mNil)) (mC (.int 0)))))
 (zkC 2 (zfN (m2 oMod (m2 oMul (mRd 6) (mC (.int 5))) (mCB fLen (zab (mRd 2) mNil)))) (mC (.int 1)) (mVar 6))
 zbb)
def zhN:En→O:=mFor (mRng (zab (mVar 1) mNil)) (zat 6) zhl
def zjh:En→O:=(mSeq (zoP (mLst mNil) 2)
 (mSeq zhP
 (mSeq (mIfS (zaA (zfN (m2 oEqD (mRd 2) (mLst mNil))))
 (zkD 2 (mC (.int 3)) (mLst mNil))
 zbb)
 (mSeq zhN
 (zp6 2)))))
def zeL:List D→R D:=runO 2 5 zjh
def zee:En→R Bool:=(zaA (m2 oGt (mRd 1) (mC (.int 0))))
def zd8:En→O:=(mPar 0 1 (zab (mVar 1) (zab (m2 oMod (mRd 0) (mRd 1)) mNil)))
def zfW:En→O:=ziq zee zd8
def zgv:En→O:=(mSeq zfW
 (mRet (mVar 0)))
def zbB:List D→R D:=runF 2 0 zgv
def ziF:En→O:=(mSeq (mAsg (zaf zaK (zab (mVar 0) (zab (m2 oAdd (mRd 1) (mC (.int 400))) mNil))) (zat 2))
 (mSeq (mAsg (m2 oIxL (mLst (zab (mC (.int 1)) (zab (mC (.int 1)) (zab (mC (.int 2)) (zab (mC (.int 3)) (zab (mC (.int 4)) (zab (mC (.int 6)) (zab (mC (.int 7)) (zab (mC (.int 12)) (zab (m2 oAdd (mC (.int 1)) (m2 oMod (m2 oDiv (mRd 2) (mC (.int 8))) (mC (.int 12)))) mNil)))))))))) (m2 oMod (m2 oDiv (mRd 2) (mC (.int 128))) (mC (.int 9)))) (zat 3))
 (mSeq (mAsg (m2 oMod (m2 oDiv (mRd 2) (mC (.int 1200))) (mC (.int 30))) (zat 4))
 (mSeq (mIfS (zaA (m2 oEq (m2 oMod (mRd 2) (mC (.int 3))) (mC (.int 0))))
 (mAsg (m2 oMod (m2 oAdd (m2 oMul (m2 oMod (mRd 0) (m2 oPow (mC (.int 10)) (mC (.int 20)))) (mC (.int 48271))) (mRd 2)) (m2 oPow (mC (.int 10)) (mC (.int 12)))) (zat 4))
 zbb)
 (mSeq (mAsg (zaf zbB (zab (mVar 3) (zab (mVar 4) mNil))) (zat 5))
 (mRet (mTup (zab (m2 oDiv (mRd 4) (mRd 5)) (zab (m2 oDiv (mRd 3) (mRd 5)) mNil)))))))))
def zbe:List D→R D:=runF 2 4 ziF
def zgD:En→O:=(mSeq (mIfS (zaA (m2 oEq (m2 oIxT (mRd 0) (mC (.int 1))) (mC (.int 1))))
 (mRet (mCB zdE (zab (m2 oIxT (mRd 0) (mC (.int 0))) mNil)))
 zbb)
 (mRet (m2 zds (m2 zds (mCB zdE (zab (m2 oIxT (mRd 0) (mC (.int 0))) mNil)) (mC (.str "/"))) (mCB zdE (zab (m2 oIxT (mRd 0) (mC (.int 1))) mNil)))))
def zaF:List D→R D:=runF 1 0 zgD
def zhs:En→O:=(mAsg (m2 oDiv (m2 oMul (mRd 1) (mRd 3)) (zaf zbB (zab (mVar 1) (zab (mVar 3) mNil)))) (zat 1))
def zii:En→O:=mFor (mItL (mVar 0)) (bTup 2 (zbj (zat 2) (zbj (zat 3) bNil))) zhs
def zi0:En→O:=(mSeq (mAsg (mC (.int 1)) (zat 1))
 (mSeq zii
 (mRet (mVar 1))))
def zbI:List D→R D:=runF 1 3 zi0
def zdn:En→R D:=zcS (mItL (mRd 0)) [1] 2 (bTup 2 (zbj (zaE 1) (zbj (zaE 2) bNil))) none (m2 oDiv (m2 oMul (mRd 1) (mRd 0)) (mRd 2))
def zhz:En→O:=(zck zdn)
def zaL:List D→R D:=runO 2 0 zhz
def zeN:En→R D:=zcS (mRng (zab (mCB fLen (zab (mRd 3) mNil)) mNil)) [0] 1 (zaE 1) none (zaf zbe (zab (zaf zaI (zab (mVar 0) (zab (mVar 1) mNil))) (zab (mVar 1) mNil)))
def zdD:En→R D:=zcS (mItL (m2 oIxT (mRd 7) (mC (.int 1)))) [] 1 (zaE 0) none (mCB zdE (zab (mRd 0) mNil))
def zem:En→O:=(zbw 5 (zeD " " (m2 oCat (mLst (zab (zaf zaF (zab (mVar 6) mNil)) mNil)) zdD)))
def zgT:En→O:=mFor (mZip (zab (mVar 4) (zab (mVar 3) mNil))) (bTup 2 (zbj (zat 6) (zbj (zat 7) bNil))) zem
def zdF:En→R D:=zcS (mZip (zab (mRd 9) (zab (mRd 3) mNil))) [] 2 (bTup 2 (zbj (zaE 0) (zbj (zaE 1) bNil))) none (mTup (zab (mVar 0) (zab (m2 oIxT (mRd 1) (mC (.int 1))) mNil)))
def zfg:En→O:=(mSeq (mAsg (m2 oAdd (mC (.int 1)) (m2 oMod (mRd 1) (mC (.int 12)))) (zat 2))
 (mSeq (mAsg (zaf zeL (zab (mSl (mRd 0) mNoP (zc1 (mC (.int 14)))) (zab (mVar 2) mNil))) (zat 3))
 (mSeq (mAsg zeN (zat 4))
 (mSeq (mAsg (mLst (zab (m2 zds (mC (.str "cover ")) (mCB zdE (zab (mRd 2) mNil))) mNil)) (bNew 5))
 (mSeq zgT
 (mSeq (mAsg (zaf zbI (zab (mVar 4) mNil)) (zat 8))
 (mSeq (mAsg (zaf zaL (zab (mVar 4) (zab (mVar 8) mNil))) (zat 9))
 (mFrz 5 (zck (mLst (zab (mVar 5) (zab (mVar 8) (zab (mTup (zab (mVar 2) (zab zdF mNil))) mNil)))))))))))))
def zcg:List D→R D:=runO 2 8 zfg
def zeG:En→R D:=zcS (mRng (zab (mVar 2) mNil)) [0] 1 (zaE 1) none (zaf zbe (zab (zaf zaI (zab (mVar 0) (zab (mVar 1) mNil))) (zab (mVar 1) mNil)))
def zdI:En→R D:=zcS (mItL (mRd 3)) [] 1 (zaE 0) none (zaf zaF (zab (mVar 0) mNil))
def zep:En→O:=(mSeq (mAsg (zaf zaK (zab (mVar 7) (zab (m2 oAdd (mRd 6) (mC (.int 130))) mNil))) (zat 8))
 (mSeq (mAsg (m2 oAdd (m2 oAdd (m2 oMod (mRd 8) (mRd 2)) (mC (.int 1))) (m2 oMod (m2 oDiv (mRd 8) (mRd 2)) (m2 oSub (mRd 2) (mC (.int 1))))) (zat 9))
 (mSeq (zbw 5 (mTup (zab (m2 oMod (mRd 8) (mRd 2)) (zab (m2 oMod (mRd 9) (mRd 2)) mNil))))
 (zbw 4 (m2 zds (m2 zds (mCB zdE (zab (m2 oMod (mRd 8) (mRd 2)) mNil)) (mC (.str " "))) (mCB zdE (zab (m2 oMod (mRd 9) (mRd 2)) mNil)))))))
def zhd:En→O:=mFor (zgk (zab (mSl (mRd 0) mNoP (zc1 (mC (.int 24)))) mNil)) (bTup 2 (zbj (zat 6) (zbj (zat 7) bNil))) zep
def zfh:En→O:=(mSeq (mAsg (m2 oAdd (mC (.int 2)) (m2 oMod (mRd 1) (mC (.int 8)))) (zat 2))
 (mSeq (mAsg zeG (zat 3))
 (mSeq (mAsg (mLst (zab (zeD " " (m2 oCat (mLst (zab (mC (.str "touch")) mNil)) zdI)) mNil)) (bNew 4))
 (mSeq (mAsg (mLst mNil) (bNew 5))
 (mSeq zhd
 (mSeq (mAsg (zaf zbI (zab (mVar 3) mNil)) (zat 10))
 (mFrz 4 (mFrz 5 (zck (mLst (zab (mVar 4) (zab (mVar 10) (zab (mTup (zab (zaf zaL (zab (mVar 3) (zab (mVar 10) mNil))) (zab (mVar 5) mNil))) mNil)))))))))))))
def zch:List D→R D:=runO 2 9 zfh
def zgz:En→O:=(mSeq (mIfS (zaA (m2 oEq (mRd 1) (mRd 2)))
 (mRet (mC (.int 0)))
 zbb)
 (mSeq (mAsg (mCB znH (zab (mRd 1) (zab (mRd 2) mNil))) (zat 4))
 (mSeq (mAsg (mCB zoL (zab (mRd 1) (zab (mRd 2) mNil))) (zat 5))
 (mSeq (mAsg (m2 oAdd (m2 oAdd (m2 oIxT (m2 oIxL (mRd 0) (mRd 4)) (mC (.int 1))) (m2 oMul (mC (.int 7)) (m2 oIxT (m2 oIxL (mRd 0) (mRd 5)) (mC (.int 0))))) (m2 oMul (mRd 4) (mRd 5))) (zat 6))
 (mRet (m2 oAdd (mRd 3) (m2 oMod (mRd 6) (m2 oAdd (mRd 3) (mC (.int 1))))))))))
def zdx:List D→R D:=runF 4 3 zgz
def zfC:En→O:=(mSeq (mAsg (zaf zaK (zab (zaf zaI (zab (mVar 0) (zab (mVar 4) mNil))) (zab (m2 oAdd (mRd 4) (mC (.int 300))) mNil))) (zat 5))
 (mSeq (mAsg (m2 oIxL (mLst (zab (mC (.int 3)) (zab (mC (.int 50)) (zab (m2 oPow (mC (.int 10)) (mC (.int 5))) (zab (m2 oPow (mC (.int 10)) (mC (.int 11))) mNil))))) (m2 oMod (mRd 5) (mC (.int 4)))) (zat 6))
 (zbw 3 (mTup (zab (m2 oMod (m2 oMul (m2 oDiv (mRd 5) (mC (.int 4))) (mC (.int 48271))) (mRd 6)) (zab (m2 oMod (m2 oMul (m2 oMod (m2 oMul (m2 oDiv (mRd 5) (mC (.int 4))) (mC (.int 69621))) (mC (.int 2147483629))) (mC (.int 40692))) (mRd 6)) mNil))))))
def zfY:En→O:=mFor (mRng (zab (mVar 1) mNil)) (zat 4) zfC
def zfU:En→R D:=zcS (mRng (zab (mVar 2) mNil)) [0,3,1] 1 (zaE 3) none (zhT zdx (zab (mRd 0) (zab (mVar 1) (zab (mVar 3) (zab (mVar 2) mNil)))))
def zeC:En→R D:=zcS (mRng (zab (mVar 1) mNil)) [3,7,1] 1 (zaE 3) none zfU
def zfP:En→R D:=zcS (mItL (mRd 0)) [1] 1 (zaE 1) none (m2 oAdd (mCB fAbs (zab (m2 oSub (m2 oIxT (mRd 0) (mC (.int 0))) (m2 oIxT (mRd 1) (mC (.int 0)))) mNil)) (mCB fAbs (zab (m2 oSub (m2 oIxT (mRd 0) (mC (.int 1))) (m2 oIxT (mRd 1) (mC (.int 1)))) mNil)))
def zfQ:En→R D:=zcS (mItL (mRd 3)) [3] 1 (zaE 1) none zfP
def zgK:En→O:=(mSeq (mAsg (mLst mNil) (bNew 3))
 (mSeq zfY
 (mSeq (mIfS (zaA (m2 oEq (m2 oMod (mRd 2) (mC (.int 3))) (mC (.int 0))))
 (mSeq (mAsg (m2 oAdd (mC (.int 1)) (m2 oIxT (m2 oIxL (mRd 3) (mC (.int 0))) (mC (.int 0)))) (zat 7))
 (zck zeC))
 zbb)
 (zck zfQ))))
def zcx:List D→R D:=runO 3 5 zgK
def zdW:En→O:=(mSeq (mAsg (zaf zbB (zab (mVar 3) (zab (mVar 7) mNil))) (zat 8))
 (zbw 6 (mTup (zab (m2 oDiv (mRd 7) (mRd 8)) (zab (m2 oDiv (mRd 3) (mRd 8)) mNil)))))
def zed:En→O:=mFor (mItL (mVar 5)) (zat 7) zdW
def zdZ:En→O:=(mSeq (mAsg (mLst mNil) (bNew 6))
 (mSeq zed
 (mFrz 6 (zbw 4 (mVar 6)))))
def zf8:En→O:=mFor (mItL (zaf zcx (zab (mVar 0) (zab (mVar 1) (zab (m2 oDiv (mRd 2) (mC (.int 12))) mNil))))) (zat 5) zdZ
def zeu:En→O:=(mSeq (mAsg (m2 oAdd (mC (.int 1)) (m2 oMod (mRd 2) (mC (.int 12)))) (zat 3))
 (mSeq (mAsg (mLst mNil) (bNew 4))
 (mSeq zf8
 (zpq 4))))
def zbY:List D→R D:=runO 3 6 zeu
def zb9:En→R D:=zcS (mItL (mRd 7)) [] 1 (zaE 0) none (zaf zaF (zab (mVar 0) mNil))
def zc0:En→O:=(mSeq (zbw 5 (zeD " " zb9))
 (mAsg (m2 oCat (mRd 6) (mRd 7)) (zat 6)))
def zei:En→O:=mFor (mItL (mVar 4)) (zat 7) zc0
def zcy:En→R D:=zcS (mItL (mRd 4)) [8] 1 (zaE 1) none (zaf zaL (zab (mVar 1) (zab (mVar 0) mNil)))
def zeo:En→O:=(mSeq (mAsg (m2 oAdd (mC (.int 1)) (m2 oMod (mRd 1) (mC (.int 7)))) (zat 3))
 (mSeq (mAsg (zaf zbY (zab (mVar 0) (zab (mVar 3) (zab (m2 oDiv (mRd 1) (mC (.int 7))) mNil)))) (zat 4))
 (mSeq (mAsg (mLst (zab (mVar 2) mNil)) (bNew 5))
 (mSeq (mAsg (mLst mNil) (zat 6))
 (mSeq zei
 (mSeq (mAsg (zaf zbI (zab (mVar 6) mNil)) (zat 8))
 (mSeq (mAsg zcy (zat 9))
 (mSeq (mIfS (zaA (m2 oEq (mRd 2) (mC (.str "round"))))
 (mFrz 5 (zck (mLst (zab (mVar 5) (zab (mVar 8) (zab (mTup (zab (mVar 9) mNil)) mNil))))))
 zbb)
 (mSeq (mAsg (m2 oAdd (mC (.int 1)) (m2 oMod (m2 oDiv (mRd 1) (mC (.int 49))) (mRd 3))) (zat 10))
 (zck (mLst (zab (m2 oCat (mLst (zab (m2 zds (m2 zds (mRd 2) (mC (.str " "))) (mCB zdE (zab (mRd 10) mNil))) mNil)) (mSl (mRd 5) (zc1 (mC (.int 1))) mNoP)) (zab (mVar 8) (zab (mTup (zab (mVar 9) (zab (mVar 10) mNil))) mNil))))))))))))))
def zbm:List D→R D:=runO 3 8 zeo
def zh3:En→O:=(mSeq (mIfS (zaA (m2 oEq (m2 oIxT (mRd 0) (mC (.int 0))) (mC (.int 0))))
 (mRet (mTup (zab (mC (.int 1)) (zab (mC (.int 1)) mNil))))
 zbb)
 (mRet (mVar 0)))
def zcl:List D→R D:=runF 1 0 zh3
def zdd:En→R D:=zcS (zgk (zab (mSl (mRd 0) mNoP (zc1 (mC (.int 20)))) mNil)) [] 2 (bTup 2 (zbj (zaE 0) (zbj (zaE 1) bNil))) none (zaf zcl (zab (zaf zbe (zab (mVar 1) (zab (mVar 0) mNil))) mNil))
def zc8:En→R D:=zcS (mItL (mRd 3)) [] 1 (zaE 0) none (zaf zaF (zab (mVar 0) mNil))
def zdY:En→O:=(mIfS (zaA (m2 oLt (m2 oMul (m2 oIxT (mRd 7) (mC (.int 0))) (m2 oIxT (mRd 8) (mC (.int 1)))) (m2 oMul (m2 oIxT (mRd 8) (mC (.int 0))) (m2 oIxT (mRd 7) (mC (.int 1))))))
 (mAsg (mVar 8) (zat 7))
 zbb)
def zgg:En→O:=mFor (mItL (mVar 3)) (zat 8) zdY
def zde:En→R D:=zcS (mItL (mRd 3)) [] 1 (zaE 0) none (zaf zaF (zab (mVar 0) mNil))
def zeq:En→O:=(mSeq (mAsg zdd (zat 3))
 (mSeq (mIfS (zaA (m2 oEq (mRd 2) (mC (.str "benches"))))
 (mSeq (mAsg (zaf zbI (zab (mVar 3) mNil)) (zat 4))
 (mSeq (mAsg (m2 oAdd (mC (.int 1)) (m2 oMod (mRd 1) (mC (.int 20)))) (zat 5))
 (mSeq (mAsg (mLst (zab (zeD " " (m2 oCat (mLst (zab (mVar 2) (zab (mCB zdE (zab (mRd 5) mNil)) mNil))) zc8)) mNil)) (zat 6))
 (zck (mLst (zab (mVar 6) (zab (mVar 4) (zab (mTup (zab (zaf zaL (zab (mVar 3) (zab (mVar 4) mNil))) (zab (mVar 5) mNil))) mNil))))))))
 zbb)
 (mSeq (mAsg (zaf zcl (zab (zaf zbe (zab (mVar 1) (zab (mC (.int 70)) mNil))) mNil)) (zat 7))
 (mSeq zgg
 (mSeq (mAsg (zaf zbI (zab (m2 oCat (mRd 3) (mLst (zab (mVar 7) mNil))) mNil)) (zat 4))
 (mSeq (mAsg (mLst (zab (zeD " " (m2 oCat (mLst (zab (mVar 2) (zab (zaf zaF (zab (mVar 7) mNil)) mNil))) zde)) mNil)) (zat 6))
 (zck (mLst (zab (mVar 6) (zab (mVar 4) (zab (mTup (zab (zaf zaL (zab (mVar 3) (zab (mVar 4) mNil))) (zab (m2 oIxL (zaf zaL (zab (mLst (zab (mVar 7) mNil)) (zab (mVar 4) mNil))) (mC (.int 0))) mNil))) mNil)))))))))))
def zbn:List D→R D:=runO 3 6 zeq
def zfe:En→R D:=zcS (zgk (zab (mSl (mRd 0) mNoP (zc1 (mC (.int 20)))) mNil)) [] 2 (bTup 2 (zbj (zaE 0) (zbj (zaE 1) bNil))) none (zaf zbe (zab (mVar 1) (zab (mVar 0) mNil)))
def zfj:En→R D:=zcS (zgk (zab (mSl (mRd 0) mNoP (zc1 (mC (.int 20)))) mNil)) [] 2 (bTup 2 (zbj (zaE 0) (zbj (zaE 1) bNil))) none (zaf zcl (zab (zaf zbe (zab (mVar 1) (zab (m2 oAdd (mRd 0) (mC (.int 50))) mNil))) mNil))
def zeE:En→O:=(zbw 6 (m2 zds (m2 zds (zaf zaF (zab (mVar 7) mNil)) (mC (.str " "))) (zaf zaF (zab (mVar 8) mNil))))
def zhD:En→O:=mFor (mZip (zab (mVar 3) (zab (mVar 4) mNil))) (bTup 2 (zbj (zat 7) (zbj (zat 8) bNil))) zeE
def zfl:En→R D:=zcS (mZip (zab (zaf zaL (zab (mVar 3) (zab (mVar 5) mNil))) (zab (zaf zaL (zab (mVar 4) (zab (mVar 5) mNil))) mNil))) [] 2 (bTup 2 (zbj (zaE 0) (zbj (zaE 1) bNil))) none (mTup (zab (mVar 0) (zab (mVar 1) mNil)))
def zfz:En→O:=(mSeq (mAsg (zaf zbe (zab (mVar 1) (zab (mC (.int 70)) mNil))) (zat 2))
 (mSeq (mAsg zfe (zat 3))
 (mSeq (mAsg zfj (zat 4))
 (mSeq (mAsg (zaf zbI (zab (m2 oCat (m2 oCat (mLst (zab (mVar 2) mNil)) (mRd 3)) (mRd 4)) mNil)) (zat 5))
 (mSeq (mAsg (mLst (zab (m2 zds (mC (.str "sack ")) (zaf zaF (zab (mVar 2) mNil))) mNil)) (bNew 6))
 (mSeq zhD
 (mSeq (mAsg zfl (zat 9))
 (mFrz 6 (zck (mLst (zab (mVar 6) (zab (mVar 5) (zab (mTup (zab (m2 oIxL (zaf zaL (zab (mLst (zab (mVar 2) mNil)) (zab (mVar 5) mNil))) (mC (.int 0))) (zab (mVar 9) mNil))) mNil)))))))))))))
def zct:List D→R D:=runO 2 8 zfz
def zcV:En→O:=(mSeq (mIfS (zaA (m2 oEq (mRd 0) (mC (.int 0))))
 (zck (zaf zcg (zab (mVar 1) (zab (mVar 2) mNil))))
 zbb)
 (mSeq (mIfS (zaA (m2 oEq (mRd 0) (mC (.int 1))))
 (zck (zaf zch (zab (mVar 1) (zab (mVar 2) mNil))))
 zbb)
 (mSeq (mIfS (zaA (m2 oEq (mRd 0) (mC (.int 2))))
 (zck (zaf zbm (zab (mVar 1) (zab (mVar 2) (zab (mC (.str "round")) mNil)))))
 zbb)
 (mSeq (mIfS (zaA (m2 oEq (mRd 0) (mC (.int 3))))
 (zck (zaf zbm (zab (mVar 1) (zab (mVar 2) (zab (mC (.str "places")) mNil)))))
 zbb)
 (mSeq (mIfS (zaA (m2 oEq (mRd 0) (mC (.int 4))))
 (zck (zaf zbn (zab (mVar 1) (zab (mVar 2) (zab (mC (.str "benches")) mNil)))))
 zbb)
 (mSeq (mIfS (zaA (m2 oEq (mRd 0) (mC (.int 5))))
 (zck (zaf zbn (zab (mVar 1) (zab (mVar 2) (zab (mC (.str "bins")) mNil)))))
 zbb)
 (zck (zaf zct (zab (mVar 1) (zab (mVar 2) mNil))))))))))
def zb5:List D→R D:=runO 3 0 zcV
def zez:En→O:=(mIfS (zaA (mVar 0))
 (fun _=>.no)
 zbb)
def zaq:List D→R D:=runF 2 0 zez
def zdb:En→O:=(mDo (zaf zaq (zab (mOrV (m2 oLt (mCB fLen (zab (mRd 0) mNil)) (mRd 1)) (m2 oGt (mCB fLen (zab (mRd 0) mNil)) (mRd 2))) (zab (mVar 3) mNil))))
def zav:List D→R D:=runF 4 0 zdb
def zfx:En→R D:=zcS (mItS (mVar 0)) [] 1 (zaE 0) none (m2 (oInS not) (mRd 0) (mC (.str "0123456789")))
def ziw:En→O:=(mSeq (mIfS (mOr (zaA (m2 oEq (mCB zlK (zab (mRd 0) mNil)) (mC (.int 0)))) (zaA (m2 oGt (mCB zlK (zab (mRd 0) mNil)) (mC (.int 12)))))
 (mRet (mC (.bl false)))
 zbb)
 (mSeq (mIfS (zaA (mCB fAny (zab zfx mNil)))
 (mRet (mC (.bl false)))
 zbb)
 (mRet (mOrV (m2 oNe (m2 oIxS (mRd 0) (mC (.int 0))) (mC (.str "0"))) (m2 oEq (mRd 0) (mC (.str "0")))))))
def zcm:List D→R D:=runF 1 0 ziw
def zhO:En→O:=(mSeq (mDo (zaf zaq (zab (zh9 (zaf zcm (zab (mVar 0) mNil))) (zab (mVar 3) mNil))))
 (mSeq (mAsg (mCB zjZ (zab (mRd 0) mNil)) (zat 4))
 (mSeq (mDo (zaf zaq (zab (mOrV (m2 oLt (mRd 4) (mRd 1)) (m2 oGt (mRd 4) (mRd 2))) (zab (mVar 3) mNil))))
 (mRet (mVar 4)))))
def zbu:List D→R D:=runF 4 1 zhO
def zdM:En→R Bool:=(zaA (m2 oGt (mRd 3) (mC (.int 0))))
def zdJ:En→O:=(mSeq (mAsg (m2 oMod (mRd 2) (mRd 3)) (zat 4))
 (mSeq (mAsg (mVar 3) (zat 2))
 (mAsg (mVar 4) (zat 3))))
def zfi:En→O:=ziq zdM zdJ
def zeb:En→O:=(mSeq (mAsg (mCB fAbs (zab (mRd 0) mNil)) (zat 2))
 (mSeq (mAsg (mCB fAbs (zab (mRd 1) mNil)) (zat 3))
 (mSeq zfi
 (mRet (mVar 2)))))
def zbQ:List D→R D:=runF 2 3 zeb
def zev:En→R D:=zcS (mItL (mRd 2)) [] 1 (zaE 0) none (zaf zcm (zab (mVar 0) mNil))
def zhQ:En→O:=(mSeq (mAsg (zhM (mVar 0) "/") (zat 2))
 (mSeq (mDo (zaf zaq (zab (m2 oGt (mCB fLen (zab (mRd 2) mNil)) (mC (.int 2))) (zab (mVar 1) mNil))))
 (mSeq (mDo (zaf zaq (zab (zh9 (mCB fAll (zab zev mNil))) (zab (mVar 1) mNil))))
 (mSeq (mAsg (mCB zjZ (zab (m2 oIxL (mRd 2) (mC (.int 0))) mNil)) (zat 3))
 (mSeq (mIfS (zaA (m2 oEq (mCB fLen (zab (mRd 2) mNil)) (mC (.int 1))))
 (mRet (mTup (zab (mVar 3) (zab (mC (.int 1)) mNil))))
 zbb)
 (mSeq (mAsg (mCB zjZ (zab (m2 oIxL (mRd 2) (mC (.int 1))) mNil)) (zat 4))
 (mSeq (mDo (zaf zaq (zab (mOrV (m2 oLt (mRd 4) (mC (.int 2))) (m2 oGt (mRd 4) (mC (.int 12)))) (zab (mVar 1) mNil))))
 (mSeq (mDo (zaf zaq (zab (m2 oGt (zaf zbQ (zab (mVar 3) (zab (mVar 4) mNil))) (mC (.int 1))) (zab (mVar 1) mNil))))
 (mRet (mTup (zab (mVar 3) (zab (mVar 4) mNil))))))))))))
def zbt:List D→R D:=runF 2 3 zhQ
def zjb:En→O:=(mSeq (mAsg (zaf zbu (zab (mVar 5) (zab (mC (.int 0)) (zab (m2 oSub (mRd 1) (mC (.int 1))) (zab (mVar 2) mNil))))) (zat 6))
 (mSeq (mDo (zaf zaq (zab (m2 oIn (mRd 6) (mRd 4)) (zab (mVar 2) mNil))))
 (zbw 4 (mVar 6))))
def znj:En→O:=mFor (mItL (mSl (mRd 0) (zc1 (mC (.int 1))) mNoP)) (zat 5) zjb
def zmG:En→O:=(mSeq (mAsg (zaf zbt (zab (m2 oIxL (mRd 0) (mC (.int 0))) (zab (mVar 2) mNil))) (zat 3))
 (mSeq (mAsg (mLst mNil) (bNew 4))
 (mSeq znj
 (mFrz 4 (mRet (mTup (zab (mVar 3) (zab (mVar 4) mNil))))))))
def ze1:List D→R D:=runF 3 4 zmG
def zdK:En→O:=(mRet (m2 oMul (mRd 0) (m2 oDiv (mRd 1) (zaf zbQ (zab (mVar 0) (zab (mVar 1) mNil))))))
def zb4:List D→R D:=runF 2 0 zdK
def ziu:En→O:=(mAsg (zaf zb4 (zab (mVar 1) (zab (m2 oIxT (mRd 2) (mC (.int 1))) mNil))) (zat 1))
def zja:En→O:=mFor (mItL (mVar 0)) (zat 2) ziu
def zkW:En→O:=(mSeq (mAsg (mC (.int 1)) (zat 1))
 (mSeq zja
 (mRet (mVar 1))))
def zb7:List D→R D:=runF 1 2 zkW
def ze7:En→O:=(mRet (m2 oMul (m2 oIxT (mRd 0) (mC (.int 0))) (m2 oDiv (mRd 1) (m2 oIxT (mRd 0) (mC (.int 1))))))
def zbr:List D→R D:=runF 2 0 ze7
def zfT:En→O:=(mSeq (mDo (zaf zaq (zab (m2 oGt (mRd 3) (mC (.int 40))) (zab (mVar 3) mNil))))
 (zbw 2 (zaf ze1 (zab (m2 oIxL (mRd 0) (mRd 3)) (zab (mVar 1) (zab (mVar 3) mNil))))))
def zjP:En→O:=mFor (mRng (zab (mC (.int 1)) (zab (mCB fLen (zab (mRd 0) mNil)) mNil))) (zat 3) zfT
def zgI:En→R D:=zcS (mItL (mRd 2)) [] 2 (bTup 2 (zbj (zaE 0) (zbj (zaE 1) bNil))) none (mVar 0)
def zgy:En→R D:=zcS (mItL (mRd 2)) [4] 2 (bTup 2 (zbj (zaE 1) (zbj (zaE 2) bNil))) none (mTup (zab (zaf zbr (zab (mVar 1) (zab (mVar 0) mNil))) (zab (mVar 2) mNil)))
def zht:En→O:=(mSeq (mDo (zaf zav (zab (m2 oIxL (mRd 0) (mC (.int 0))) (zab (mC (.int 2)) (zab (mC (.int 2)) (zab (mC (.int 0)) mNil))))))
 (mSeq (mAsg (zaf zbu (zab (m2 oIxL (m2 oIxL (mRd 0) (mC (.int 0))) (mC (.int 1))) (zab (mC (.int 1)) (zab (mC (.int 40)) (zab (mC (.int 0)) mNil))))) (zat 1))
 (mSeq (mAsg (mLst mNil) (bNew 2))
 (mSeq zjP
 (mSeq (mAsg (zaf zb7 (zab zgI mNil)) (zat 4))
 (mRet (mTup (zab (mVar 4) (zab (mTup (zab (mVar 1) (zab zgy mNil))) mNil)))))))))
def zdi:List D→R D:=runF 1 4 zht
def zkE:En→O:=(mSeq (mDo (zaf zav (zab (mVar 0) (zab (mC (.int 2)) (zab (mC (.int 2)) (zab (mVar 2) mNil))))))
 (mSeq (mAsg (zaf zbu (zab (m2 oIxL (mRd 0) (mC (.int 0))) (zab (mC (.int 0)) (zab (m2 oSub (mRd 1) (mC (.int 1))) (zab (mVar 2) mNil))))) (zat 3))
 (mSeq (mAsg (zaf zbu (zab (m2 oIxL (mRd 0) (mC (.int 1))) (zab (mC (.int 0)) (zab (m2 oSub (mRd 1) (mC (.int 1))) (zab (mVar 2) mNil))))) (zat 4))
 (mSeq (mDo (zaf zaq (zab (m2 oEq (mRd 3) (mRd 4)) (zab (mVar 2) mNil))))
 (mRet (mTup (zab (mVar 3) (zab (mVar 4) mNil))))))))
def zeF:List D→R D:=runF 3 2 zkE
def zdq:En→R D:=zcS (mItL (mRd 0)) [1] 1 (zaE 1) none (zaf zbr (zab (mVar 1) (zab (mVar 0) mNil)))
def zeI:En→O:=(zck zdq)
def za6:List D→R D:=runO 2 0 zeI
def zgm:En→R D:=zcS (mItL (mSl (m2 oIxL (mRd 0) (mC (.int 0))) (zc1 (mC (.int 1))) mNoP)) [] 1 (zaE 0) none (zaf zbt (zab (mVar 0) (zab (mC (.int 0)) mNil)))
def zfV:En→O:=(mSeq (mDo (zaf zaq (zab (m2 oGt (mRd 3) (mC (.int 80))) (zab (mVar 3) mNil))))
 (zbw 2 (zaf zeF (zab (m2 oIxL (mRd 0) (mRd 3)) (zab (mCB fLen (zab (mRd 1) mNil)) (zab (mVar 3) mNil))))))
def zjS:En→O:=mFor (mRng (zab (mC (.int 1)) (zab (mCB fLen (zab (mRd 0) mNil)) mNil))) (zat 3) zfV
def zhr:En→O:=(mSeq (mDo (zaf zav (zab (m2 oIxL (mRd 0) (mC (.int 0))) (zab (mC (.int 2)) (zab (m2 oAdd (mC (.int 1)) (mC (.int 40))) (zab (mC (.int 0)) mNil))))))
 (mSeq (mAsg zgm (zat 1))
 (mSeq (mAsg (mLst mNil) (bNew 2))
 (mSeq zjS
 (mSeq (mAsg (zaf zb7 (zab (mVar 1) mNil)) (zat 4))
 (mFrz 2 (mRet (mTup (zab (mVar 4) (zab (mTup (zab (zaf za6 (zab (mVar 1) (zab (mVar 4) mNil))) (zab (mVar 2) mNil))) mNil))))))))))
def zdj:List D→R D:=runF 1 4 zhr
def zgf:En→R D:=zcS (mItL (m2 oIxL (mRd 0) (mRd 3))) [3] 1 (zaE 1) none (zaf zbt (zab (mVar 1) (zab (mVar 0) mNil)))
def zhk:En→O:=(mSeq (mDo (zaf zaq (zab (mOrV (m2 oGt (mRd 3) (mRd 1)) (m2 oNe (mCB fLen (zab (m2 oIxL (mRd 0) (mRd 3)) mNil)) (mRd 1))) (zab (mVar 3) mNil))))
 (zbw 2 zgf))
def zlM:En→O:=mFor (mRng (zab (mC (.int 1)) (zab (mCB fLen (zab (mRd 0) mNil)) mNil))) (zat 3) zhk
def zi7:En→O:=(mSeq (mDo (zaf zaq (zab (m2 oEq (mCB fLen (zab (mRd 0) mNil)) (mC (.int 1))) (zab (mC (.int 1)) mNil))))
 (mSeq (mAsg (mCB fLen (zab (m2 oIxL (mRd 0) (mC (.int 1))) mNil)) (zat 1))
 (mSeq (mDo (zaf zaq (zab (m2 oGt (mRd 1) (mC (.int 12))) (zab (mC (.int 1)) mNil))))
 (mSeq (mAsg (mLst mNil) (bNew 2))
 (mSeq zlM
 (mSeq (mDo (zaf zaq (zab (m2 oLt (mCB fLen (zab (mRd 2) mNil)) (mRd 1)) (zab (mCB fLen (zab (mRd 0) mNil)) mNil))))
 (zpq 2)))))))
def zeJ:List D→R D:=runO 1 3 zi7
def zfk:En→O:=(zjO 2 (mVar 3))
def zh0:En→O:=mFor (mItL (mVar 1)) (zat 3) zfk
def zfw:En→R D:=zcS (mItL (mRd 1)) [4] 1 (zaE 1) none (zaf za6 (zab (mVar 1) (zab (mVar 0) mNil)))
def zfX:En→O:=(mSeq (mAsg (zaf zeJ (zab (mVar 0) mNil)) (zat 1))
 (mSeq (mAsg (mLst mNil) (bNew 2))
 (mSeq zh0
 (mSeq (mAsg (zhT zb7 (zab (mRd 2) mNil)) (zat 4))
 (mRet (mTup (zab (mVar 4) (zab zfw mNil))))))))
def zco:List D→R D:=runF 1 4 zfX
def zhw:En→O:=(mSeq (mDo (zaf zav (zab (m2 oIxL (mRd 0) (mC (.int 0))) (zab (mC (.int 1)) (zab (mC (.int 1)) (zab (mC (.int 0)) mNil))))))
 (mSeq (mAsg (zaf zco (zab (mVar 0) mNil)) (zat 1))
 (mRet (mTup (zab (m2 oIxT (mRd 1) (mC (.int 0))) (zab (mTup (zab (m2 oIxT (mRd 1) (mC (.int 1))) mNil)) mNil))))))
def zdg:List D→R D:=runF 1 1 zhw
def zgx:En→O:=(mSeq (mDo (zaf zav (zab (m2 oIxL (mRd 0) (mC (.int 0))) (zab (mC (.int 2)) (zab (mC (.int 2)) (zab (mC (.int 0)) mNil))))))
 (mSeq (mAsg (zaf zbu (zab (m2 oIxL (m2 oIxL (mRd 0) (mC (.int 0))) (mC (.int 1))) (zab (mC (.int 1)) (zab (mC (.int 12)) (zab (mC (.int 0)) mNil))))) (zat 1))
 (mSeq (mAsg (zaf zco (zab (mVar 0) mNil)) (zat 2))
 (mSeq (mDo (zaf zaq (zab (m2 oGt (mRd 1) (mCB fLen (zab (m2 oIxT (mRd 2) (mC (.int 1))) mNil))) (zab (mC (.int 0)) mNil))))
 (mRet (mTup (zab (m2 oIxT (mRd 2) (mC (.int 0))) (zab (mTup (zab (m2 oIxT (mRd 2) (mC (.int 1))) (zab (mVar 1) mNil))) mNil))))))))
def zcX:List D→R D:=runF 1 2 zgx
def zcR:En→O:=(mSeq (mAsg (zaf zbt (zab (mVar 0) (zab (mVar 1) mNil))) (zat 2))
 (mSeq (mDo (zaf zaq (zab (m2 oEq (m2 oIxT (mRd 2) (mC (.int 0))) (mC (.int 0))) (zab (mVar 1) mNil))))
 (mRet (mVar 2))))
def zaU:List D→R D:=runF 2 1 zcR
def zfB:En→R D:=zcS (mItL (mSl (m2 oIxL (mRd 0) (mC (.int 0))) (zc1 (mC (.int 2))) mNoP)) [] 1 (zaE 0) none (zaf zaU (zab (mVar 0) (zab (mC (.int 0)) mNil)))
def zfS:En→O:=(mSeq (mDo (zaf zav (zab (m2 oIxL (mRd 0) (mC (.int 0))) (zab (mC (.int 2)) (zab (m2 oAdd (mC (.int 2)) (mC (.int 40))) (zab (mC (.int 0)) mNil))))))
 (mSeq (mAsg (zaf zbu (zab (m2 oIxL (m2 oIxL (mRd 0) (mC (.int 0))) (mC (.int 1))) (zab (mC (.int 1)) (zab (mC (.int 20)) (zab (mC (.int 0)) mNil))))) (zat 1))
 (mSeq (mAsg zfB (zat 2))
 (mSeq (mDo (zaf zaq (zab (m2 oGt (mCB fLen (zab (mRd 0) mNil)) (mC (.int 1))) (zab (mC (.int 1)) mNil))))
 (mSeq (mAsg (zaf zb7 (zab (mVar 2) mNil)) (zat 3))
 (mRet (mTup (zab (mVar 3) (zab (mTup (zab (zaf za6 (zab (mVar 2) (zab (mVar 3) mNil))) (zab (mVar 1) mNil))) mNil)))))))))
def zcF:List D→R D:=runF 1 3 zfS
def zhA:En→R D:=zcS (mItL (mSl (m2 oIxL (mRd 0) (mC (.int 0))) (zc1 (mC (.int 1))) mNoP)) [] 1 (zaE 0) none (zaf zaU (zab (mVar 0) (zab (mC (.int 0)) mNil)))
def zie:En→O:=(mSeq (mDo (zaf zav (zab (m2 oIxL (mRd 0) (mC (.int 0))) (zab (mC (.int 2)) (zab (m2 oAdd (mC (.int 2)) (mC (.int 40))) (zab (mC (.int 0)) mNil))))))
 (mSeq (mAsg zhA (zat 1))
 (mSeq (mDo (zaf zaq (zab (m2 oGt (mCB fLen (zab (mRd 0) mNil)) (mC (.int 1))) (zab (mC (.int 1)) mNil))))
 (mSeq (mAsg (zaf zb7 (zab (mVar 1) mNil)) (zat 2))
 (mSeq (mAsg (zaf za6 (zab (mVar 1) (zab (mVar 2) mNil))) (bNew 3))
 (mSeq (zp9 3 (mC (.int 0)) (zat 4))
 (mFrz 3 (mRet (mTup (zab (mVar 2) (zab (mTup (zab (mVar 3) (zab (mVar 4) mNil))) mNil)))))))))))
def zdB:List D→R D:=runF 1 4 zie
def zgR:En→O:=(mSeq (mDo (zaf zav (zab (mVar 0) (zab (mC (.int 2)) (zab (mC (.int 2)) (zab (mVar 1) mNil))))))
 (mRet (mTup (zab (zaf zbt (zab (m2 oIxL (mRd 0) (mC (.int 0))) (zab (mVar 1) mNil))) (zab (zaf zaU (zab (m2 oIxL (mRd 0) (mC (.int 1))) (zab (mVar 1) mNil))) mNil)))))
def zdH:List D→R D:=runF 2 0 zgR
def zgr:En→O:=(mSeq (mDo (zaf zaq (zab (m2 oGt (mRd 4) (mC (.int 40))) (zab (mVar 4) mNil))))
 (mSeq (mAsg (zaf zdH (zab (m2 oIxL (mRd 0) (mRd 4)) (zab (mVar 4) mNil))) (zat 5))
 (mSeq (zbw 3 (mVar 5))
 (zjO 2 (mVar 5)))))
def zkN:En→O:=mFor (mRng (zab (mC (.int 1)) (zab (mCB fLen (zab (mRd 0) mNil)) mNil))) (zat 4) zgr
def zhu:En→R D:=zcS (mItL (mRd 3)) [6] 2 (bTup 2 (zbj (zaE 1) (zbj (zaE 2) bNil))) none (mTup (zab (zaf zbr (zab (mVar 1) (zab (mVar 0) mNil))) (zab (zaf zbr (zab (mVar 2) (zab (mVar 0) mNil))) mNil)))
def zhZ:En→O:=(mSeq (mDo (zaf zav (zab (m2 oIxL (mRd 0) (mC (.int 0))) (zab (mC (.int 2)) (zab (mC (.int 2)) (zab (mC (.int 0)) mNil))))))
 (mSeq (mAsg (zaf zbt (zab (m2 oIxL (m2 oIxL (mRd 0) (mC (.int 0))) (mC (.int 1))) (zab (mC (.int 0)) mNil))) (zat 1))
 (mSeq (mAsg (mLst (zab (mVar 1) mNil)) (bNew 2))
 (mSeq (mAsg (mLst mNil) (bNew 3))
 (mSeq zkN
 (mSeq (mAsg (zhT zb7 (zab (mRd 2) mNil)) (zat 6))
 (mSeq (mAsg zhu (zat 7))
 (mRet (mTup (zab (mVar 6) (zab (mTup (zab (zaf zbr (zab (mVar 1) (zab (mVar 6) mNil))) (zab (mVar 7) mNil))) mNil)))))))))))
def zdG:List D→R D:=runF 1 7 zhZ
def zcz:En→O:=(mSeq (mIfS (zaA (m2 oEq (mRd 0) (mC (.str "cover"))))
 (mRet (zaf zdi (zab (mVar 1) mNil)))
 zbb)
 (mSeq (mIfS (zaA (m2 oEq (mRd 0) (mC (.str "touch"))))
 (mRet (zaf zdj (zab (mVar 1) mNil)))
 zbb)
 (mSeq (mIfS (zaA (m2 oEq (mRd 0) (mC (.str "round"))))
 (mRet (zaf zdg (zab (mVar 1) mNil)))
 zbb)
 (mSeq (mIfS (zaA (m2 oEq (mRd 0) (mC (.str "places"))))
 (mRet (zaf zcX (zab (mVar 1) mNil)))
 zbb)
 (mSeq (mIfS (zaA (m2 oEq (mRd 0) (mC (.str "benches"))))
 (mRet (zaf zcF (zab (mVar 1) mNil)))
 zbb)
 (mSeq (mIfS (zaA (m2 oEq (mRd 0) (mC (.str "bins"))))
 (mRet (zaf zdB (zab (mVar 1) mNil)))
 zbb)
 (mSeq (mIfS (zaA (m2 oEq (mRd 0) (mC (.str "sack"))))
 (mRet (zaf zdG (zab (mVar 1) mNil)))
 zbb)
 (fun _=>.no))))))))
def za1:List D→R D:=runF 2 0 zcz
def zer:En→O:=(zll 2 (mVar 4) (mC (.bl true)))
def zeH:En→O:=mFor (mItL (m2 oIxT (mRd 3) (mC (.int 1)))) (zat 4) zer
def zdv:En→O:=zeH
def zeP:En→O:=mFor (mItL (mVar 1)) (zat 3) zdv
def zdy:En→O:=(mIfS (zaA (m2 zk0 (mVar 4) (mRd 2)))
 (fun _=>.no)
 zbb)
def zeK:En→O:=mFor (mRng (zab (mVar 0) mNil)) (zat 4) zdy
def zff:En→O:=(mSeq (mAsg (mC (.dct [] [])) (bNew 2))
 (mSeq zeP
 zeK))
def zb0:List D→R D:=runF 2 3 zff
def zge:En→O:=(mIfS (zaA (m2 oNe (m2 oIxL (m2 oIxL (mRd 0) (mRd 2)) (mRd 2)) (mC (.int 0))))
 (fun _=>.no)
 zbb)
def zjf:En→O:=mFor (mRng (zab (mVar 1) mNil)) (zat 2) zge
def zf5:En→O:=(mIfS (zaA (m2 oNe (m2 oIxL (m2 oIxL (mRd 0) (mRd 2)) (mRd 3)) (m2 oIxL (m2 oIxL (mRd 0) (mRd 3)) (mRd 2))))
 (fun _=>.no)
 zbb)
def znd:En→O:=mFor (mRng (zab (mVar 2) mNil)) (zat 3) zf5
def zih:En→O:=znd
def zi6:En→O:=mFor (mRng (zab (mVar 1) mNil)) (zat 2) zih
def zf7:En→O:=(mIfS (zaA (m2 oLt (m2 oAdd (m2 oIxL (m2 oIxL (mRd 0) (mRd 2)) (mRd 3)) (m2 oIxL (m2 oIxL (mRd 0) (mRd 3)) (mRd 4))) (m2 oIxL (m2 oIxL (mRd 0) (mRd 2)) (mRd 4))))
 (fun _=>.no)
 zbb)
def zmQ:En→O:=mFor (mRng (zab (mVar 1) mNil)) (zat 4) zf7
def zif:En→O:=zmQ
def zm4:En→O:=mFor (mRng (zab (mVar 1) mNil)) (zat 3) zif
def ziB:En→O:=zm4
def zi4:En→O:=mFor (mRng (zab (mVar 1) mNil)) (zat 2) ziB
def zkH:En→O:=(mSeq (mAsg (mCB fLen (zab (mRd 0) mNil)) (zat 1))
 (mSeq zjf
 (mSeq zi6
 zi4)))
def zdo:List D→R D:=runF 1 4 zkH
def zcZ:En→O:=(mIfS (zaA (m2 oGt (mRd 3) (mRd 1)))
 (fun _=>.no)
 zbb)
def zd7:En→O:=mFor (zgk (zab (mVar 0) mNil)) (bTup 2 (zbj (zat 2) (zbj (zat 3) bNil))) zcZ
def zet:En→O:=zd7
def zbW:List D→R D:=runF 2 2 zet
def zbN:En→O:=(mIfS (zaA (m2 oEq (mRd 0) (mC (.str "cover"))))
 (mDo (zaf zb0 (zab (m2 oIxT (mRd 1) (mC (.int 0))) (zab (m2 oIxT (mRd 1) (mC (.int 1))) mNil))))
 (mIfS (mOr (zaA (m2 oEq (mRd 0) (mC (.str "round")))) (zaA (m2 oEq (mRd 0) (mC (.str "places")))))
 (mDo (zaf zdo (zab (m2 oIxT (mRd 1) (mC (.int 0))) mNil)))
 (mIfS (zaA (m2 oEq (mRd 0) (mC (.str "bins"))))
 (mDo (zaf zbW (zab (m2 oIxT (mRd 1) (mC (.int 0))) (zab (m2 oIxT (mRd 1) (mC (.int 1))) mNil))))
 zbb)))
def zaH:List D→R D:=runF 2 0 zbN
def zlg:En→R D:=zcS (mItL (zhM (mVar 0) "\n")) [] 1 (zaE 0) none (zhM (mVar 0) " ")
def zpP:En→O:=(mSeq (mAsg zlg (zat 1))
 (mSeq (mAsg (m2 oIxL (m2 oIxL (mRd 1) (mC (.int 0))) (mC (.int 0))) (zat 2))
 (mSeq (mAsg (zaf za1 (zab (mVar 2) (zab (mVar 1) mNil))) (zat 3))
 (mSeq (mDo (zaf zaH (zab (mVar 2) (zab (m2 oIxT (mRd 3) (mC (.int 1))) mNil))))
 (mRet (mTup (zab (mVar 2) (zab (m2 oIxT (mRd 3) (mC (.int 0))) (zab (m2 oIxT (mRd 3) (mC (.int 1))) mNil)))))))))
def zfZ:List D→R D:=runF 1 3 zpP
def ze4 (zbo:List D→R D):En→O:=(mIfS (mNot (zaA (zaf zbo (zab (mVar 2) (zab (mVar 3) mNil)))))
 (mRet (mC (.bl false)))
 zbb)
def zhy (zbo:List D→R D):En→O:=mFor (zp7 (zab (mVar 0) (zab (mVar 1) mNil))) (bTup 2 (zbj (zat 2) (zbj (zat 3) bNil))) (ze4 zbo)
def zgh (zbo:List D→R D):En→O:=(mSeq (mIfS (zaA (m1 (oIsi "int") (mRd 1)))
 (mRet (zit (m1 (oIsi "int") (mRd 0)) (zit (zh9 (m1 (oIsi "bool") (mRd 0))) (m2 oEq (mRd 0) (mRd 1)))))
 zbb)
 (mSeq (mIfS (zaA (m1 (oIsi "str") (mRd 1)))
 (mRet (zit (m1 (oIsi "str") (mRd 0)) (m2 oEq (mRd 0) (mRd 1))))
 zbb)
 (mSeq (mIfS (zaA (m1 (oIsi "tuple") (mRd 1)))
 (mIfS (mNot (zaA (m1 (oIsi "tuple") (mRd 0))))
 (mRet (mC (.bl false)))
 zbb)
 (mIfS (mNot (zaA (m1 (oIsi "list") (mRd 0))))
 (mRet (mC (.bl false)))
 zbb))
 (mSeq (mIfS (zaA (m2 oNe (mCB fLen (zab (mRd 0) mNil)) (mCB fLen (zab (mRd 1) mNil))))
 (mRet (mC (.bl false)))
 zbb)
 (mSeq (zhy zbo)
 (mRet (mC (.bl true))))))))
def zbK:Nat→List D→R D
 | 0,_=>.no
 | n+1,ds=>runF 2 2 (zgh (zbK n)) ds
def zbo:List D→R D:=zbK 8
def zrd:En→O:=(mSeq (mAsg (m2 oMod (zaf zaI (zab (mVar 0) (zab (mC (.int 0)) mNil))) (mC (.int 7))) (zat 1))
 (mSeq (mAsg (zaf zaK (zab (m2 oAdd (zaf zaI (zab (mVar 0) (zab (mC (.int 1)) mNil))) (zaf zaI (zab (mVar 0) (zab (mC (.int 2)) mNil)))) (zab (mC (.int 1)) mNil))) (zat 2))
 (mSeq (mAsg (m2 oIxL (mLst (zab (mC (.str "cover")) (zab (mC (.str "touch")) (zab (mC (.str "round")) (zab (mC (.str "places")) (zab (mC (.str "benches")) (zab (mC (.str "bins")) (zab (mC (.str "sack")) mNil)))))))) (mRd 1)) (zat 3))
 (mSeq (mAsg (zaf zb5 (zab (mVar 1) (zab (mSl (mRd 0) (zc1 (mC (.int 3))) mNoP) (zab (mVar 2) mNil)))) (bLst 3 (zbj (zat 4) (zbj (zat 5) (zbj (zat 6) bNil)))))
 (mSeq (mAsg (zeD "\n" (mVar 4)) (zat 7))
 (zj7 7 8 9 zfZ (mNot (zaA (zaf zbo (zab (mVar 8) (zab (mTup (zab (mVar 3) (zab (mVar 5) (zab (mVar 6) mNil)))) mNil)))))
 (mRet (zaf zbo (zab (zaf zfZ (zab (mVar 7) mNil)) (zab (mTup (zab (mVar 3) (zab (mVar 5) (zab (mVar 6) mNil)))) mNil))))))))))
def zqW:List D→R D:=runF 1 9 zrd
end My
namespace My
open PySem L2 PM
def upt (n:Nat):List Int:=(List.range n).map fun (k:Nat)=>(k:Int)
theorem mem_upt {n:Nat} {t:Int}:t∈upt n↔0≤t∧t<(n:Int):=by
 unfold upt
 rw[List.mem_map]
 constructor
 ·rintro⟨a,h,rfl⟩
  have:=List.mem_range.mp h
  omega
 ·rintro⟨h0,h1⟩
  exact⟨t.toNat,List.mem_range.mpr (by omega),by omega⟩
theorem zcs {n:Nat}:(upt n).length=n:=by simp[upt]
theorem rngT {n:Nat} (h:n≤1000):rng [.int (n:Int)]=some ((upt n).map .int):=by
 rw[rng1 (by omega) (by omega),Int.toNat_natCast,znh,upt,List.map_map];rfl
def gA (L:List Int) (i:Int):Int:=L.getD i.toNat 0
theorem zqY {L:List Int} {i:Int} (h:i.toNat<L.length):L[i.toNat]?=some (gA L i):=by simp[gA,List.getD_eq_getElem?_getD,h]
theorem zoz {α:Type} {f:D→R (Option D)} (enc:α→D) (p:α→Bool) (g:α→D) (l:List α) (h:∀x∈l,f (enc x)=.ok (if p x=true then some (g x) else none)):zc5 f (l.map enc)=.ok ((l.filter p).map g):=by
 induction l with
 | nil=>rfl
 | cons a l ih=>
  have h1:=h a (by simp)
  have h2:=ih fun x hx=>h x (by simp[hx])
  rw[List.map_cons,zc5,h1,R.bind_ok,h2,R.bind_ok]
  by_cases e:p a=true
  ·simp[e]
  ·simp[e]
theorem zqH {L:List Int} {k:Int} (h0:0≤k) (h1:k.toNat<L.length):oIxL (iL L) (.int k)=some (.int (gA L k)):=
 zgF h0 (by simp[zqY h1])
theorem zmI {i:Nat} {me:En→R D} {δ:En} {L:List Int} {y:Int} (h:δ[i]?=some (.o (iL L))) (hy:me δ=.ok (.int y)) (hl:L.length≤100000):zbw i me δ=.nx (δ.set i (.o (iL (L++[y])))):=by
 unfold zbw
 rw[h]
 simp only[iL,hy,R.toO_ok]
 rw[zbf (by rw[List.length_map];exact Nat.lt_of_le_of_lt hl (by decide))]
 simp
end My
namespace My
open PySem L2 PM
theorem p20:oPow (.int 10) (.int 20)=some (.int 100000000000000000000):=zkY ⟨by decide,by decide,by decide⟩
theorem p18:oPow (.int 10) (.int 18)=some (.int 1000000000000000000):=zkY ⟨by decide,by decide,by decide⟩
theorem zmT (ns:List Int) (k:Nat):zaI [.scr ns,.int k]=.ok (.int (ns.getD k 0)):=by
 by_cases h:k<ns.length
 ·have e:oIxL (.scr ns) (.int (k:Int))=some (.int (ns.getD k 0)):=by
   show (atI ns (k:Int)).map D.int=_
   rw[atI_nat (d:=ns.getD k 0) (by simp[h,List.getD_eq_getElem?_getD])];rfl
  simp[zaI,runF,zbz,zd2,mSeq,mIfS,zaA,mRet,mRd,mC,mCB,zab,mNil,fLen,h,e]
 ·have e:ns.getD k 0=0:=by simp[List.getD_eq_getElem?_getD,List.getElem?_eq_none_iff.mpr (Nat.le_of_not_lt h)]
  rw[e]
  simp[zaI,runF,zbz,zd2,mSeq,mIfS,zaA,mRet,mRd,mC,mCB,zab,mNil,fLen,h,zbb]
theorem zhS (ns:List Int) {k:Int} (h:0≤k):zaI [.scr ns,.int k]=.ok (.int (ns.getD k.toNat 0)):=by
 have:=zmT ns k.toNat
 rwa [show ((k.toNat:Nat):Int)=k by omega] at this
theorem zeX {m n:En→O} {δ:En} {d:D} (h:m δ=.rt d):mSeq m n δ=.rt d:=by unfold mSeq;rw[h]
theorem zbJ {i:Nat} {me:En→R D} {δ:En} {l:List D} {d:D} (h:δ[i]?=some (.o (.lst l))) (hy:me δ=.ok d) (hl:l.length≤100000):zbw i me δ=.nx (δ.set i (.o (.lst (l++[d])))):=by
 unfold zbw
 rw[h]
 simp only[hy,R.toO_ok]
 rw[zbf (Nat.lt_of_le_of_lt hl (by decide))]
theorem zcq (a:Int) {b:Int} (h:0<b):0≤a%b:=Int.emod_nonneg _ (by omega)
theorem zcp (a:Int) {b:Int} (h:0<b):a%b<b:=Int.emod_lt_of_pos _ h
end My
namespace My
open PySem L2 PM
theorem zjj (a b:Str):(a++b).cps.toList=a.cps.toList++b.cps.toList:=by
 rw[Str.cps_append];simp
def jl (c:Nat):List (List Nat)→List Nat
 | []=>[]
 | [p]=>p
 | p::q::r=>p++c::jl c (q::r)
theorem zgG (c:Nat):∀(ps:List Str),(Str.join ⟨#[c]⟩ ps).cps.toList=jl c (ps.map fun p=>p.cps.toList)
 | []=>rfl
 | [p]=>rfl
 | p::q::r=>by
  have ih:=zgG c (q::r)
  show (p++⟨#[c]⟩++Str.join ⟨#[c]⟩ (q::r)).cps.toList=_
  rw[zjj,zjj,ih]
  simp[jl]
theorem zpU {c:Nat}:∀ {p q u v:List Nat},c∉p→c∉q→p++c::u=q++c::v→p=q∧u=v
 | [],[],u,v,_,_,h=>by simp at h;exact⟨rfl,h⟩
 | [],b::q,u,v,_,hq,h=>by
  simp at h
  exact absurd h.1 (fun e=>hq (by simp[e]))
 | a::p,[],u,v,hp,_,h=>by
  simp at h
  exact absurd h.1 (fun e=>hp (by simp[e]))
 | a::p,b::q,u,v,hp,hq,h=>by
  simp at h hp hq
  obtain⟨h1,h2⟩:=zpU hp.2 hq.2 h.2
  exact⟨by rw[h.1,h1],h2⟩
theorem zpO {c:Nat}:∀ {ps qs:List (List Nat)},ps≠[]→qs≠[]→(∀p∈ps,c∉p)→(∀q∈qs,c∉q)→jl c ps=jl c qs→ps=qs
 | [],_,h,_,_,_,_=>absurd rfl h
 | _,[],_,h,_,_,_=>absurd rfl h
 | [p],[q],_,_,_,_,e=>by simp only[jl] at e;rw[e]
 | [p],q::q'::r,_,_,hp,_,e=>by
  simp only[jl] at e
  exact absurd (by rw[e];simp) (hp p (by simp))
 | p::p'::r,[q],_,_,_,hq,e=>by
  simp only[jl] at e
  exact absurd (by rw[← e];simp) (hq q (by simp))
 | p::p'::r,q::q'::s,_,_,hp,hq,e=>by
  simp only[jl] at e
  obtain⟨h1,h2⟩:=zpU (hp p (by simp)) (hq q (by simp)) e
  have:=zpO (by simp) (by simp) (fun x hx=>hp x (by simp at hx ⊢;exact .inr hx)) (fun x hx=>hq x (by simp at hx ⊢;exact .inr hx)) h2
  rw[h1,this]
theorem zfJ {c:Nat} {ws:List Str} (h0:ws≠[]) (h:∀w∈ws,c∉w.cps.toList):Txt.split (Str.join ⟨#[c]⟩ ws) ⟨#[c]⟩=ws:=by
 have e:=StrLaws.join_split (Str.join ⟨#[c]⟩ ws) ⟨#[c]⟩
 have f:=StrLaws.split_free (Str.join ⟨#[c]⟩ ws) c
 have p:=PyProof.Rows.split_pos (Str.join ⟨#[c]⟩ ws) ⟨#[c]⟩
 obtain⟨S,eS⟩:∃S,S=Txt.split (Str.join ⟨#[c]⟩ ws) ⟨#[c]⟩:=⟨_,rfl⟩
 rw[← eS] at e f p ⊢
 have e':(Str.join ⟨#[c]⟩ S).cps.toList=(Str.join ⟨#[c]⟩ ws).cps.toList:=by rw[e]
 rw[zgG,zgG] at e'
 have k:=zpO (by intro z;have:=List.map_eq_nil_iff.mp z;rw[this] at p;simp at p) (by intro z;exact h0 (List.map_eq_nil_iff.mp z))
  (fun x hx=>by obtain⟨w,hw,rfl⟩:=List.mem_map.mp hx;exact f w hw) (fun x hx=>by obtain⟨w,hw,rfl⟩:=List.mem_map.mp hx;exact h w hw) e'
 refine List.ext_getElem? fun i=>?_
 have ki:(S.map fun p=>p.cps.toList)[i]?=(ws.map fun p=>p.cps.toList)[i]?:=by rw[k]
 rw[List.getElem?_map,List.getElem?_map] at ki
 cases a:S[i]? with
 | none=>rw[a] at ki;cases b:ws[i]? with
  | none=>rfl
  | some w=>rw[b] at ki;cases ki
 | some x=>rw[a] at ki;cases b:ws[i]? with
  | none=>rw[b] at ki;cases ki
  | some w=>
   rw[b] at ki
   simp at ki
   rw[Str.ext' ki]
theorem znC {c:Nat} {w:Str} (h:c∉w.cps.toList):Txt.split w ⟨#[c]⟩=[w]:=zfJ (ws:=[w]) (by simp) (by simpa using h)
def dg (n:Int):Str:=Str.ofString (toString n)
theorem zkf (m:Nat):(dg (m:Int)).cps.toList=(Nat.toDigits 10 m).map Char.toNat:=PySem.W.KIN.signs_num m
theorem zmq (m:Nat):PySem.NumText.AllDigits (dg (m:Int)).cps.toList:=by
 intro c hc
 rw[zkf] at hc
 obtain⟨ch,hch,e⟩:=List.mem_map.mp hc
 have r:=PyProof.Rows.digit_range (Nat.isDigit_of_mem_toDigits (by decide) (by decide) hch)
 rw[← e]
 exact r
theorem zkB {m:Nat} (h:¬ m<10):Nat.toDigits 10 m=Nat.toDigits 10 (m/10)++[Nat.digitChar (m%10)]:=by
 have hm:m%10<10:=Nat.mod_lt m (by decide)
 have t:Nat.toDigits 10 (m/10)++Nat.toDigits 10 (m%10)=Nat.toDigits 10 (10*(m/10)+m%10):=Nat.toDigits_append_toDigits (by decide) (by omega) hm
 rw[Nat.div_add_mod,Nat.toDigits_of_lt_base hm] at t
 exact t.symm
theorem zou:∀(k m:Nat),m<10 ^ (k+1)→(Nat.toDigits 10 m).length≤k+1
 | 0,m,h=>by rw[Nat.toDigits_of_lt_base (by simpa using h)];simp
 | k+1,m,h=>by
  by_cases hm:m<10
  ·rw[Nat.toDigits_of_lt_base hm];simp
  ·rw[zkB hm,List.length_append]
   have:=zou k (m/10) (by rw[Nat.pow_succ] at h;omega)
   simp;omega
theorem zpJ (m:Nat):Nat.toDigits 10 m≠[]:=fun e=>by
 have h:=PySem.toDigits_len_ge 10 m
 rw[e] at h
 simp at h
theorem zoY (m:Nat):0<m→(Nat.toDigits 10 m).head?≠some '0':=by
 induction m using Nat.strongRecOn with
 | _ m ih=>
  intro h0
  by_cases hm:m<10
  ·rw[Nat.toDigits_of_lt_base hm]
   have key:∀d:Nat,d<10→0<d→Nat.digitChar d≠'0':=by decide
   intro e
   exact key m hm h0 (by simpa using e)
  ·rw[zkB hm]
   have ne:=zpJ (m/10)
   have:=ih (m/10) (by omega) (by omega)
   cases q:Nat.toDigits 10 (m/10) with
   | nil=>exact absurd q ne
   | cons a l=>rw[q] at this;simpa using this
theorem zoB {m k:Nat} (h:m<10 ^ (k+1)):(dg (m:Int)).length≤k+1∧1≤(dg (m:Int)).length:=by
 have e:(dg (m:Int)).length=(Nat.toDigits 10 m).length:=by
  have:=congrArg List.length (zkf m)
  rw[List.length_map] at this
  rw[← this];simp[Str.length]
 rw[e]
 exact⟨zou k m h,PySem.toDigits_len_ge 10 m⟩
theorem zqQ {m:Nat} (h:m<10 ^ 60):PySem.intText? (dg (m:Int))=some (m:Int):=by
 have hl:=(zoB (k:=59) h).1
 have hne:(dg (m:Int)).cps.toList≠[]:=by
  rw[zkf]
  exact fun e=>zpJ m (List.map_eq_nil_iff.mp e)
 have e:=PySem.intText_digits (zmq m) hne (by omega)
 rw[zkf,PySem.W.KIN.val_back] at e
 exact e
theorem zg6 {m c:Nat} (h:c<48∨57<c):c∉(dg (m:Int)).cps.toList:=fun hc=>by
 have:=zmq m c hc
 omega
theorem zhf (a b:Str):(a++b).length=a.length+b.length:=Str.length_append a b
end My
namespace My
open PySem L2 PM
theorem zfn (a b:Int):zbQ [.int a,.int b]=.ok (.int (Int.gcd a b)):=by
 have ab:∀z:Int,(if z<0 then -z else z)=(z.natAbs:Int):=fun z=>by split <;> omega
 let env:Nat×Nat×Option D→En:=fun p=>[.v (.int a),.v (.int b),.v (.int p.1),.v (.int p.2.1),sv p.2.2]
 obtain⟨⟨x,y,r⟩,h1,h2,h3,_⟩:=zk4 (c:=zdM) (m:=zdJ) env (fun p=>decide (0<p.2.1)) (fun p=>(p.2.1,p.1%p.2.1,some (.int ((p.1%p.2.1:Nat):Int)))) (fun p=>Nat.gcd p.1 p.2.1=Int.gcd a b) (fun p=>p.2.1)
  (fun p _=>by simp[env,zdM,zaA,mRd,mC]) (fun p hp hg=>by
   have hy:0<p.2.1:=by simpa using hg
   refine⟨?_,?_,Nat.mod_lt _ hy⟩
   ·have e:oMod (.int (p.1:Int)) (.int (p.2.1:Int))=some (.int ((p.1%p.2.1:Nat):Int)):=by rw[zbV (by omega)];simp
    have b4:∀d,zat 4 d (env p)=some ((env p).set 4 (.v d)):=fun d=>za5 rfl
    simp only[zdJ,mSeq,mAsg,zel,show mRd 2 (env p)=.ok (.int p.1) from rfl,show mRd 3 (env p)=.ok (.int p.2.1) from rfl,R.bind_ok,e,R.of_some,R.toO_ok,b4,O.of_some]
    rfl
   ·rw[Nat.gcd_comm,← hp,Nat.gcd_comm p.1,Nat.gcd_rec p.2.1 p.1]) (a.natAbs,b.natAbs,none) rfl
 have y0:y=0:=by simpa using h2
 subst y0
 have ex:(x:Int)=Int.gcd a b:=by
  have:Nat.gcd x 0=Int.gcd a b:=h1
  rw[Nat.gcd_zero_right] at this
  omega
 refine zbp ?_
 have e3:zfi [.v (.int a),.v (.int b),.v (.int a.natAbs),.v (.int b.natAbs),.no]=.nx [.v (.int a),.v (.int b),.v (.int x),.v (.int 0),sv r]:=h3
 simp[zeb,zbz,mSeq,mAsg,mCB,zab,mNil,mRd,fAbs,ab,zat,e3,mRet,mVar,ex]
end My
namespace My
open PySem L2 PM
theorem zrb {c:Nat} (h:48≤c∧c≤57):Txt.contains "0123456789" ⟨#[c]⟩=true:=by
 have key:∀k:Fin 10,Txt.contains "0123456789" ⟨#[48+k.val]⟩=true:=by decide +kernel
 have:=key ⟨c - 48,by omega⟩
 rwa [show 48+(c - 48)=c by omega] at this
theorem zoh {l:List Nat} (h:PySem.NumText.AllDigits l):(⟨l.toArray⟩:Str).cps.all (· < 128)=true:=by
 rw[Array.all_eq_true]
 intro i hi
 have:l[i]'(by simpa using hi)∈l:=List.getElem_mem _
 have:=h _ this
 simp
 omega
theorem zpk (m:Nat):(dg (m:Int)).cps.all (· < 128)=true:=by
 have:=zoh (zmq m)
 simpa using this
theorem zbZ {x:Int}:zaq [.bl false,.int x]=.ok .non:=by
 simp[zaq,runF,zbz,zez,mIfS,zaA,mVar,zbb]
theorem zoV (bs:List Bool):fAny [.lst (bs.map .bl)]=some (.bl (bs.any id)):=by simp only[fAny,zmu,Option.map_some]
theorem zpe (bs:List Bool):fAll [.lst (bs.map .bl)]=some (.bl (bs.all id)):=by simp only[fAll,zmu,Option.map_some]
theorem zho {m:Nat} (h:m<10 ^ 12):zcm [.str (dg (m:Int))]=.ok (.bl true):=by
 obtain⟨w,ew⟩:∃w,w=dg (m:Int):=⟨_,rfl⟩
 have hl:=zoB (k:=11) h
 have ha:=zpk m
 have hd:=zmq m
 have hc:=zkf m
 rw[← ew] at hl ha hd hc ⊢
 have len:zlK [.str w]=some (.int w.length):=zbf (by rw[sizeLine_eq];omega)
 have wl:w.cps.toList.length=w.length:=by simp[Str.length]
 have l0:¬ (w.length:Int)=0:=by omega
 have l12:¬ (12:Int)<(w.length:Int):=by omega
 have k:zfx [.v (.str w)]=.ok (.lst ((w.cps.toList.map fun _=>false).map .bl)):=by
  refine Eq.trans (zaZ (l:=w.cps.toList.map fun c=>.str ⟨#[c]⟩) (r:=w.cps.toList.map fun _=>.bl false) ?_ (by rw[List.length_map];omega) ?_) (by rw[List.map_map];rfl)
  ·show (if w.cps.all (· < 128)=true then R.ok (sgnD w) else .no)=_
   rw[if_pos ha];rfl
  ·refine zbi (fun c:Nat=>D.str ⟨#[c]⟩) (fun _=>.bl false) _ fun c hcm=>?_
   have:=zrb (hd c hcm)
   simp[zcn,zbl,zaE,mRd,mC,oInS,this]
 have an:((w.cps.toList.map fun _=>false).any id)=false:=by
  generalize w.cps.toList=l
  induction l with
  | nil=>rfl
  | cons a l ih=>simpa using ih
 obtain⟨c0,e0⟩:∃c0,w.cps.toList[0]?=some c0:=⟨w.cps.toList[0]'(by omega),List.getElem?_eq_getElem (by omega)⟩
 have ix:oIxS (.str w) (.int 0)=some (.str ⟨#[c0]⟩):=by
  show ifC _ _ _=_
  rw[zbf (by rw[sizeLine_eq];omega),show atI w.cps.toList 0=some c0 by rw[show (0:Int)=((0:Nat):Int) from rfl];exact PM.atI_nat e0];rfl
 have fin:mOrV (m2 oNe (m2 oIxS (mRd 0) (mC (.int 0))) (mC (.str "0"))) (m2 oEq (mRd 0) (mC (.str "0"))) [.v (.str w)]=.ok (.bl true):=by
  by_cases hz:(⟨#[c0]⟩:Str) = "0"
  ·have hw:w = "0":=by
    have c48:c0=48:=by
     have:=congrArg (fun s:Str=>s.cps.toList) hz
     have e:("0" : Str).cps.toList=[48]:=by decide +kernel
     simp only[e] at this
     simpa using this
    have m0:m=0:=by
     rcases Nat.eq_zero_or_pos m with z|z
     ·exact z
     ·have hh:=zoY m z
      rw[hc,List.getElem?_map] at e0
      cases q:Nat.toDigits 10 m with
      | nil=>rw[q] at e0;cases e0
      | cons a l=>
       rw[q] at e0 hh
       simp at e0 hh
       exact absurd (Char.toNat_inj.mp (e0.trans (c48.trans (show (48:Nat) = '0'.toNat from rfl)))) hh
    rw[ew,m0]
    decide +kernel
   have e1:oNe (.str ⟨#[c0]⟩) (.str "0")=some (.bl false):=by rw[hz];rfl
   have e2:oEq (.str w) (.str "0")=some (.bl true):=by rw[hw];rfl
   simp[mOrV,mRd,mC,ix,e1,e2]
  ·have e1:oNe (.str ⟨#[c0]⟩) (.str "0")=some (.bl true):=by
    show (if scal (V.str ⟨#[c0]⟩) (V.str "0")=true then some (D.bl (!decide (V.str ⟨#[c0]⟩=V.str "0"))) else none)=_
    rw[if_pos (show scal (V.str ⟨#[c0]⟩) (V.str "0")=true from rfl),decide_eq_false (fun z=>hz (V.str.inj z))];rfl
   simp[mOrV,mRd,mC,ix,e1]
 refine zbp ?_
 show mSeq _ _ [.v (.str w)]=_
 have q1:mIfS (mOr (zaA (m2 oEq (mCB zlK (zab (mRd 0) mNil)) (mC (.int 0)))) (zaA (m2 oGt (mCB zlK (zab (mRd 0) mNil)) (mC (.int 12))))) (mRet (mC (.bl false))) zbb [.v (.str w)]=.nx [.v (.str w)]:=by
  have l0n:¬ w.length=0:=by omega
  simp[mIfS,mOr,zaA,mCB,zab,mNil,mRd,mC,len,l0n,l12,zbb]
 have q2:mIfS (zaA (mCB fAny (zab zfx mNil))) (mRet (mC (.bl false))) zbb [.v (.str w)]=.nx [.v (.str w)]:=by
  rw[zcL]
  ·rfl
  ·simp only[zaA,mCB,zab,mNil,k,R.bind_ok,zoV,R.of_some,an,zsi]
 refine (zau q1).trans ((zau q2).trans ?_)
 simp[mRet,fin]
abbrev Fr:=Int×Int
def encF (f:Fr):D:=.tup [.int f.1,.int f.2]
structure AmOk (f:Fr):Prop where
 lo:0≤f.1
 hi:f.1<1000000000000
 b0:1≤f.2
 b1:f.2≤12
 cop:Int.gcd f.1 f.2=1
def wr (f:Fr):Str:=if f.2=1 then dg f.1 else dg f.1++"/"++dg f.2
theorem zrj:("/" : Str)=⟨#[47]⟩:=by decide +kernel
theorem dg_i {i:Int} (h0:0≤i):dg i=dg ((i.toNat:Nat):Int):=by rw[show ((i.toNat:Nat):Int)=i by omega]
theorem zps {f:Fr} (ok:AmOk f):Txt.split (wr f) "/"=if f.2=1 then [dg f.1] else [dg f.1,dg f.2]:=by
 have h1:=ok.lo
 have h2:=ok.b0
 have f1:47∉(dg f.1).cps.toList:=by rw[dg_i h1];exact zg6 (.inl (by decide))
 have f2:47∉(dg f.2).cps.toList:=by rw[dg_i (by omega:0≤f.2)];exact zg6 (.inl (by decide))
 unfold wr
 rw[zrj]
 split
 ·exact znC f1
 ·exact zfJ (ws:=[dg f.1,dg f.2]) (by simp) (fun w hw=>by
   rcases List.mem_cons.mp hw with e|hw
   ·rw[e];exact f1
   ·rw[List.mem_singleton.mp hw];exact f2)
theorem dgl {i:Int} {k:Nat} (h0:0≤i) (h:i.toNat<10 ^ (k+1)):(dg i).length≤k+1:=by rw[dg_i h0];exact (zoB h).1
theorem zkL {f:Fr} (ok:AmOk f):(wr f).length≤20:=by
 have h1:=ok.lo
 have h2:=ok.hi
 have h3:=ok.b0
 have h4:=ok.b1
 have l1:=dgl (i:=f.1) (k:=11) h1 (by omega)
 have l2:=dgl (i:=f.2) (k:=1) (by omega) (by omega)
 have ls:("/" : Str).length=1:=by decide +kernel
 unfold wr
 split
 ·omega
 ·rw[zhf,zhf];omega
theorem intS {i:Int} (h0:0≤i) (h:i.toNat<10 ^ 60):zjZ [.str (dg i)]=some (.int i):=by
 have r:=zqQ h
 rw[show ((i.toNat:Nat):Int)=i by omega] at r
 have l:=dgl (k:=59) h0 h
 show (PySem.intText? (dg i)).bind _=_
 rw[r]
 exact zbf (by omega)
theorem isn {i:Int} (h0:0≤i) (h:i<1000000000000):zcm [.str (dg i)]=.ok (.bl true):=by
 have:=zho (m:=i.toNat) (by omega)
 rwa [show ((i.toNat:Nat):Int)=i by omega] at this
theorem zdf {f:Fr} (ok:AmOk f) (x:Int):zbt [.str (wr f),.int x]=.ok (encF f):=by
 have h1:=ok.lo
 have h2:=ok.hi
 have h3:=ok.b0
 have h4:=ok.b1
 have wl:=zkL ok
 have sp:=zps ok
 obtain⟨ps,eps⟩:∃ps:List Str,ps=if f.2=1 then [dg f.1] else [dg f.1,dg f.2]:=⟨_,rfl⟩
 have pl:ps.length≤2:=by rw[eps];split <;> simp
 rw[← eps] at sp
 have i1:=intS h1 (show f.1.toNat<10 ^ 60 by omega)
 have i2:=intS (show 0≤f.2 by omega) (show f.2.toNat<10 ^ 60 by omega)
 have p0:oIxL (.lst (ps.map .str)) (.int 0)=some (.str (dg f.1)):=by rw[eps];split <;> rfl
 have pn:∀p∈ps,zcm [.str p]=.ok (.bl true):=fun p hp=>by
  rw[eps] at hp
  split at hp
  ·rw[List.mem_singleton.mp hp];exact isn h1 h2
  ·rcases List.mem_cons.mp hp with e|hp
   ·rw[e];exact isn h1 h2
   ·rw[List.mem_singleton.mp hp];exact isn (by omega) (by omega)
 have ls:("/" : Str).length=1:=by decide +kernel
 have q1:mAsg (zhM (mVar 0) "/") (zat 2) [.v (.str (wr f)),.v (.int x),.no,.no,.no]=.nx [.v (.str (wr f)),.v (.int x),.v (.lst (ps.map .str)),.no,.no]:=by
  refine zaT (d:=.lst (ps.map .str)) ?_ rfl
  show zhi (.str (wr f)) "/"=_
  unfold zhi
  dsimp only
  rw[sp,zbf ⟨by rw[ls];rfl,by rw[sizeLine_eq];omega,by rw[sizeLine_eq];omega⟩]
 have len:fLen [.lst (ps.map .str)]=some (.int ps.length):=by simp
 have t2:¬ (2:Int)<(ps.length:Int):=by omega
 have q2:mDo (zaf zaq (zab (m2 oGt (mCB fLen (zab (mRd 2) mNil)) (mC (.int 2))) (zab (mVar 1) mNil))) [.v (.str (wr f)),.v (.int x),.v (.lst (ps.map .str)),.no,.no]=.nx [.v (.str (wr f)),.v (.int x),.v (.lst (ps.map .str)),.no,.no]:=by
  simp[mDo,zaf,zab,mNil,mCB,mRd,mC,mVar,len,t2,zbZ]
 have k:zev [.v (.str (wr f)),.v (.int x),.v (.lst (ps.map .str)),.no,.no]=.ok (.lst ((ps.map fun _=>true).map .bl)):=by
  refine Eq.trans (zaZ (l:=ps.map .str) (r:=ps.map fun _=>.bl true) (by simp[mItL,mRd]) (by rw[List.length_map];omega) ?_) (by rw[List.map_map];rfl)
  exact zbi D.str (fun _=>.bl true) _ fun p hp=>by simp[zcn,zbl,zaE,zaf,zab,mNil,mVar,pn p hp]
 have al:((ps.map fun _=>true).all id)=true:=by
  generalize ps=l
  induction l with
  | nil=>rfl
  | cons a l ih=>simpa using ih
 have q3:mDo (zaf zaq (zab (zh9 (mCB fAll (zab zev mNil))) (zab (mVar 1) mNil))) [.v (.str (wr f)),.v (.int x),.v (.lst (ps.map .str)),.no,.no]=.nx [.v (.str (wr f)),.v (.int x),.v (.lst (ps.map .str)),.no,.no]:=by
  have e:mCB fAll (zab zev mNil) [.v (.str (wr f)),.v (.int x),.v (.lst (ps.map .str)),.no,.no]=.ok (.bl true):=by
   simp only[mCB,zab,mNil,k,R.bind_ok,zpe,R.of_some,al]
  simp[mDo,zaf,zab,mNil,zh9,mVar,e,zbZ]
 have q4:mAsg (mCB zjZ (zab (m2 oIxL (mRd 2) (mC (.int 0))) mNil)) (zat 3) [.v (.str (wr f)),.v (.int x),.v (.lst (ps.map .str)),.no,.no]=.nx [.v (.str (wr f)),.v (.int x),.v (.lst (ps.map .str)),.v (.int f.1),.no]:=by
  refine zaT (d:=.int f.1) ?_ rfl
  simp only[mCB,zab,mNil,zel,mRd,mC,List.getElem?_cons_succ,List.getElem?_cons_zero,R.bind_ok,p0,R.of_some,i1]
 refine zbp ?_
 show mSeq _ _ [.v (.str (wr f)),.v (.int x),.no,.no,.no]=_
 refine (zau q1).trans ((zau q2).trans ((zau q3).trans ((zau q4).trans ?_)))
 by_cases hb:f.2=1
 ·have pl1:ps.length=1:=by rw[eps,if_pos hb];rfl
  refine zeX ?_
  rw[zd0 (by simp[zaA,mCB,zab,mNil,mRd,mC,len,pl1])]
  simp[mRet,mTup,zab,mNil,mVar,mC,sizeLine,encF,hb]
 ·have pl2:ps.length=2:=by rw[eps,if_neg hb];rfl
  have p1:oIxL (.lst (ps.map .str)) (.int 1)=some (.str (dg f.2)):=by rw[eps,if_neg hb];rfl
  have q5:mIfS (zaA (m2 oEq (mCB fLen (zab (mRd 2) mNil)) (mC (.int 1)))) (mRet (mTup (zab (mVar 3) (zab (mC (.int 1)) mNil)))) zbb [.v (.str (wr f)),.v (.int x),.v (.lst (ps.map .str)),.v (.int f.1),.no]=.nx [.v (.str (wr f)),.v (.int x),.v (.lst (ps.map .str)),.v (.int f.1),.no]:=by
   rw[zcL (by simp[zaA,mCB,zab,mNil,mRd,mC,len,pl2])];rfl
  have q6:mAsg (mCB zjZ (zab (m2 oIxL (mRd 2) (mC (.int 1))) mNil)) (zat 4) [.v (.str (wr f)),.v (.int x),.v (.lst (ps.map .str)),.v (.int f.1),.no]=.nx [.v (.str (wr f)),.v (.int x),.v (.lst (ps.map .str)),.v (.int f.1),.v (.int f.2)]:=by
   refine zaT (d:=.int f.2) ?_ rfl
   simp only[mCB,zab,mNil,zel,mRd,mC,List.getElem?_cons_succ,List.getElem?_cons_zero,R.bind_ok,p1,R.of_some,i2]
  have t1:¬ f.2<2:=by omega
  have t3:¬ 12<f.2:=by omega
  have cf:=zfn f.1 f.2
  rw[ok.cop] at cf
  have q7:mDo (zaf zaq (zab (mOrV (m2 oLt (mRd 4) (mC (.int 2))) (m2 oGt (mRd 4) (mC (.int 12)))) (zab (mVar 1) mNil))) [.v (.str (wr f)),.v (.int x),.v (.lst (ps.map .str)),.v (.int f.1),.v (.int f.2)]=.nx [.v (.str (wr f)),.v (.int x),.v (.lst (ps.map .str)),.v (.int f.1),.v (.int f.2)]:=by
   simp[mDo,zaf,zab,mNil,mOrV,mRd,mC,mVar,t1,t3,zbZ]
  have q8:mDo (zaf zaq (zab (m2 oGt (zaf zbQ (zab (mVar 3) (zab (mVar 4) mNil))) (mC (.int 1))) (zab (mVar 1) mNil))) [.v (.str (wr f)),.v (.int x),.v (.lst (ps.map .str)),.v (.int f.1),.v (.int f.2)]=.nx [.v (.str (wr f)),.v (.int x),.v (.lst (ps.map .str)),.v (.int f.1),.v (.int f.2)]:=by
   simp[mDo,zaf,zab,mNil,mC,mVar,cf,zbZ]
  refine (zau q5).trans ((zau q6).trans ((zau q7).trans ((zau q8).trans ?_)))
  simp[mRet,mTup,zab,mNil,mVar,sizeLine,encF]
end My
namespace My
open PySem L2 PM
abbrev Ps:=Int×List Int
def encS (s:Ps):D:=.tup [.int s.1,iL s.2]
def encP (l:List Ps):D:=.lst (l.map encS)
structure Good (n:Nat) (s:Ps):Prop where
 lo:0≤s.1
 hi:s.1≤1000000000000000000
 nd:s.2.Nodup
 mem:∀t∈s.2,0≤t∧t<(n:Int)
theorem zlR (n:Nat):((List.range n).map fun (k:Nat)=>(k:Int)).Nodup:=by
 refine List.Pairwise.map _ (fun a b h e=>h (Int.ofNat.inj e)) List.nodup_range
theorem zmt {n:Nat} {s:Ps} (g:Good n s):s.2.length≤n:=by
 have h:=List.Nodup.length_le_of_subset (l₂:=(List.range n).map fun (k:Nat)=>(k:Int)) g.nd (fun t ht=>by
  obtain⟨h0,h1⟩:=g.mem t ht
  exact List.mem_map.mpr ⟨t.toNat,List.mem_range.mpr (by omega),by omega⟩)
 simpa using h
theorem rngN {n:Nat} (h:n≤1000):rng [.int (n:Int)]=some (((List.range n).map fun (k:Nat)=>(k:Int)).map .int):=by
 rw[rng1 (by omega) (by omega),Int.toNat_natCast,znh,List.map_map];rfl
def upto (n:Nat):List Int:=(List.range n).map fun (k:Nat)=>(k:Int)
theorem mem_upto {n:Nat} {t:Int}:t∈upto n↔0≤t∧t<(n:Int):=by
 unfold upto
 rw[List.mem_map]
 constructor
 ·rintro⟨a,h,rfl⟩
  have:=List.mem_range.mp h
  omega
 ·rintro⟨h0,h1⟩
  exact⟨t.toNat,List.mem_range.mpr (by omega),by omega⟩
theorem zl8 {n:Nat}:(upto n).length=n:=by simp[upto]
theorem zm6 (n:Nat):(upto n).Nodup:=zlR n
theorem rngU {n:Nat} (h:n≤1000):rng [.int (n:Int)]=some ((upto n).map .int):=rngN h
end My
namespace My
open PySem L2 PM
def ins (L:List Int) (t:Int):List Int:=if t∈L then L else L++[t]
def zc3 (L ts:List Int):List Int:=ts.foldl ins L
theorem mem_insAll {ts:List Int}:∀ {L:List Int} {t:Int},t∈zc3 L ts↔t∈L∨t∈ts:=by
 induction ts with
 | nil=>intro L t;simp[zc3]
 | cons a l ih=>
  intro L t
  show t∈zc3 (ins L a) l↔_
  rw[ih]
  unfold ins
  by_cases h:a∈L
  ·rw[if_pos h,List.mem_cons]
   constructor
   ·rintro (z|z)
    ·exact .inl z
    ·exact .inr (.inr z)
   ·rintro (z|rfl|z)
    ·exact .inl z
    ·exact .inl h
    ·exact .inr z
  ·rw[if_neg h,List.mem_append,List.mem_singleton,List.mem_cons]
   constructor
   ·rintro ((z|z)|z)
    ·exact .inl z
    ·exact .inr (.inl z)
    ·exact .inr (.inr z)
   ·rintro (z|z|z)
    ·exact .inl (.inl z)
    ·exact .inl (.inr z)
    ·exact .inr z
theorem zhx {ts:List Int}:∀ {L:List Int},L.Nodup→(zc3 L ts).Nodup:=by
 induction ts with
 | nil=>intro L h;exact h
 | cons a l ih=>
  intro L h
  refine ih (L:=ins L a) ?_
  unfold ins
  by_cases z:a∈L
  ·rw[if_pos z];exact h
  ·rw[if_neg z]
   rw[List.nodup_append]
   exact⟨h,by simp,fun x hx y hy e=>by
    have:y=a:=by simpa using hy
    subst this;subst e;exact z hx⟩
theorem znb {ts us L:List Int}:zc3 L (ts++us)=zc3 (zc3 L ts) us:=by simp[zc3]
theorem zmN {n:Nat} {L:List Int} (h:L.Nodup) (hs:∀t∈L,t∈upto n):L.length≤n:=by
 have:=List.Nodup.length_le_of_subset h hs
 rwa [zl8] at this
theorem zmf {i j:Nat} (hij:i≠j) {n:Nat} (hn:n≤1000):∀(ts:List Int) (δ:En) (L:List Int) (o:Option D),δ[j]?=some (.o (dk L))→δ[i]?=some (sv o)→L.Nodup→(∀t∈L,t∈upto n)→(∀t∈ts,t∈upto n) →
  ∃o',zgX (zat i) (zll j (mVar i) (mC (.bl true))) (ts.map .int) δ=.nx ((δ.set j (.o (dk (zc3 L ts)))).set i (sv o'))
 | [],δ,L,o,hj,hi,_,_,_=>by
  refine⟨o,?_⟩
  have e1:δ.set j (.o (dk L))=δ:=by
   apply List.ext_getElem?
   intro k
   by_cases e:j=k
   ·subst e;rw[List.getElem?_set_self (List.getElem?_eq_some_iff.mp hj).1,hj]
   ·rw[List.getElem?_set_ne e]
  have e2:δ.set i (sv o)=δ:=by
   apply List.ext_getElem?
   intro k
   by_cases e:i=k
   ·subst e;rw[List.getElem?_set_self (List.getElem?_eq_some_iff.mp hi).1,hi]
   ·rw[List.getElem?_set_ne e]
  show O.nx δ=.nx ((δ.set j (.o (dk L))).set i (sv o))
  rw[e1,e2]
 | t::ts,δ,L,o,hj,hi,hL,hs,ht=>by
  have hil:=(List.getElem?_eq_some_iff.mp hi).1
  have hjl:=(List.getElem?_eq_some_iff.mp hj).1
  have b1:zat i (.int t) δ=some (δ.set i (.v (.int t))):=za5 hi
  have g1:(δ.set i (.v (.int t)))[j]?=some (.o (dk L)):=by rw[List.getElem?_set_ne hij];exact hj
  have g2:mVar i (δ.set i (.v (.int t)))=.ok (.int t):=by unfold mVar;rw[List.getElem?_set_self hil]
  have len:=zmN hL hs
  have p:=zo3 (mk:=mVar i) (me:=mC (.bl true)) g1 g2 rfl (by omega)
  obtain⟨o',ih⟩:=zmf hij hn ts ((δ.set i (.v (.int t))).set j (.o (dk (ins L t)))) (ins L t) (some (.int t)) (List.getElem?_set_self (by simpa using hjl)) (by rw[List.getElem?_set_ne (Ne.symm hij),List.getElem?_set_self hil];rfl)
   (zhx (ts:=[t]) hL) (fun x hx=>by
    rcases (mem_insAll (ts:=[t])).mp hx with z|z
    ·exact hs x z
    ·have:x=t:=by simpa using z
     subst this;exact ht x List.mem_cons_self) (fun x hx=>ht x (List.mem_cons_of_mem _ hx))
  refine⟨o',?_⟩
  rw[List.map_cons]
  unfold zgX
  rw[b1]
  simp only
  rw[show zll j (mVar i) (mC (.bl true)) (δ.set i (.v (.int t)))=.nx ((δ.set i (.v (.int t))).set j (.o (dk (ins L t)))) from p]
  simp only
  rw[ih]
  congr 1
  apply List.ext_getElem?
  intro k
  by_cases e1:i=k
  ·subst e1
   rw[List.getElem?_set_self (by simpa using hil),List.getElem?_set_self (by simpa using hil)]
  ·rw[List.getElem?_set_ne e1,List.getElem?_set_ne e1]
   by_cases e2:j=k
   ·subst e2
    rw[List.getElem?_set_self (by simpa using hjl),List.getElem?_set_self (by simpa using hjl)]
    rfl
   ·rw[List.getElem?_set_ne e2,List.getElem?_set_ne e2,List.getElem?_set_ne e2,List.getElem?_set_ne e1]
end My
namespace My
open PySem L2 PM
structure SetsOk (n:Nat) (sets:List Ps):Prop where
 good:∀s∈sets,Good n s
 few:sets.length≤1000
 n1:n≤1000
def things (sets:List Ps):List Int:=sets.flatMap (·.2)
end My
namespace My
open PySem L2 PM
theorem zrS (u b:Nat):(u:Int)*((b:Int)/(Int.gcd (u:Int) (b:Int):Int))=(Nat.lcm u b:Int):=by
 rw[Int.gcd_natCast_natCast,← Int.natCast_ediv,← Int.natCast_mul,Nat.lcm,Nat.mul_div_assoc u (Nat.gcd_dvd_right u b)]
def un (l:List Fr):Nat:=l.foldl (fun u f=>Nat.lcm u f.2.toNat) 1
theorem zpv (l:List Fr) (f:Fr):un (l++[f])=Nat.lcm (un l) f.2.toNat:=by simp[un]
theorem zr8 {b:Nat} (h0:1≤b) (h1:b≤12):b∣27720:=by
 have key:∀k:Fin 12,k.val+1∣27720:=by decide
 have:=key ⟨b - 1,by omega⟩
 rwa [show b - 1+1=b by omega] at this
theorem zn2:∀(l:List Fr) (u:Nat),u∣27720→(∀f∈l,AmOk f)→(l.foldl (fun u f=>Nat.lcm u f.2.toNat) u)∣27720∧u∣l.foldl (fun u f=>Nat.lcm u f.2.toNat) u∧∀f∈l,f.2.toNat∣l.foldl (fun u f=>Nat.lcm u f.2.toNat) u
 | [],u,h,_=>⟨h,Nat.dvd_refl u,fun f hf=>by cases hf⟩
 | f::l,u,h,ok=>by
  have o:=ok f (by simp)
  have b0:=o.b0
  have b1:=o.b1
  obtain⟨h1,h2,h3⟩:=zn2 l (Nat.lcm u f.2.toNat) (Nat.lcm_dvd h (zr8 (by omega) (by omega))) fun g hg=>ok g (by simp[hg])
  refine⟨h1,Nat.dvd_trans (Nat.dvd_lcm_left _ _) h2,fun g hg=>?_⟩
  rcases List.mem_cons.mp hg with rfl|hg
  ·exact Nat.dvd_trans (Nat.dvd_lcm_right _ _) h2
  ·exact h3 g hg
theorem zf9 {l:List Fr} (ok:∀f∈l,AmOk f):(1≤un l∧un l≤27720)∧∀f∈l,f.2∣(un l:Int):=by
 obtain⟨h1,h2,h3⟩:=zn2 l 1 (by decide) ok
 have p:un l≤27720:=Nat.le_of_dvd (by decide) h1
 have q:1≤un l:=Nat.pos_of_dvd_of_pos h1 (by decide)
 refine⟨⟨q,p⟩,fun f hf=>?_⟩
 have b0:=(ok f hf).b0
 rw[show f.2=((f.2.toNat:Nat):Int) by omega]
 exact Int.natCast_dvd_natCast.mpr (h3 f hf)
def zar (l:List Fr):D:=.lst (l.map encF)
theorem zd6 {l:List Fr} (ok:∀f∈l,AmOk f):zb7 [zar l]=.ok (.int (un l)):=by
 obtain⟨δ,h1,o2,rfl⟩:=zbh (b:=zat 2) (m:=ziu) encF (fun pre δ=>∃o2,δ=[.v (zar l),.v (.int (un pre)),sv o2]) l
  (by
   rintro pre f post δ hall ⟨o2,rfl⟩
   have o:=ok f (by rw[hall];simp)
   have b0:=o.b0
   have b1:=o.b1
   have up:=(zf9 (l:=pre) fun g hg=>ok g (by rw[hall];simp[hg])).1
   have cf:=zfn (un pre:Int) f.2
   obtain⟨b,eb⟩:∃b:Nat,f.2=(b:Int):=⟨f.2.toNat,by omega⟩
   have g0:0<Int.gcd (un pre:Int) f.2:=Int.gcd_pos_of_ne_zero_right _ (by omega)
   have g1:Int.gcd (un pre:Int) f.2≤f.2.natAbs:=Nat.le_of_dvd (by omega) (Int.natAbs_dvd_natAbs.mpr (Int.gcd_dvd_right ..))
   have fg:Fit (Int.gcd (un pre:Int) f.2:Int):=fitN 1000 (by rw[Int.natAbs_natCast];omega)
   have fu:Fit (un pre:Int):=fitN (10 ^ 6) (by rw[Int.natAbs_natCast];omega)
   have q0:0≤f.2/(Int.gcd (un pre:Int) f.2:Int):=Int.ediv_nonneg (by omega) (by omega)
   have q1:f.2/(Int.gcd (un pre:Int) f.2:Int)≤f.2:=Int.ediv_le_self _ (by omega)
   have fq:Fit (f.2/(Int.gcd (un pre:Int) f.2:Int)):=fitN 1000 (by omega)
   have lc:(un pre:Int)*(f.2/(Int.gcd (un pre:Int) f.2:Int))=(un (pre++[f]):Int):=by
    rw[zpv,eb,Int.toNat_natCast];exact zrS _ _
   refine⟨[.v (zar l),.v (.int (un pre)),.v (encF f)],[.v (zar l),.v (.int (un (pre++[f]))),.v (encF f)],za5 rfl,.inl ?_,some _,rfl⟩
   refine zaT (d:=.int (un (pre++[f]))) ?_ rfl
   have cm:zb4 [.int (un pre),.int f.2]=.ok (.int (un (pre++[f]))):=by
    rw[← lc]
    simp[zb4,runF,zbz,zdK,mRet,mRd,zaf,zab,mNil,mVar,cf,zdk (show (0:Int)<(Int.gcd (un pre:Int) f.2:Int) by omega) fg,zdX fu fq]
   have ix:oIxT (encF f) (.int 1)=some (.int f.2):=rfl
   simp[zaf,zab,mNil,mVar,mRd,mC,ix,cm])
  [.v (zar l),.v (.int (un [])),.no] ⟨none,rfl⟩
 refine zbp ?_
 show mSeq _ _ [.v (zar l),.no,.no]=_
 have e1:mAsg (mC (.int 1)) (zat 1) [.v (zar l),.no,.no]=.nx [.v (zar l),.v (.int (un [])),.no]:=rfl
 have e2:zja [.v (zar l),.v (.int (un [])),.no]=.nx [.v (zar l),.v (.int (un l)),sv o2]:=(zbP (by simp[mItL,mVar,zar])).trans h1
 exact (zau e1).trans ((zau e2).trans rfl)
def by1 (u:Nat) (f:Fr):Int:=f.1*((u:Int)/f.2)
theorem zny {u:Nat} {f:Fr} (ok:AmOk f) (hu:u≤27720):zbr [encF f,.int u]=.ok (.int (by1 u f)):=by
 have h1:=ok.lo
 have h2:=ok.hi
 have h3:=ok.b0
 have h4:=ok.b1
 have fb:Fit f.2:=fitN 1000 (by omega)
 have ft:Fit f.1:=fitN (10 ^ 12) (by omega)
 have q0:0≤(u:Int)/f.2:=Int.ediv_nonneg (by omega) (by omega)
 have q1:(u:Int)/f.2≤u:=Int.ediv_le_self _ (by omega)
 have fq:Fit ((u:Int)/f.2):=fitN (10 ^ 6) (by omega)
 have i0:oIxT (encF f) (.int 0)=some (.int f.1):=rfl
 have i1:oIxT (encF f) (.int 1)=some (.int f.2):=rfl
 simp[zbr,runF,zbz,ze7,mRet,mRd,mC,i0,i1,zdk (show (0:Int)<f.2 by omega) fb,zdX ft fq,by1]
theorem zgL {u:Nat} {l:List Fr} (ok:∀f∈l,AmOk f) (hu:u≤27720) (hl:l.length≤1000):za6 [zar l,.int u]=.ok (iL (l.map (by1 u))):=by
 refine zdp ?_
 show zck zdq [.v (zar l),.v (.int u)]=_
 have k:zdq [.v (zar l),.v (.int u)]=.ok (iL (l.map (by1 u))):=by
  refine Eq.trans (zaZ (l:=l.map encF) (r:=l.map fun f=>.int (by1 u f)) (by simp[mItL,mRd,zar]) (by rw[List.length_map];omega) ?_) (by simp[iL])
  exact zbi encF (fun f=>.int (by1 u f)) _ fun f hf=>by simp[zcn,zbl,zlH,zaE,zaf,zab,mNil,mVar,zny (ok f hf) hu]
 simp[zck,k]
theorem zpA {c s:Nat}:∀ {ps:List (List Nat)},c∈jl s ps→c=s∨∃p∈ps,c∈p
 | [],h=>by cases h
 | [p],h=>.inr ⟨p,by simp,h⟩
 | p::q::r,h=>by
  simp only[jl] at h
  rcases List.mem_append.mp h with h|h
  ·exact .inr ⟨p,by simp,h⟩
  ·rcases List.mem_cons.mp h with h|h
   ·exact .inl h
   ·rcases zpA h with z|⟨x,hx,hc⟩
    ·exact .inl z
    ·exact .inr ⟨x,by simp at hx ⊢;exact .inr hx,hc⟩
theorem zoH {f:Fr} (ok:AmOk f) {c:Nat} (h:c<47):c∉(wr f).cps.toList:=by
 have h1:=ok.lo
 have h2:=ok.b0
 have f1:c∉(dg f.1).cps.toList:=by rw[dg_i h1];exact zg6 (.inl (by omega))
 have f2:c∉(dg f.2).cps.toList:=by rw[dg_i (by omega:0≤f.2)];exact zg6 (.inl (by omega))
 unfold wr
 split
 ·exact f1
 ·rw[zjj,zjj,zrj]
  intro z
  rcases List.mem_append.mp z with z|z
  ·rcases List.mem_append.mp z with z|z
   ·exact f1 z
   ·have:c=47:=by simpa using z
    omega
  ·exact f2 z
theorem zqa:(" " : Str)=⟨#[32]⟩:=by decide +kernel
theorem nl:("\n" : Str)=⟨#[10]⟩:=by decide +kernel
def num (c k:Int):Int:=(c%100000000000000000000+k*k+1)*(48271+2*k)%2147483647
theorem zis (c k:Int) (h0:0≤k) (h1:k≤1000):zaK [.int c,.int k]=.ok (.int (num c k)):=by
 have e1:=zcq c (show (0:Int)<100000000000000000000 by decide)
 have e2:=zcp c (show (0:Int)<100000000000000000000 by decide)
 have e3:0≤k*k:=Int.mul_nonneg h0 h0
 have e4:k*k≤1000*1000:=Int.mul_le_mul h1 h1 h0 (by decide)
 have f1:Fit k:=fitN 1000 (by omega)
 have f2:Fit 2:=fitN 1000 (by decide)
 have f3:Fit (c%100000000000000000000+k*k+1):=fitN (10 ^ 21) (by omega)
 have f4:Fit (48271+2*k):=fitN (10 ^ 21) (by omega)
 simp[zaK,runF,zbz,zfG,mRet,mRd,mC,p20,zbV,zdX,f1,f2,f3,f4,num]
theorem zgP {a b:Int} (ha:0≤a) (hb:0≤b):zbB [.int a,.int b]=.ok (.int (Int.gcd a b)):=by
 let env:Nat×Nat→En:=fun p=>[.v (.int (p.1:Int)),.v (.int (p.2:Int))]
 obtain⟨⟨x,y⟩,h1,h2,h3,_⟩:=zk4 (c:=zee) (m:=zd8) env (fun p=>decide (0<p.2)) (fun p=>(p.2,p.1%p.2)) (fun p=>Nat.gcd p.1 p.2=Int.gcd a b) (fun p=>p.2)
  (fun p _=>by simp[env,zee,zaA,mRd,mC])
  (fun p hp hg=>by
   have hy:0<p.2:=by simpa using hg
   refine⟨?_,?_,Nat.mod_lt _ hy⟩
   ·have e:oMod (.int (p.1:Int)) (.int (p.2:Int))=some (.int ((p.1%p.2:Nat):Int)):=by rw[zbV (by omega)];simp
    simp only[env,zd8,mPar,zab,mNil,mVar,zel,mRd,List.getElem?_cons_succ,List.getElem?_cons_zero,R.bind_ok,e,R.of_some,R.toO_ok]
    rfl
   ·rw[Nat.gcd_comm,← hp,Nat.gcd_comm p.1,Nat.gcd_rec p.2 p.1])
  (a.toNat,b.toNat) (by
   show Nat.gcd a.toNat b.toNat=Int.gcd a b
   rw[Int.gcd,show a.natAbs=a.toNat by omega,show b.natAbs=b.toNat by omega])
 have y0:y=0:=by simpa using h2
 subst y0
 have ex:(x:Int)=Int.gcd a b:=by
  have:Nat.gcd x 0=Int.gcd a b:=h1
  rw[Nat.gcd_zero_right] at this
  omega
 refine zbp ?_
 have e3:zfW [.v (.int a),.v (.int b)]=.nx [.v (.int x),.v (.int 0)]:=by
  have:=h3
  simp only[env] at this
  rw[show (a.toNat:Int)=a by omega,show (b.toNat:Int)=b by omega] at this
  exact this
 show mSeq _ _ [.v (.int a),.v (.int b)]=_
 refine (zau e3).trans ?_
 simp[mRet,mVar,ex]
theorem znZ {t b:Int} (ht:0≤t) (hb:1≤b):(0≤t/(Int.gcd b t:Int)∧t/(Int.gcd b t:Int)≤t)∧(1≤b/(Int.gcd b t:Int)∧b/(Int.gcd b t:Int)≤b)∧Int.gcd (t/(Int.gcd b t:Int)) (b/(Int.gcd b t:Int))=1∧(0<(Int.gcd b t:Int)∧(Int.gcd b t:Int)≤b):=by
 have g0:0<Int.gcd b t:=Int.gcd_pos_of_ne_zero_left _ (by omega)
 have g1:Int.gcd b t≤b.natAbs:=Nat.le_of_dvd (by omega) (Int.natAbs_dvd_natAbs.mpr (Int.gcd_dvd_left ..))
 have gb:(Int.gcd b t:Int)≤b:=by omega
 have gp:(0:Int)<(Int.gcd b t:Int):=by omega
 refine⟨⟨Int.ediv_nonneg ht (by omega),Int.ediv_le_self _ ht⟩,⟨?_,Int.ediv_le_self _ (by omega)⟩,?_,gp,gb⟩
 ·exact Int.le_ediv_of_mul_le gp (by omega)
 ·have:=Int.gcd_ediv_gcd_ediv_gcd (i:=t) (j:=b) (by rw[Int.gcd_comm];exact g0)
  rwa [Int.gcd_comm t b] at this
theorem zeT (c:Int) (k:Int) (h0:0≤k) (h1:k≤500):∃f:Fr,AmOk f∧zbe [.int c,.int k]=.ok (encF f):=by
 have nm:=zis c (k+400) (by omega) (by omega)
 obtain⟨x,ex⟩:∃x,x=num c (k+400):=⟨_,rfl⟩
 have x0:0≤x:=by rw[ex];exact zcq _ (by decide)
 have x1:x<2147483647:=by rw[ex];exact zcp _ (by decide)
 rw[← ex] at nm
 have f8:Fit 8:=fitN 10000 (by decide)
 have f128:Fit 128:=fitN 10000 (by decide)
 have f1200:Fit 1200:=fitN 10000 (by decide)
 have m0:=zcq (x/8) (show (0:Int)<12 by decide)
 have m1:=zcp (x/8) (show (0:Int)<12 by decide)
 have i0:=zcq (x/128) (show (0:Int)<9 by decide)
 have i1:=zcp (x/128) (show (0:Int)<9 by decide)
 obtain⟨i,ei⟩:∃i,i=x/128%9:=⟨_,rfl⟩
 obtain⟨y,ey⟩:∃y,y=1+x/8%12:=⟨_,rfl⟩
 rw[← ei] at i0 i1
 obtain⟨b,hb,b0,b1⟩:∃b:Int,oIxL (.lst [.int 1,.int 1,.int 2,.int 3,.int 4,.int 6,.int 7,.int 12,.int y]) (.int i)=some (.int b)∧1≤b∧b≤12:=by
  rcases (show i=0∨i=1∨i=2∨i=3∨i=4∨i=5∨i=6∨i=7∨i=8 by omega) with e|e|e|e|e|e|e|e|e <;> rw[e]
  ·exact⟨1,rfl,by decide,by decide⟩
  ·exact⟨1,rfl,by decide,by decide⟩
  ·exact⟨2,rfl,by decide,by decide⟩
  ·exact⟨3,rfl,by decide,by decide⟩
  ·exact⟨4,rfl,by decide,by decide⟩
  ·exact⟨6,rfl,by decide,by decide⟩
  ·exact⟨7,rfl,by decide,by decide⟩
  ·exact⟨12,rfl,by decide,by decide⟩
  ·exact⟨y,rfl,by omega,by omega⟩
 have q1:mAsg (zaf zaK (zab (mVar 0) (zab (m2 oAdd (mRd 1) (mC (.int 400))) mNil))) (zat 2) [.v (.int c),.v (.int k),.no,.no,.no,.no]=.nx [.v (.int c),.v (.int k),.v (.int x),.no,.no,.no]:=by
  refine zaT (d:=.int x) ?_ rfl
  simp[zaf,zab,mNil,mVar,mRd,mC,nm]
 have q2:mAsg (m2 oIxL (mLst (zab (mC (.int 1)) (zab (mC (.int 1)) (zab (mC (.int 2)) (zab (mC (.int 3)) (zab (mC (.int 4)) (zab (mC (.int 6)) (zab (mC (.int 7)) (zab (mC (.int 12)) (zab (m2 oAdd (mC (.int 1)) (m2 oMod (m2 oDiv (mRd 2) (mC (.int 8))) (mC (.int 12)))) mNil)))))))))) (m2 oMod (m2 oDiv (mRd 2) (mC (.int 128))) (mC (.int 9)))) (zat 3) [.v (.int c),.v (.int k),.v (.int x),.no,.no,.no]=.nx [.v (.int c),.v (.int k),.v (.int x),.v (.int b),.no,.no]:=by
  refine zaT (d:=.int b) ?_ rfl
  have l:mLst (zab (mC (.int 1)) (zab (mC (.int 1)) (zab (mC (.int 2)) (zab (mC (.int 3)) (zab (mC (.int 4)) (zab (mC (.int 6)) (zab (mC (.int 7)) (zab (mC (.int 12)) (zab (m2 oAdd (mC (.int 1)) (m2 oMod (m2 oDiv (mRd 2) (mC (.int 8))) (mC (.int 12)))) mNil))))))))) [.v (.int c),.v (.int k),.v (.int x),.no,.no,.no]=.ok (.lst [.int 1,.int 1,.int 2,.int 3,.int 4,.int 6,.int 7,.int 12,.int y]):=by
   simp[mLst,zab,mNil,mC,mRd,zdk,f8,zbV,sizeLine,ey]
  rw[zel,l]
  simp[mRd,mC,zdk,f128,zbV,← ei,hb]
 obtain⟨t,t0,t1,q34⟩:∃t:Int,0≤t∧t<1000000000000∧∀n:En→O,mSeq (mAsg (m2 oMod (m2 oDiv (mRd 2) (mC (.int 1200))) (mC (.int 30))) (zat 4)) (mSeq (mIfS (zaA (m2 oEq (m2 oMod (mRd 2) (mC (.int 3))) (mC (.int 0)))) (mAsg (m2 oMod (m2 oAdd (m2 oMul (m2 oMod (mRd 0) (m2 oPow (mC (.int 10)) (mC (.int 20)))) (mC (.int 48271))) (mRd 2)) (m2 oPow (mC (.int 10)) (mC (.int 12)))) (zat 4)) zbb) n) [.v (.int c),.v (.int k),.v (.int x),.v (.int b),.no,.no]=n [.v (.int c),.v (.int k),.v (.int x),.v (.int b),.v (.int t),.no]:=by
  have a0:=zcq (x/1200) (show (0:Int)<30 by decide)
  have a1:=zcp (x/1200) (show (0:Int)<30 by decide)
  have s1:mAsg (m2 oMod (m2 oDiv (mRd 2) (mC (.int 1200))) (mC (.int 30))) (zat 4) [.v (.int c),.v (.int k),.v (.int x),.v (.int b),.no,.no]=.nx [.v (.int c),.v (.int k),.v (.int x),.v (.int b),.v (.int (x/1200%30)),.no]:=by
   refine zaT (d:=.int (x/1200%30)) ?_ rfl
   simp[mRd,mC,zdk,f1200,zbV]
  by_cases h3:x%3=0
  ·have p12:oPow (.int 10) (.int 12)=some (.int 1000000000000):=zkY ⟨by decide,by decide,by decide⟩
   have e1:=zcq c (show (0:Int)<100000000000000000000 by decide)
   have e2:=zcp c (show (0:Int)<100000000000000000000 by decide)
   have fc:Fit (c%100000000000000000000):=fitN (10 ^ 20) (by omega)
   have f4:Fit 48271:=fitN (10 ^ 6) (by decide)
   refine⟨(c%100000000000000000000*48271+x)%1000000000000,zcq _ (by decide),zcp _ (by decide),fun n=>?_⟩
   refine (zau s1).trans (zau ?_)
   rw[zd0 (by simp[zaA,mRd,mC,zbV,h3])]
   refine zaT (d:=.int ((c%100000000000000000000*48271+x)%1000000000000)) ?_ rfl
   simp[mRd,mC,p20,p12,zbV,zdX fc f4]
  ·refine⟨x/1200%30,a0,by omega,fun n=>?_⟩
   refine (zau s1).trans (zau ?_)
   rw[zcL (by simp[zaA,mRd,mC,zbV,h3])];rfl
 have dv:=zgP (a:=b) (b:=t) (by omega) t0
 obtain⟨⟨l1,l2⟩,⟨l3,l4⟩,l5,g0,g1⟩:=znZ (t:=t) (b:=b) t0 b0
 obtain⟨g,eg⟩:∃g:Int,g=(Int.gcd b t:Int):=⟨_,rfl⟩
 rw[← eg] at dv l1 l2 l3 l4 l5 g0 g1
 have fg:Fit g:=fitN 1000 (by omega)
 refine⟨(t/g,b/g),⟨l1,by show t/g<_;omega,l3,by show b/g≤12;omega,l5⟩,zbp ?_⟩
 show mSeq _ _ [.v (.int c),.v (.int k),.no,.no,.no,.no]=_
 refine (zau q1).trans ((zau q2).trans ((q34 _).trans ?_))
 have q5:mAsg (zaf zbB (zab (mVar 3) (zab (mVar 4) mNil))) (zat 5) [.v (.int c),.v (.int k),.v (.int x),.v (.int b),.v (.int t),.no]=.nx [.v (.int c),.v (.int k),.v (.int x),.v (.int b),.v (.int t),.v (.int g)]:=by
  refine zaT (d:=.int g) ?_ rfl
  simp[zaf,zab,mNil,mVar,dv]
 refine (zau q5).trans ?_
 simp[mRet,mTup,zab,mNil,mRd,zdk g0 fg,sizeLine,encF]
theorem zda {l:List Fr} (ok:∀f∈l,AmOk f):zbI [zar l]=.ok (.int (un l)):=by
 obtain⟨δ,h1,o2,o3,rfl⟩:=zbh (b:=bTup 2 (zbj (zat 2) (zbj (zat 3) bNil))) (m:=zhs) encF (fun pre δ=>∃o2 o3,δ=[.v (zar l),.v (.int (un pre)),sv o2,sv o3]) l
  (by
   rintro pre f post δ hall ⟨o2,o3,rfl⟩
   have o:=ok f (by rw[hall];simp)
   have b0:=o.b0
   have b1:=o.b1
   have up:=(zf9 (l:=pre) fun g hg=>ok g (by rw[hall];simp[hg])).1
   have dv:=zgP (a:=(un pre:Int)) (b:=f.2) (by omega) (by omega)
   obtain⟨b,eb⟩:∃b:Nat,f.2=(b:Int):=⟨f.2.toNat,by omega⟩
   have g0:0<Int.gcd (un pre:Int) f.2:=Int.gcd_pos_of_ne_zero_right _ (by omega)
   have g1:Int.gcd (un pre:Int) f.2≤f.2.natAbs:=Nat.le_of_dvd (by omega) (Int.natAbs_dvd_natAbs.mpr (Int.gcd_dvd_right ..))
   have fg:Fit (Int.gcd (un pre:Int) f.2:Int):=fitN 1000 (by rw[Int.natAbs_natCast];omega)
   have fu:Fit (un pre:Int):=fitN (10 ^ 6) (by rw[Int.natAbs_natCast];omega)
   have fb:Fit f.2:=fitN 1000 (by omega)
   have lc:(un pre:Int)*f.2/(Int.gcd (un pre:Int) f.2:Int)=(un (pre++[f]):Int):=by
    rw[Int.mul_ediv_assoc _ (Int.gcd_dvd_right ..),zpv,eb,Int.toNat_natCast];exact zrS _ _
   refine⟨[.v (zar l),.v (.int (un pre)),.v (.int f.1),.v (.int f.2)],[.v (zar l),.v (.int (un (pre++[f]))),.v (.int f.1),.v (.int f.2)],?_,.inl ?_,some _,some _,rfl⟩
   ·rcases o2 with _|o2 <;> rcases o3 with _|o3 <;> rfl
   ·refine zaT (d:=.int (un (pre++[f]))) ?_ rfl
    simp[mRd,zaf,zab,mNil,mVar,dv,zdX fu fb,zdk (show (0:Int)<(Int.gcd (un pre:Int) f.2:Int) by omega) fg,lc])
  [.v (zar l),.v (.int (un [])),.no,.no] ⟨none,none,rfl⟩
 refine zbp ?_
 show mSeq _ _ [.v (zar l),.no,.no,.no]=_
 have e1:mAsg (mC (.int 1)) (zat 1) [.v (zar l),.no,.no,.no]=.nx [.v (zar l),.v (.int (un [])),.no,.no]:=rfl
 have e2:zii [.v (zar l),.v (.int (un [])),.no,.no]=.nx [.v (zar l),.v (.int (un l)),sv o2,sv o3]:=(zbP (by simp[mItL,mVar,zar])).trans h1
 exact (zau e1).trans ((zau e2).trans rfl)
theorem zfc {l:List Fr} (ok:∀f∈l,AmOk f) (hl:l.length≤1000):zaL [zar l,.int (un l)]=.ok (iL (l.map (by1 (un l)))):=by
 obtain⟨⟨u0,u1⟩,ud⟩:=zf9 ok
 refine zdp ?_
 show zck zdn [.v (zar l),.v (.int (un l))]=_
 have k:zdn [.v (zar l),.v (.int (un l))]=.ok (iL (l.map (by1 (un l)))):=by
  refine Eq.trans (zaZ (l:=l.map encF) (r:=l.map fun f=>.int (by1 (un l) f)) (by simp[mItL,mRd,zar]) (by rw[List.length_map];omega) ?_) (by simp[iL])
  refine zbi encF (fun f=>.int (by1 (un l) f)) _ fun f hf=>?_
  have o:=ok f hf
  have h1:=o.lo
  have h2:=o.hi
  have h3:=o.b0
  have h4:=o.b1
  have ft:Fit f.1:=fitN (10 ^ 12) (by omega)
  have fu:Fit (un l:Int):=fitN (10 ^ 6) (by rw[Int.natAbs_natCast];omega)
  have fb:Fit f.2:=fitN 1000 (by omega)
  have e:f.1*(un l:Int)/f.2=by1 (un l) f:=Int.mul_ediv_assoc _ (ud f hf)
  simp[zcn,zbl,zlH,encF,bTup,zbj,bNil,zaE,mRd,zdX ft fu,zdk (show (0:Int)<f.2 by omega) fb,e]
 simp[zck,k]
theorem zox {i:Int} (h0:0≤i) (h:i.toNat<10 ^ 60):i.natAbs.log2<1920:=by
 have:i.natAbs<2 ^ 1920:=Nat.lt_of_lt_of_le (show i.natAbs<10 ^ 60 by omega) (by decide +kernel)
 by_cases z:i.natAbs=0
 ·rw[z];decide
 ·exact (Nat.log2_lt z).mpr this
theorem zmZ {t b:Int} (ht:0≤t) (h1:t.toNat<10 ^ 60) (hb:0≤b) (h2:b.toNat<10 ^ 60):zaF [encF (t,b)]=.ok (.str (wr (t,b))):=by
 have i0:oIxT (encF (t,b)) (.int 0)=some (.int t):=rfl
 have i1:oIxT (encF (t,b)) (.int 1)=some (.int b):=rfl
 have lt:=zox ht h1
 have lb:=zox hb h2
 have e1:=dgl (k:=59) ht h1
 have e2:=dgl (k:=59) hb h2
 have ls:("/" : Str).length=1:=by decide +kernel
 have s1:zdE [.int t]=some (.str (dg t)):=zbf lt
 have s2:zdE [.int b]=some (.str (dg b)):=zbf lb
 have a1:zds (.str (dg t)) (.str "/")=some (.str (dg t++"/")):=zbf (by rw[ls,sizeLine_eq];omega)
 have a2:zds (.str (dg t++"/")) (.str (dg b))=some (.str (dg t++"/"++dg b)):=zbf (by rw[zhf,ls,sizeLine_eq];omega)
 have tw:zaA (m2 oEq (m2 oIxT (mRd 0) (mC (.int 1))) (mC (.int 1))) [.v (encF (t,b))]=.ok (decide (b=1)):=by simp[zaA,mRd,mC,i1]
 have wt:zaF [encF (t,b)]=.ok (.str (wr (t,b))):=by
  by_cases hb1:b=1
  ·have e:wr (t,b)=dg t:=if_pos hb1
   rw[e]
   refine zbp ?_
   show mSeq _ _ [.v (encF (t,b))]=_
   refine zeX ?_
   rw[zd0 (tw.trans (by rw[decide_eq_true hb1]))]
   simp only[mRet,mCB,zab,mNil,zel,mRd,mC,List.getElem?_cons_zero,R.bind_ok,i0,R.of_some,s1,R.toO_ok]
  ·have e:wr (t,b)=dg t++"/"++dg b:=if_neg hb1
   rw[e]
   refine zbp ?_
   show mSeq _ _ [.v (encF (t,b))]=_
   have q1:mIfS (zaA (m2 oEq (m2 oIxT (mRd 0) (mC (.int 1))) (mC (.int 1)))) (mRet (mCB zdE (zab (m2 oIxT (mRd 0) (mC (.int 0))) mNil))) zbb [.v (encF (t,b))]=.nx [.v (encF (t,b))]:=by
    rw[zcL (tw.trans (by rw[decide_eq_false hb1]))];rfl
   refine (zau q1).trans ?_
   simp only[mRet,mCB,zab,mNil,zel,mRd,mC,List.getElem?_cons_zero,R.bind_ok,i0,i1,R.of_some,s1,s2,a1,a2,R.toO_ok]
 exact wt
theorem wrt {f:Fr} (ok:AmOk f):zaF [encF f]=.ok (.str (wr f)):=by
 have h1:=ok.lo
 have h2:=ok.hi
 have h3:=ok.b0
 have h4:=ok.b1
 exact zmZ (t:=f.1) (b:=f.2) h1 (by omega) (by omega) (by omega)
end My
namespace My
open PySem L2 PM
structure Wd (w:Str):Prop where
 len:w.length≤20
 nb:32∉w.cps.toList
 nn:10∉w.cps.toList
theorem zjT {f:Fr} (ok:AmOk f):Wd (wr f):=⟨zkL ok,zoH ok (by decide),zoH ok (by decide)⟩
theorem zla {i:Int} (h0:0≤i) (h1:i<1000000000000):Wd (dg i):=by
 refine⟨Nat.le_trans (dgl (k:=11) h0 (by omega)) (by decide),?_,?_⟩
 ·rw[dg_i h0];exact zg6 (.inl (by decide))
 ·rw[dg_i h0];exact zg6 (.inl (by decide))
def lnT (ws:List Str):Str:=Txt.join " " ws
structure Ln (ws:List Str):Prop where
 ne:ws≠[]
 le:ws.length≤60
 wd:∀w∈ws,Wd w
theorem zpD {c B:Nat}:∀ {ps:List (List Nat)},(∀p∈ps,p.length≤B)→(jl c ps).length≤ps.length*(B+1)
 | [],_=>by simp[jl]
 | [p],h=>by
  have:=h p (by simp)
  simp only[jl,List.length_cons,List.length_nil]
  omega
 | p::q::r,h=>by
  have h1:=h p (by simp)
  have h2:=zpD (c:=c) (ps:=q::r) fun x hx=>h x (by simp at hx ⊢;exact .inr hx)
  simp only[jl,List.length_append,List.length_cons] at h2 ⊢
  rw[Nat.add_mul]
  omega
theorem zn6 (ws:List Str):lnT ws=Str.join ⟨#[32]⟩ ws:=by unfold lnT;rw[zqa];exact StrLaws.glued_eq_join _ _
theorem zk7 (a b:Str):lnT [a,b]=a++" "++b:=by rw[zn6,zqa];rfl
theorem zrB (a:Str):lnT [a]=a:=by rw[zn6];rfl
theorem zpp {ws:List Str} (h:Ln ws):Txt.split (lnT ws) " "=ws:=by
 rw[zn6,zqa]
 exact zfJ h.ne fun w hw=>(h.wd w hw).nb
theorem zpI {ws:List Str} (h:Ln ws):(lnT ws).length≤1260:=by
 have e:(lnT ws).length=(lnT ws).cps.toList.length:=by simp[Str.length]
 rw[e,zn6,zgG]
 refine Nat.le_trans (zpD (B:=20) fun p hp=>?_) ?_
 ·obtain⟨w,hw,rfl⟩:=List.mem_map.mp hp
  have:=(h.wd w hw).len
  simpa[Str.length] using this
 ·have:=h.le
  rw[List.length_map];omega
theorem zpX {ws:List Str} (h:Ln ws):JoinOk " " ws=true:=by
 have b1:(" " : Str).length=1:=by decide +kernel
 have l:=h.le
 have j:=PySem.StrLaws.joinFits (sep:=" ") (B:=20) (fun y hy=>(h.wd y hy).len) (by rw[b1];omega)
 unfold JoinOk;rw[j];rfl
theorem zsf {ws:List Str} (h:Ln ws):10∉(lnT ws).cps.toList:=fun z=>by
 rw[zn6,zgG] at z
 rcases zpA z with e|⟨p,hp,hc⟩
 ·exact absurd e (by decide)
 ·obtain⟨w,hw,rfl⟩:=List.mem_map.mp hp
  exact (h.wd w hw).nn hc
def txT (L:List (List Str)):Str:=Txt.join "\n" (L.map lnT)
structure Tx (L:List (List Str)):Prop where
 ne:L≠[]
 le:L.length≤60
 ln:∀ws∈L,Ln ws
theorem zpj {L:List (List Str)} (h:Tx L):Txt.split (txT L) "\n"=L.map lnT:=by
 unfold txT
 rw[nl,show Txt.join ⟨#[10]⟩ (L.map lnT)=Str.join ⟨#[10]⟩ (L.map lnT) from StrLaws.glued_eq_join _ _]
 refine zfJ (fun z=>h.ne (List.map_eq_nil_iff.mp z)) fun w hw=>?_
 obtain⟨ws,hws,rfl⟩:=List.mem_map.mp hw
 exact zsf (h.ln ws hws)
theorem zol {L:List (List Str)} (h:Tx L):JoinOk "\n" (L.map lnT)=true∧(txT L).length≤sizeLine:=by
 have b1:("\n" : Str).length=1:=by decide +kernel
 have l:=h.le
 have k:JoinOk "\n" (L.map lnT)=true:=by
  have j:=PySem.StrLaws.joinFits (sep:="\n") (texts:=L.map lnT) (B:=1260) (fun y hy=>by
   obtain⟨ws,hws,rfl⟩:=List.mem_map.mp hy
   exact zpI (h.ln ws hws)) (by rw[b1,List.length_map];omega)
  unfold JoinOk;rw[j];rfl
 exact⟨k,joinOk_length k⟩
theorem zg1 {ws:List Str} (h:Ln ws):zmP " " (.lst (ws.map .str))=.ok (.str (lnT ws)):=by
 unfold zmP
 dsimp only
 rw[zjQ]
 dsimp only
 rw[if_pos (zpX h)];rfl
theorem zqS {L:List (List Str)} (h:Tx L):zmP "\n" (.lst ((L.map lnT).map .str))=.ok (.str (txT L)):=by
 unfold zmP
 dsimp only
 rw[zjQ]
 dsimp only
 rw[if_pos (zol h).1];rfl
def rowD (ws:List Str):D:=.lst (ws.map .str)
def zcW (L:List (List Str)):D:=.lst (L.map rowD)
theorem zqf {L:List (List Str)} (h:Tx L):zlg [.v (.str (txT L)),.no,.no,.no]=.ok (zcW L):=by
 have fit:=(zol h).2
 have l:=h.le
 have s1:zhi (.str (txT L)) "\n" = .ok (.lst ((L.map lnT).map .str)):=by
  unfold zhi
  dsimp only
  rw[zpj h,zbf ⟨by decide +kernel,fit,by rw[sizeLine_eq,List.length_map];omega⟩]
 refine Eq.trans (zaZ (l:=L.map fun ws=>.str (lnT ws)) (r:=L.map rowD) ?_ (by rw[List.length_map];omega) ?_) rfl
 ·simp only[mItL,zhM,mVar,List.getElem?_cons_zero,R.bind_ok,s1]
  rw[List.map_map];rfl
 ·refine zbi (fun ws=>D.str (lnT ws)) rowD _ fun ws hws=>?_
  have hl:=h.ln ws hws
  have s2:zhi (.str (lnT ws)) " " = .ok (rowD ws):=by
   unfold zhi
   dsimp only
   rw[zpp hl,zbf ⟨by decide +kernel,Nat.le_trans (zpI hl) (by rw[sizeLine_eq];decide),Nat.le_trans hl.le (by rw[sizeLine_eq];decide)⟩];rfl
  simp[zcn,zbl,zaE,zhM,mVar,s2]
theorem zqR {L:List (List Str)} (h:Tx L) {k:Str} {ws:List Str} {T:List (List Str)} (hL:L=(k::ws)::T) {u:Int} {G:D} (rr:za1 [.str k,zcW L]=.ok (.tup [.int u,G])) (rg:zaH [.str k,G]=.ok .non) :
  zfZ [.str (txT L)]=.ok (.tup [.str k,.int u,G]):=by
 obtain⟨t,et⟩:∃t,t=txT L:=⟨_,rfl⟩
 have ke:=zqf h
 obtain⟨Rw,eR⟩:∃Rw,Rw=zcW L:=⟨_,rfl⟩
 have i0:oIxL Rw (.int 0)=some (rowD (k::ws)):=by rw[eR,hL];exact zgF (Int.le_refl 0) rfl
 have i1:oIxL (rowD (k::ws)) (.int 0)=some (.str k):=zgF (Int.le_refl 0) rfl
 rw[← et] at ke ⊢
 rw[← eR] at ke rr
 have q1:mAsg zlg (zat 1) [.v (.str t),.no,.no,.no]=.nx [.v (.str t),.v Rw,.no,.no]:=zaT ke rfl
 have q2:mAsg (m2 oIxL (m2 oIxL (mRd 1) (mC (.int 0))) (mC (.int 0))) (zat 2) [.v (.str t),.v Rw,.no,.no]=.nx [.v (.str t),.v Rw,.v (.str k),.no]:=by
  refine zaT (d:=.str k) ?_ rfl
  simp only[zel,mRd,mC,List.getElem?_cons_succ,List.getElem?_cons_zero,R.bind_ok,i0,R.of_some,i1]
 have t0:oIxT (.tup [.int u,G]) (.int 0)=some (.int u):=rfl
 have t1:oIxT (.tup [.int u,G]) (.int 1)=some G:=rfl
 have q3:mAsg (zaf za1 (zab (mVar 2) (zab (mVar 1) mNil))) (zat 3) [.v (.str t),.v Rw,.v (.str k),.no]=.nx [.v (.str t),.v Rw,.v (.str k),.v (.tup [.int u,G])]:=by
  refine zaT (d:=.tup [.int u,G]) ?_ rfl
  simp[zaf,zab,mNil,mVar,rr]
 have q4:mDo (zaf zaH (zab (mVar 2) (zab (m2 oIxT (mRd 3) (mC (.int 1))) mNil))) [.v (.str t),.v Rw,.v (.str k),.v (.tup [.int u,G])]=.nx [.v (.str t),.v Rw,.v (.str k),.v (.tup [.int u,G])]:=by
  simp[mDo,zaf,zab,mNil,mVar,mRd,mC,t1,rg]
 refine zbp ?_
 show mSeq _ _ [.v (.str t),.no,.no,.no]=_
 refine (zau q1).trans ((zau q2).trans ((zau q3).trans ((zau q4).trans ?_)))
 simp[mRet,mTup,zab,mNil,mVar,mRd,mC,t0,t1,sizeLine]
theorem zdh {n lo hi line:Int} (h0:0≤n) (h1:n<1000000000000) (h2:lo≤n) (h3:n≤hi):zbu [.str (dg n),.int lo,.int hi,.int line]=.ok (.int n):=by
 have isn:=zho (m:=n.toNat) (by omega)
 rw[← dg_i h0] at isn
 have it:=intS h0 (by omega)
 obtain⟨w,ew⟩:∃w,w=dg n:=⟨_,rfl⟩
 rw[← ew] at isn it ⊢
 have t1:¬ n<lo:=by omega
 have t2:¬ hi<n:=by omega
 refine zbp ?_
 show mSeq _ _ [.v (.str w),.v (.int lo),.v (.int hi),.v (.int line),.no]=_
 have q1:mDo (zaf zaq (zab (zh9 (zaf zcm (zab (mVar 0) mNil))) (zab (mVar 3) mNil))) [.v (.str w),.v (.int lo),.v (.int hi),.v (.int line),.no]=.nx [.v (.str w),.v (.int lo),.v (.int hi),.v (.int line),.no]:=by
  simp[mDo,zaf,zab,mNil,zh9,mVar,isn,zbZ]
 have q2:mAsg (mCB zjZ (zab (mRd 0) mNil)) (zat 4) [.v (.str w),.v (.int lo),.v (.int hi),.v (.int line),.no]=.nx [.v (.str w),.v (.int lo),.v (.int hi),.v (.int line),.v (.int n)]:=zaT (d:=.int n) (by simp[mCB,zab,mNil,mRd,it]) rfl
 have q3:mDo (zaf zaq (zab (mOrV (m2 oLt (mRd 4) (mRd 1)) (m2 oGt (mRd 4) (mRd 2))) (zab (mVar 3) mNil))) [.v (.str w),.v (.int lo),.v (.int hi),.v (.int line),.v (.int n)]=.nx [.v (.str w),.v (.int lo),.v (.int hi),.v (.int line),.v (.int n)]:=by
  simp[mDo,zaf,zab,mNil,mOrV,mVar,mRd,t1,t2,zbZ]
 exact (zau q1).trans ((zau q2).trans ((zau q3).trans rfl))
theorem zgc {f:Fr} (ok:AmOk f) (h:f.1≠0) (line:Int):zaU [.str (wr f),.int line]=.ok (encF f):=by
 have a:=zdf ok line
 have i0:oIxT (encF f) (.int 0)=some (.int f.1):=rfl
 simp[zaU,runF,zbz,zcR,mSeq,mAsg,zaf,zab,mNil,mVar,a,zat,mDo,mRd,mC,i0,h,zbZ,mRet]
theorem zd4 {ws:List Str} {lo hi line:Int} (h1:lo≤ws.length) (h2:(ws.length:Int)≤hi):zav [rowD ws,.int lo,.int hi,.int line]=.ok .non:=by
 have fl:fLen [rowD ws]=some (.int ws.length):=by simp[rowD]
 have t1:¬ (ws.length:Int)<lo:=by omega
 have t2:¬ hi<(ws.length:Int):=by omega
 simp[zav,runF,zbz,zdb,mDo,zaf,zab,mNil,mOrV,mCB,mRd,mVar,fl,t1,t2,zbZ]
theorem zoQ {ws:List Str} {k:Nat} (h:k≤ws.length):cutD (ws.map D.str) (some (k:Int)) none=(ws.drop k).map D.str:=by
 rw[zmz (by rw[List.length_map];exact h),List.map_drop]
theorem rngB {n:Nat} (h:n≤1000):rng [.int 1,.int ((n:Int)+1)]=some ((upt n).map fun k=>.int (k+1)):=by
 rw[rng2 (by omega) (by omega),show ((n:Int)+1 - 1).toNat=n by omega]
 unfold zgp upt
 simp[List.map_map,Function.comp,Int.add_comm]
theorem znz {l r:List Fr} (h:l.Perm r):un l=un r:=by
 unfold un
 refine h.foldl_eq' (fun x _ y _ z=>?_) 1
 rw[Nat.lcm_assoc,Nat.lcm_assoc,Nat.lcm_comm x.2.toNat]
end My
namespace My
open PySem L2 PM
theorem zfr (c:Int) {k:Int} (h0:0≤k) (h1:k≤1000):∃x:Int,zaK [.int c,.int k]=.ok (.int x)∧0≤x∧x<2147483647:=
 ⟨num c k,zis c k h0 h1,zcq _ (by decide),zcp _ (by decide)⟩
def encE (q:Int×Nat):D:=.tup [.int (q.2:Int),.int q.1]
theorem zom {δ:En} {i:Nat} {ps:List Int} (h:δ[i]?=some (.v (iL ps))):zgk (zab (mVar i) mNil) δ=.ok (ps.zipIdx.map encE):=by
 have ee:zgV (ps.map D.int)=ps.zipIdx.map encE:=by rw[zmv,List.zipIdx_map,List.map_map];rfl
 simp only[zgk,zab,mNil,mVar,h,R.bind_ok]
 show R.of (some (zgV (ps.map D.int)))=_
 rw[ee,R.of_some]
theorem znF (c:Int) {k:Int} (h0:0≤k) (h1:k≤1000):∃a:Int,zcw [.int c,.int k]=.ok (.int a)∧0≤a∧a≤1000000000000000000:=by
 obtain⟨x,hx,x0,x1⟩:=zfr c h0 h1
 have f3:Fit 3:=fitN 100 (by decide)
 have e1:=zcq c (show (0:Int)<100000000000000000000 by decide)
 have e2:=zcp c (show (0:Int)<100000000000000000000 by decide)
 have fc:Fit (c%100000000000000000000):=fitN (10 ^ 21) (by omega)
 have fm:Fit 6364136223846793005:=fitN (10 ^ 21) (by decide)
 have q1:mAsg (zaf zaK (zab (mVar 0) (zab (mVar 1) mNil))) (zat 2) [.v (.int c),.v (.int k),.no]=.nx [.v (.int c),.v (.int k),.v (.int x)]:=zaT (d:=.int x) (by simp[zaf,zab,mNil,mVar,hx]) rfl
 have te:∀j:Int,zaA (m2 oEq (m2 oMod (mRd 2) (mC (.int 3))) (mC (.int j))) [.v (.int c),.v (.int k),.v (.int x)]=.ok (decide (x%3=j)):=fun j=>by simp[zaA,mRd,mC,zbV (show (0:Int)<3 by decide)]
 by_cases k0:x%3=0
 ·refine⟨x/3%4,zbp ((zau q1).trans (zeX ((zd0 (by rw[te,decide_eq_true k0])).trans ?_))),by omega,by omega⟩
  simp[mRet,mRd,mC,zdk (show (0:Int)<3 by decide) f3,zbV (show (0:Int)<4 by decide)]
 have n0:mIfS (zaA (m2 oEq (m2 oMod (mRd 2) (mC (.int 3))) (mC (.int 0)))) (mRet (m2 oMod (m2 oDiv (mRd 2) (mC (.int 3))) (mC (.int 4)))) zbb [.v (.int c),.v (.int k),.v (.int x)]=.nx [.v (.int c),.v (.int k),.v (.int x)]:=(zcL (by rw[te,decide_eq_false k0])).trans rfl
 by_cases k1:x%3=1
 ·refine⟨x/3%30,zbp ((zau q1).trans ((zau n0).trans (zeX ((zd0 (by rw[te,decide_eq_true k1])).trans ?_)))),by omega,by omega⟩
  simp[mRet,mRd,mC,zdk (show (0:Int)<3 by decide) f3,zbV (show (0:Int)<30 by decide)]
 ·have r0:=zcq (c%100000000000000000000*6364136223846793005+x) (show (0:Int)<1000000000000000001 by decide)
  have r1:=zcp (c%100000000000000000000*6364136223846793005+x) (show (0:Int)<1000000000000000001 by decide)
  refine⟨(c%100000000000000000000*6364136223846793005+x)%1000000000000000001,zbp ((zau q1).trans ((zau n0).trans ((zau ((zcL (by rw[te,decide_eq_false k1])).trans rfl)).trans ?_))),r0,by omega⟩
  simp[mRet,mRd,mC,p20,p18,zbV,zdX fc fm]
theorem zpS {x:Int} {t:Nat} (ht:t≤100):∃b:Int,zdS [.int x,.int t]=.ok (.int b):=by
 have f2:Fit 2:=fitN 100 (by decide)
 obtain⟨δ,h1,y,o,rfl⟩:=zbh (b:=zat 2) (m:=zh4) D.int (fun _ δ=>∃y o,δ=[.v (.int y),.v (.int t),sv o]) (upto t)
  (by
   rintro pre i post δ hall ⟨y,o,rfl⟩
   refine⟨[.v (.int y),.v (.int t),.v (.int i)],[.v (.int (y/2)),.v (.int t),.v (.int i)],za5 rfl,.inl ?_,y/2,some (.int i),rfl⟩
   exact zaT (d:=.int (y/2)) (by simp[mRd,mC,zdk (show (0:Int)<2 by decide) f2]) rfl)
  [.v (.int x),.v (.int t),.no] ⟨x,none,rfl⟩
 refine⟨y%2,zbp ?_⟩
 have l1:zjc [.v (.int x),.v (.int t),.no]=_:=(zbP (by simp[mRng,zab,mNil,mVar,rngU (show t≤1000 by omega)])).trans h1
 refine (zau l1).trans ?_
 simp[mRet,mRd,mC,zbV (show (0:Int)<2 by decide)]
theorem zqX (c:Int) {k:Int} {t:Nat} (h0:0≤k) (h1:k≤500) (ht:t≤100):∃b:Bool,zek [.int c,.int k,.int t]=.ok (.bl b):=by
 obtain⟨x,hx,x0,x1⟩:=zfr c (show 0≤k+50 by omega) (by omega)
 obtain⟨y,hy,y0,y1⟩:=zfr c (show 0≤k+90 by omega) (by omega)
 obtain⟨b1,e1⟩:=zpS (x:=x) ht
 obtain⟨b2,e2⟩:=zpS (x:=y) ht
 have f6:Fit 65536:=fitN 100000 (by decide)
 have q1:mAsg (zaf zaK (zab (mVar 0) (zab (m2 oAdd (mRd 1) (mC (.int 50))) mNil))) (zat 3) [.v (.int c),.v (.int k),.v (.int t),.no,.no]=.nx [.v (.int c),.v (.int k),.v (.int t),.v (.int x),.no]:=zaT (d:=.int x) (by simp[zaf,zab,mNil,mVar,mRd,mC,hx]) rfl
 have q2:mAsg (m2 oAdd (zaf zdS (zab (mVar 3) (zab (mVar 2) mNil))) (zaf zdS (zab (zaf zaK (zab (mVar 0) (zab (m2 oAdd (mRd 1) (mC (.int 90))) mNil))) (zab (mVar 2) mNil)))) (zat 4) [.v (.int c),.v (.int k),.v (.int t),.v (.int x),.no]=.nx [.v (.int c),.v (.int k),.v (.int t),.v (.int x),.v (.int (b1+b2))]:=zaT (d:=.int (b1+b2)) (by simp[zaf,zab,mNil,mVar,mRd,mC,hy,e1,e2]) rfl
 refine⟨_,zbp (d:=.bl (decide (1 - x/65536%2<b1+b2))) ((zau q1).trans ((zau q2).trans ?_))⟩
 simp[mRet,mRd,mC,zdk (show (0:Int)<65536 by decide) f6,zbV (show (0:Int)<2 by decide)]
def tI (l:List Int):Tr:=.l (l.map fun i=>.d (.int i))
def tS (s:Ps):Tr:=.t [.d (.int s.1),tI s.2]
def tP (l:List Ps):Tr:=.l (l.map tS)
theorem zpV:∀l:List Int,trDL (l.map fun i=>.d (.int i))=l.map .int
 | []=>rfl
 | i::l=>by simp only[List.map_cons,trDL,trD,zpV l]
theorem zr7 (s:Ps):trD (tS s)=encS s:=by simp only[tS,tI,trD,trDL,zpV,encS,iL]
theorem zpG:∀l:List Ps,trDL (l.map tS)=l.map encS
 | []=>rfl
 | s::l=>by simp only[List.map_cons,trDL,zr7,zpG l]
theorem zp8 (l:List Ps):trD (tP l)=encP l:=by simp only[tP,trD,zpG,encP]
theorem zqF {n:Nat} {cs:List Int} (hn:n≤12) (hc:cs.length≤14):∃sets:List Ps,zeL [iL cs,.int n]=.ok (encP sets)∧SetsOk n sets∧sets.length≤15∧∀t∈upto n,∃s∈sets,t∈s.2:=by
 obtain⟨C,eC⟩:∃C,C=iL cs:=⟨_,rfl⟩
 obtain⟨δ1,h1,S,o3,o4,rfl,gS1,lS1⟩:=zbh (b:=bTup 2 (zbj (zat 3) (zbj (zat 4) bNil))) (m:=zhj) encE (fun pre δ=>∃(S:List Ps) (o3 o4:Option D),δ=[.v C,.v (.int n),.p (tP S),sv o3,sv o4,.no,.no]∧(∀s∈S,Good n s)∧S.length=pre.length) cs.zipIdx
  (by
   rintro pre q post δ hall ⟨S,o3,o4,rfl,g,hl⟩
   have hk:=zbR hall
   have qk:q.2<14:=by have:=(List.getElem?_eq_some_iff.mp hk.2.1).1;omega
   have hb:∀t∈upto n,∃b:Bool,zek [.int q.1,.int q.2,.int t]=.ok (.bl b):=fun t ht=>by
    have ht':=mem_upto.mp ht
    obtain⟨b,hb⟩:=zqX q.1 (k:=q.2) (t:=t.toNat) (by omega) (by omega) (by omega)
    rw[show ((t.toNat:Nat):Int)=t by omega] at hb
    exact⟨b,hb⟩
   obtain⟨f,hf⟩:∃f:Int→Bool,∀t∈upto n,zek [.int q.1,.int q.2,.int t]=.ok (.bl (f t)):=by
    classical
    exact⟨fun t=>if h:t∈upto n then (hb t h).choose else false,fun t ht=>by
     have:=(hb t ht).choose_spec
     simp only[dif_pos ht];exact this⟩
   obtain⟨ts,ets⟩:∃ts,ts=(upto n).filter f:=⟨_,rfl⟩
   have k:zga [.v C,.v (.int n),.p (tP S),.v (.int q.2),.v (.int q.1),.no,.no]=.ok (iL ts):=by
    refine zaZ (l:=(upto n).map .int) (by simp[mRng,zab,mNil,mVar,rngU (show n≤1000 by omega)]) (by rw[List.length_map,zl8];omega) ?_
    rw[ets]
    refine zjN .int _ _ fun t ht=>?_
    have e:zbl [.v C,.v (.int n),.p (tP S),.v (.int q.2),.v (.int q.1),.no,.no] [4,3] 1=[.v (.int q.1),.v (.int q.2),.no]:=rfl
    rw[e]
    have:=hf t ht
    cases z:f t <;> simp[zcn,zaE,zaA,zaf,zab,mNil,mVar,this,z]
   obtain⟨a,ha,a0,a1⟩:=znF q.1 (k:=q.2) (by omega) (by omega)
   have q1:mAsg zga (bNew 5) [.v C,.v (.int n),.p (tP S),.v (.int q.2),.v (.int q.1),.no,.no]=.nx [.v C,.v (.int n),.p (tP S),.v (.int q.2),.v (.int q.1),.o (iL ts),.no]:=zaT k rfl
   have q2:zoZ 2 5 (zaf zcw (zab (mVar 4) (zab (mVar 3) mNil))) [.v C,.v (.int n),.p (tP S),.v (.int q.2),.v (.int q.1),.o (iL ts),.no]=.nx [.v C,.v (.int n),.p (tP (S++[(a,ts)])),.v (.int q.2),.v (.int q.1),.no,.no]:=by
    have am:zaf zcw (zab (mVar 4) (zab (mVar 3) mNil)) [.v C,.v (.int n),.p (tP S),.v (.int q.2),.v (.int q.1),.o (iL ts),.no]=.ok (.int a):=by simp[zaf,zab,mNil,mVar,ha]
    show R.toO (zaf zcw (zab (mVar 4) (zab (mVar 3) mNil)) [.v C,.v (.int n),.p (tP S),.v (.int q.2),.v (.int q.1),.o (iL ts),.no]) _ _=_
    rw[am,R.toO_ok,zbf (by
     have:pre.length≤cs.length:=by have:=congrArg List.length hall;simp at this;omega
     rw[List.length_map,hl];exact Nat.lt_of_le_of_lt (Nat.le_trans this hc) (by decide))]
    simp[tP,tS,tI,Function.comp]
   refine⟨[.v C,.v (.int n),.p (tP S),.v (.int q.2),.v (.int q.1),.no,.no],_,by rcases o3 with _|o3 <;> rcases o4 with _|o4 <;> rfl,.inl ((zau q1).trans q2),S++[(a,ts)],some (.int q.2),some (.int q.1),rfl,fun s hs=>?_,by simp[hl]⟩
   rcases List.mem_append.mp hs with z|z
   ·exact g s z
   ·rw[List.mem_singleton.mp z]
    refine⟨a0,a1,by show ts.Nodup;rw[ets];exact (zm6 n).filter _,fun t ht=>?_⟩
    have ht':t∈ts:=ht
    rw[ets] at ht'
    exact mem_upto.mp (List.mem_filter.mp ht').1)
  [.v C,.v (.int n),.p (tP []),.no,.no,.no,.no] ⟨[],none,none,rfl,by simp,rfl⟩
 have lS:S.length≤14:=by rw[lS1,List.length_zipIdx];exact hc
 have q0:zoP (mLst mNil) 2 [.v C,.v (.int n),.no,.no,.no,.no,.no]=.nx [.v C,.v (.int n),.p (tP []),.no,.no,.no,.no]:=by
  have l0:mLst mNil [.v C,.v (.int n),.no,.no,.no,.no,.no]=.ok (.lst []):=by simp[mLst,mNil,sizeLine]
  unfold zoP
  rw[l0];rfl
 have q1:zhP [.v C,.v (.int n),.p (tP []),.no,.no,.no,.no]=.nx [.v C,.v (.int n),.p (tP S),sv o3,sv o4,.no,.no]:=(zbP (by rw[eC];exact zom rfl)).trans h1
 have plP:∀l:List Ps,zcM 8 (encP l)=true:=fun l=>by
  show (l.map encS).all (zcM 7)=true
  rw[List.all_map,List.all_eq_true]
  intro s _
  show ([D.int s.1,iL s.2]).all (zcM 6)=true
  simp only[List.all_cons,List.all_nil,Bool.and_true]
  show (true && (s.2.map D.int).all (zcM 5))=true
  rw[Bool.true_and,List.all_map,List.all_eq_true]
  intro x _;rfl
 obtain⟨S2,q2,g2,l2,l20⟩:∃S2:List Ps,mIfS (zaA (zfN (m2 oEqD (mRd 2) (mLst mNil)))) (zkD 2 (mC (.int 3)) (mLst mNil)) zbb [.v C,.v (.int n),.p (tP S),sv o3,sv o4,.no,.no]=.nx [.v C,.v (.int n),.p (tP S2),sv o3,sv o4,.no,.no]∧(∀s∈S2,Good n s)∧S2.length≤15∧0<S2.length:=by
  have lv:∀δ:En,mLst mNil δ=.ok (.lst []):=fun _=>by simp[mLst,mNil,sizeLine]
  have pk:mRd 2 (peek [.v C,.v (.int n),.p (tP S),sv o3,sv o4,.no,.no])=.ok (encP S):=by
   show R.ok (trD (tP S))=_
   rw[zp8]
  cases S with
  | nil=>
   have ne:oEqD (encP []) (.lst [])=some (.bl true):=zqJ (plP []) (zl6 []) rfl
   have tt:zaA (zfN (m2 oEqD (mRd 2) (mLst mNil))) [.v C,.v (.int n),.p (tP []),sv o3,sv o4,.no,.no]=.ok true:=by
    simp only[zaA,zfN,zel,pk,lv,R.bind_ok,ne,R.of_some];rfl
   refine⟨[(3,[])],(zd0 tt).trans ?_,fun s hs=>?_,by simp,by simp⟩
   ·unfold zkD
    show R.toO (mC (.int 3) _) _ _=_
    simp only[mC,R.toO_ok,lv]
    rw[zbf (by simp[sizeLine])]
    rfl
   ·rw[List.mem_singleton.mp hs]
    exact⟨by decide,by decide,List.nodup_nil,by simp⟩
  | cons s S=>
   have ne:oEqD (encP (s::S)) (.lst [])=some (.bl false):=by
    unfold oEqD
    rw[zbf ⟨plP _,zl6 []⟩]
    have:encP (s::S)≠.lst []:=by intro z;cases z
    simp[this]
   have tt:zaA (zfN (m2 oEqD (mRd 2) (mLst mNil))) [.v C,.v (.int n),.p (tP (s::S)),sv o3,sv o4,.no,.no]=.ok false:=by
    simp only[zaA,zfN,zel,pk,lv,R.bind_ok,ne,R.of_some];rfl
   exact⟨s::S,(zcL tt).trans rfl,gS1,by omega,by simp⟩
 obtain⟨δ2,h2,S3,o6,rfl,g3,l3,cv⟩:=zbh (b:=zat 6) (m:=zhl) D.int (fun pre δ=>∃(S:List Ps) (o6:Option D),δ=[.v C,.v (.int n),.p (tP S),sv o3,sv o4,.no,sv o6]∧(∀s∈S,Good n s)∧S.length=S2.length∧∀t∈pre,∃s∈S,t∈s.2) (upto n)
  (by
   rintro pre t post δ hall ⟨S,o6,rfl,g,hl,cv⟩
   have ht:=mem_upto.mp (show t∈upto n by rw[hall];simp)
   have pk:peek [.v C,.v (.int n),.p (tP S),sv o3,sv o4,.no,.v (.int t)]=[.v C,.v (.int n),.v (encP S),sv o3,sv o4,.no,.v (.int t)]:=by
    show [Sl.v C,.v (.int n),.v (trD (tP S)),zoM (sv o3),zoM (sv o4),.no,.v (.int t)]=_
    rw[zp8]
    rcases o3 with _|o3 <;> rcases o4 with _|o4 <;> rfl
   have k:zeY [.v C,.v (.int n),.v (encP S),sv o3,sv o4,.no,.v (.int t)]=.ok (.lst ((S.filter fun s=>decide (t∈s.2)).map fun _=>.int 1)):=by
    refine zaZ (l:=S.map encS) rfl (by rw[List.length_map];omega) ?_
    refine zoz encS _ _ _ fun s _=>?_
    have e:zbl [.v C,.v (.int n),.v (encP S),sv o3,sv o4,.no,.v (.int t)] [6] 2=[.v (.int t),.no,.no]:=rfl
    rw[e]
    by_cases z:t∈s.2 <;> simp[zcn,bTup,zbj,bNil,zaE,zaA,mRd,mC,encS,oIn,iL,zmj,z]
   have tt:zaA (zfN (m2 oEq (mCB fLen (zab zeY mNil)) (mC (.int 0)))) [.v C,.v (.int n),.p (tP S),sv o3,sv o4,.no,.v (.int t)]=.ok (decide ((S.filter fun s=>decide (t∈s.2)).length=0)):=by
    have v:m2 oEq (mCB fLen (zab zeY mNil)) (mC (.int 0)) [.v C,.v (.int n),.v (encP S),sv o3,sv o4,.no,.v (.int t)]=.ok (.bl (decide ((S.filter fun s=>decide (t∈s.2)).length=0))):=by
     simp only[zel,mCB,zab,mNil,k,mC,R.bind_ok,zrf,R.of_some,zq1,List.length_map]
     congr 2
     exact decide_eq_decide.mpr (by omega)
    simp only[zaA,zfN,pk,v];rfl
   by_cases z:(S.filter fun s=>decide (t∈s.2)).length=0
   ·rw[decide_eq_true z] at tt
    have out:∀s∈S,t∉s.2:=fun s hs ht=>by
     have:=List.length_pos_of_mem ((List.mem_filter (p:=fun s:Ps=>decide (t∈s.2))).mpr ⟨hs,decide_eq_true ht⟩)
     omega
    have lp:(0:Int)<(S.length:Int):=by omega
    have r0:=zcq (t*5) lp
    have r1:=zcp (t*5) lp
    obtain⟨j,ej⟩:∃j:Nat,(j:Int)=t*5%(S.length:Int):=⟨(t*5%(S.length:Int)).toNat,by omega⟩
    have jl:j<S.length:=by omega
    obtain⟨s,hs⟩:∃s,S[j]?=some s:=⟨_,List.getElem?_eq_getElem jl⟩
    have sm:=List.mem_of_getElem? hs
    have gs:=g s sm
    have mk:zfN (m2 oMod (m2 oMul (mRd 6) (mC (.int 5))) (mCB fLen (zab (mRd 2) mNil))) [.v C,.v (.int n),.p (tP S),sv o3,sv o4,.no,.v (.int t)]=.ok (.int j):=by
     have lE:fLen [encP S]=some (.int S.length):=by simp[encP]
     have v:m2 oMod (m2 oMul (mRd 6) (mC (.int 5))) (mCB fLen (zab (mRd 2) mNil)) [.v C,.v (.int n),.v (encP S),sv o3,sv o4,.no,.v (.int t)]=.ok (.int j):=by
      simp only[zel,mRd,mC,mCB,zab,mNil,List.getElem?_cons_succ,List.getElem?_cons_zero,R.bind_ok,lE,R.of_some,zdX (fitN 100 (by omega):Fit t) (fitN 100 (by decide):Fit 5),zbV lp,ej]
     simp only[zfN,pk,v];rfl
    have ap:zkC 2 (zfN (m2 oMod (m2 oMul (mRd 6) (mC (.int 5))) (mCB fLen (zab (mRd 2) mNil)))) (mC (.int 1)) (mVar 6) [.v C,.v (.int n),.p (tP S),sv o3,sv o4,.no,.v (.int t)]=.nx [.v C,.v (.int n),.p (tP (S.set j (s.1,s.2++[t]))),sv o3,sv o4,.no,.v (.int t)]:=by
     have ix:ixN (S.map tS).length (j:Int)=some j:=by unfold ixN;rw[List.length_map,if_pos (by omega),if_pos (by omega)];simp
     have gt:(S.map tS)[j]?=some (tS s):=by rw[List.getElem?_map,hs];rfl
     have lw:s.2.length≤n:=zmt gs
     unfold zkC
     show R.toO (zfN _ _) _ _=_
     rw[mk,R.toO_ok]
     simp only[ix,gt,tS,mC,R.toO_ok]
     show R.toO (mVar 6 [.v C,.v (.int n),.p (tP S),sv o3,sv o4,.no,.v (.int t)]) _ _=_
     have v6:mVar 6 [.v C,.v (.int n),.p (tP S),sv o3,sv o4,.no,.v (.int t)]=.ok (.int t):=rfl
     rw[v6,R.toO_ok,zbf (by rw[List.length_map];exact Nat.lt_of_le_of_lt (Nat.le_trans lw hn) (by decide))]
     have e:(S.map tS).set j (.t [.d (.int s.1),.l ((s.2++[t]).map fun i=>.d (.int i))])=(S.set j (s.1,s.2++[t])).map tS:=by rw[List.map_set];rfl
     show O.nx [_,_,.p (.l ((S.map tS).set j (.t [.d (.int s.1),.l ((s.2.map fun i=>.d (.int i))++[.d (.int t)])]))),_,_,_,_]=_
     rw[List.map_append] at e
     rw[show [Tr.d (.int t)]=[t].map (fun i=>Tr.d (.int i)) from rfl,e];rfl
    refine⟨[.v C,.v (.int n),.p (tP S),sv o3,sv o4,.no,.v (.int t)],_,za5 rfl,.inl ((zd0 tt).trans ap),S.set j (s.1,s.2++[t]),some (.int t),rfl,fun s' hs'=>?_,by rw[List.length_set,hl],fun u hu=>?_⟩
    ·rcases List.mem_or_eq_of_mem_set hs' with w|w
     ·exact g s' w
     ·rw[w]
      refine⟨gs.lo,gs.hi,?_,fun u hu=>?_⟩
      ·show (s.2++[t]).Nodup
       refine List.nodup_append.mpr ⟨gs.nd,by simp,fun a ha b hb e=>?_⟩
       rw[List.mem_singleton.mp hb] at e
       rw[e] at ha
       exact out s sm ha
      ·rcases List.mem_append.mp hu with w|w
       ·exact gs.mem u w
       ·rw[List.mem_singleton.mp w];omega
    ·have new:(s.1,s.2++[t])∈S.set j (s.1,s.2++[t]):=List.mem_set jl _
     rcases List.mem_append.mp hu with w|w
     ·obtain⟨s',hs',hu'⟩:=cv u w
      obtain⟨i,hi,ei⟩:=List.getElem_of_mem hs'
      by_cases e:i=j
      ·refine⟨_,new,List.mem_append_left _ ?_⟩
       have:S[i]?=some s':=by rw[List.getElem?_eq_getElem hi,ei]
       rw[e,hs] at this
       cases this;exact hu'
      ·refine⟨s',?_,hu'⟩
       have:(S.set j (s.1,s.2++[t]))[i]?=some s':=by rw[List.getElem?_set_ne (Ne.symm e),List.getElem?_eq_getElem hi,ei]
       exact List.mem_of_getElem? this
     ·exact⟨_,new,List.mem_append_right _ w⟩
   ·rw[decide_eq_false z] at tt
    refine⟨[.v C,.v (.int n),.p (tP S),sv o3,sv o4,.no,.v (.int t)],_,za5 rfl,.inl ((zcL tt).trans rfl),S,some (.int t),rfl,g,hl,fun u hu=>?_⟩
    rcases List.mem_append.mp hu with w|w
    ·exact cv u w
    ·rw[List.mem_singleton.mp w]
     obtain⟨s,hs⟩:=List.exists_mem_of_length_pos (show 0<(S.filter fun s=>decide (t∈s.2)).length by omega)
     exact⟨s,(List.mem_filter.mp hs).1,by simpa using (List.mem_filter.mp hs).2⟩)
  [.v C,.v (.int n),.p (tP S2),sv o3,sv o4,.no,.no] ⟨S2,none,rfl,g2,rfl,by simp⟩
 have q3:zhN [.v C,.v (.int n),.p (tP S2),sv o3,sv o4,.no,.no]=_:=(zbP (by simp[mRng,zab,mNil,mVar,rngU (show n≤1000 by omega)])).trans h2
 refine⟨S3,zdp ?_,⟨g3,by omega,by omega⟩,by omega,cv⟩
 rw[← eC]
 refine (zau q0).trans ((zau q1).trans ((zau q2).trans ((zau q3).trans ?_)))
 show O.ro (trD (tP S3))=_
 rw[zp8]
theorem zgU {n:Nat} {sets:List Ps} (ok:SetsOk n sets) (hc:∀t∈upto n,∃s∈sets,t∈s.2):zb0 [.int n,encP sets]=.ok .non:=by
 obtain⟨δ1,h1,o3,o4,rfl⟩:=zbh (b:=zat 3) (m:=zdv) encS (fun pre δ=>∃o3 o4,δ=[.v (.int n),.v (encP sets),.o (dk (zc3 [] (things pre))),sv o3,sv o4]) sets
  (by
   rintro pre s post δ hall ⟨o3,o4,rfl⟩
   have hs:s∈sets:=by rw[hall];simp
   have g:=ok.good s hs
   obtain⟨o',h⟩:=zmf (i:=4) (j:=2) (by decide) ok.n1 s.2 [.v (.int n),.v (encP sets),.o (dk (zc3 [] (things pre))),.v (encS s),sv o4] (zc3 [] (things pre)) o4 rfl rfl (zhx (by simp))
    (fun t ht=>by
     rcases mem_insAll.mp ht with z|z
     ·cases z
     ·obtain⟨s',hs',h'⟩:=List.mem_flatMap.mp z
      exact mem_upto.mpr ((ok.good s' (by rw[hall];exact List.mem_append_left _ hs')).mem t h')) (fun t ht=>mem_upto.mpr (g.mem t ht))
   refine⟨[.v (.int n),.v (encP sets),.o (dk (zc3 [] (things pre))),.v (encS s),sv o4],[.v (.int n),.v (encP sets),.o (dk (zc3 (zc3 [] (things pre)) s.2)),.v (encS s),sv o'],?_,.inl ?_,some (encS s),o',?_⟩
   ·rcases o3 with _|o3 <;> rfl
   ·unfold zdv zeH zer
    exact (zbP (by simp[mItL,mRd,mC,encS])).trans h
   ·rw[← znb]
    have e:things (pre++[s])=things pre++s.2:=by simp[things]
    rw[e];rfl)
  [.v (.int n),.v (encP sets),.o (dk []),.no,.no] ⟨none,none,rfl⟩
 obtain⟨δ2,h2,o4',rfl⟩:=zbh (b:=zat 4) (m:=zdy) D.int (fun pre δ=>∃o4,δ=[.v (.int n),.v (encP sets),.o (dk (zc3 [] (things sets))),sv o3,sv o4]) (upto n)
  (by
   rintro pre t post δ hall ⟨o4,rfl⟩
   have ht:t∈upto n:=by rw[hall];simp
   obtain⟨s,hs,hts⟩:=hc t ht
   have hm:t∈zc3 [] (things sets):=mem_insAll.mpr (.inr (List.mem_flatMap.mpr ⟨s,hs,hts⟩))
   refine⟨_,_,za5 (o:=o4) rfl,.inl ?_,some (.int t),rfl⟩
   simp[zdy,mIfS,zaA,mVar,mRd,hm,zbb])
  _ ⟨o4,rfl⟩
 have l2:zeP [.v (.int n),.v (encP sets),.o (dk []),.no,.no]=.nx [.v (.int n),.v (encP sets),.o (dk (zc3 [] (things sets))),sv o3,sv o4]:=(zbP (by simp[mItL,mVar,encP])).trans h1
 have l3:zeK [.v (.int n),.v (encP sets),.o (dk (zc3 [] (things sets))),sv o3,sv o4]=.nx [.v (.int n),.v (encP sets),.o (dk (zc3 [] (things sets))),sv o3,sv o4']:=(zbP (by simp[mRng,zab,mNil,mVar,rngU ok.n1])).trans h2
 refine zls (δ:=[.v (.int n),.v (encP sets),.o (dk (zc3 [] (things sets))),sv o3,sv o4']) ?_
 have e0:mAsg (mC (.dct [] [])) (bNew 2) [.v (.int n),.v (encP sets),.no,.no,.no]=.nx [.v (.int n),.v (encP sets),.o (dk []),.no,.no]:=rfl
 show mSeq _ _ [.v (.int n),.v (encP sets),.no,.no,.no]=_
 rw[zau e0,zau l2]
 exact l3
end My
namespace My
open PySem L2 PM
def tabF (n:Nat) (d:Int→Int→Int):List (List Int):=(upt n).map fun a=>(upt n).map (d a)
theorem zjx {m k:Nat} (h:k<m):(upt m)[k]?=some (k:Int):=by
 unfold upt;rw[List.getElem?_map,List.getElem?_range h];rfl
theorem zje {n:Nat} {f:Int→Int} {b:Int} (h0:0≤b) (h1:b<n):oIxL (iL ((upt n).map f)) (.int b)=some (.int (f b)):=by
 refine zgF h0 ?_
 rw[List.getElem?_map,List.getElem?_map,zjx (show b.toNat<n by omega)]
 simp[show ((b.toNat:Nat):Int)=b by omega]
theorem zrr {n:Nat} {d:Int→Int→Int} {a:Int} (h0:0≤a) (h1:a<n):oIxL (tabD (tabF n d)) (.int a)=some (iL ((upt n).map (d a))):=by
 unfold tabD tabF
 refine zgF h0 ?_
 rw[List.getElem?_map,List.getElem?_map,zjx (show a.toNat<n by omega)]
 simp[show ((a.toNat:Nat):Int)=a by omega]
theorem zqB {n:Nat} {d:Int→Int→Int}:fLen [tabD (tabF n d)]=some (.int n):=by
 simp[tabD,tabF,zcs]
structure LenOk (n:Nat) (B:Int) (d:Int→Int→Int):Prop where
 nn:∀a b:Int,0≤a→a<n→0≤b→b<n→0≤d a b∧d a b≤B
 self:∀a:Int,0≤a→a<n→d a a=0
 sym:∀a b:Int,0≤a→a<n→0≤b→b<n→d a b=d b a
 tri:∀a b c:Int,0≤a→a<n→0≤b→b<n→0≤c→c<n→d a c≤d a b+d b c
theorem zfK {mi:En→R (List D)} {b:D→En→Option En} {m:En→O} {δ:En} {n:Nat} (h:mi δ=.ok ((upt n).map .int)):mFor mi b m δ=zgX b m ((upt n).map .int) δ:=zbP h
theorem zjg {n:Nat} {B:Int} {d:Int→Int→Int} (hn:n≤100) (ok:LenOk n B d):zdo [tabD (tabF n d)]=.ok .non:=by
 obtain⟨T,eT⟩:∃T,T=tabD (tabF n d):=⟨_,rfl⟩
 have tix:∀a:Int,0≤a→a<n→oIxL T (.int a)=some (iL ((upt n).map (d a))):=fun a h0 h1=>by rw[eT];exact zrr h0 h1
 rw[← eT]
 have rn:=rngT (show n≤1000 by omega)
 have l1:∀o2 o3 o4:Option D,∃p2,zjf [.v T,.v (.int n),sv o2,sv o3,sv o4]=.nx [.v T,.v (.int n),sv p2,sv o3,sv o4]:=fun o2 o3 o4=>by
  obtain⟨δ,h1,p2,rfl⟩:=zbh (b:=zat 2) (m:=zge) D.int (fun _ δ=>∃p2,δ=[.v T,.v (.int n),sv p2,sv o3,sv o4]) (upt n)
   (by
    rintro pre a post δ hall ⟨p2,rfl⟩
    obtain⟨a0,a1⟩:=mem_upt.mp (show a∈upt n by rw[hall];simp)
    have r:=zje (n:=n) (f:=d a) a0 a1
    rw[ok.self a a0 a1] at r
    refine⟨[.v T,.v (.int n),.v (.int a),sv o3,sv o4],[.v T,.v (.int n),.v (.int a),sv o3,sv o4],za5 rfl,.inl ?_,some _,rfl⟩
    unfold zge
    rw[zcL (by simp[zaA,mRd,mC,tix a a0 a1,r])];rfl)
   [.v T,.v (.int n),sv o2,sv o3,sv o4] ⟨o2,rfl⟩
  exact⟨p2,(zfK (by simp[mRng,zab,mNil,mVar,rn])).trans h1⟩
 have l3:∀o2 o3 o4:Option D,∃p2 p3,zi6 [.v T,.v (.int n),sv o2,sv o3,sv o4]=.nx [.v T,.v (.int n),sv p2,sv p3,sv o4]:=fun o2 o3 o4=>by
  obtain⟨δ,h1,p2,p3,rfl⟩:=zbh (b:=zat 2) (m:=zih) D.int (fun _ δ=>∃p2 p3,δ=[.v T,.v (.int n),sv p2,sv p3,sv o4]) (upt n)
   (by
    rintro pre a post δ hall ⟨p2,p3,rfl⟩
    obtain⟨a0,a1⟩:=mem_upt.mp (show a∈upt n by rw[hall];simp)
    obtain⟨δ2,g1,r3,rfl⟩:=zbh (b:=zat 3) (m:=zf5) D.int (fun _ δ=>∃r3,δ=[.v T,.v (.int n),.v (.int a),sv r3,sv o4]) (upt a.toNat)
     (by
      rintro pre2 b post2 δ hall2 ⟨r3,rfl⟩
      obtain⟨b0,b1⟩:=mem_upt.mp (show b∈upt a.toNat by rw[hall2];simp)
      have r1:=zje (n:=n) (f:=d a) b0 (by omega)
      have r2:=zje (n:=n) (f:=d b) a0 a1
      rw[ok.sym a b a0 a1 b0 (by omega)] at r1
      refine⟨[.v T,.v (.int n),.v (.int a),.v (.int b),sv o4],[.v T,.v (.int n),.v (.int a),.v (.int b),sv o4],za5 rfl,.inl ?_,some _,rfl⟩
      unfold zf5
      rw[zcL (by simp[zaA,mRd,mC,tix a a0 a1,tix b b0 (by omega),r1,r2])];rfl)
     [.v T,.v (.int n),.v (.int a),sv p3,sv o4] ⟨p3,rfl⟩
    refine⟨[.v T,.v (.int n),.v (.int a),sv p3,sv o4],[.v T,.v (.int n),.v (.int a),sv r3,sv o4],za5 rfl,.inl ?_,some _,r3,rfl⟩
    have ra:=rngT (show a.toNat≤1000 by omega)
    rw[show ((a.toNat:Nat):Int)=a by omega] at ra
    exact (zfK (n:=a.toNat) (by simp[mRng,zab,mNil,mVar,ra])).trans g1)
   [.v T,.v (.int n),sv o2,sv o3,sv o4] ⟨o2,o3,rfl⟩
  exact⟨p2,p3,(zfK (by simp[mRng,zab,mNil,mVar,rn])).trans h1⟩
 have l6:∀o2 o3 o4:Option D,∃p2 p3 p4,zi4 [.v T,.v (.int n),sv o2,sv o3,sv o4]=.nx [.v T,.v (.int n),sv p2,sv p3,sv p4]:=fun o2 o3 o4=>by
  obtain⟨δ,h1,p2,p3,p4,rfl⟩:=zbh (b:=zat 2) (m:=ziB) D.int (fun _ δ=>∃p2 p3 p4,δ=[.v T,.v (.int n),sv p2,sv p3,sv p4]) (upt n)
   (by
    rintro pre a post δ hall ⟨p2,p3,p4,rfl⟩
    obtain⟨a0,a1⟩:=mem_upt.mp (show a∈upt n by rw[hall];simp)
    obtain⟨δ2,g1,r3,r4,rfl⟩:=zbh (b:=zat 3) (m:=zif) D.int (fun _ δ=>∃r3 r4,δ=[.v T,.v (.int n),.v (.int a),sv r3,sv r4]) (upt n)
     (by
      rintro pre2 b post2 δ hall2 ⟨r3,r4,rfl⟩
      obtain⟨b0,b1⟩:=mem_upt.mp (show b∈upt n by rw[hall2];simp)
      obtain⟨δ3,k1,t4,rfl⟩:=zbh (b:=zat 4) (m:=zf7) D.int (fun _ δ=>∃t4,δ=[.v T,.v (.int n),.v (.int a),.v (.int b),sv t4]) (upt n)
       (by
        rintro pre3 c post3 δ hall3 ⟨t4,rfl⟩
        obtain⟨c0,c1⟩:=mem_upt.mp (show c∈upt n by rw[hall3];simp)
        have r1:=zje (n:=n) (f:=d a) b0 b1
        have r2:=zje (n:=n) (f:=d b) c0 c1
        have r5:=zje (n:=n) (f:=d a) c0 c1
        have tr:¬ d a b+d b c<d a c:=by have:=ok.tri a b c a0 a1 b0 b1 c0 c1;omega
        refine⟨[.v T,.v (.int n),.v (.int a),.v (.int b),.v (.int c)],[.v T,.v (.int n),.v (.int a),.v (.int b),.v (.int c)],za5 rfl,.inl ?_,some _,rfl⟩
        unfold zf7
        rw[zcL (by simp[zaA,mRd,mC,tix a a0 a1,tix b b0 b1,r1,r2,r5,tr])];rfl)
       [.v T,.v (.int n),.v (.int a),.v (.int b),sv r4] ⟨r4,rfl⟩
      refine⟨[.v T,.v (.int n),.v (.int a),.v (.int b),sv r4],[.v T,.v (.int n),.v (.int a),.v (.int b),sv t4],za5 rfl,.inl ?_,some _,t4,rfl⟩
      exact (zfK (by simp[mRng,zab,mNil,mVar,rn])).trans k1)
     [.v T,.v (.int n),.v (.int a),sv p3,sv p4] ⟨p3,p4,rfl⟩
    refine⟨[.v T,.v (.int n),.v (.int a),sv p3,sv p4],[.v T,.v (.int n),.v (.int a),sv r3,sv r4],za5 rfl,.inl ?_,some _,r3,r4,rfl⟩
    exact (zfK (by simp[mRng,zab,mNil,mVar,rn])).trans g1)
   [.v T,.v (.int n),sv o2,sv o3,sv o4] ⟨o2,o3,o4,rfl⟩
  exact⟨p2,p3,p4,(zfK (by simp[mRng,zab,mNil,mVar,rn])).trans h1⟩
 have lT:fLen [T]=some (.int n):=by rw[eT];exact zqB
 obtain⟨p2,e1⟩:=l1 none none none
 obtain⟨q2,q3,e2⟩:=l3 p2 none none
 obtain⟨r2,r3,r4,e3⟩:=l6 q2 q3 none
 refine zls (δ:=[.v T,.v (.int n),sv r2,sv r3,sv r4]) ?_
 show mSeq _ _ [.v T,.no,.no,.no,.no]=_
 have s1:mAsg (mCB fLen (zab (mRd 0) mNil)) (zat 1) [.v T,.no,.no,.no,.no]=.nx [.v T,.v (.int n),sv none,sv none,sv none]:=zaT (d:=.int n) (by simp[mCB,zab,mNil,mRd,lT]) rfl
 exact (zau s1).trans ((zau e1).trans ((zau e2).trans e3))
end My
namespace My
open PySem L2 PM
def zc6 (ts:List Fr):D:=.lst (ts.map encF)
def th (ts:List Fr) (k:Int):Fr:=ts.getD k.toNat (0,1)
theorem zn9 {ts:List Fr} {k:Int} (h:k.toNat<ts.length):ts[k.toNat]?=some (th ts k):=by simp[th,List.getD_eq_getElem?_getD,h]
theorem zqu {ts:List Fr} {k:Int} (h0:0≤k) (h1:k<ts.length):oIxL (zc6 ts) (.int k)=some (encF (th ts k)):=
 zgF h0 (by rw[List.getElem?_map,zn9 (by omega)];rfl)
theorem zl4 {ts:List Fr} {k:Int} (h0:0≤k) (h1:k<ts.length):th ts k∈ts:=List.mem_of_getElem? (zn9 (by omega))
theorem zlS {m n:En→O} {δ:En} {d:D} (h:m δ=.ro d):mSeq m n δ=.ro d:=by unfold mSeq;rw[h]
theorem zlr (cs:List Int) {k:Int} (h0:0≤k):∃c:Int,zaI [iL cs,.int k]=.ok (.int c):=by
 by_cases h:k<cs.length
 ·refine⟨gA cs k,zbp ?_⟩
  show mSeq _ _ [.v (iL cs),.v (.int k)]=_
  refine zeX ?_
  rw[zd0 (by simp[zaA,mRd,mCB,zab,mNil,h])]
  have:=zqH (L:=cs) h0 (by omega)
  simp[mRet,mRd,this]
 ·refine⟨0,zbp ?_⟩
  show mSeq _ _ [.v (iL cs),.v (.int k)]=_
  have q:mIfS (zaA (m2 oLt (mRd 1) (mCB fLen (zab (mRd 0) mNil)))) (mRet (m2 oIxL (mRd 0) (mRd 1))) zbb [.v (iL cs),.v (.int k)]=.nx [.v (iL cs),.v (.int k)]:=by
   rw[zcL (by simp[zaA,mRd,mCB,zab,mNil,h])];rfl
  exact (zau q).trans rfl
theorem zsk {a b c e:Int} {i:Int} (h0:0≤i) (h1:i<4):∃x,(x=a∨x=b∨x=c∨x=e)∧oIxL (.lst [.int a,.int b,.int c,.int e]) (.int i)=some (.int x):=by
 rcases (show i=0∨i=1∨i=2∨i=3 by omega) with h|h|h|h <;> subst h
 ·exact⟨a,.inl rfl,rfl⟩
 ·exact⟨b,.inr (.inl rfl),rfl⟩
 ·exact⟨c,.inr (.inr (.inl rfl)),rfl⟩
 ·exact⟨e,.inr (.inr (.inr rfl)),rfl⟩
structure SpOk (p:Fr):Prop where
 l1:0≤p.1
 h1:p.1≤100000000000
 l2:0≤p.2
 h2:p.2≤100000000000
theorem p5:oPow (.int 10) (.int 5)=some (.int 100000):=zkY ⟨by decide,by decide,by decide⟩
theorem p11:oPow (.int 10) (.int 11)=some (.int 100000000000):=zkY ⟨by decide,by decide,by decide⟩
theorem zpd {α:Type} (ts:List Fr) (f:Fr→α):ts.map f=(upt ts.length).map fun k=>f (th ts k):=by
 apply List.ext_getElem?
 intro i
 by_cases hi:i<ts.length
 ·rw[List.getElem?_map,List.getElem?_map,zjx hi]
  have:=zn9 (ts:=ts) (k:=(i:Int)) (by omega)
  rw[Int.toNat_natCast] at this
  rw[this];rfl
 ·rw[List.getElem?_eq_none_iff.mpr (by rw[List.length_map];omega),List.getElem?_eq_none_iff.mpr (by rw[List.length_map,zcs];omega)]
def btw (sp:List Fr) (l a b:Int):Int:=if a=b then 0 else l+((th sp (if b<a then b else a)).2+7*(th sp (if b > a then b else a)).1+(if b<a then b else a)*(if b > a then b else a))%(l+1)
def grd (sp:List Fr) (a b:Int):Int:=(if (th sp a).1 - (th sp b).1<0 then -((th sp a).1 - (th sp b).1) else (th sp a).1 - (th sp b).1)+(if (th sp a).2 - (th sp b).2<0 then -((th sp a).2 - (th sp b).2) else (th sp a).2 - (th sp b).2)
theorem zrH {n:Nat} {sp:List Fr} {l:Int} (l0:0<l) (l1:l≤100000000001):LenOk n 200000000002 (btw sp l):=by
 have key:∀a b:Int,a≠b→l≤btw sp l a b∧btw sp l a b≤2*l:=fun a b ne=>by
  unfold btw
  rw[if_neg ne]
  obtain⟨X,eX⟩:∃X,X=((th sp (if b<a then b else a)).2+7*(th sp (if b > a then b else a)).1+(if b<a then b else a)*(if b > a then b else a)):=⟨_,rfl⟩
  rw[← eX]
  have:=zcq X (show 0<l+1 by omega)
  have:=zcp X (show 0<l+1 by omega)
  omega
 have self:∀a:Int,btw sp l a a=0:=fun a=>if_pos rfl
 have any:∀a b:Int,0≤btw sp l a b∧btw sp l a b≤2*l:=fun a b=>by
  by_cases e:a=b
  ·rw[e,self];omega
  ·have:=key a b e;omega
 refine⟨fun a b _ _ _ _=>by have:=any a b;omega,fun a _ _=>self a,fun a b _ _ _ _=>?_,fun a b c _ _ _ _ _ _=>?_⟩
 ·by_cases e:a=b
  ·rw[e]
  ·have e1:(if b<a then b else a)=(if a<b then a else b):=by split <;> split <;> omega
   have e2:(if b > a then b else a)=(if a > b then a else b):=by split <;> split <;> omega
   unfold btw
   rw[if_neg e,e1,e2,if_neg (show ¬ b=a from fun z=>e z.symm)]
 ·by_cases e1:a=b
  ·rw[e1,self];omega
  ·by_cases e2:b=c
   ·rw[e2,self];omega
   ·have h1:=key a b e1
    have h2:=key b c e2
    have h3:=any a c
    omega
theorem zrX {sp:List Fr} (h:∀p∈sp,SpOk p):LenOk sp.length 200000000002 (grd sp):=by
 have hp:∀a:Int,0≤a→a<sp.length→SpOk (th sp a):=fun a a0 a1=>h _ (zl4 a0 a1)
 refine⟨fun a b a0 a1 b0 b1=>?_,fun a a0 a1=>?_,fun a b a0 a1 b0 b1=>?_,fun a b c a0 a1 b0 b1 c0 c1=>?_⟩
 ·obtain⟨x1,x2,x3,x4⟩:=hp a a0 a1
  obtain⟨y1,y2,y3,y4⟩:=hp b b0 b1
  unfold grd
  (repeat' split) <;> omega
 ·unfold grd
  (repeat' split) <;> omega
 ·unfold grd
  (repeat' split) <;> omega
 ·unfold grd
  (repeat' split) <;> omega
theorem zmJ {sp:List Fr} {l a b:Int} (hl:sp.length≤100) (l0:0<l) (h:∀p∈sp,SpOk p) (a0:0≤a) (a1:a<sp.length) (b0:0≤b) (b1:b<sp.length):zdx [zc6 sp,.int a,.int b,.int l]=.ok (.int (btw sp l a b)):=by
 refine zbp ?_
 show mSeq _ _ [.v (zc6 sp),.v (.int a),.v (.int b),.v (.int l),.no,.no,.no]=_
 unfold btw
 by_cases e:a=b
 ·rw[if_pos e]
  refine zeX ?_
  rw[zd0 (by simp[zaA,mRd,e])];rfl
 ·rw[if_neg e]
  have n1:mIfS (zaA (m2 oEq (mRd 1) (mRd 2))) (mRet (mC (.int 0))) zbb [.v (zc6 sp),.v (.int a),.v (.int b),.v (.int l),.no,.no,.no]=.nx [.v (zc6 sp),.v (.int a),.v (.int b),.v (.int l),.no,.no,.no]:=by
   rw[zcL (by simp[zaA,mRd,e])];rfl
  refine (zau n1).trans ?_
  obtain⟨lo,elo⟩:∃lo,lo=if b<a then b else a:=⟨_,rfl⟩
  obtain⟨hi,ehi⟩:∃hi,hi=if b > a then b else a:=⟨_,rfl⟩
  have mn:znH [.int a,.int b]=some (.int lo):=by rw[elo];rfl
  have mx:zoL [.int a,.int b]=some (.int hi):=by rw[ehi];rfl
  have lr:0≤lo∧lo<sp.length:=by rw[elo];split <;> omega
  have hr:0≤hi∧hi<sp.length:=by rw[ehi];split <;> omega
  rw[← elo,← ehi]
  have i1:=zqu (ts:=sp) lr.1 lr.2
  have i2:=zqu (ts:=sp) hr.1 hr.2
  have s1:=h _ (zl4 lr.1 lr.2)
  have s2:=h _ (zl4 hr.1 hr.2)
  obtain⟨T,eT⟩:∃T,T=zc6 sp:=⟨_,rfl⟩
  rw[← eT] at i1 i2 ⊢
  have q1:mAsg (mCB znH (zab (mRd 1) (zab (mRd 2) mNil))) (zat 4) [.v T,.v (.int a),.v (.int b),.v (.int l),.no,.no,.no]=.nx [.v T,.v (.int a),.v (.int b),.v (.int l),.v (.int lo),.no,.no]:=zaT (d:=.int lo) (by simp[mCB,zab,mNil,mRd,mn]) rfl
  have q2:mAsg (mCB zoL (zab (mRd 1) (zab (mRd 2) mNil))) (zat 5) [.v T,.v (.int a),.v (.int b),.v (.int l),.v (.int lo),.no,.no]=.nx [.v T,.v (.int a),.v (.int b),.v (.int l),.v (.int lo),.v (.int hi),.no]:=zaT (d:=.int hi) (by simp[mCB,zab,mNil,mRd,mx]) rfl
  have f7:Fit 7:=fitN 10 (by decide)
  have fh:Fit (th sp hi).1:=fitN (10 ^ 18) (by have:=s2.l1;have:=s2.h1;omega)
  have fl:Fit lo:=fitN 1000 (by omega)
  have fh2:Fit hi:=fitN 1000 (by omega)
  have q3:mAsg (m2 oAdd (m2 oAdd (m2 oIxT (m2 oIxL (mRd 0) (mRd 4)) (mC (.int 1))) (m2 oMul (mC (.int 7)) (m2 oIxT (m2 oIxL (mRd 0) (mRd 5)) (mC (.int 0))))) (m2 oMul (mRd 4) (mRd 5))) (zat 6) [.v T,.v (.int a),.v (.int b),.v (.int l),.v (.int lo),.v (.int hi),.no]=.nx [.v T,.v (.int a),.v (.int b),.v (.int l),.v (.int lo),.v (.int hi),.v (.int ((th sp lo).2+7*(th sp hi).1+lo*hi))]:=by
   refine zaT (d:=.int ((th sp lo).2+7*(th sp hi).1+lo*hi)) ?_ rfl
   simp[mRd,mC,i1,i2,encF,zdX f7 fh,zdX fl fh2]
  refine (zau q1).trans ((zau q2).trans ((zau q3).trans ?_))
  simp[mRet,mRd,mC,zbV (show 0<l+1 by omega)]
theorem zm1 (cs:List Int) {n:Nat} (n0:0<n) (n1:n≤8) (w:Int):∃d:Int→Int→Int,LenOk n 200000000002 d∧zcx [iL cs,.int n,.int w]=.ok (tabD (tabF n d)):=by
 obtain⟨C,eC⟩:∃C,C=iL cs:=⟨_,rfl⟩
 have rn:=rngT (show n≤1000 by omega)
 have f4:Fit 4:=fitN 10 (by decide)
 obtain⟨δ,h1,sp,o4,o5,o6,rfl,hl,hs⟩:=zbh (b:=zat 4) (m:=zfC) D.int (fun pre δ=>∃(sp:List Fr) (o4 o5 o6:Option D),δ=[.v C,.v (.int n),.v (.int w),.o (zc6 sp),sv o4,sv o5,sv o6,.no]∧sp.length=pre.length∧∀p∈sp,SpOk p) (upt n)
  (by
   rintro pre x post δ hall ⟨sp,o4,o5,o6,rfl,hl,hs⟩
   obtain⟨x0,x1⟩:=mem_upt.mp (show x∈upt n by rw[hall];simp)
   have pl:pre.length≤8:=by
    have:=congrArg List.length hall
    rw[zcs,List.length_append,List.length_cons] at this;omega
   obtain⟨c,hc⟩:=zlr cs (k:=x) x0
   rw[← eC] at hc
   have nm:=zis c (x+300) (by omega) (by omega)
   obtain⟨z,ez⟩:∃z,z=num c (x+300):=⟨_,rfl⟩
   have z0:0≤num c (x+300):=zcq _ (by decide)
   have z1:num c (x+300)<2147483647:=zcp _ (by decide)
   rw[← ez] at nm z0 z1
   obtain⟨r,hr,ir⟩:=zsk (a:=3) (b:=50) (c:=100000) (e:=100000000000) (zcq z (show (0:Int)<4 by decide)) (zcp z (show (0:Int)<4 by decide))
   have r0:0<r∧r≤100000000000:=by omega
   have fz:Fit (z/4):=fitN (10 ^ 10) (by omega)
   have fk:Fit 48271:=fitN (10 ^ 10) (by decide)
   have fk2:Fit 69621:=fitN (10 ^ 10) (by decide)
   have fk3:Fit 40692:=fitN (10 ^ 10) (by decide)
   obtain⟨y,ey⟩:∃y,y=z/4*69621%2147483629:=⟨_,rfl⟩
   have y0:=zcq (z/4*69621) (show (0:Int)<2147483629 by decide)
   have y1:=zcp (z/4*69621) (show (0:Int)<2147483629 by decide)
   have fy:Fit y:=fitN (10 ^ 10) (by omega)
   have a1:=zcq (z/4*48271) r0.1
   have a2:=zcp (z/4*48271) r0.1
   have a3:=zcq (y*40692) r0.1
   have a4:=zcp (y*40692) r0.1
   have q1:mAsg (zaf zaK (zab (zaf zaI (zab (mVar 0) (zab (mVar 4) mNil))) (zab (m2 oAdd (mRd 4) (mC (.int 300))) mNil))) (zat 5) [.v C,.v (.int n),.v (.int w),.o (zc6 sp),.v (.int x),sv o5,sv o6,.no]=.nx [.v C,.v (.int n),.v (.int w),.o (zc6 sp),.v (.int x),.v (.int z),sv o6,.no]:=zaT (d:=.int z) (by simp[zaf,zab,mNil,mVar,mRd,mC,hc,nm]) (za5 rfl)
   have q2:mAsg (m2 oIxL (mLst (zab (mC (.int 3)) (zab (mC (.int 50)) (zab (m2 oPow (mC (.int 10)) (mC (.int 5))) (zab (m2 oPow (mC (.int 10)) (mC (.int 11))) mNil))))) (m2 oMod (mRd 5) (mC (.int 4)))) (zat 6) [.v C,.v (.int n),.v (.int w),.o (zc6 sp),.v (.int x),.v (.int z),sv o6,.no]=.nx [.v C,.v (.int n),.v (.int w),.o (zc6 sp),.v (.int x),.v (.int z),.v (.int r),.no]:=zaT (d:=.int r) (by simp[mLst,zab,mNil,mRd,mC,p5,p11,sizeLine,zbV,ir]) (za5 rfl)
   have q3:zbw 3 (mTup (zab (m2 oMod (m2 oMul (m2 oDiv (mRd 5) (mC (.int 4))) (mC (.int 48271))) (mRd 6)) (zab (m2 oMod (m2 oMul (m2 oMod (m2 oMul (m2 oDiv (mRd 5) (mC (.int 4))) (mC (.int 69621))) (mC (.int 2147483629))) (mC (.int 40692))) (mRd 6)) mNil))) [.v C,.v (.int n),.v (.int w),.o (zc6 sp),.v (.int x),.v (.int z),.v (.int r),.no]=.nx [.v C,.v (.int n),.v (.int w),.o (zc6 (sp++[(z/4*48271%r,y*40692%r)])),.v (.int x),.v (.int z),.v (.int r),.no]:=by
    refine (zbJ (l:=sp.map encF) (d:=encF (z/4*48271%r,y*40692%r)) rfl ?_ (by rw[List.length_map];omega)).trans ?_
    ·rw[ey] at fy
     simp[mTup,zab,mNil,mRd,mC,zdk,f4,zdX fz fk,zdX fz fk2,zbV,zdX fy fk3,zbV r0.1,encF,sizeLine,ey]
    ·simp[zc6]
   refine⟨[.v C,.v (.int n),.v (.int w),.o (zc6 sp),.v (.int x),sv o5,sv o6,.no],_,za5 rfl,.inl ((zau q1).trans ((zau q2).trans q3)),_,some (.int x),some (.int z),some (.int r),rfl,by simp[hl],fun p hp=>?_⟩
   rcases List.mem_append.mp hp with m|m
   ·exact hs p m
   ·rw[List.mem_singleton.mp m]
    exact⟨a1,by show z/4*48271%r≤_;omega,a3,by show y*40692%r≤_;omega⟩)
  [.v C,.v (.int n),.v (.int w),.o (zc6 []),.no,.no,.no,.no] ⟨[],none,none,none,rfl,rfl,fun _ z=>by cases z⟩
 rw[zcs] at hl
 have st:mAsg (mLst mNil) (bNew 3) [.v C,.v (.int n),.v (.int w),.no,.no,.no,.no,.no]=.nx [.v C,.v (.int n),.v (.int w),.o (zc6 []),.no,.no,.no,.no]:=zaT (d:=zc6 []) (by simp[mLst,mNil,zc6,sizeLine]) rfl
 have lp:zfY [.v C,.v (.int n),.v (.int w),.o (zc6 []),.no,.no,.no,.no]=_:=(zbP (l:=(upt n).map .int) (by simp[mRng,zab,mNil,mVar,rn])).trans h1
 rw[← eC]
 have run:∀X,_→zcx [C,.int n,.int w]=.ok X:=fun X hX=>zdp ((zau st).trans ((zau lp).trans hX))
 obtain⟨TS,eTS⟩:∃TS,TS=zc6 sp:=⟨_,rfl⟩
 by_cases c:w%3=0
 ·obtain⟨l,el⟩:∃l,l=1+(th sp 0).1:=⟨_,rfl⟩
  have s0:=hs _ (zl4 (ts:=sp) (k:=0) (by decide) (by omega))
  have i0:=zqu (ts:=sp) (k:=0) (by decide) (by omega)
  rw[← eTS] at i0
  have l0:0<l:=by have:=s0.l1;omega
  have l1:l≤100000000001:=by have:=s0.h1;omega
  refine⟨btw sp l,zrH l0 l1,run _ ?_⟩
  refine zlS ?_
  rw[zd0 (by simp[zaA,mRd,mC,zbV,c]),← eTS]
  have q1:mAsg (m2 oAdd (mC (.int 1)) (m2 oIxT (m2 oIxL (mRd 3) (mC (.int 0))) (mC (.int 0)))) (zat 7) [.v C,.v (.int n),.v (.int w),.o TS,sv o4,sv o5,sv o6,.no]=.nx [.v C,.v (.int n),.v (.int w),.o TS,sv o4,sv o5,sv o6,.v (.int l)]:=zaT (d:=.int l) (by simp[mRd,mC,i0,encF,el]) rfl
  refine (zau q1).trans ?_
  have k1:∀a:Int,0≤a→a<n→zfU [.l TS,.v (.int l),.v (.int n),.v (.int a)]=.ok (iL ((upt n).map (btw sp l a))):=fun a a0 a1=>by
   refine Eq.trans (zaZ (l:=(upt n).map .int) (r:=(upt n).map fun b=>.int (btw sp l a b)) (by simp[mRng,zab,mNil,mVar,rn]) (by rw[List.length_map,zcs];omega) ?_) (by simp[iL])
   refine zbi .int (fun b=>.int (btw sp l a b)) _ fun b hb=>?_
   obtain⟨b0,b1⟩:=mem_upt.mp hb
   have bt:=zmJ (sp:=sp) (l:=l) (by omega) l0 hs a0 (show a<sp.length by omega) b0 (show b<sp.length by omega)
   rw[← eTS] at bt
   have e:zbl [.l TS,.v (.int l),.v (.int n),.v (.int a)] [0,3,1] 1=[.l TS,.v (.int a),.v (.int l),.no]:=rfl
   rw[e]
   simp[zcn,zaE,zhT,zab,mNil,mVar,mRd,bt,zgl]
  have k2:zeC [.v C,.v (.int n),.v (.int w),.o TS,sv o4,sv o5,sv o6,.v (.int l)]=.ok (tabD (tabF n (btw sp l))):=by
   refine Eq.trans (zaZ (l:=(upt n).map .int) (r:=(upt n).map fun a=>iL ((upt n).map (btw sp l a))) (by simp[mRng,zab,mNil,mVar,rn]) (by rw[List.length_map,zcs];omega) ?_) (by simp[tabD,tabF])
   refine zbi .int (fun a=>iL ((upt n).map (btw sp l a))) _ fun a ha=>?_
   obtain⟨a0,a1⟩:=mem_upt.mp ha
   have e:zbl [.v C,.v (.int n),.v (.int w),.o TS,sv o4,sv o5,sv o6,.v (.int l)] [3,7,1] 1=[.l TS,.v (.int l),.v (.int n),.no]:=rfl
   rw[e]
   simp[zcn,zaE,k1 a a0 a1]
  simp[zck,k2]
 ·have n1':mIfS (zaA (m2 oEq (m2 oMod (mRd 2) (mC (.int 3))) (mC (.int 0)))) (mSeq (mAsg (m2 oAdd (mC (.int 1)) (m2 oIxT (m2 oIxL (mRd 3) (mC (.int 0))) (mC (.int 0)))) (zat 7)) (zck zeC)) zbb [.v C,.v (.int n),.v (.int w),.o (zc6 sp),sv o4,sv o5,sv o6,.no]=.nx [.v C,.v (.int n),.v (.int w),.o (zc6 sp),sv o4,sv o5,sv o6,.no]:=by
   rw[zcL (by simp[zaA,mRd,mC,zbV,c])];rfl
  have gok:=zrX hs
  rw[hl] at gok
  refine⟨grd sp,gok,run _ ((zau n1').trans ?_)⟩
  have fab:∀x:Int,fAbs [.int x]=some (.int (if x<0 then -x else x)):=fun _=>rfl
  have lu:=zpd sp encF
  rw[hl] at lu
  have k3:∀a:Int,zfP [.l (zc6 sp),.v (encF (th sp a))]=.ok (iL ((upt n).map (grd sp a))):=fun a=>by
   refine Eq.trans (zaZ (l:=(upt n).map fun k=>encF (th sp k)) (r:=(upt n).map fun b=>.int (grd sp a b)) (by rw[← lu];simp[mItL,mRd,zc6]) (by rw[List.length_map,zcs];omega) ?_) (by simp[iL])
   refine zbi (fun k=>encF (th sp k)) (fun b=>.int (grd sp a b)) _ fun b hb=>?_
   have e:zbl [.l (zc6 sp),.v (encF (th sp a))] [1] 1=[.v (encF (th sp a)),.no]:=rfl
   rw[e]
   simp[zcn,zaE,mCB,zab,mNil,mRd,mC,encF,fab,grd]
  have k4:zfQ [.v C,.v (.int n),.v (.int w),.o (zc6 sp),sv o4,sv o5,sv o6,.no]=.ok (tabD (tabF n (grd sp))):=by
   refine Eq.trans (zaZ (l:=(upt n).map fun k=>encF (th sp k)) (r:=(upt n).map fun a=>iL ((upt n).map (grd sp a))) (by rw[← lu];simp[mItL,mRd,zc6]) (by rw[List.length_map,zcs];omega) ?_) (by simp[tabD,tabF])
   refine zbi (fun k=>encF (th sp k)) (fun a=>iL ((upt n).map (grd sp a))) _ fun a ha=>?_
   have e:zbl [.v C,.v (.int n),.v (.int w),.o (zc6 sp),sv o4,sv o5,sv o6,.no] [3] 1=[.l (zc6 sp),.no]:=rfl
   rw[e]
   have b1:zaE 1 (encF (th sp a)) [.l (zc6 sp),.no]=some [.l (zc6 sp),.v (encF (th sp a))]:=rfl
   simp[zcn,b1,k3 a]
  show zck _ _=_
  simp[zck,k4]
end My
namespace My
open PySem L2 PM
theorem sq {me:En→R D} {b:D→En→Option En} {n:En→O} {δ δ2:En} {d:D} {r:O} (h:me δ=.ok d) (h2:b d δ=some δ2) (k:n δ2=r):mSeq (mAsg me b) n δ=r:=(zau (zaT h h2)).trans k
theorem sd {me:En→R D} {n:En→O} {δ:En} {r:O} (h:me δ=.ok .non) (k:n δ=r):mSeq (mDo me) n δ=r:=(zau (by unfold mDo;rw[h];rfl)).trans k
theorem sx {m n:En→O} {δ δ2:En} {r:O} (h:m δ=.nx δ2) (k:n δ2=r):mSeq m n δ=r:=(zau h).trans k
def okA:Nat→D→Bool
 | 0,_=>false
 | _+1,.int _=>true
 | _+1,.str _=>true
 | n+1,.tup l=>l.all (okA n)
 | n+1,.lst l=>l.all (okA n)
 | _+1,_=>false
theorem eqS (a:Str):oEq (.str a) (.str a)=some (.bl true):=by
 show (if scal (V.str a) (V.str a)=true then some (D.bl (decide (V.str a=V.str a))) else none)=_
 rw[if_pos (show scal (V.str a) (V.str a)=true from rfl),decide_eq_true rfl]
theorem neS {a b:Str} (h:a≠b):oEq (.str a) (.str b)=some (.bl false):=by
 show (if scal (V.str a) (V.str b)=true then some (D.bl (decide (V.str a=V.str b))) else none)=_
 rw[if_pos (show scal (V.str a) (V.str b)=true from rfl),decide_eq_false (fun z=>h (V.str.inj z))]
theorem zo8 (l:List D):zipD l l=l.map fun x=>.tup [x,x]:=by
 induction l with
 | nil=>rfl
 | cons a l ih=>simp only[zipD,List.zipWith_cons_cons,List.map_cons];rw[← ih];rfl
theorem zks {n:Nat} {d:D} {l:List D} (hd:d=.tup l∨d=.lst l) (ih:∀x∈l,zbK n [x,x]=.ok (.bl true)):zbK (n+1) [d,d]=.ok (.bl true):=by
 obtain⟨δ,h1,o2,o3,rfl⟩:=zbh (b:=bTup 2 (zbj (zat 2) (zbj (zat 3) bNil))) (m:=ze4 (zbK n)) (fun x=>.tup [x,x]) (fun _ δ=>∃o2 o3,δ=[.v d,.v d,sv o2,sv o3]) l
  (by
   rintro pre x post δ hall ⟨o2,o3,rfl⟩
   have hx:=ih x (by rw[hall];simp)
   refine⟨[.v d,.v d,.v x,.v x],[.v d,.v d,.v x,.v x],by rcases o2 with _|o2 <;> rcases o3 with _|o3 <;> rfl,.inl ?_,some x,some x,rfl⟩
   unfold ze4
   rw[zcL (by simp[mNot,zaA,zaf,zab,mNil,mVar,hx])];rfl)
  [.v d,.v d,.no,.no] ⟨none,none,rfl⟩
 have zp:zp7 (zab (mVar 0) (zab (mVar 1) mNil)) [.v d,.v d,.no,.no]=.ok (l.map fun x=>.tup [x,x]):=by
  rw[← zo8]
  rcases hd with rfl|rfl <;> rfl
 have lp:zhy (zbK n) [.v d,.v d,.no,.no]=_:=(zbP zp).trans h1
 have len:∃k:Int,fLen [d]=some (.int k)∨True:=⟨0,.inr trivial⟩
 refine zbp ?_
 show mSeq _ _ [.v d,.v d,.no,.no]=_
 have q1:mIfS (zaA (m1 (oIsi "int") (mRd 1))) (mRet (zit (m1 (oIsi "int") (mRd 0)) (zit (zh9 (m1 (oIsi "bool") (mRd 0))) (m2 oEq (mRd 0) (mRd 1))))) zbb [.v d,.v d,.no,.no]=.nx [.v d,.v d,.no,.no]:=by
  rw[zcL (by rcases hd with rfl|rfl <;> rfl)];rfl
 have q2:mIfS (zaA (m1 (oIsi "str") (mRd 1))) (mRet (zit (m1 (oIsi "str") (mRd 0)) (m2 oEq (mRd 0) (mRd 1)))) zbb [.v d,.v d,.no,.no]=.nx [.v d,.v d,.no,.no]:=by
  rw[zcL (by rcases hd with rfl|rfl <;> rfl)];rfl
 have q3:mIfS (zaA (m1 (oIsi "tuple") (mRd 1))) (mIfS (mNot (zaA (m1 (oIsi "tuple") (mRd 0)))) (mRet (mC (.bl false))) zbb) (mIfS (mNot (zaA (m1 (oIsi "list") (mRd 0)))) (mRet (mC (.bl false))) zbb) [.v d,.v d,.no,.no]=.nx [.v d,.v d,.no,.no]:=by
  rcases hd with rfl|rfl <;> rfl
 have q4:mIfS (zaA (m2 oNe (mCB fLen (zab (mRd 0) mNil)) (mCB fLen (zab (mRd 1) mNil)))) (mRet (mC (.bl false))) zbb [.v d,.v d,.no,.no]=.nx [.v d,.v d,.no,.no]:=by
  rw[zcL (by rcases hd with rfl|rfl <;> simp[zaA,mCB,zab,mNil,mRd])];rfl
 exact (zau q1).trans ((zau q2).trans ((zau q3).trans ((zau q4).trans ((zau lp).trans rfl))))
theorem zi9:∀(n:Nat) (d:D),okA n d=true→zbK n [d,d]=.ok (.bl true)
 | 0,_,h=>by cases h
 | n+1,d,h=>by
  have ih:=zi9 n
  cases d with
  | int i=>
   refine zbp ?_
   show mSeq _ _ [.v (.int i),.v (.int i),.no,.no]=_
   refine zeX ?_
   rw[zd0 rfl]
   simp[mRet,zit,zh9,mRd,oIsi,isiB]
  | str s=>
   refine zbp ?_
   show mSeq _ _ [.v (.str s),.v (.str s),.no,.no]=_
   have q1:mIfS (zaA (m1 (oIsi "int") (mRd 1))) (mRet (zit (m1 (oIsi "int") (mRd 0)) (zit (zh9 (m1 (oIsi "bool") (mRd 0))) (m2 oEq (mRd 0) (mRd 1))))) zbb [.v (.str s),.v (.str s),.no,.no]=.nx [.v (.str s),.v (.str s),.no,.no]:=by
    rw[zcL rfl];rfl
   refine (zau q1).trans (zeX ?_)
   rw[zd0 rfl]
   simp[mRet,zit,mRd,oIsi,isiB,eqS]
  | tup l=>exact zks (.inl rfl) fun x hx=>ih x (List.all_eq_true.mp h x hx)
  | lst l=>exact zks (.inr rfl) fun x hx=>ih x (List.all_eq_true.mp h x hx)
  | _=>cases h
theorem zjd (n:Nat) (l:List Int):okA (n+2) (iL l)=true:=by
 show (l.map D.int).all (okA (n+1))=true
 rw[List.all_map,List.all_eq_true]
 intro x _;rfl
theorem zib {n:Nat} {l:List D} (h:∀x∈l,okA n x=true):okA (n+1) (.lst l)=true:=List.all_eq_true.mpr h
theorem zgO {a b:D} (ha:okA 6 a=true) (hb:okA 6 b=true):okA 7 (.tup [a,b])=true:=by
 show (okA 6 a && (okA 6 b && true))=true
 rw[ha,hb];rfl
def Kd (k:Str) (M:R D):Prop:=∃(L:List (List Str)) (u:Int) (gs:List D) (ws:List Str) (T:List (List Str)),Tx L∧L=(k::ws)::T∧M=.ok (.lst [.lst ((L.map lnT).map .str),.int u,.tup gs]) ∧
 za1 [.str k,zcW L]=.ok (.tup [.int u,.tup gs])∧zaH [.str k,.tup gs]=.ok .non∧gs.all okSp=true∧gs.length≤3∧okA 7 (.tup gs)=true
theorem ziz {l r:List D} (h:l.length+r.length≤100000):oCat (.lst l) (.lst r)=some (.lst (l++r)):=zbf (by rw[sizeLine_eq];omega)
theorem catF {l r:List Fr} (h:l.length+r.length≤100000):oCat (zar l) (zar r)=some (zar (l++r)):=by
 have:=ziz (l:=l.map encF) (r:=r.map encF) (by rw[List.length_map,List.length_map];exact h)
 rw[← List.map_append] at this
 exact this
theorem zmH {i:Int} (h0:0≤i) (h:i<1000000000000):zdE [.int i]=some (.str (dg i)):=zbf (zox h0 (by omega))
theorem zfD {a b:Str} (h:a.length+b.length≤100000):zds (.str a) (.str b)=some (.str (a++b)):=zbf (by rw[sizeLine_eq];omega)
theorem zma (cs:List Int) (k:Nat):∃cl:List Int,cl.length≤k∧∀(m:En→R D) (δ:En),m δ=.ok (iL cs)→mSl m mNoP (zc1 (mC (.int k))) δ=.ok (iL cl):=by
 have key:∃cl:List Int,cl.length≤k∧cutD (cs.map .int) none (some (k:Int))=cl.map .int:=by
  by_cases h:k≤cs.length
  ·exact⟨cs.take k,by simp;omega,by rw[zoN (by rw[List.length_map];exact h),List.map_take]⟩
  ·obtain⟨cl,e,hl⟩:=zmC cs none (some (k:Int))
   exact⟨cl,by omega,e⟩
 obtain⟨cl,h1,h2⟩:=key
 refine⟨cl,h1,fun m δ hm=>?_⟩
 simp only[mSl,hm,R.bind_ok,mNoP,zc1,mC,zoU,R.of_some,iL,asL,h2]
theorem zmd {ws:List Str} (k:Nat) (h:k≤ws.length) {m:En→R D} {δ:En} (hm:m δ=.ok (rowD ws)):mSl m (zc1 (mC (.int k))) mNoP δ=.ok (.lst ((ws.drop k).map .str)):=by
 simp only[mSl,hm,R.bind_ok,mNoP,zc1,mC,zoU,R.of_some,rowD,asL,zoQ h]
theorem zgQ {α:Type} {f:D→R (Option D)} (enc:α→D) (P:Fr→Prop):∀(l:List α),(∀x∈l,∃g:Fr,P g∧f (enc x)=.ok (some (encF g)))→∃r:List Fr,r.length=l.length∧(∀g∈r,P g)∧zc5 f (l.map enc)=.ok (r.map encF)
 | [],_=>⟨[],rfl,by simp,rfl⟩
 | a::l,h=>by
  obtain⟨g,hg,e⟩:=h a (by simp)
  obtain⟨r,h1,h2,h3⟩:=zgQ enc P l fun x hx=>h x (by simp[hx])
  refine⟨g::r,by simp[h1],fun y hy=>?_,?_⟩
  ·rcases List.mem_cons.mp hy with z|z
   ·rw[z];exact hg
   ·exact h2 y z
  ·rw[List.map_cons,zc5,e,R.bind_ok,h3,R.bind_ok];rfl
theorem zoD {f:D→R (Option D)} {l:List Fr} (h:∀g∈l,f (encF g)=.ok (some (.str (wr g)))):zc5 f (l.map encF)=.ok ((l.map wr).map .str):=by
 rw[List.map_map];exact zbi encF (D.str ∘ wr) _ h
theorem zgA {f:D→R (Option D)} {l:List Fr} (h:∀g∈l,f (.str (wr g))=.ok (some (encF g))):zc5 f ((l.map wr).map .str)=.ok (l.map encF):=by
 rw[List.map_map];exact zbi (D.str ∘ wr) encF _ h
theorem row0 (w:List Str) (T:List (List Str)):oIxL (zcW (w::T)) (.int 0)=some (rowD w):=zgF (Int.le_refl 0) rfl
theorem rowN {L:List (List Str)} {k:Nat} {w:List Str} (h:L[k]?=some w):oIxL (zcW L) (.int k)=some (rowD w):=zgF (by omega) (by rw[Int.toNat_natCast,List.getElem?_map,h];rfl)
theorem zjI {ws:List Str} {k:Nat} {w:Str} (h:ws[k]?=some w):oIxL (rowD ws) (.int k)=some (.str w):=zgF (by omega) (by rw[Int.toNat_natCast,List.getElem?_map,h];rfl)
theorem zgS (L:List (List Str)):fLen [zcW L]=some (.int L.length):=by simp[zcW]
theorem zpF (ws:List Str):fLen [rowD ws]=some (.int ws.length):=by simp[rowD]
def ab (f:Fr):Fr:=if f.1=0 then (1,1) else f
theorem zqt {f:Fr} (ok:AmOk f):AmOk (ab f)∧(ab f).1≠0:=by
 unfold ab
 split
 ·exact⟨⟨by decide,by decide,by decide,by decide,by decide⟩,by decide⟩
 ·rename_i h;exact⟨ok,h⟩
theorem zhI (f:Fr):zcl [encF f]=.ok (encF (ab f)):=by
 have i0:oIxT (encF f) (.int 0)=some (.int f.1):=rfl
 refine zbp ?_
 show mSeq _ _ [.v (encF f)]=_
 unfold ab
 by_cases h:f.1=0
 ·rw[if_pos h]
  refine zeX ?_
  rw[zd0 (by simp[zaA,mRd,mC,i0,h])]
  simp[mRet,mTup,zab,mNil,mC,sizeLine,encF]
 ·rw[if_neg h]
  have q:mIfS (zaA (m2 oEq (m2 oIxT (mRd 0) (mC (.int 0))) (mC (.int 0)))) (mRet (mTup (zab (mC (.int 1)) (zab (mC (.int 1)) mNil)))) zbb [.v (encF f)]=.nx [.v (encF f)]:=by
   rw[zcL (by simp[zaA,mRd,mC,i0,h])];rfl
  exact (zau q).trans rfl
theorem zfH (cl:List Int):zgV (cl.map D.int)=cl.zipIdx.map encE:=by rw[zmv,List.zipIdx_map,List.map_map];rfl
theorem zj2 {α:Type} (f g:α→D) (l:List α):zipD (l.map f) (l.map g)=l.map fun x=>.tup [f x,g x]:=by
 induction l with
 | nil=>rfl
 | cons a l ih=>simp only[List.map_cons,zipD,List.zipWith_cons_cons] at ih ⊢;rw[ih]
theorem zjl {α β:Type}:∀ {l:List α} {r:List β},l.length=r.length→∃p:List (α×β),l=p.map (·.1)∧r=p.map (·.2)
 | [],[],_=>⟨[],rfl,rfl⟩
 | a::l,b::r,h=>by
  obtain⟨p,h1,h2⟩:=zjl (l:=l) (r:=r) (by simpa using h)
  exact⟨(a,b)::p,by simp[← h1],by simp[← h2]⟩
theorem rngZ {α:Type} (l:List α) (h:l.length≤1000):rng [.int 1,.int ((l.length:Int)+1)]=some (l.zipIdx.map fun q=>.int ((q.2:Int)+1)):=by
 rw[rngB h]
 congr 1
 apply List.ext_getElem?
 intro i
 rw[List.getElem?_map,List.getElem?_map,List.getElem?_zipIdx]
 by_cases hi:i<l.length
 ·rw[zjx hi,List.getElem?_eq_getElem hi];simp
 ·rw[List.getElem?_eq_none_iff.mpr (by rw[zcs];omega),List.getElem?_eq_none_iff.mpr (show l.length≤i by omega)];rfl
theorem zcQ {u:Nat} {l:List Fr} (ok:∀f∈l,AmOk f) (ud:∀f∈l,f.2∣(u:Int)) (u1:u≤27720) (hl:l.length≤1000):zaL [zar l,.int u]=.ok (iL (l.map (by1 u))):=by
 refine zdp ?_
 show zck zdn [.v (zar l),.v (.int u)]=_
 have k:zdn [.v (zar l),.v (.int u)]=.ok (iL (l.map (by1 u))):=by
  refine Eq.trans (zaZ (l:=l.map encF) (r:=l.map fun f=>.int (by1 u f)) (by simp[mItL,mRd,zar]) (by rw[List.length_map];omega) ?_) (by simp[iL])
  refine zbi encF (fun f=>.int (by1 u f)) _ fun f hf=>?_
  have o:=ok f hf
  have h1:=o.lo
  have h2:=o.hi
  have h3:=o.b0
  have h4:=o.b1
  have ft:Fit f.1:=fitN (10 ^ 12) (by omega)
  have fu:Fit (u:Int):=fitN (10 ^ 6) (by rw[Int.natAbs_natCast];omega)
  have fb:Fit f.2:=fitN 1000 (by omega)
  have e:f.1*(u:Int)/f.2=by1 u f:=Int.mul_ediv_assoc _ (ud f hf)
  simp[zcn,zbl,zlH,encF,bTup,zbj,bNil,zaE,mRd,zdX ft fu,zdk (show (0:Int)<f.2 by omega) fb,e]
 simp[zck,k]
theorem zpE {u:Nat} {f:Fr} (ok:AmOk f) (hu:u≤27720):0≤by1 u f∧by1 u f≤1000000000000000000:=by
 have h1:=ok.lo
 have h2:=ok.hi
 have h3:=ok.b0
 have q0:0≤(u:Int)/f.2:=Int.ediv_nonneg (by omega) (by omega)
 have q1:(u:Int)/f.2≤u:=Int.ediv_le_self _ (by omega)
 refine⟨Int.mul_nonneg h1 q0,?_⟩
 have:=Int.mul_le_mul (show f.1≤1000000000000 by omega) (show (u:Int)/f.2≤27720 by omega) q0 (by decide)
 show f.1*((u:Int)/f.2)≤_
 omega
theorem zli {u:Nat} {f:Fr} (h:f.2∣(u:Int)):by1 u f*f.2=f.1*u:=by
 unfold by1
 rw[Int.mul_assoc,Int.ediv_mul_cancel h]
end My
namespace My
open PySem L2 PM
theorem zir (cs:List Int):∃fs:List Fr,fs.length≤20∧(∀f∈fs,AmOk f∧f.1≠0)∧∀(δ:En),δ[0]?=some (.v (iL cs))→zdd δ=.ok (zar fs):=by
 obtain⟨cl,hl,sl⟩:=zma cs 20
 obtain⟨r,h1,h2,h3⟩:=zgQ (f:=zcn (bTup 2 (zbj (zaE 0) (zbj (zaE 1) bNil))) none (zaf zcl (zab (zaf zbe (zab (mVar 1) (zab (mVar 0) mNil))) mNil)) [.no,.no]) encE (fun f=>AmOk f∧f.1≠0) cl.zipIdx (fun q hq=>by
  have qk:q.2<20:=by
   have:=List.snd_lt_of_mem_zipIdx hq
   omega
  obtain⟨f,ok,hf⟩:=zeT q.1 (q.2:Int) (by omega) (by omega)
  refine⟨ab f,zqt ok,?_⟩
  simp[zcn,encE,bTup,zbj,bNil,zaE,zaf,zab,mNil,mVar,hf,zhI])
 rw[List.length_zipIdx] at h1
 refine⟨r,by omega,h2,fun δ hd=>?_⟩
 refine Eq.trans (zaZ (l:=cl.zipIdx.map encE) (r:=r.map encF) ?_ (by rw[List.length_map,List.length_zipIdx];omega) ?_) rfl
 ·have s:mSl (mRd 0) mNoP (zc1 (mC (.int 20))) δ=.ok (iL cl):=sl (mRd 0) δ (by simp[mRd,hd])
  simp only[zgk,zab,mNil,s,R.bind_ok]
  show R.of (some (zgV (cl.map D.int)))=_
  rw[zfH,R.of_some]
 ·exact h3
theorem zix {l:List Fr} (ok:∀f∈l,AmOk f):zc5 (zcn (zaE 0) none (zaf zaF (zab (mVar 0) mNil)) [.no]) (l.map encF)=.ok ((l.map wr).map .str):=
 zoD fun g hg=>by simp[zcn,zaE,zaf,zab,mNil,mVar,wrt (ok g hg)]
theorem zpw {ws:List Str} (h:Ln ws):Tx [ws]:=⟨by simp,by simp,fun x hx=>by rw[List.mem_singleton.mp hx];exact h⟩
theorem zmr {a b:Str} {l:List Fr} (ha:Wd a) (hb:Wd b) (ok:∀f∈l,AmOk f) (hl:l.length≤50):Ln (a::b::l.map wr):=by
 refine⟨by simp,by simp;omega,fun w hw=>?_⟩
 rcases List.mem_cons.mp hw with e|hw
 ·rw[e];exact ha
 rcases List.mem_cons.mp hw with e|hw
 ·rw[e];exact hb
 ·obtain⟨f,hf,rfl⟩:=List.mem_map.mp hw
  exact zjT (ok f hf)
theorem znc:Wd "benches":=⟨by decide +kernel,by decide +kernel,by decide +kernel⟩
theorem zqA:Wd "bins":=⟨by decide +kernel,by decide +kernel,by decide +kernel⟩
theorem zpo:Wd "cover":=⟨by decide +kernel,by decide +kernel,by decide +kernel⟩
theorem zoX:Wd "touch":=⟨by decide +kernel,by decide +kernel,by decide +kernel⟩
theorem zoS:Wd "round":=⟨by decide +kernel,by decide +kernel,by decide +kernel⟩
theorem zov:Wd "places":=⟨by decide +kernel,by decide +kernel,by decide +kernel⟩
theorem zp5:Wd "sack":=⟨by decide +kernel,by decide +kernel,by decide +kernel⟩
theorem zpg {X Y:D} (h:zdi [X]=.ok Y):za1 [.str "cover",X]=.ok Y:=by
 simp[za1,runF,zbz,zcz,mSeq,mIfS,zaA,mRd,mC,eqS,zbb,mRet,zaf,zab,mNil,mVar,h]
theorem zpf {X Y:D} (h:zdj [X]=.ok Y):za1 [.str "touch",X]=.ok Y:=by
 simp[za1,runF,zbz,zcz,mSeq,mIfS,zaA,mRd,mC,neS (show ("touch" : Str)≠"cover" by decide +kernel),eqS,zbb,mRet,zaf,zab,mNil,mVar,h]
theorem zo1 {X Y:D} (h:zdg [X]=.ok Y):za1 [.str "round",X]=.ok Y:=by
 simp[za1,runF,zbz,zcz,mSeq,mIfS,zaA,mRd,mC,neS (show ("round" : Str)≠"cover" by decide +kernel),neS (show ("round" : Str)≠"touch" by decide +kernel),eqS,zbb,mRet,zaf,zab,mNil,mVar,h]
theorem znm {X Y:D} (h:zcX [X]=.ok Y):za1 [.str "places",X]=.ok Y:=by
 simp[za1,runF,zbz,zcz,mSeq,mIfS,zaA,mRd,mC,neS (show ("places" : Str)≠"cover" by decide +kernel),neS (show ("places" : Str)≠"touch" by decide +kernel),neS (show ("places" : Str)≠"round" by decide +kernel),eqS,zbb,mRet,zaf,zab,mNil,mVar,h]
theorem zm2 {X Y:D} (h:zcF [X]=.ok Y):za1 [.str "benches",X]=.ok Y:=by
 simp[za1,runF,zbz,zcz,mSeq,mIfS,zaA,mRd,mC,neS (show ("benches" : Str)≠"cover" by decide +kernel),neS (show ("benches" : Str)≠"touch" by decide +kernel),neS (show ("benches" : Str)≠"round" by decide +kernel),neS (show ("benches" : Str)≠"places" by decide +kernel),eqS,zbb,mRet,zaf,zab,mNil,mVar,h]
theorem zqs {X Y:D} (h:zdB [X]=.ok Y):za1 [.str "bins",X]=.ok Y:=by
 simp[za1,runF,zbz,zcz,mSeq,mIfS,zaA,mRd,mC,neS (show ("bins" : Str)≠"cover" by decide +kernel),neS (show ("bins" : Str)≠"touch" by decide +kernel),neS (show ("bins" : Str)≠"round" by decide +kernel),neS (show ("bins" : Str)≠"places" by decide +kernel),neS (show ("bins" : Str)≠"benches" by decide +kernel),eqS,zbb,mRet,zaf,zab,mNil,mVar,h]
theorem zqz {X Y:D} (h:zdG [X]=.ok Y):za1 [.str "sack",X]=.ok Y:=by
 simp[za1,runF,zbz,zcz,mSeq,mIfS,zaA,mRd,mC,neS (show ("sack" : Str)≠"cover" by decide +kernel),neS (show ("sack" : Str)≠"touch" by decide +kernel),neS (show ("sack" : Str)≠"round" by decide +kernel),neS (show ("sack" : Str)≠"places" by decide +kernel),neS (show ("sack" : Str)≠"benches" by decide +kernel),neS (show ("sack" : Str)≠"bins" by decide +kernel),eqS,zbb,mRet,zaf,zab,mNil,mVar,h]
theorem zph {G:D}:zaH [.str "touch",G]=.ok .non:=by
 simp[zaH,runF,zbz,zbN,mIfS,mOr,zaA,mRd,mC,neS (show ("touch" : Str)≠"cover" by decide +kernel),neS (show ("touch" : Str)≠"round" by decide +kernel),neS (show ("touch" : Str)≠"places" by decide +kernel),neS (show ("touch" : Str)≠"bins" by decide +kernel),zbb]
theorem zmK {G:D}:zaH [.str "benches",G]=.ok .non:=by
 simp[zaH,runF,zbz,zbN,mIfS,mOr,zaA,mRd,mC,neS (show ("benches" : Str)≠"cover" by decide +kernel),neS (show ("benches" : Str)≠"round" by decide +kernel),neS (show ("benches" : Str)≠"places" by decide +kernel),neS (show ("benches" : Str)≠"bins" by decide +kernel),zbb]
theorem zqi {G:D}:zaH [.str "sack",G]=.ok .non:=by
 simp[zaH,runF,zbz,zbN,mIfS,mOr,zaA,mRd,mC,neS (show ("sack" : Str)≠"cover" by decide +kernel),neS (show ("sack" : Str)≠"round" by decide +kernel),neS (show ("sack" : Str)≠"places" by decide +kernel),neS (show ("sack" : Str)≠"bins" by decide +kernel),zbb]
theorem zo7 {a b:D} (h:zb0 [a,b]=.ok .non):zaH [.str "cover",.tup [a,b]]=.ok .non:=by
 have i0:oIxT (.tup [a,b]) (.int 0)=some a:=rfl
 have i1:oIxT (.tup [a,b]) (.int 1)=some b:=rfl
 simp[zaH,runF,zbz,zbN,mIfS,mOr,zaA,mRd,mC,eqS,mDo,zaf,zab,mNil,i0,i1,h]
theorem zoR {a:D} (h:zdo [a]=.ok .non):zaH [.str "round",.tup [a]]=.ok .non:=by
 have i0:oIxT (.tup [a]) (.int 0)=some a:=rfl
 simp[zaH,runF,zbz,zbN,mIfS,mOr,zaA,mRd,mC,eqS,neS (show ("round" : Str)≠"cover" by decide +kernel),neS (show ("round" : Str)≠"places" by decide +kernel),neS (show ("round" : Str)≠"bins" by decide +kernel),mDo,zaf,zab,mNil,i0,h]
theorem znk {a b:D} (h:zdo [a]=.ok .non):zaH [.str "places",.tup [a,b]]=.ok .non:=by
 have i0:oIxT (.tup [a,b]) (.int 0)=some a:=rfl
 simp[zaH,runF,zbz,zbN,mIfS,mOr,zaA,mRd,mC,eqS,neS (show ("places" : Str)≠"cover" by decide +kernel),neS (show ("places" : Str)≠"round" by decide +kernel),neS (show ("places" : Str)≠"bins" by decide +kernel),mDo,zaf,zab,mNil,i0,h]
theorem zqg {a b:D} (h:zbW [a,b]=.ok .non):zaH [.str "bins",.tup [a,b]]=.ok .non:=by
 have i0:oIxT (.tup [a,b]) (.int 0)=some a:=rfl
 have i1:oIxT (.tup [a,b]) (.int 1)=some b:=rfl
 simp[zaH,runF,zbz,zbN,mIfS,mOr,zaA,mRd,mC,eqS,neS (show ("bins" : Str)≠"cover" by decide +kernel),neS (show ("bins" : Str)≠"round" by decide +kernel),neS (show ("bins" : Str)≠"places" by decide +kernel),mDo,zaf,zab,mNil,i0,i1,h]
theorem zic {fs:List Fr} {m:Int} (ok:∀f∈fs,AmOk f∧f.1≠0) (hl:fs.length≤40) (m0:1≤m) (m1:m≤20):zcF [zcW [("benches" : Str)::dg m::fs.map wr]]=.ok (.tup [.int (un fs),.tup [iL (fs.map (by1 (un fs))),.int m]]):=by
 have ok':∀f∈fs,AmOk f:=fun f hf=>(ok f hf).1
 have up:=(zf9 ok').1
 obtain⟨ws,ews⟩:∃ws:List Str,ws=("benches" : Str)::dg m::fs.map wr:=⟨_,rfl⟩
 have wl:ws.length=fs.length+2:=by rw[ews];simp
 have r0:=row0 ws []
 have rl:=zgS [ws]
 have w1:oIxL (rowD ws) (.int 1)=some (.str (dg m)):=zjI (k:=1) (by rw[ews];rfl)
 have dr:ws.drop 2=fs.map wr:=by rw[ews];rfl
 rw[← ews]
 obtain⟨Rs,eR⟩:∃Rs,Rs=zcW [ws]:=⟨_,rfl⟩
 rw[← eR] at r0 rl ⊢
 have wc:=zd4 (ws:=ws) (lo:=2) (hi:=42) (line:=0) (by omega) (by omega)
 have nb:=zdh (n:=m) (lo:=1) (hi:=20) (line:=0) (by omega) (by omega) m0 m1
 have k:∀δ:En,δ[0]?=some (.v Rs)→zfB δ=.ok (zar fs):=fun δ hd=>by
  have sl:mSl (m2 oIxL (mRd 0) (mC (.int 0))) (zc1 (mC (.int 2))) mNoP δ=_:=zmd (ws:=ws) 2 (by omega) (by simp[mRd,mC,hd,r0])
  rw[dr] at sl
  refine Eq.trans (zaZ (l:=(fs.map wr).map .str) (r:=fs.map encF) (by simp only[mItL,sl,R.bind_ok];rfl) (by rw[List.length_map,List.length_map];omega) ?_) rfl
  exact zgA fun f hf=>by simp[zcn,zbl,zaE,zaf,zab,mNil,mVar,mC,zgc (ok f hf).1 (ok f hf).2]
 have ab:=zgL (u:=un fs) ok' up.2 (by omega)
 refine zbp ?_
 show mSeq _ _ [.v Rs,.no,.no,.no]=_
 refine sd (by
  simp[zaf,zab,mNil,mRd,mC,r0,wc]) ?_
 refine sq (d:=.int m) (by simp[zaf,zab,mNil,mRd,mC,r0,w1,nb]) rfl ?_
 try dsimp only[List.set]
 refine sq (d:=zar fs) (k _ rfl) rfl ?_
 try dsimp only[List.set]
 refine sd (by
  simp[zaf,zab,mNil,mRd,mC,mCB,rl,zbZ]) ?_
 refine sq (d:=.int (un fs)) (by simp[zaf,zab,mNil,mVar,zd6 ok']) rfl ?_
 try dsimp only[List.set]
 simp[mRet,mTup,zaf,zab,mNil,mVar,ab,sizeLine]
theorem zkJ (cs:List Int) {c:Int} (c0:0≤c):Kd "benches" (zbn [iL cs,.int c,.str "benches"]):=by
 obtain⟨fs,hl,ok,hk⟩:=zir cs
 have ok':∀f∈fs,AmOk f:=fun f hf=>(ok f hf).1
 have m0:=zcq c (show (0:Int)<20 by decide)
 have m1:=zcp c (show (0:Int)<20 by decide)
 obtain⟨m,em⟩:∃m,m=1+c%20:=⟨_,rfl⟩
 have wm:Wd (dg m):=zla (by omega) (by omega)
 have ln:Ln (("benches" : Str)::dg m::fs.map wr):=zmr znc wm ok' (by omega)
 obtain⟨C,eC⟩:∃C,C=iL cs:=⟨_,rfl⟩
 rw[← eC] at hk ⊢
 have sm:zdE [.int m]=some (.str (dg m)):=zmH (by omega) (by omega)
 have ab:=zfc ok' (by omega)
 refine⟨[("benches" : Str)::dg m::fs.map wr],un fs,[iL (fs.map (by1 (un fs))),.int m],dg m::fs.map wr,[],zpw ln,rfl,zdp ?_,zm2 (zic ok (by omega) (by omega) (by omega)),zmK,?_,by simp,?_⟩
 case refine_2=>simp[okSp,iL];omega
 case refine_3=>exact zgO (zjd _ _) rfl
 have q1:mAsg zdd (zat 3) [.v (C),.v (.int c),.v (.str "benches"),.no,.no,.no,.no,.no,.no]=.nx [.v (C),.v (.int c),.v (.str "benches"),.v (zar fs),.no,.no,.no,.no,.no]:=zaT (d:=zar fs) (hk _ rfl) rfl
 refine (zau q1).trans (zlS ?_)
 rw[zd0 (by simp[zaA,mRd,mC,eqS])]
 show mSeq _ _ [.v (C),.v (.int c),.v (.str "benches"),.v (zar fs),.no,.no,.no,.no,.no]=_
 refine sq (d:=.int (un fs)) (by simp[zaf,zab,mNil,mVar,zda ok']) rfl ?_
 try dsimp only[List.set]
 refine sq (d:=.int m) (by simp[mRd,mC,zbV,em]) rfl ?_
 try dsimp only[List.set]
 have k2:zc8 [.v (C),.v (.int c),.v (.str "benches"),.v (zar fs),.v (.int (un fs)),.v (.int m),.no,.no,.no]=.ok (.lst ((fs.map wr).map .str)):=zaZ (l:=fs.map encF) (by simp[mItL,mRd,zar]) (by rw[List.length_map];omega) (zix ok')
 have jn:zeD " " (m2 oCat (mLst (zab (mVar 2) (zab (mCB zdE (zab (mRd 5) mNil)) mNil))) zc8) [.v (C),.v (.int c),.v (.str "benches"),.v (zar fs),.v (.int (un fs)),.v (.int m),.no,.no,.no]=.ok (.str (lnT (("benches" : Str)::dg m::fs.map wr))):=by
  have ct:=ziz (l:=[.str "benches",.str (dg m)]) (r:=(fs.map wr).map .str) (by simp;omega)
  have ll:mLst (zab (mVar 2) (zab (mCB zdE (zab (mRd 5) mNil)) mNil)) [.v (C),.v (.int c),.v (.str "benches"),.v (zar fs),.v (.int (un fs)),.v (.int m),.no,.no,.no]=.ok (.lst [.str "benches",.str (dg m)]):=by simp[mLst,zab,mNil,mVar,mCB,mRd,sm,sizeLine]
  simp only[zeD,zel,ll,k2,R.bind_ok,ct,R.of_some]
  exact zg1 ln
 refine sq (d:=.lst [.str (lnT (("benches" : Str)::dg m::fs.map wr))]) (by simp only[mLst,zab,mNil,jn,R.bind_ok];exact zbf (by simp[sizeLine])) rfl ?_
 try dsimp only[List.set]
 simp[zck,mLst,mTup,zaf,zab,mNil,mVar,ab,sizeLine]
end My
namespace My
open PySem L2 PM
theorem zkw {fs:List Fr} {f0:Fr} (ok:∀f∈f0::fs,AmOk f∧f.1≠0) (hl:fs.length≤40):zdB [zcW [("bins" : Str)::(f0::fs).map wr]]=.ok (.tup [.int (un (f0::fs)),.tup [iL (fs.map (by1 (un (f0::fs)))),.int (by1 (un (f0::fs)) f0)]]):=by
 have ok':∀f∈f0::fs,AmOk f:=fun f hf=>(ok f hf).1
 have up:=(zf9 ok').1
 obtain⟨gs,eg⟩:∃gs,gs=f0::fs:=⟨_,rfl⟩
 have gl:gs.length=fs.length+1:=by rw[eg];simp
 obtain⟨ws,ews⟩:∃ws:List Str,ws=("bins" : Str)::gs.map wr:=⟨_,rfl⟩
 have wl:ws.length=fs.length+2:=by rw[ews];simp[gl]
 have r0:=row0 ws []
 have rl:=zgS [ws]
 have dr:ws.drop 1=gs.map wr:=by rw[ews];rfl
 have cut:iL (gs.map (by1 (un gs)))=.lst (.int (by1 (un gs) f0)::(fs.map (by1 (un gs))).map .int):=by rw[eg];rfl
 rw[← eg] at ok ok' up ⊢
 rw[← ews]
 obtain⟨Rs,eR⟩:∃Rs,Rs=zcW [ws]:=⟨_,rfl⟩
 rw[← eR] at r0 rl ⊢
 have wc:=zd4 (ws:=ws) (lo:=2) (hi:=42) (line:=0) (by omega) (by omega)
 have k:∀δ:En,δ[0]?=some (.v Rs)→zhA δ=.ok (zar gs):=fun δ hd=>by
  have sl:mSl (m2 oIxL (mRd 0) (mC (.int 0))) (zc1 (mC (.int 1))) mNoP δ=_:=zmd (ws:=ws) 1 (by omega) (by simp[mRd,mC,hd,r0])
  rw[dr] at sl
  refine Eq.trans (zaZ (l:=(gs.map wr).map .str) (r:=gs.map encF) (by simp only[mItL,sl,R.bind_ok];rfl) (by rw[List.length_map,List.length_map];omega) ?_) rfl
  exact zgA fun f hf=>by simp[zcn,zbl,zaE,zaf,zab,mNil,mVar,mC,zgc (ok f hf).1 (ok f hf).2]
 have ab:=zgL (u:=un gs) ok' up.2 (by omega)
 obtain⟨u,eu⟩:∃u,u=un gs:=⟨_,rfl⟩
 have uo:=zd6 ok'
 rw[← eu] at ab cut uo ⊢
 rw[cut] at ab
 have sz:iL (fs.map (by1 u))=.lst ((fs.map (by1 u)).map .int):=rfl
 rw[sz]
 obtain⟨x,ex⟩:∃x,x=by1 u f0:=⟨_,rfl⟩
 obtain⟨y,ey⟩:∃y,y=(fs.map (by1 u)).map D.int:=⟨_,rfl⟩
 rw[← ex,← ey] at ab
 rw[← ex,← ey]
 refine zbp ?_
 show mSeq _ _ [.v Rs,.no,.no,.no,.no]=_
 refine sd (by
  simp[zaf,zab,mNil,mRd,mC,r0,wc]) ?_
 refine sq (d:=zar gs) (k _ rfl) rfl ?_
 try dsimp only[List.set]
 refine sd (by
  simp[zaf,zab,mNil,mRd,mC,mCB,rl,zbZ]) ?_
 refine sq (d:=.int u) (by simp[zaf,zab,mNil,mVar,uo]) rfl ?_
 try dsimp only[List.set]
 refine sq (d:=.lst (.int x::y)) (by simp[zaf,zab,mNil,mVar,ab]) rfl ?_
 try dsimp only[List.set]
 refine sx (δ2:=[.v Rs,.v (zar gs),.v (.int u),.o (.lst y),.v (.int x)]) rfl ?_
 simp[mFrz,mRet,mTup,zab,mNil,mVar,sizeLine]
theorem zk2 {l:List Int} {r:Int} (h:∀x∈l,x≤r):zbW [iL l,.int r]=.ok .non:=by
 obtain⟨δ,h1,o2,o3,rfl⟩:=zbh (b:=bTup 2 (zbj (zat 2) (zbj (zat 3) bNil))) (m:=zcZ) encE (fun _ δ=>∃o2 o3,δ=[.v (iL l),.v (.int r),sv o2,sv o3]) l.zipIdx
  (by
   rintro pre q post δ hall ⟨o2,o3,rfl⟩
   have hk:=(zbR hall).2.1
   have hq:=h q.1 (List.mem_of_getElem? hk)
   refine⟨[.v (iL l),.v (.int r),.v (.int q.2),.v (.int q.1)],[.v (iL l),.v (.int r),.v (.int q.2),.v (.int q.1)],by rcases o2 with _|o2 <;> rcases o3 with _|o3 <;> rfl,.inl ?_,some _,some _,rfl⟩
   unfold zcZ
   have t:¬ r<q.1:=by omega
   rw[zcL (by simp[zaA,mRd,t])];rfl)
  [.v (iL l),.v (.int r),.no,.no] ⟨none,none,rfl⟩
 have lp:zd7 [.v (iL l),.v (.int r),.no,.no]=_:=(zbP (zom (i:=0) rfl)).trans h1
 exact zls lp
theorem zsb {u:Nat} {f g:Fr} (hf:AmOk f) (hg:AmOk g) (d1:f.2∣(u:Int)) (d2:g.2∣(u:Int)) (h:f.1*g.2≤g.1*f.2):by1 u f≤by1 u g:=by
 have e1:=zli d1
 have e2:=zli d2
 have p1:=hf.b0
 have p2:=hg.b0
 obtain⟨x,ex⟩:∃x,x=by1 u f:=⟨_,rfl⟩
 obtain⟨y,ey⟩:∃y,y=by1 u g:=⟨_,rfl⟩
 rw[← ex] at e1 ⊢
 rw[← ey] at e2 ⊢
 have k1:x*f.2*g.2=f.1*g.2*u:=by rw[e1];grind
 have k2:y*f.2*g.2=g.1*f.2*u:=by
  have:y*f.2*g.2=y*g.2*f.2:=by grind
  rw[this,e2];grind
 have k3:f.1*g.2*(u:Int)≤g.1*f.2*u:=Int.mul_le_mul_of_nonneg_right h (by omega)
 have k4:x*(f.2*g.2)≤y*(f.2*g.2):=by rw[← Int.mul_assoc,← Int.mul_assoc,k1,k2];exact k3
 exact Int.le_of_mul_le_mul_right k4 (Int.mul_pos (by omega) (by omega))
theorem znn (cs:List Int) {c:Int} (c0:0≤c):Kd "bins" (zbn [iL cs,.int c,.str "bins"]):=by
 obtain⟨fs,hl,ok,hk⟩:=zir cs
 have ok':∀f∈fs,AmOk f:=fun f hf=>(ok f hf).1
 obtain⟨p,pok,hp⟩:=zeT c 70 (by decide) (by decide)
 obtain⟨C,eC⟩:∃C,C=iL cs:=⟨_,rfl⟩
 rw[← eC] at hk ⊢
 obtain⟨δ,h1,f0,o8,rfl,ok0,big⟩:=zbh (b:=zat 8) (m:=zdY) encF (fun pre δ=>∃(f0:Fr) (o8:Option D),δ=[.v C,.v (.int c),.v (.str "bins"),.v (zar fs),.no,.no,.no,.v (encF f0),sv o8]∧(AmOk f0∧f0.1≠0)∧∀f∈pre,f.1*f0.2≤f0.1*f.2) fs
  (by
   rintro pre f post δ hall ⟨f0,o8,rfl,ok0,big⟩
   have okf:=ok f (by rw[hall];simp)
   have a1:=okf.1.lo
   have a2:=okf.1.hi
   have a3:=okf.1.b0
   have a4:=okf.1.b1
   have b1:=ok0.1.lo
   have b2:=ok0.1.hi
   have b3:=ok0.1.b0
   have b4:=ok0.1.b1
   have t1:Fit f.1:=fitN (10 ^ 12) (by omega)
   have t2:Fit f.2:=fitN 1000 (by omega)
   have t3:Fit f0.1:=fitN (10 ^ 12) (by omega)
   have t4:Fit f0.2:=fitN 1000 (by omega)
   have i0:oIxT (encF f) (.int 0)=some (.int f.1):=rfl
   have i1:oIxT (encF f) (.int 1)=some (.int f.2):=rfl
   have j0:oIxT (encF f0) (.int 0)=some (.int f0.1):=rfl
   have j1:oIxT (encF f0) (.int 1)=some (.int f0.2):=rfl
   have tt:zaA (m2 oLt (m2 oMul (m2 oIxT (mRd 7) (mC (.int 0))) (m2 oIxT (mRd 8) (mC (.int 1)))) (m2 oMul (m2 oIxT (mRd 8) (mC (.int 0))) (m2 oIxT (mRd 7) (mC (.int 1))))) [.v C,.v (.int c),.v (.str "bins"),.v (zar fs),.no,.no,.no,.v (encF f0),.v (encF f)]=.ok (decide (f0.1*f.2<f.1*f0.2)):=by
    simp[zaA,mRd,mC,i0,i1,j0,j1,zdX t3 t2,zdX t1 t4]
   by_cases h:f0.1*f.2<f.1*f0.2
   ·refine⟨[.v C,.v (.int c),.v (.str "bins"),.v (zar fs),.no,.no,.no,.v (encF f0),.v (encF f)],_,za5 rfl,.inl ((zd0 (by rw[tt,decide_eq_true h])).trans (zaT (d:=encF f) rfl rfl)),f,some (encF f),rfl,okf,fun g hg=>?_⟩
    rcases List.mem_append.mp hg with z|z
    ·have k:=big g z
     have g3:=(ok g (by rw[hall];exact List.mem_append_left _ z)).1.b0
     have k1:g.1*f0.2*f.2≤f0.1*g.2*f.2:=Int.mul_le_mul_of_nonneg_right k (by omega)
     have k2:f0.1*f.2*g.2≤f.1*f0.2*g.2:=Int.mul_le_mul_of_nonneg_right (by omega) (by omega)
     have k3:g.1*f.2*f0.2≤f.1*g.2*f0.2:=by
      have e1:g.1*f.2*f0.2=g.1*f0.2*f.2:=by grind
      have e2:f0.1*g.2*f.2=f0.1*f.2*g.2:=by grind
      have e3:f.1*g.2*f0.2=f.1*f0.2*g.2:=by grind
      omega
     exact Int.le_of_mul_le_mul_right k3 (by omega)
    ·rw[List.mem_singleton.mp z];exact Int.le_refl _
   ·refine⟨[.v C,.v (.int c),.v (.str "bins"),.v (zar fs),.no,.no,.no,.v (encF f0),.v (encF f)],_,za5 rfl,.inl ((zcL (by rw[tt,decide_eq_false h])).trans rfl),f0,some (encF f),rfl,ok0,fun g hg=>?_⟩
    rcases List.mem_append.mp hg with z|z
    ·exact big g z
    ·rw[List.mem_singleton.mp z];omega)
  [.v C,.v (.int c),.v (.str "bins"),.v (zar fs),.no,.no,.no,.v (encF (ab p)),.no] ⟨ab p,none,rfl,zqt pok,by simp⟩
 have okA0:∀f∈f0::fs,AmOk f∧f.1≠0:=fun f hf=>by
  rcases List.mem_cons.mp hf with e|e
  ·rw[e];exact ok0
  ·exact ok f e
 have okA1:∀f∈f0::fs,AmOk f:=fun f hf=>(okA0 f hf).1
 have pm:un (fs++[f0])=un (f0::fs):=znz (List.perm_append_comm (l₁:=fs) (l₂:=[f0]))
 have okB:∀f∈fs++[f0],AmOk f:=fun f hf=>by
  rcases List.mem_append.mp hf with e|e
  ·exact ok' f e
  ·rw[List.mem_singleton.mp e];exact ok0.1
 have lu:=zda okB
 rw[pm] at lu
 obtain⟨⟨u0,u1⟩,ud⟩:=zf9 okA1
 have rb:=zkw okA0 (by omega)
 obtain⟨u,eu⟩:∃u,u=un (f0::fs):=⟨_,rfl⟩
 rw[← eu] at lu u0 u1 ud rb
 have ln:Ln (("bins" : Str)::(f0::fs).map wr):=zmr zqA (zjT ok0.1) ok' (by omega)
 have ab1:=zcQ (u:=u) ok' (fun f hf=>ud f (by simp[hf])) u1 (by omega)
 have ab2:=zcQ (u:=u) (l:=[f0]) (fun f hf=>by rw[List.mem_singleton.mp hf];exact ok0.1) (fun f hf=>ud f (by rw[List.mem_singleton.mp hf];simp)) u1 (by simp)
 refine⟨[("bins" : Str)::(f0::fs).map wr],u,[iL (fs.map (by1 u)),.int (by1 u f0)],(f0::fs).map wr,[],zpw ln,rfl,zdp ?_,zqs rb,zqg (zk2 fun x hx=>?_),?_,by simp,?_⟩
 case refine_2=>
  obtain⟨f,hf,rfl⟩:=List.mem_map.mp hx
  exact zsb (ok' f hf) ok0.1 (ud f (by simp[hf])) (ud f0 (by simp)) (big f hf)
 case refine_3=>simp[okSp,iL];omega
 case refine_4=>exact zgO (zjd _ _) rfl
 show mSeq _ _ [.v C,.v (.int c),.v (.str "bins"),.no,.no,.no,.no,.no,.no]=_
 refine sq (d:=zar fs) (hk _ rfl) rfl ?_
 try dsimp only[List.set]
 refine sx ((zcL (by simp[zaA,mRd,mC,neS (show ("bins" : Str)≠"benches" by decide +kernel)])).trans rfl) ?_
 refine sq (d:=encF (ab p)) (by simp[zaf,zab,mNil,mVar,mC,hp,zhI]) rfl ?_
 try dsimp only[List.set]
 refine sx ((zbP (by simp[mItL,mVar,zar])).trans h1) ?_
 refine sq (d:=.int u) (by
  have ct:oCat (zar fs) (.lst [encF f0])=some (zar (fs++[f0])):=by
   have:=ziz (l:=fs.map encF) (r:=[encF f0]) (by simp;omega)
   simpa[zar] using this
  simp[zaf,zab,mNil,mRd,mVar,mLst,sizeLine,ct,lu]) rfl ?_
 try dsimp only[List.set]
 have k2:zde [.v C,.v (.int c),.v (.str "bins"),.v (zar fs),.v (.int u),.no,.no,.v (encF f0),sv o8]=.ok (.lst ((fs.map wr).map .str)):=zaZ (l:=fs.map encF) (by simp[mItL,mRd,zar]) (by rw[List.length_map];omega) (zix ok')
 have jn:zeD " " (m2 oCat (mLst (zab (mVar 2) (zab (zaf zaF (zab (mVar 7) mNil)) mNil))) zde) [.v C,.v (.int c),.v (.str "bins"),.v (zar fs),.v (.int u),.no,.no,.v (encF f0),sv o8]=.ok (.str (lnT (("bins" : Str)::(f0::fs).map wr))):=by
  have ct:=ziz (l:=[.str "bins",.str (wr f0)]) (r:=(fs.map wr).map .str) (by simp;omega)
  have ll:mLst (zab (mVar 2) (zab (zaf zaF (zab (mVar 7) mNil)) mNil)) [.v C,.v (.int c),.v (.str "bins"),.v (zar fs),.v (.int u),.no,.no,.v (encF f0),sv o8]=.ok (.lst [.str "bins",.str (wr f0)]):=by simp[mLst,zab,mNil,mVar,zaf,wrt ok0.1,sizeLine]
  simp only[zeD,zel,ll,k2,R.bind_ok,ct,R.of_some]
  exact zg1 ln
 refine sq (d:=.lst [.str (lnT (("bins" : Str)::(f0::fs).map wr))]) (by simp only[mLst,zab,mNil,jn,R.bind_ok];exact zbf (by simp[sizeLine])) rfl ?_
 try dsimp only[List.set]
 have ix:oIxL (iL [by1 u f0]) (.int 0)=some (.int (by1 u f0)):=rfl
 simp[zck,mLst,mTup,zaf,zab,mNil,mVar,mC,ab1,sizeLine]
 have ab3:zaL [.lst [encF f0],.int u]=.ok (iL [by1 u f0]):=ab2
 simp[ab3,ix]
end My
namespace My
open PySem L2 PM
theorem zqI {i:Nat} {me:En→R D} {δ:En} {l r:List D} (h:δ[i]?=some (.o (.lst l))) (hy:me δ=.ok (.tup r)) (hl:l.length+r.length≤100000):zjO i me δ=.nx (δ.set i (.o (.lst (l++r)))):=by
 unfold zjO
 rw[h]
 simp only[hy,R.toO_ok]
 rw[zbf (by rw[sizeLine_eq];omega)]
theorem zqr {i:Nat} {me:En→R D} {δ:En} {l r:List D} (h:δ[i]?=some (.o (.lst l))) (hy:me δ=.ok (.lst r)) (hl:l.length+r.length≤100000):zjO i me δ=.nx (δ.set i (.o (.lst (l++r)))):=by
 unfold zjO
 rw[h]
 simp only[hy,R.toO_ok]
 rw[zbf (by rw[sizeLine_eq];omega)]
theorem rowS {w v:List Str} {T:List (List Str)} {k:Nat} (h:T[k]?=some v):oIxL (zcW (w::T)) (.int ((k:Int)+1))=some (rowD v):=by
 have:=rowN (L:=w::T) (k:=k+1) (w:=v) (by simpa using h)
 simpa using this
abbrev Pr:=Fr×Fr
def zdl (p:Pr):D:=.tup [encF p.1,encF p.2]
def zc2 (ps:List Pr):List Fr:=ps.flatMap fun p=>[p.1,p.2]
theorem znX (ps:List Pr) (p:Pr):zc2 (ps++[p])=zc2 ps++[p.1,p.2]:=by simp[zc2]
theorem znw (ps:List Pr):(zc2 ps).length=2*ps.length:=by
 induction ps with
 | nil=>rfl
 | cons a l ih=>simp only[zc2,List.flatMap_cons,List.length_append,List.length_cons,List.length_nil] at ih ⊢;omega
theorem zhh (ps:List Pr):(zc2 ps).Perm (ps.map (·.1)++ps.map (·.2)):=by
 induction ps with
 | nil=>exact .refl _
 | cons a l ih=>
  show (a.1::a.2::zc2 l).Perm (a.1::(l.map (·.1)++a.2::l.map (·.2)))
  exact (List.Perm.cons _ ((List.Perm.cons _ ih).trans List.perm_middle.symm))
def PrOk (p:Pr):Prop:=AmOk p.1∧AmOk p.2∧p.2.1≠0
theorem zms {ps:List Pr} (ok:∀p∈ps,PrOk p):∀f∈zc2 ps,AmOk f:=fun f hf=>by
 obtain⟨p,hp,h⟩:=List.mem_flatMap.mp hf
 rcases List.mem_cons.mp h with e|e
 ·rw[e];exact (ok p hp).1
 ·rw[List.mem_singleton.mp e];exact (ok p hp).2.1
theorem zlC {p:Pr} (ok:PrOk p) (line:Int):zdH [rowD [wr p.1,wr p.2],.int line]=.ok (zdl p):=by
 have wc:=zd4 (ws:=[wr p.1,wr p.2]) (lo:=2) (hi:=2) (line:=line) (by simp) (by simp)
 have w0:oIxL (rowD [wr p.1,wr p.2]) (.int 0)=some (.str (wr p.1)):=zjI (k:=0) rfl
 have w1:oIxL (rowD [wr p.1,wr p.2]) (.int 1)=some (.str (wr p.2)):=zjI (k:=1) rfl
 have a:=zdf ok.1 line
 have b:=zgc ok.2.1 ok.2.2 line
 obtain⟨Rs,eR⟩:∃Rs,Rs=rowD [wr p.1,wr p.2]:=⟨_,rfl⟩
 rw[← eR] at wc w0 w1 ⊢
 simp[zdH,runF,zbz,zgR,mSeq,mDo,zaf,zab,mNil,mVar,mC,mRd,wc,w0,w1,a,b,mRet,mTup,sizeLine,zdl]
theorem zkk {ps:List Pr} {r:Fr} (ok:∀p∈ps,PrOk p) (okr:AmOk r) (hl:ps.length≤40):zdG [zcW ([("sack" : Str),wr r]::ps.map fun p=>[wr p.1,wr p.2])]=.ok (.tup [.int (un (r::zc2 ps)),.tup [.int (by1 (un (r::zc2 ps)) r),.lst (ps.map fun p=>.tup [.int (by1 (un (r::zc2 ps)) p.1),.int (by1 (un (r::zc2 ps)) p.2)])]]):=by
 have okf:∀f∈r::zc2 ps,AmOk f:=fun f hf=>by
  rcases List.mem_cons.mp hf with e|e
  ·rw[e];exact okr
  ·exact zms ok f e
 obtain⟨⟨u0,u1⟩,ud⟩:=zf9 okf
 have uo:=zd6 okf
 obtain⟨L,eL⟩:∃L:List (List Str),L=[("sack" : Str),wr r]::ps.map fun p=>[wr p.1,wr p.2]:=⟨_,rfl⟩
 have ll:L.length=ps.length+1:=by rw[eL];simp
 rw[← eL]
 have r0:oIxL (zcW L) (.int 0)=some (rowD [("sack" : Str),wr r]):=by rw[eL];exact row0 _ _
 have rk:∀q∈ps.zipIdx,ps[q.2]?=some q.1→oIxL (zcW L) (.int ((q.2:Int)+1))=some (rowD [wr q.1.1,wr q.1.2]):=fun q _ h=>by rw[eL];exact rowS (by rw[List.getElem?_map,h];rfl)
 have rl:=zgS L
 have w1:oIxL (rowD [("sack" : Str),wr r]) (.int 1)=some (.str (wr r)):=zjI (k:=1) rfl
 have wc:=zd4 (ws:=[("sack" : Str),wr r]) (lo:=2) (hi:=2) (line:=0) (by simp) (by simp)
 have ar:=zdf okr 0
 obtain⟨W,eW⟩:∃W,W=rowD [("sack" : Str),wr r]:=⟨_,rfl⟩
 rw[← eW] at r0 w1 wc
 obtain⟨Rs,eR⟩:∃Rs,Rs=zcW L:=⟨_,rfl⟩
 rw[← eR] at r0 rk rl ⊢
 have rn:=rngZ ps (by omega)
 rw[ll] at rl
 obtain⟨u,eu⟩:∃u,u=un (r::zc2 ps):=⟨_,rfl⟩
 rw[← eu] at uo u0 u1 ud ⊢
 obtain⟨δ,h1,o4,o5,rfl⟩:=zbh (b:=zat 4) (m:=zgr) (fun q:Pr×Nat=>.int ((q.2:Int)+1)) (fun pre δ=>∃o4 o5,δ=[.v Rs,.v (encF r),.o (zar (r::zc2 (pre.map (·.1)))),.o (.lst ((pre.map (·.1)).map zdl)),sv o4,sv o5,.no,.no]) ps.zipIdx
  (by
   rintro pre q post δ hall ⟨o4,o5,rfl⟩
   have hk:=(zbR hall).2.1
   have pl:pre.length=q.2:=(zbR hall).1.symm
   have q40:q.2<40:=by have:=(List.getElem?_eq_some_iff.mp hk).1;omega
   have ri:=rk q (by rw[hall];simp) hk
   have okq:=ok q.1 (List.mem_of_getElem? hk)
   have ti:=zlC okq ((q.2:Int)+1)
   obtain⟨V,eV⟩:∃V,V=rowD [wr q.1.1,wr q.1.2]:=⟨_,rfl⟩
   rw[← eV] at ri ti
   have t1:¬ (40:Int)<(q.2:Int)+1:=by omega
   obtain⟨A,eA⟩:∃A:List Pr,A=pre.map (·.1):=⟨_,rfl⟩
   have al:A.length=q.2:=by rw[eA,List.length_map,pl]
   have fl:=znw A
   rw[← eA]
   have bs:zat 4 (.int ((q.2:Int)+1)) [.v Rs,.v (encF r),.o (zar (r::zc2 A)),.o (.lst (A.map zdl)),sv o4,sv o5,.no,.no]=some [.v Rs,.v (encF r),.o (zar (r::zc2 A)),.o (.lst (A.map zdl)),.v (.int ((q.2:Int)+1)),sv o5,.no,.no]:=za5 rfl
   have q1:mDo (zaf zaq (zab (m2 oGt (mRd 4) (mC (.int 40))) (zab (mVar 4) mNil))) [.v Rs,.v (encF r),.o (zar (r::zc2 A)),.o (.lst (A.map zdl)),.v (.int ((q.2:Int)+1)),sv o5,.no,.no]=.nx [.v Rs,.v (encF r),.o (zar (r::zc2 A)),.o (.lst (A.map zdl)),.v (.int ((q.2:Int)+1)),sv o5,.no,.no]:=by simp[mDo,zaf,zab,mNil,mRd,mC,mVar,t1,zbZ]
   have q2:mAsg (zaf zdH (zab (m2 oIxL (mRd 0) (mRd 4)) (zab (mVar 4) mNil))) (zat 5) [.v Rs,.v (encF r),.o (zar (r::zc2 A)),.o (.lst (A.map zdl)),.v (.int ((q.2:Int)+1)),sv o5,.no,.no]=.nx [.v Rs,.v (encF r),.o (zar (r::zc2 A)),.o (.lst (A.map zdl)),.v (.int ((q.2:Int)+1)),.v (zdl q.1),.no,.no]:=zaT (d:=zdl q.1) (by simp[zaf,zab,mNil,mRd,mVar,ri,ti]) (za5 rfl)
   have q3:zbw 3 (mVar 5) [.v Rs,.v (encF r),.o (zar (r::zc2 A)),.o (.lst (A.map zdl)),.v (.int ((q.2:Int)+1)),.v (zdl q.1),.no,.no]=.nx [.v Rs,.v (encF r),.o (zar (r::zc2 A)),.o (.lst ((A++[q.1]).map zdl)),.v (.int ((q.2:Int)+1)),.v (zdl q.1),.no,.no]:=(zbJ (l:=A.map zdl) (d:=zdl q.1) rfl rfl (by rw[List.length_map];omega)).trans (by simp)
   have q4:zjO 2 (mVar 5) [.v Rs,.v (encF r),.o (zar (r::zc2 A)),.o (.lst ((A++[q.1]).map zdl)),.v (.int ((q.2:Int)+1)),.v (zdl q.1),.no,.no]=.nx [.v Rs,.v (encF r),.o (zar (r::zc2 (A++[q.1]))),.o (.lst ((A++[q.1]).map zdl)),.v (.int ((q.2:Int)+1)),.v (zdl q.1),.no,.no]:=(zqI (l:=(r::zc2 A).map encF) (r:=[encF q.1.1,encF q.1.2]) rfl rfl (by rw[List.length_map,List.length_cons,fl];simp;omega)).trans (by rw[znX];simp[zar])
   refine⟨_,_,bs,.inl ((zau q1).trans ((zau q2).trans ((zau q3).trans q4))),some (.int ((q.2:Int)+1)),some (zdl q.1),?_⟩
   have eA2:(pre++[q]).map (·.1)=A++[q.1]:=by rw[eA];simp
   rw[eA2];rfl)
  [.v Rs,.v (encF r),.o (zar [r]),.o (.lst []),.no,.no,.no,.no] ⟨none,none,rfl⟩
 have zm:ps.zipIdx.map (·.1)=ps:=List.zipIdx_map_fst 0 ps
 rw[zm] at h1
 refine zbp ?_
 show mSeq _ _ [.v Rs,.no,.no,.no,.no,.no,.no,.no]=_
 refine sd (by
  simp[zaf,zab,mNil,mRd,mC,r0,wc]) ?_
 refine sq (d:=encF r) (by simp[zaf,zab,mNil,mRd,mC,r0,w1,ar]) rfl ?_
 try dsimp only[List.set]
 refine sq (d:=zar [r]) (by simp[mLst,zab,mNil,mVar,sizeLine,zar]) rfl ?_
 try dsimp only[List.set]
 refine sq (d:=.lst []) (by simp[mLst,mNil,sizeLine]) rfl ?_
 try dsimp only[List.set]
 refine sx ((zbP (l:=ps.zipIdx.map fun q=>.int ((q.2:Int)+1)) (by simp[mRng,zab,mNil,mC,mCB,mRd,rl,rn])).trans h1) ?_
 refine sq (d:=.int u) (by simp[zhT,zab,mNil,mRd,uo,zgl]) rfl ?_
 try dsimp only[List.set]
 have k:zhu [.v Rs,.v (encF r),.o (zar (r::zc2 ps)),.o (.lst (ps.map zdl)),sv o4,sv o5,.v (.int u),.no]=.ok (.lst (ps.map fun p=>.tup [.int (by1 u p.1),.int (by1 u p.2)])):=by
  refine zaZ (l:=ps.map zdl) (by simp[mItL,mRd]) (by rw[List.length_map];omega) ?_
  refine zbi zdl (fun p=>.tup [.int (by1 u p.1),.int (by1 u p.2)]) _ fun p hp=>?_
  have e:zbl [.v Rs,.v (encF r),.o (zar (r::zc2 ps)),.o (.lst (ps.map zdl)),sv o4,sv o5,.v (.int u),.no] [6] 2=[.v (.int u),.no,.no]:=rfl
  rw[e]
  simp[zcn,zdl,bTup,zbj,bNil,zaE,mTup,zaf,zab,mNil,mVar,zny (ok p hp).1 u1,zny (ok p hp).2.1 u1,sizeLine]
 refine sq (d:=.lst (ps.map fun p=>.tup [.int (by1 u p.1),.int (by1 u p.2)])) (k) rfl ?_
 try dsimp only[List.set]
 simp[mRet,mTup,zaf,zab,mNil,mVar,zny okr u1,sizeLine]
theorem zlN (cl:List Int) (hl:cl.length≤20):∃fs:List Fr,fs.length=cl.length∧(∀f∈fs,AmOk f)∧∀(δ:En) ,mSl (mRd 0) mNoP (zc1 (mC (.int 20))) δ=.ok (iL cl)→zfe δ=.ok (zar fs):=by
 obtain⟨r,h1,h2,h3⟩:=zgQ (f:=zcn (bTup 2 (zbj (zaE 0) (zbj (zaE 1) bNil))) none (zaf zbe (zab (mVar 1) (zab (mVar 0) mNil))) [.no,.no]) encE (fun f=>AmOk f) cl.zipIdx (fun q hq=>by
  have qk:q.2<20:=by
   have:=List.snd_lt_of_mem_zipIdx hq
   omega
  obtain⟨f,ok,hf⟩:=zeT q.1 (q.2:Int) (by omega) (by omega)
  refine⟨f,ok,?_⟩
  simp[zcn,encE,bTup,zbj,bNil,zaE,zaf,zab,mNil,mVar,mRd,mC,hf,zhI])
 rw[List.length_zipIdx] at h1
 refine⟨r,h1,h2,fun δ s=>?_⟩
 refine Eq.trans (zaZ (l:=cl.zipIdx.map encE) (r:=r.map encF) ?_ (by rw[List.length_map,List.length_zipIdx];omega) ?_) rfl
 ·simp only[zgk,zab,mNil,s,R.bind_ok]
  show R.of (some (zgV (cl.map D.int)))=_
  rw[zfH,R.of_some]
 ·exact h3
theorem zky (cl:List Int) (hl:cl.length≤20):∃fs:List Fr,fs.length=cl.length∧(∀f∈fs,AmOk f∧f.1≠0)∧∀(δ:En) ,mSl (mRd 0) mNoP (zc1 (mC (.int 20))) δ=.ok (iL cl)→zfj δ=.ok (zar fs):=by
 obtain⟨r,h1,h2,h3⟩:=zgQ (f:=zcn (bTup 2 (zbj (zaE 0) (zbj (zaE 1) bNil))) none (zaf zcl (zab (zaf zbe (zab (mVar 1) (zab (m2 oAdd (mRd 0) (mC (.int 50))) mNil))) mNil)) [.no,.no]) encE (fun f=>AmOk f∧f.1≠0) cl.zipIdx (fun q hq=>by
  have qk:q.2<20:=by
   have:=List.snd_lt_of_mem_zipIdx hq
   omega
  obtain⟨f,ok,hf⟩:=zeT q.1 ((q.2:Int)+50) (by omega) (by omega)
  refine⟨ab f,zqt ok,?_⟩
  simp[zcn,encE,bTup,zbj,bNil,zaE,zaf,zab,mNil,mVar,mRd,mC,hf,zhI])
 rw[List.length_zipIdx] at h1
 refine⟨r,h1,h2,fun δ s=>?_⟩
 refine Eq.trans (zaZ (l:=cl.zipIdx.map encE) (r:=r.map encF) ?_ (by rw[List.length_map,List.length_zipIdx];omega) ?_) rfl
 ·simp only[zgk,zab,mNil,s,R.bind_ok]
  show R.of (some (zgV (cl.map D.int)))=_
  rw[zfH,R.of_some]
 ·exact h3
theorem zon (cs:List Int) {c:Int} (c0:0≤c):Kd "sack" (zct [iL cs,.int c]):=by
 obtain⟨r,okr,hr⟩:=zeT c 70 (by decide) (by decide)
 obtain⟨cl,hcl,sl⟩:=zma cs 20
 obtain⟨f1,l1,ok1,k1⟩:=zlN cl hcl
 obtain⟨f2,l2,ok2,k2⟩:=zky cl hcl
 obtain⟨C,eC⟩:∃C,C=iL cs:=⟨_,rfl⟩
 have sl':∀δ:En,δ[0]?=some (.v C)→mSl (mRd 0) mNoP (zc1 (mC (.int 20))) δ=.ok (iL cl):=fun δ h=>sl (mRd 0) δ (by simp[mRd,h,eC])
 rw[← eC]
 obtain⟨ps,e1,e2⟩:=zjl (l:=f1) (r:=f2) (by omega)
 subst e1 e2
 have hl:ps.length≤20:=by rw[List.length_map] at l1;omega
 have ok:∀p∈ps,PrOk p:=fun p hp=>⟨ok1 _ (List.mem_map.mpr ⟨p,hp,rfl⟩),ok2 _ (List.mem_map.mpr ⟨p,hp,rfl⟩)⟩
 have okf:∀f∈r::zc2 ps,AmOk f:=fun f hf=>by
  rcases List.mem_cons.mp hf with e|e
  ·rw[e];exact okr
  ·exact zms ok f e
 have okm:∀f∈r::(ps.map (·.1)++ps.map (·.2)),AmOk f:=fun f hf=>okf f (((zhh ps).cons r).mem_iff.mpr hf)
 have pm:un (r::(ps.map (·.1)++ps.map (·.2)))=un (r::zc2 ps):=znz ((zhh ps).cons r).symm
 have lu:=zda okm
 rw[pm] at lu
 obtain⟨⟨u0,u1⟩,ud⟩:=zf9 okf
 have rs:=zkk ok okr (by omega)
 obtain⟨u,eu⟩:∃u,u=un (r::zc2 ps):=⟨_,rfl⟩
 rw[← eu] at lu u0 u1 ud rs
 have okx:∀f∈ps.map (·.1),AmOk f:=ok1
 have oky:∀f∈ps.map (·.2),AmOk f:=fun f hf=>(ok2 f hf).1
 have inx:∀f∈ps.map (·.1)++ps.map (·.2),f∈r::zc2 ps:=fun f hf=>List.mem_cons_of_mem _ ((zhh ps).mem_iff.mpr hf)
 have ab1:=zcQ (u:=u) okx (fun f hf=>ud f (inx f (List.mem_append_left _ hf))) u1 (by rw[List.length_map];omega)
 have ab2:=zcQ (u:=u) oky (fun f hf=>ud f (inx f (List.mem_append_right _ hf))) u1 (by rw[List.length_map];omega)
 have ab3:=zcQ (u:=u) (l:=[r]) (fun f hf=>by rw[List.mem_singleton.mp hf];exact okr) (fun f hf=>ud f (by rw[List.mem_singleton.mp hf];simp)) u1 (by simp)
 have sk:("sack " : Str) = "sack"++" ":=by decide +kernel
 have sl4:("sack " : Str).length=5:=by decide +kernel
 have wl:=zkL okr
 have b1:(" " : Str).length=1:=by decide +kernel
 obtain⟨L,eL⟩:∃L:List (List Str),L=[("sack" : Str),wr r]::ps.map fun p=>[wr p.1,wr p.2]:=⟨_,rfl⟩
 have hd:zds (.str "sack ") (.str (wr r))=some (.str (lnT [("sack" : Str),wr r])):=by rw[zfD (by omega),zk7,sk]
 have tx:Tx L:=by
  rw[eL]
  refine⟨by simp,by simp;omega,fun ws hws=>?_⟩
  rcases List.mem_cons.mp hws with e|e
  ·rw[e]
   exact⟨by simp,by simp,fun w hw=>by
    rcases List.mem_cons.mp hw with z|z
    ·rw[z];exact zp5
    ·rw[List.mem_singleton.mp z];exact zjT okr⟩
  ·obtain⟨p,hp,rfl⟩:=List.mem_map.mp e
   exact⟨by simp,by simp,fun w hw=>by
    rcases List.mem_cons.mp hw with z|z
    ·rw[z];exact zjT (ok p hp).1
    ·rw[List.mem_singleton.mp z];exact zjT (ok p hp).2.1⟩
 rw[← eL] at rs
 refine⟨L,u,[.int (by1 u r),.lst (ps.map fun p=>.tup [.int (by1 u p.1),.int (by1 u p.2)])],[wr r],ps.map fun p=>[wr p.1,wr p.2],tx,eL,zdp ?_,zqz rs,zqi,?_,by simp,?_⟩
 case refine_2=>simp[okSp];omega
 case refine_3=>
  refine zgO rfl (zib fun y hy=>?_)
  obtain⟨p,_,rfl⟩:=List.mem_map.mp hy
  rfl
 obtain⟨δ,h1,o7,o8,rfl⟩:=zbh (b:=bTup 2 (zbj (zat 7) (zbj (zat 8) bNil))) (m:=zeE) zdl (fun pre δ=>∃o7 o8,δ=[.v C,.v (.int c),.v (encF r),.v (zar (ps.map (·.1))),.v (zar (ps.map (·.2))),.v (.int u),.o (.lst ((lnT [("sack" : Str),wr r]::pre.map fun p=>lnT [wr p.1,wr p.2]).map .str)),sv o7,sv o8,.no]) ps
  (by
   rintro pre p post δ hall ⟨o7,o8,rfl⟩
   have okp:=ok p (by rw[hall];simp)
   have pl:pre.length≤20:=by have:=congrArg List.length hall;simp at this;omega
   have v1:=zkL okp.1
   have v2:=zkL okp.2.1
   have s1:zds (.str (wr p.1)) (.str " ")=some (.str (wr p.1++" ")):=zfD (by omega)
   have s2:zds (.str (wr p.1++" ")) (.str (wr p.2))=some (.str (lnT [wr p.1,wr p.2])):=by rw[zfD (by rw[zhf];omega),zk7]
   refine⟨[.v C,.v (.int c),.v (encF r),.v (zar (ps.map (·.1))),.v (zar (ps.map (·.2))),.v (.int u),.o (.lst ((lnT [("sack" : Str),wr r]::pre.map fun p=>lnT [wr p.1,wr p.2]).map .str)),.v (encF p.1),.v (encF p.2),.no],_,by rcases o7 with _|o7 <;> rcases o8 with _|o8 <;> rfl,.inl (zbJ (l:=(lnT [("sack" : Str),wr r]::pre.map fun p=>lnT [wr p.1,wr p.2]).map .str) (d:=.str (lnT [wr p.1,wr p.2])) rfl ?_ (by simp;omega)),some (encF p.1),some (encF p.2),?_⟩
   ·simp[zaf,zab,mNil,mVar,mC,wrt okp.1,wrt okp.2.1,s1,s2]
   ·simp[sv])
  [.v C,.v (.int c),.v (encF r),.v (zar (ps.map (·.1))),.v (zar (ps.map (·.2))),.v (.int u),.o (.lst [.str (lnT [("sack" : Str),wr r])]),.no,.no,.no] ⟨none,none,rfl⟩
 show mSeq _ _ [.v C,.v (.int c),.no,.no,.no,.no,.no,.no,.no,.no]=_
 refine sq (d:=encF r) (by simp[zaf,zab,mNil,mVar,mC,hr]) rfl ?_
 try dsimp only[List.set]
 refine sq (d:=zar (ps.map (·.1))) (k1 _ (sl' _ rfl)) rfl ?_
 try dsimp only[List.set]
 refine sq (d:=zar (ps.map (·.2))) (k2 _ (sl' _ rfl)) rfl ?_
 try dsimp only[List.set]
 refine sq (d:=.int u) (by
  have c1:oCat (.lst [encF r]) (zar (ps.map (·.1)))=some (zar (r::ps.map (·.1))):=by
   have h:=catF (l:=[r]) (r:=ps.map fun p=>p.1) (by simp;omega)
   exact h
  have c2:oCat (zar (r::ps.map (·.1))) (zar (ps.map (·.2)))=some (zar (r::(ps.map (·.1)++ps.map (·.2)))):=catF (l:=r::ps.map (·.1)) (r:=ps.map (·.2)) (by simp;omega)
  simp[zaf,zab,mNil,mRd,mVar,mLst,sizeLine,c1,c2,lu]) rfl ?_
 try dsimp only[List.set]
 refine sq (d:=.lst [.str (lnT [("sack" : Str),wr r])]) (by simp[mLst,zab,mNil,mC,zaf,mVar,wrt okr,hd,sizeLine]) rfl ?_
 try dsimp only[List.set]
 refine sx (by
  have zp:mZip (zab (mVar 3) (zab (mVar 4) mNil)) [.v C,.v (.int c),.v (encF r),.v (zar (ps.map (·.1))),.v (zar (ps.map (·.2))),.v (.int u),.o (.lst [.str (lnT [("sack" : Str),wr r])]),.no,.no,.no]=.ok (ps.map zdl):=by
   show R.of (some (zipD ((ps.map (·.1)).map encF) ((ps.map (·.2)).map encF)))=_
   rw[List.map_map,List.map_map,zj2];rfl
  exact (zbP zp).trans h1) ?_
 have k3:zfl [.v C,.v (.int c),.v (encF r),.v (zar (ps.map (·.1))),.v (zar (ps.map (·.2))),.v (.int u),.o (.lst ((lnT [("sack" : Str),wr r]::ps.map fun p=>lnT [wr p.1,wr p.2]).map .str)),sv o7,sv o8,.no]=.ok (.lst (ps.map fun p=>.tup [.int (by1 u p.1),.int (by1 u p.2)])):=by
  refine zaZ (l:=ps.map fun p=>.tup [.int (by1 u p.1),.int (by1 u p.2)]) ?_ (by rw[List.length_map];omega) ?_
  ·have a1:zaf zaL (zab (mVar 3) (zab (mVar 5) mNil)) [.v C,.v (.int c),.v (encF r),.v (zar (ps.map (·.1))),.v (zar (ps.map (·.2))),.v (.int u),.o (.lst ((lnT [("sack" : Str),wr r]::ps.map fun p=>lnT [wr p.1,wr p.2]).map .str)),sv o7,sv o8,.no]=.ok (iL ((ps.map (·.1)).map (by1 u))):=by simp only[zaf,zab,mNil,mVar,List.getElem?_cons_succ,List.getElem?_cons_zero,R.bind_ok,ab1];rfl
   have a2:zaf zaL (zab (mVar 4) (zab (mVar 5) mNil)) [.v C,.v (.int c),.v (encF r),.v (zar (ps.map (·.1))),.v (zar (ps.map (·.2))),.v (.int u),.o (.lst ((lnT [("sack" : Str),wr r]::ps.map fun p=>lnT [wr p.1,wr p.2]).map .str)),sv o7,sv o8,.no]=.ok (iL ((ps.map (·.2)).map (by1 u))):=by simp only[zaf,zab,mNil,mVar,List.getElem?_cons_succ,List.getElem?_cons_zero,R.bind_ok,ab2];rfl
   simp only[mZip,zab,mNil,a1,a2,R.bind_ok]
   show R.of (some (zipD (((ps.map (·.1)).map (by1 u)).map D.int) (((ps.map (·.2)).map (by1 u)).map D.int)))=_
   simp only[List.map_map]
   rw[zj2];rfl
  ·refine zbi (fun p:Pr=>D.tup [.int (by1 u p.1),.int (by1 u p.2)]) (fun p=>.tup [.int (by1 u p.1),.int (by1 u p.2)]) _ fun p hp=>?_
   simp[zcn,zbl,bTup,zbj,bNil,zaE,mTup,zab,mNil,mVar,sizeLine]
 refine sq (d:=.lst (ps.map fun p=>.tup [.int (by1 u p.1),.int (by1 u p.2)])) (k3) rfl ?_
 try dsimp only[List.set]
 have ix:oIxL (iL [by1 u r]) (.int 0)=some (.int (by1 u r)):=rfl
 have ab4:zaL [.lst [encF r],.int u]=.ok (iL [by1 u r]):=ab3
 have fin:(L.map lnT).map D.str=(lnT [("sack" : Str),wr r]::ps.map fun p=>lnT [wr p.1,wr p.2]).map .str:=by rw[eL];simp
 rw[fin]
 simp[mFrz,zck,mLst,mTup,zaf,zab,mNil,mVar,mC,ab4,ix,sizeLine]
end My
namespace My
open PySem L2 PM
abbrev Ed:=Int×Int
def encN (l:Ed):D:=.tup [.int l.1,.int l.2]
def zc9 (ls:List Ed):D:=.lst (ls.map encN)
structure EdOk (n:Nat) (l:Ed):Prop where
 a0:0≤l.1
 a1:l.1<n
 b0:0≤l.2
 b1:l.2<n
 ne:l.1≠l.2
theorem zmX {n:Nat} {l:Ed} (hn:n≤100) (ok:EdOk n l) (line:Int):zeF [rowD [dg l.1,dg l.2],.int n,.int line]=.ok (encN l):=by
 have a0:=ok.a0
 have a1:=ok.a1
 have b0:=ok.b0
 have b1:=ok.b1
 have ne:=ok.ne
 have wc:=zd4 (ws:=[dg l.1,dg l.2]) (lo:=2) (hi:=2) (line:=line) (by simp) (by simp)
 have w0:oIxL (rowD [dg l.1,dg l.2]) (.int 0)=some (.str (dg l.1)):=zjI (k:=0) rfl
 have w1:oIxL (rowD [dg l.1,dg l.2]) (.int 1)=some (.str (dg l.2)):=zjI (k:=1) rfl
 have n0:=zdh (n:=l.1) (lo:=0) (hi:=(n:Int) - 1) (line:=line) a0 (by omega) a0 (by omega)
 have n1:=zdh (n:=l.2) (lo:=0) (hi:=(n:Int) - 1) (line:=line) b0 (by omega) b0 (by omega)
 obtain⟨Rs,eR⟩:∃Rs,Rs=rowD [dg l.1,dg l.2]:=⟨_,rfl⟩
 rw[← eR] at wc w0 w1 ⊢
 obtain⟨s0,e0⟩:∃s,s=dg l.1:=⟨_,rfl⟩
 obtain⟨s1,e1⟩:∃s,s=dg l.2:=⟨_,rfl⟩
 rw[← e0] at w0 n0
 rw[← e1] at w1 n1
 refine zbp ?_
 show mSeq _ _ [.v Rs,.v (.int n),.v (.int line),.no,.no]=_
 refine sd (by
  simp[zaf,zab,mNil,mRd,mVar,mC,wc]) ?_
 refine sq (d:=.int l.1) (by simp[zaf,zab,mNil,mRd,mVar,mC,w0,n0]) rfl ?_
 try dsimp only[List.set]
 refine sq (d:=.int l.2) (by simp[zaf,zab,mNil,mRd,mVar,mC,w1,n1]) rfl ?_
 try dsimp only[List.set]
 refine sd (by
  simp[zaf,zab,mNil,mRd,mVar,mC,ne,zbZ]) ?_
 simp[mRet,mTup,zab,mNil,mVar,sizeLine,encN]
theorem zjy {fs:List Fr} {ls:List Ed} (ok:∀f∈fs,AmOk f) (h0:1≤fs.length) (hf:fs.length≤40) (okl:∀l∈ls,EdOk fs.length l) (hl:ls.length≤80):zdj [zcW ((("touch" : Str)::fs.map wr)::ls.map fun l=>[dg l.1,dg l.2])]=.ok (.tup [.int (un fs),.tup [iL (fs.map (by1 (un fs))),zc9 ls]]):=by
 have up:=(zf9 ok).1
 obtain⟨ws,ews⟩:∃ws:List Str,ws=("touch" : Str)::fs.map wr:=⟨_,rfl⟩
 have wl:ws.length=fs.length+1:=by rw[ews];simp
 have dr:ws.drop 1=fs.map wr:=by rw[ews];rfl
 rw[← ews]
 obtain⟨L,eL⟩:∃L:List (List Str),L=ws::ls.map fun l=>[dg l.1,dg l.2]:=⟨_,rfl⟩
 have ll:L.length=ls.length+1:=by rw[eL];simp
 rw[← eL]
 have r0:oIxL (zcW L) (.int 0)=some (rowD ws):=by rw[eL];exact row0 _ _
 have rk:∀q:Ed×Nat,ls[q.2]?=some q.1→oIxL (zcW L) (.int ((q.2:Int)+1))=some (rowD [dg q.1.1,dg q.1.2]):=fun q h=>by rw[eL];exact rowS (by rw[List.getElem?_map,h];rfl)
 have rl:=zgS L
 have wc:=zd4 (ws:=ws) (lo:=2) (hi:=41) (line:=0) (by omega) (by omega)
 obtain⟨Rs,eR⟩:∃Rs,Rs=zcW L:=⟨_,rfl⟩
 rw[← eR] at r0 rk rl ⊢
 have rn:=rngZ ls (by omega)
 rw[ll] at rl
 have k:∀δ:En,δ[0]?=some (.v Rs)→zgm δ=.ok (zar fs):=fun δ hd=>by
  have sl:mSl (m2 oIxL (mRd 0) (mC (.int 0))) (zc1 (mC (.int 1))) mNoP δ=_:=zmd (ws:=ws) 1 (by omega) (by simp[mRd,mC,hd,r0])
  rw[dr] at sl
  refine Eq.trans (zaZ (l:=(fs.map wr).map .str) (r:=fs.map encF) (by simp only[mItL,sl,R.bind_ok];rfl) (by rw[List.length_map,List.length_map];omega) ?_) rfl
  exact zgA fun f hf=>by simp[zcn,zbl,zaE,zaf,zab,mNil,mVar,mC,zdf (ok f hf)]
 have ab:=zgL (u:=un fs) ok up.2 (by omega)
 have fl:fLen [zar fs]=some (.int fs.length):=by simp[zar]
 obtain⟨δ,h1,o3,rfl⟩:=zbh (b:=zat 3) (m:=zfV) (fun q:Ed×Nat=>.int ((q.2:Int)+1)) (fun pre δ=>∃o3,δ=[.v Rs,.v (zar fs),.o (zc9 (pre.map (·.1))),sv o3,.no]) ls.zipIdx
  (by
   rintro pre q post δ hall ⟨o3,rfl⟩
   have hk:=(zbR hall).2.1
   have pl:pre.length=q.2:=(zbR hall).1.symm
   have q40:q.2<80:=by have:=(List.getElem?_eq_some_iff.mp hk).1;omega
   have ri:=rk q hk
   have okq:=okl q.1 (List.mem_of_getElem? hk)
   have ti:=zmX (by omega) okq ((q.2:Int)+1)
   obtain⟨V,eV⟩:∃V,V=rowD [dg q.1.1,dg q.1.2]:=⟨_,rfl⟩
   rw[← eV] at ri ti
   have t1:¬ (80:Int)<(q.2:Int)+1:=by omega
   obtain⟨A,eA⟩:∃A:List Ed,A=pre.map (·.1):=⟨_,rfl⟩
   have al:A.length=q.2:=by rw[eA,List.length_map,pl]
   have eA2:(pre++[q]).map (·.1)=A++[q.1]:=by rw[eA];simp
   rw[← eA]
   have bs:zat 3 (.int ((q.2:Int)+1)) [.v Rs,.v (zar fs),.o (zc9 A),sv o3,.no]=some [.v Rs,.v (zar fs),.o (zc9 A),.v (.int ((q.2:Int)+1)),.no]:=za5 rfl
   have q1:mDo (zaf zaq (zab (m2 oGt (mRd 3) (mC (.int 80))) (zab (mVar 3) mNil))) [.v Rs,.v (zar fs),.o (zc9 A),.v (.int ((q.2:Int)+1)),.no]=.nx [.v Rs,.v (zar fs),.o (zc9 A),.v (.int ((q.2:Int)+1)),.no]:=by simp[mDo,zaf,zab,mNil,mRd,mC,mVar,t1,zbZ]
   have q2:zbw 2 (zaf zeF (zab (m2 oIxL (mRd 0) (mRd 3)) (zab (mCB fLen (zab (mRd 1) mNil)) (zab (mVar 3) mNil)))) [.v Rs,.v (zar fs),.o (zc9 A),.v (.int ((q.2:Int)+1)),.no]=.nx [.v Rs,.v (zar fs),.o (zc9 (A++[q.1])),.v (.int ((q.2:Int)+1)),.no]:=(zbJ (l:=A.map encN) (d:=encN q.1) rfl (by simp[zaf,zab,mNil,mRd,mVar,mCB,ri,fl,ti]) (by rw[List.length_map];omega)).trans (by simp[zc9])
   refine⟨_,_,bs,.inl ((zau q1).trans q2),some (.int ((q.2:Int)+1)),?_⟩
   rw[eA2];rfl)
  [.v Rs,.v (zar fs),.o (zc9 []),.no,.no] ⟨none,rfl⟩
 have zm:ls.zipIdx.map (·.1)=ls:=List.zipIdx_map_fst 0 ls
 rw[zm] at h1
 refine zbp ?_
 show mSeq _ _ [.v Rs,.no,.no,.no,.no]=_
 refine sd (by
  simp[zaf,zab,mNil,mRd,mC,r0,wc]) ?_
 refine sq (d:=zar fs) (k _ rfl) rfl ?_
 try dsimp only[List.set]
 refine sq (d:=zc9 []) (by simp[mLst,mNil,sizeLine,zc9]) rfl ?_
 try dsimp only[List.set]
 refine sx ((zbP (l:=ls.zipIdx.map fun q=>.int ((q.2:Int)+1)) (by simp[mRng,zab,mNil,mC,mCB,mRd,rl,rn])).trans h1) ?_
 refine sq (d:=.int (un fs)) (by simp[zaf,zab,mNil,mVar,zd6 ok]) rfl ?_
 try dsimp only[List.set]
 simp[mFrz,mRet,mTup,zaf,zab,mNil,mVar,ab,sizeLine]
theorem zm5 (cs:List Int) {c:Int} (c0:0≤c):Kd "touch" (zch [iL cs,.int c]):=by
 have m0:=zcq c (show (0:Int)<8 by decide)
 have m1:=zcp c (show (0:Int)<8 by decide)
 obtain⟨n,en⟩:∃n:Nat,(n:Int)=2+c%8:=⟨(2+c%8).toNat,by omega⟩
 have np:(0:Int)<(n:Int):=by omega
 have np1:(0:Int)<(n:Int) - 1:=by omega
 have fn:Fit (n:Int):=fitN 1000 (by omega)
 obtain⟨cl,hcl,sl⟩:=zma cs 24
 have rn:=rngT (show n≤1000 by omega)
 obtain⟨fs,l1,ok,k1⟩:=zgQ (f:=zcn (zaE 1) none (zaf zbe (zab (zaf zaI (zab (mVar 0) (zab (mVar 1) mNil))) (zab (mVar 1) mNil))) [.v (iL cs),.no]) D.int AmOk (upt n) (fun k hk=>by
  obtain⟨k0,k1⟩:=mem_upt.mp hk
  obtain⟨d,hd⟩:=zlr cs k0
  obtain⟨f,ok,hf⟩:=zeT d k k0 (by omega)
  exact⟨f,ok,by simp[zcn,zaE,zaf,zab,mNil,mVar,hd,hf]⟩)
 rw[zcs] at l1
 obtain⟨C,eC⟩:∃C,C=iL cs:=⟨_,rfl⟩
 have sl':∀δ:En,δ[0]?=some (.v C)→mSl (mRd 0) mNoP (zc1 (mC (.int 24))) δ=.ok (iL cl):=fun δ h=>sl (mRd 0) δ (by simp[mRd,h,eC])
 rw[← eC] at k1 ⊢
 have up:=(zf9 ok).1
 have lu:=zda ok
 have ab:=zfc ok (by omega)
 have b1:(" " : Str).length=1:=by decide +kernel
 have tln:Ln (("touch" : Str)::fs.map wr):=by
  refine⟨by simp,by simp;omega,fun w hw=>?_⟩
  rcases List.mem_cons.mp hw with e|hw
  ·rw[e];exact zoX
  ·obtain⟨f,hf,rfl⟩:=List.mem_map.mp hw
   exact zjT (ok f hf)
 obtain⟨H,eH⟩:∃H,H=lnT (("touch" : Str)::fs.map wr):=⟨_,rfl⟩
 have lnx:∀l:Ed,EdOk n l→zds (.str (dg l.1)) (.str " ")=some (.str (dg l.1++" "))∧zds (.str (dg l.1++" ")) (.str (dg l.2))=some (.str (lnT [dg l.1,dg l.2])):=fun l h=>by
  have:=h.a0
  have:=h.a1
  have:=h.b0
  have:=h.b1
  have v1:=(zla (i:=l.1) (by omega) (by omega)).len
  have v2:=(zla (i:=l.2) (by omega) (by omega)).len
  exact⟨zfD (by omega),by rw[zfD (by rw[zhf];omega),zk7]⟩
 obtain⟨δ,h1,ls,o6,o7,o8,o9,rfl,okl,hll⟩:=zbh (b:=bTup 2 (zbj (zat 6) (zbj (zat 7) bNil))) (m:=zep) encE (fun pre δ=>∃(ls:List Ed) (o6 o7 o8 o9:Option D),δ=[.v C,.v (.int c),.v (.int n),.v (zar fs),.o (.lst ((H::ls.map fun l=>lnT [dg l.1,dg l.2]).map .str)),.o (zc9 ls),sv o6,sv o7,sv o8,sv o9,.no]∧(∀l∈ls,EdOk n l)∧ls.length=pre.length) cl.zipIdx
  (by
   rintro pre q post δ hall ⟨ls,o6,o7,o8,o9,rfl,okl,hll⟩
   have hk:=zbR hall
   have qk:q.2<24:=by have:=(List.getElem?_eq_some_iff.mp hk.2.1).1;omega
   have pl:pre.length≤24:=by rw[← hk.1];omega
   obtain⟨x,hx,x0,x1⟩:=zfr q.1 (show (0:Int)≤(q.2:Int)+130 by omega) (by omega)
   obtain⟨a,ea⟩:∃a,a=x%(n:Int):=⟨_,rfl⟩
   obtain⟨d,ed⟩:∃d,d=x/(n:Int)%((n:Int) - 1):=⟨_,rfl⟩
   have a0:0≤a:=by rw[ea];exact zcq _ np
   have a1:a<n:=by rw[ea];exact zcp _ np
   have d0:0≤d:=by rw[ed];exact zcq _ np1
   have d1:d<n - 1:=by rw[ed];exact zcp _ np1
   obtain⟨b,eb⟩:∃b,b=(a+1+d)%(n:Int):=⟨_,rfl⟩
   have b0:0≤b:=by rw[eb];exact zcq _ np
   have b1':b<n:=by rw[eb];exact zcp _ np
   have ne:a≠b:=by
    rcases Int.lt_or_le (a+1+d) n with w|w
    ·rw[Int.emod_eq_of_lt (by omega) w] at eb;omega
    ·have:(a+1+d)%(n:Int)=a+1+d - n:=by
      rw[← Int.sub_emod_right,Int.emod_eq_of_lt (by omega) (by omega)]
     omega
   have okq:EdOk n (a,b):=⟨a0,a1,b0,b1',ne⟩
   obtain⟨s1,s2⟩:=lnx (a,b) okq
   have g1:zdE [.int a]=some (.str (dg a)):=zmH a0 (by omega)
   have g2:zdE [.int b]=some (.str (dg b)):=zmH b0 (by omega)
   dsimp only at s1 s2
   have bs:bTup 2 (zbj (zat 6) (zbj (zat 7) bNil)) (encE q) [.v C,.v (.int c),.v (.int n),.v (zar fs),.o (.lst ((H::ls.map fun l=>lnT [dg l.1,dg l.2]).map .str)),.o (zc9 ls),sv o6,sv o7,sv o8,sv o9,.no]=some [.v C,.v (.int c),.v (.int n),.v (zar fs),.o (.lst ((H::ls.map fun l=>lnT [dg l.1,dg l.2]).map .str)),.o (zc9 ls),.v (.int q.2),.v (.int q.1),sv o8,sv o9,.no]:=by
    rcases o6 with _|o6 <;> rcases o7 with _|o7 <;> rfl
   have q1:mAsg (zaf zaK (zab (mVar 7) (zab (m2 oAdd (mRd 6) (mC (.int 130))) mNil))) (zat 8) [.v C,.v (.int c),.v (.int n),.v (zar fs),.o (.lst ((H::ls.map fun l=>lnT [dg l.1,dg l.2]).map .str)),.o (zc9 ls),.v (.int q.2),.v (.int q.1),sv o8,sv o9,.no]=.nx [.v C,.v (.int c),.v (.int n),.v (zar fs),.o (.lst ((H::ls.map fun l=>lnT [dg l.1,dg l.2]).map .str)),.o (zc9 ls),.v (.int q.2),.v (.int q.1),.v (.int x),sv o9,.no]:=zaT (d:=.int x) (by simp[zaf,zab,mNil,mVar,mRd,mC,hx]) (za5 rfl)
   have q2:mAsg (m2 oAdd (m2 oAdd (m2 oMod (mRd 8) (mRd 2)) (mC (.int 1))) (m2 oMod (m2 oDiv (mRd 8) (mRd 2)) (m2 oSub (mRd 2) (mC (.int 1))))) (zat 9) [.v C,.v (.int c),.v (.int n),.v (zar fs),.o (.lst ((H::ls.map fun l=>lnT [dg l.1,dg l.2]).map .str)),.o (zc9 ls),.v (.int q.2),.v (.int q.1),.v (.int x),sv o9,.no]=.nx [.v C,.v (.int c),.v (.int n),.v (zar fs),.o (.lst ((H::ls.map fun l=>lnT [dg l.1,dg l.2]).map .str)),.o (zc9 ls),.v (.int q.2),.v (.int q.1),.v (.int x),.v (.int (a+1+d)),.no]:=zaT (d:=.int (a+1+d)) (by simp[mRd,mC,zdk np fn,zbV np,zbV np1,← ea,← ed]) (za5 rfl)
   have q3:zbw 5 (mTup (zab (m2 oMod (mRd 8) (mRd 2)) (zab (m2 oMod (mRd 9) (mRd 2)) mNil))) [.v C,.v (.int c),.v (.int n),.v (zar fs),.o (.lst ((H::ls.map fun l=>lnT [dg l.1,dg l.2]).map .str)),.o (zc9 ls),.v (.int q.2),.v (.int q.1),.v (.int x),.v (.int (a+1+d)),.no]=.nx [.v C,.v (.int c),.v (.int n),.v (zar fs),.o (.lst ((H::ls.map fun l=>lnT [dg l.1,dg l.2]).map .str)),.o (zc9 (ls++[(a,b)])),.v (.int q.2),.v (.int q.1),.v (.int x),.v (.int (a+1+d)),.no]:=(zbJ (l:=ls.map encN) (d:=encN (a,b)) rfl (by simp[mTup,zab,mNil,mRd,zbV np,← ea,← eb,sizeLine,encN]) (by rw[List.length_map];omega)).trans (by simp[zc9])
   have q4:zbw 4 (m2 zds (m2 zds (mCB zdE (zab (m2 oMod (mRd 8) (mRd 2)) mNil)) (mC (.str " "))) (mCB zdE (zab (m2 oMod (mRd 9) (mRd 2)) mNil))) [.v C,.v (.int c),.v (.int n),.v (zar fs),.o (.lst ((H::ls.map fun l=>lnT [dg l.1,dg l.2]).map .str)),.o (zc9 (ls++[(a,b)])),.v (.int q.2),.v (.int q.1),.v (.int x),.v (.int (a+1+d)),.no]=.nx [.v C,.v (.int c),.v (.int n),.v (zar fs),.o (.lst ((H::(ls++[(a,b)]).map fun l=>lnT [dg l.1,dg l.2]).map .str)),.o (zc9 (ls++[(a,b)])),.v (.int q.2),.v (.int q.1),.v (.int x),.v (.int (a+1+d)),.no]:=(zbJ (l:=(H::ls.map fun l=>lnT [dg l.1,dg l.2]).map .str) (d:=.str (lnT [dg a,dg b])) rfl (by simp[mCB,zab,mNil,mRd,mC,zbV np,← ea,← eb,g1,g2,s1,s2]) (by simp;omega)).trans (by simp)
   refine⟨_,_,bs,.inl ((zau q1).trans ((zau q2).trans ((zau q3).trans q4))),ls++[(a,b)],some (.int q.2),some (.int q.1),some (.int x),some (.int (a+1+d)),rfl,fun l hl=>?_,by simp[hll]⟩
   rcases List.mem_append.mp hl with z|z
   ·exact okl l z
   ·rw[List.mem_singleton.mp z];exact okq)
  [.v C,.v (.int c),.v (.int n),.v (zar fs),.o (.lst [.str H]),.o (zc9 []),.no,.no,.no,.no,.no] ⟨[],none,none,none,none,rfl,by simp,rfl⟩
 rw[List.length_zipIdx] at hll
 obtain⟨L,eL⟩:∃L:List (List Str),L=(("touch" : Str)::fs.map wr)::ls.map fun l=>[dg l.1,dg l.2]:=⟨_,rfl⟩
 have tx:Tx L:=by
  rw[eL]
  refine⟨by simp,by simp;omega,fun ws hws=>?_⟩
  rcases List.mem_cons.mp hws with e|e
  ·rw[e];exact tln
  ·obtain⟨l,hl,rfl⟩:=List.mem_map.mp e
   have h:=okl l hl
   have:=h.a0
   have:=h.a1
   have:=h.b0
   have:=h.b1
   exact⟨by simp,by simp,fun w hw=>by
    rcases List.mem_cons.mp hw with z|z
    ·rw[z];exact zla (by omega) (by omega)
    ·rw[List.mem_singleton.mp z];exact zla (by omega) (by omega)⟩
 have rt:=zjy ok (by omega) (by omega) (by rw[l1];exact okl) (by omega)
 rw[← eL] at rt
 refine⟨L,un fs,[iL (fs.map (by1 (un fs))),zc9 ls],fs.map wr,ls.map fun l=>[dg l.1,dg l.2],tx,eL,zdp ?_,zpf rt,zph,?_,by simp,?_⟩
 case refine_2=>simp[okSp,iL,zc9];omega
 case refine_3=>
  refine zgO (zjd _ _) (zib fun y hy=>?_)
  obtain⟨p,_,rfl⟩:=List.mem_map.mp hy
  rfl
 show mSeq _ _ [.v C,.v (.int c),.no,.no,.no,.no,.no,.no,.no,.no,.no]=_
 refine sq (d:=.int n) (by simp[mRd,mC,zbV,en]) rfl ?_
 try dsimp only[List.set]
 have kk:zeG [.v C,.v (.int c),.v (.int n),.no,.no,.no,.no,.no,.no,.no,.no]=.ok (zar fs):=zaZ (l:=(upt n).map .int) (by simp[mRng,zab,mNil,mVar,rn]) (by rw[List.length_map,zcs];omega) k1
 refine sq (d:=zar fs) (kk) rfl ?_
 try dsimp only[List.set]
 have k2:zdI [.v C,.v (.int c),.v (.int n),.v (zar fs),.no,.no,.no,.no,.no,.no,.no]=.ok (.lst ((fs.map wr).map .str)):=zaZ (l:=fs.map encF) (by simp[mItL,mRd,zar]) (by rw[List.length_map];omega) (zix ok)
 have jn:zeD " " (m2 oCat (mLst (zab (mC (.str "touch")) mNil)) zdI) [.v C,.v (.int c),.v (.int n),.v (zar fs),.no,.no,.no,.no,.no,.no,.no]=.ok (.str H):=by
  have ct:=ziz (l:=[.str "touch"]) (r:=(fs.map wr).map .str) (by simp;omega)
  have ll:mLst (zab (mC (.str "touch")) mNil) [.v C,.v (.int c),.v (.int n),.v (zar fs),.no,.no,.no,.no,.no,.no,.no]=.ok (.lst [.str "touch"]):=by simp[mLst,zab,mNil,mC,sizeLine]
  simp only[zeD,zel,ll,k2,R.bind_ok,ct,R.of_some]
  rw[eH]
  exact zg1 tln
 refine sq (d:=.lst [.str H]) (by simp only[mLst,zab,mNil,jn,R.bind_ok];exact zbf (by simp[sizeLine])) rfl ?_
 try dsimp only[List.set]
 refine sq (d:=zc9 []) (by simp[mLst,mNil,sizeLine,zc9]) rfl ?_
 try dsimp only[List.set]
 refine sx (by
  have en:zgk (zab (mSl (mRd 0) mNoP (zc1 (mC (.int 24)))) mNil) [.v C,.v (.int c),.v (.int n),.v (zar fs),.o (.lst [.str H]),.o (zc9 []),.no,.no,.no,.no,.no]=.ok (cl.zipIdx.map encE):=by
   simp only[zgk,zab,mNil,sl' [.v C,.v (.int c),.v (.int n),.v (zar fs),.o (.lst [.str H]),.o (zc9 []),.no,.no,.no,.no,.no] rfl,R.bind_ok]
   show R.of (some (zgV (cl.map D.int)))=_
   rw[zfH,R.of_some]
  exact (zbP en).trans h1) ?_
 refine sq (d:=.int (un fs)) (by simp[zaf,zab,mNil,mVar,lu]) rfl ?_
 try dsimp only[List.set]
 have fin:(L.map lnT).map D.str=(H::ls.map fun l=>lnT [dg l.1,dg l.2]).map .str:=by rw[eL,eH];simp
 rw[fin]
 simp[mFrz,zck,mLst,mTup,zaf,zab,mNil,mVar,ab,sizeLine]
end My
namespace My
open PySem L2 PM
def fr (B x:Int):Fr:=(x/(Int.gcd B x:Int),B/(Int.gcd B x:Int))
theorem zqx {B x:Int} (b0:1≤B) (b1:B≤12) (x0:0≤x) (x1:x<1000000000000):AmOk (fr B x):=by
 obtain⟨⟨l1,l2⟩,⟨l3,l4⟩,l5,g0,g1⟩:=znZ (t:=x) (b:=B) x0 b0
 exact⟨l1,by show x/_<_;omega,l3,by show B/_≤12;omega,l5⟩
theorem zmc {B x:Int} {u:Nat} (h:(fr B x).2∣(u:Int)):by1 u (fr B x)*B=x*u:=by
 have e:=zli h
 have e1:(fr B x).2*(Int.gcd B x:Int)=B:=Int.ediv_mul_cancel (Int.gcd_dvd_left ..)
 have e2:(fr B x).1*(Int.gcd B x:Int)=x:=Int.ediv_mul_cancel (Int.gcd_dvd_right ..)
 obtain⟨y,ey⟩:∃y,y=by1 u (fr B x):=⟨_,rfl⟩
 rw[← ey] at e ⊢
 have k:y*((fr B x).2*(Int.gcd B x:Int))=(fr B x).1*(Int.gcd B x:Int)*u:=by
  rw[← Int.mul_assoc,e];grind
 rw[e1,e2] at k
 exact k
theorem zpN {n:Nat} {d:Int→Int→Int} {B:Int} {u:Nat} (ok:LenOk n 200000000002 d) (b0:1≤B) (b1:B≤12) (hu:u≤27720) (ud:∀a b:Int,0≤a→a<n→0≤b→b<n→(fr B (d a b)).2∣(u:Int)):LenOk n 1000000000000000000 fun a b=>by1 u (fr B (d a b)):=by
 refine⟨fun a b a0 a1 c0 c1=>?_,fun a a0 a1=>?_,fun a b a0 a1 c0 c1=>?_,fun a b c a0 a1 c0 c1 e0 e1=>?_⟩
 ·have:=ok.nn a b a0 a1 c0 c1
  exact zpE (zqx b0 b1 this.1 (by omega)) hu
 ·have m:=zmc (ud a a a0 a1 a0 a1)
  have z:=ok.self a a0 a1
  show by1 u (fr B (d a a))=0
  rw[z] at m ⊢
  rw[Int.zero_mul] at m
  rcases Int.mul_eq_zero.mp m with h|h
  ·exact h
  ·omega
 ·show by1 u (fr B (d a b))=by1 u (fr B (d b a))
  rw[ok.sym a b a0 a1 c0 c1]
 ·show by1 u (fr B (d a c))≤by1 u (fr B (d a b))+by1 u (fr B (d b c))
  have m1:=zmc (ud a c a0 a1 e0 e1)
  have m2:=zmc (ud a b a0 a1 c0 c1)
  have m3:=zmc (ud b c c0 c1 e0 e1)
  have t:=ok.tri a b c a0 a1 c0 c1 e0 e1
  have k:d a c*(u:Int)≤(d a b+d b c)*u:=Int.mul_le_mul_of_nonneg_right t (by omega)
  rw[Int.add_mul,← m1,← m2,← m3,← Int.add_mul] at k
  exact Int.le_of_mul_le_mul_right k (by omega)
structure TbOk (n:Nat) (fs:List (List Fr)):Prop where
 n0:1≤n
 n1:n≤12
 len:fs.length=n
 row:∀r∈fs,r.length=n
 am:∀r∈fs,∀f∈r,AmOk f
theorem zlW {n:Nat} {fs:List (List Fr)} (ok:TbOk n fs):∀f∈fs.flatten,AmOk f:=fun f hf=>by
 obtain⟨r,hr,h⟩:=List.mem_flatten.mp hf
 exact ok.am r hr f h
theorem zhK:∀ {fs:List (List Fr)} {n:Nat},(∀r∈fs,r.length=n)→fs.flatten.length=fs.length*n
 | [],n,_=>by simp
 | r::fs,n,h=>by
  have h1:=h r (by simp)
  have h2:=zhK (fs:=fs) (n:=n) fun x hx=>h x (by simp[hx])
  rw[List.flatten_cons,List.length_append,h1,h2,List.length_cons,Nat.add_mul];omega
def zbk (fs:List (List Fr)):D:=.lst (fs.map zar)
def tabU (u:Nat) (fs:List (List Fr)):D:=tabD (fs.map fun r=>r.map (by1 u))
theorem zlf {n:Nat} {fs:List (List Fr)} (ok:TbOk n fs) (hd:List Str):zeJ [zcW (hd::fs.map fun r=>r.map wr)]=.ok (zbk fs):=by
 have n0:=ok.n0
 have n1:=ok.n1
 have fl:=ok.len
 obtain⟨L,eL⟩:∃L:List (List Str),L=hd::fs.map fun r=>r.map wr:=⟨_,rfl⟩
 have ll:L.length=fs.length+1:=by rw[eL];simp
 rw[← eL]
 have rk:∀q:List Fr×Nat,fs[q.2]?=some q.1→oIxL (zcW L) (.int ((q.2:Int)+1))=some (rowD (q.1.map wr)):=fun q h=>by rw[eL];exact rowS (by rw[List.getElem?_map,h];rfl)
 have rl:=zgS L
 rw[ll] at rl
 obtain⟨r1,hr1⟩:∃r,fs[0]?=some r:=⟨_,List.getElem?_eq_getElem (by omega)⟩
 have i1:oIxL (zcW L) (.int 1)=some (rowD (r1.map wr)):=rk (r1,0) hr1
 have c1:fLen [rowD (r1.map wr)]=some (.int n):=by rw[zpF,List.length_map,ok.row r1 (List.mem_of_getElem? hr1)]
 obtain⟨Rs,eR⟩:∃Rs,Rs=zcW L:=⟨_,rfl⟩
 rw[← eR] at rk rl i1 ⊢
 obtain⟨W,eW⟩:∃W,W=rowD (r1.map wr):=⟨_,rfl⟩
 rw[← eW] at i1 c1
 have rn:=rngZ fs (by omega)
 have ne1:¬ (fs.length:Int)+1=1:=by omega
 have t12:¬ (12:Int)<(n:Int):=by omega
 obtain⟨δ,h1,o3,rfl⟩:=zbh (b:=zat 3) (m:=zhk) (fun q:List Fr×Nat=>.int ((q.2:Int)+1)) (fun pre δ=>∃o3,δ=[.v Rs,.v (.int n),.o (zbk (pre.map (·.1))),sv o3]) fs.zipIdx
  (by
   rintro pre q post δ hall ⟨o3,rfl⟩
   have hk:=(zbR hall).2.1
   have pl:pre.length=q.2:=(zbR hall).1.symm
   have qn:q.2<n:=by have:=(List.getElem?_eq_some_iff.mp hk).1;omega
   have ri:=rk q hk
   have okq:=ok.am q.1 (List.mem_of_getElem? hk)
   have ql:=ok.row q.1 (List.mem_of_getElem? hk)
   have lw:fLen [rowD (q.1.map wr)]=some (.int n):=by rw[zpF,List.length_map,ql]
   have t1:¬ (n:Int)<(q.2:Int)+1:=by omega
   obtain⟨V,eV⟩:∃V,V=rowD (q.1.map wr):=⟨_,rfl⟩
   rw[← eV] at ri lw
   obtain⟨A,eA⟩:∃A:List (List Fr),A=pre.map (·.1):=⟨_,rfl⟩
   have al:A.length=q.2:=by rw[eA,List.length_map,pl]
   have eA2:(pre++[q]).map (·.1)=A++[q.1]:=by rw[eA];simp
   rw[← eA]
   have bs:zat 3 (.int ((q.2:Int)+1)) [.v Rs,.v (.int n),.o (zbk A),sv o3]=some [.v Rs,.v (.int n),.o (zbk A),.v (.int ((q.2:Int)+1))]:=za5 rfl
   have k:zgf [.v Rs,.v (.int n),.o (zbk A),.v (.int ((q.2:Int)+1))]=.ok (zar q.1):=by
    refine zaZ (l:=(q.1.map wr).map .str) (by simp only[mItL,zel,mRd,List.getElem?_cons_succ,List.getElem?_cons_zero,R.bind_ok,ri,R.of_some];rw[eV];rfl) (by rw[List.length_map,List.length_map];omega) ?_
    refine zgA fun f hf=>?_
    have e:zbl [.v Rs,.v (.int n),.o (zbk A),.v (.int ((q.2:Int)+1))] [3] 1=[.v (.int ((q.2:Int)+1)),.no]:=rfl
    rw[e]
    simp[zcn,zaE,zaf,zab,mNil,mVar,zdf (okq f hf)]
   have q1:mDo (zaf zaq (zab (mOrV (m2 oGt (mRd 3) (mRd 1)) (m2 oNe (mCB fLen (zab (m2 oIxL (mRd 0) (mRd 3)) mNil)) (mRd 1))) (zab (mVar 3) mNil))) [.v Rs,.v (.int n),.o (zbk A),.v (.int ((q.2:Int)+1))]=.nx [.v Rs,.v (.int n),.o (zbk A),.v (.int ((q.2:Int)+1))]:=by simp[mDo,zaf,zab,mNil,mOrV,mRd,mC,mCB,mVar,ri,lw,t1,zbZ]
   have q2:zbw 2 zgf [.v Rs,.v (.int n),.o (zbk A),.v (.int ((q.2:Int)+1))]=.nx [.v Rs,.v (.int n),.o (zbk (A++[q.1])),.v (.int ((q.2:Int)+1))]:=(zbJ (l:=A.map zar) (d:=zar q.1) rfl k (by rw[List.length_map];omega)).trans (by simp[zbk])
   refine⟨_,_,bs,.inl ((zau q1).trans q2),some (.int ((q.2:Int)+1)),?_⟩
   rw[eA2];rfl)
  [.v Rs,.v (.int n),.o (zbk []),.no] ⟨none,rfl⟩
 have zm:fs.zipIdx.map (·.1)=fs:=List.zipIdx_map_fst 0 fs
 rw[zm] at h1
 have lT:fLen [zbk fs]=some (.int n):=by rw[← fl];simp[zbk]
 refine zdp ?_
 show mSeq _ _ [.v Rs,.no,.no,.no]=_
 refine sd (by
  have tt:m2 oEq (mCB fLen (zab (mRd 0) mNil)) (mC (.int 1)) [.v Rs,.no,.no,.no]=.ok (.bl false):=by
   simp only[zel,mCB,zab,mNil,mRd,mC,List.getElem?_cons_zero,R.bind_ok,rl,R.of_some,zq1]
   rw[decide_eq_false (by omega)]
  simp only[mDo,zaf,zab,mNil,tt,mC,R.bind_ok,zbZ]
  rfl) ?_
 refine sq (d:=.int n) (by simp[mCB,zab,mNil,mRd,mC,i1,c1]) rfl ?_
 try dsimp only[List.set]
 refine sd (by
  simp[zaf,zab,mNil,mRd,mC,t12,zbZ]) ?_
 refine sq (d:=zbk []) (by simp[mLst,mNil,sizeLine,zbk]) rfl ?_
 try dsimp only[List.set]
 refine sx ((zbP (l:=fs.zipIdx.map fun q=>.int ((q.2:Int)+1)) (by simp[mRng,zab,mNil,mC,mCB,mRd,rl,rn])).trans h1) ?_
 refine sd (by
  simp[zaf,zab,mNil,mRd,mCB,lT,rl,zbZ]) ?_
 rfl
theorem zfv {n:Nat} {fs:List (List Fr)} (ok:TbOk n fs) (hd:List Str):zco [zcW (hd::fs.map fun r=>r.map wr)]=.ok (.tup [.int (un fs.flatten),tabU (un fs.flatten) fs]):=by
 have n1:=ok.n1
 have fl:=ok.len
 have ti:=zlf ok hd
 have okf:=zlW ok
 have up:=(zf9 okf).1
 have uo:=zd6 okf
 obtain⟨Rs,eR⟩:∃Rs,Rs=zcW (hd::fs.map fun r=>r.map wr):=⟨_,rfl⟩
 rw[← eR] at ti ⊢
 obtain⟨u,eu⟩:∃u,u=un fs.flatten:=⟨_,rfl⟩
 rw[← eu] at uo up ⊢
 obtain⟨δ,h1,o3,rfl⟩:=zbh (b:=zat 3) (m:=zfk) zar (fun pre δ=>∃o3,δ=[.v Rs,.v (zbk fs),.o (zar pre.flatten),sv o3,.no]) fs
  (by
   rintro pre r post δ hall ⟨o3,rfl⟩
   have rl:=ok.row r (by rw[hall];simp)
   have pl:pre.length≤12:=by have:=congrArg List.length hall;simp at this;omega
   have fl:=zhK (fs:=pre) (n:=n) fun x hx=>ok.row x (by rw[hall];exact List.mem_append_left _ hx)
   have fb:pre.flatten.length≤144:=by rw[fl];exact Nat.le_trans (Nat.mul_le_mul pl n1) (by decide)
   refine⟨[.v Rs,.v (zbk fs),.o (zar pre.flatten),.v (zar r),.no],[.v Rs,.v (zbk fs),.o (zar (pre++[r]).flatten),.v (zar r),.no],za5 rfl,.inl ((zqr (l:=pre.flatten.map encF) (r:=r.map encF) rfl rfl (by rw[List.length_map,List.length_map];omega)).trans ?_),some (zar r),rfl⟩
   simp[zar])
  [.v Rs,.v (zbk fs),.o (zar []),.no,.no] ⟨none,rfl⟩
 refine zbp ?_
 show mSeq _ _ [.v Rs,.no,.no,.no,.no]=_
 refine sq (d:=zbk fs) (by simp[zaf,zab,mNil,mVar,ti]) rfl ?_
 try dsimp only[List.set]
 refine sq (d:=zar []) (by simp[mLst,mNil,sizeLine,zar]) rfl ?_
 try dsimp only[List.set]
 refine sx ((zbP (by simp[mItL,mVar,zbk])).trans h1) ?_
 refine sq (d:=.int u) (by simp[zhT,zab,mNil,mRd,uo,zgl]) rfl ?_
 try dsimp only[List.set]
 have k:zfw [.v Rs,.v (zbk fs),.o (zar fs.flatten),sv o3,.v (.int u)]=.ok (tabU u fs):=by
  refine Eq.trans (zaZ (l:=fs.map zar) (r:=fs.map fun r=>iL (r.map (by1 u))) (by simp[mItL,mRd,zbk]) (by rw[List.length_map];omega) ?_) (by simp[tabU,tabD])
  refine zbi zar (fun r=>iL (r.map (by1 u))) _ fun r hr=>?_
  have e:zbl [.v Rs,.v (zbk fs),.o (zar fs.flatten),sv o3,.v (.int u)] [4] 1=[.v (.int u),.no]:=rfl
  rw[e]
  have:=ok.row r hr
  simp[zcn,zaE,zaf,zab,mNil,mVar,zgL (ok.am r hr) up.2 (by omega)]
 simp[mRet,mTup,zab,mNil,mVar,k,sizeLine]
theorem zjJ {n:Nat} {fs:List (List Fr)} (ok:TbOk n fs):zdg [zcW ([("round" : Str)]::fs.map fun r=>r.map wr)]=.ok (.tup [.int (un fs.flatten),.tup [tabU (un fs.flatten) fs]]):=by
 have rl:=zfv ok [("round" : Str)]
 have r0:=row0 [("round" : Str)] (fs.map fun r=>r.map wr)
 have wc:=zd4 (ws:=[("round" : Str)]) (lo:=1) (hi:=1) (line:=0) (by simp) (by simp)
 obtain⟨W,eW⟩:∃W,W=rowD [("round" : Str)]:=⟨_,rfl⟩
 obtain⟨Rs,eR⟩:∃Rs,Rs=zcW ([("round" : Str)]::fs.map fun r=>r.map wr):=⟨_,rfl⟩
 rw[← eR] at rl r0 ⊢
 rw[← eW] at r0 wc
 obtain⟨T,eT⟩:∃T,T=tabU (un fs.flatten) fs:=⟨_,rfl⟩
 rw[← eT] at rl ⊢
 obtain⟨u,eu⟩:∃u,u=un fs.flatten:=⟨_,rfl⟩
 rw[← eu] at rl ⊢
 have i0:oIxT (.tup [.int u,T]) (.int 0)=some (.int u):=rfl
 have i1:oIxT (.tup [.int u,T]) (.int 1)=some T:=rfl
 refine zbp ?_
 show mSeq _ _ [.v Rs,.no]=_
 refine sd (by
  simp[zaf,zab,mNil,mRd,mC,r0,wc]) ?_
 refine sq (d:=.tup [.int u,T]) (by simp[zaf,zab,mNil,mVar,rl]) rfl ?_
 try dsimp only[List.set]
 simp[mRet,mTup,zab,mNil,mRd,mC,i0,i1,sizeLine]
theorem ziQ {n:Nat} {m:Int} {fs:List (List Fr)} (ok:TbOk n fs) (m0:1≤m) (m1:m≤n):zcX [zcW ([("places" : Str),dg m]::fs.map fun r=>r.map wr)]=.ok (.tup [.int (un fs.flatten),.tup [tabU (un fs.flatten) fs,.int m]]):=by
 have n1:=ok.n1
 have rl:=zfv ok [("places" : Str),dg m]
 have r0:=row0 [("places" : Str),dg m] (fs.map fun r=>r.map wr)
 have w1:oIxL (rowD [("places" : Str),dg m]) (.int 1)=some (.str (dg m)):=zjI (k:=1) rfl
 have wc:=zd4 (ws:=[("places" : Str),dg m]) (lo:=2) (hi:=2) (line:=0) (by simp) (by simp)
 have nb:=zdh (n:=m) (lo:=1) (hi:=12) (line:=0) (by omega) (by omega) m0 (by omega)
 obtain⟨W,eW⟩:∃W,W=rowD [("places" : Str),dg m]:=⟨_,rfl⟩
 obtain⟨Rs,eR⟩:∃Rs,Rs=zcW ([("places" : Str),dg m]::fs.map fun r=>r.map wr):=⟨_,rfl⟩
 rw[← eR] at rl r0 ⊢
 rw[← eW] at r0 wc w1
 have lT:fLen [tabU (un fs.flatten) fs]=some (.int n):=by rw[← ok.len];simp[tabU,tabD]
 obtain⟨T,eT⟩:∃T,T=tabU (un fs.flatten) fs:=⟨_,rfl⟩
 rw[← eT] at rl lT ⊢
 obtain⟨u,eu⟩:∃u,u=un fs.flatten:=⟨_,rfl⟩
 rw[← eu] at rl ⊢
 have i0:oIxT (.tup [.int u,T]) (.int 0)=some (.int u):=rfl
 have i1:oIxT (.tup [.int u,T]) (.int 1)=some T:=rfl
 have t1:¬ (n:Int)<m:=by omega
 refine zbp ?_
 show mSeq _ _ [.v Rs,.no,.no]=_
 refine sd (by
  simp[zaf,zab,mNil,mRd,mC,r0,wc]) ?_
 refine sq (d:=.int m) (by simp[zaf,zab,mNil,mRd,mC,r0,w1,nb]) rfl ?_
 try dsimp only[List.set]
 refine sq (d:=.tup [.int u,T]) (by simp[zaf,zab,mNil,mVar,rl]) rfl ?_
 try dsimp only[List.set]
 refine sd (by
  simp[zaf,zab,mNil,mRd,mC,mCB,i1,lT,t1,zbZ]) ?_
 simp[mRet,mTup,zab,mNil,mRd,mVar,mC,i0,i1,sizeLine]
theorem zfy (cs:List Int) {n:Nat} (n0:0<n) (n1:n≤8) (w:Int):∃(d:Int→Int→Int) (B:Int),LenOk n 200000000002 d∧1≤B∧B≤12∧zbY [iL cs,.int n,.int w]=.ok (zbk ((tabF n d).map fun r=>r.map (fr B))):=by
 obtain⟨d,ok,hd⟩:=zm1 cs n0 n1 (w/12)
 have m0:=zcq w (show (0:Int)<12 by decide)
 have m1:=zcp w (show (0:Int)<12 by decide)
 obtain⟨B,eB⟩:∃B,B=1+w%12:=⟨_,rfl⟩
 refine⟨d,B,ok,by omega,by omega,zdp ?_⟩
 obtain⟨C,eC⟩:∃C,C=iL cs:=⟨_,rfl⟩
 rw[← eC] at hd ⊢
 have f12:Fit 12:=fitN 1000 (by decide)
 have el:∀r∈tabF n d,r.length=n∧∀x∈r,0≤x∧x<1000000000000:=fun r hr=>by
  obtain⟨a,ha,rfl⟩:=List.mem_map.mp hr
  refine⟨by rw[List.length_map,zcs],fun x hx=>?_⟩
  obtain⟨b,hb,rfl⟩:=List.mem_map.mp hx
  obtain⟨a0,a1⟩:=mem_upt.mp ha
  obtain⟨b0,b1⟩:=mem_upt.mp hb
  have:=ok.nn a b a0 a1 b0 b1
  omega
 have tl:(tabF n d).length=n:=by simp[tabF,zcs]
 obtain⟨T,eT⟩:∃T,T=tabF n d:=⟨_,rfl⟩
 rw[← eT] at hd el tl ⊢
 obtain⟨δ,h1,o5,o6,o7,o8,rfl⟩:=zbh (b:=zat 5) (m:=zdZ) iL (fun pre δ=>∃o5 o6 o7 o8,δ=[.v C,.v (.int n),.v (.int w),.v (.int B),.o (zbk (pre.map fun r=>r.map (fr B))),sv o5,sv o6,sv o7,sv o8]) T
  (by
   rintro pre r post δ hall ⟨o5,o6,o7,o8,rfl⟩
   obtain⟨rl,rx⟩:=el r (by rw[hall];simp)
   have pl:pre.length≤8:=by have:=congrArg List.length hall;simp at this;omega
   obtain⟨A,eA⟩:∃A,A=zbk (pre.map fun r=>r.map (fr B)):=⟨_,rfl⟩
   obtain⟨δ2,g1,p7,p8,rfl⟩:=zbh (b:=zat 7) (m:=zdW) D.int (fun pre δ=>∃p7 p8,δ=[.v C,.v (.int n),.v (.int w),.v (.int B),.o A,.v (iL r),.o (zar (pre.map (fr B))),sv p7,sv p8]) r
    (by
     rintro pre2 x post2 δ hall2 ⟨p7,p8,rfl⟩
     obtain⟨x0,x1⟩:=rx x (by rw[hall2];simp)
     have pl2:pre2.length≤8:=by have:=congrArg List.length hall2;simp at this;omega
     have dv:=zgP (a:=B) (b:=x) (by omega) x0
     obtain⟨g,eg⟩:∃g:Int,g=(Int.gcd B x:Int):=⟨_,rfl⟩
     obtain⟨_,_,_,g0,g1⟩:=znZ (t:=x) (b:=B) x0 (by omega)
     have fe:fr B x=(x/g,B/g):=by rw[eg];rfl
     rw[← eg] at dv g0 g1
     have fg:Fit g:=fitN 1000 (by omega)
     have q1:mAsg (zaf zbB (zab (mVar 3) (zab (mVar 7) mNil))) (zat 8) [.v C,.v (.int n),.v (.int w),.v (.int B),.o A,.v (iL r),.o (zar (pre2.map (fr B))),.v (.int x),sv p8]=.nx [.v C,.v (.int n),.v (.int w),.v (.int B),.o A,.v (iL r),.o (zar (pre2.map (fr B))),.v (.int x),.v (.int g)]:=zaT (d:=.int g) (by simp[zaf,zab,mNil,mVar,dv]) (za5 rfl)
     have q2:zbw 6 (mTup (zab (m2 oDiv (mRd 7) (mRd 8)) (zab (m2 oDiv (mRd 3) (mRd 8)) mNil))) [.v C,.v (.int n),.v (.int w),.v (.int B),.o A,.v (iL r),.o (zar (pre2.map (fr B))),.v (.int x),.v (.int g)]=.nx [.v C,.v (.int n),.v (.int w),.v (.int B),.o A,.v (iL r),.o (zar ((pre2++[x]).map (fr B))),.v (.int x),.v (.int g)]:=(zbJ (l:=(pre2.map (fr B)).map encF) (d:=encF (fr B x)) rfl (by rw[fe];simp[mTup,zab,mNil,mRd,zdk g0 fg,sizeLine,encF]) (by rw[List.length_map,List.length_map];omega)).trans (by simp[zar])
     exact⟨_,_,za5 rfl,.inl ((zau q1).trans q2),some (.int x),some (.int g),rfl⟩)
    [.v C,.v (.int n),.v (.int w),.v (.int B),.o A,.v (iL r),.o (zar []),sv o7,sv o8] ⟨o7,o8,rfl⟩
   rw[← eA]
   have q1:mAsg (mLst mNil) (bNew 6) [.v C,.v (.int n),.v (.int w),.v (.int B),.o A,.v (iL r),sv o6,sv o7,sv o8]=.nx [.v C,.v (.int n),.v (.int w),.v (.int B),.o A,.v (iL r),.o (zar []),sv o7,sv o8]:=zaT (d:=zar []) (by simp[mLst,mNil,sizeLine,zar]) (by rcases o6 with _|o6 <;> rfl)
   have q2:zed [.v C,.v (.int n),.v (.int w),.v (.int B),.o A,.v (iL r),.o (zar []),sv o7,sv o8]=.nx [.v C,.v (.int n),.v (.int w),.v (.int B),.o A,.v (iL r),.o (zar (r.map (fr B))),sv p7,sv p8]:=(zbP (by simp[mItL,mVar,iL])).trans g1
   refine⟨[.v C,.v (.int n),.v (.int w),.v (.int B),.o A,.v (iL r),sv o6,sv o7,sv o8],[.v C,.v (.int n),.v (.int w),.v (.int B),.o (zbk ((pre++[r]).map fun r=>r.map (fr B))),.v (iL r),.v (zar (r.map (fr B))),sv p7,sv p8],za5 rfl,.inl ((zau q1).trans ((zau q2).trans ?_)),some (iL r),some (zar (r.map (fr B))),p7,p8,rfl⟩
   show zbw 4 (mVar 6) [.v C,.v (.int n),.v (.int w),.v (.int B),.o A,.v (iL r),.v (zar (r.map (fr B))),sv p7,sv p8]=_
   refine (zbJ (l:=(pre.map fun r=>r.map (fr B)).map zar) (d:=zar (r.map (fr B))) (by rw[eA];rfl) rfl (by rw[List.length_map,List.length_map];omega)).trans ?_
   simp[zbk])
  [.v C,.v (.int n),.v (.int w),.v (.int B),.o (zbk []),.no,.no,.no,.no] ⟨none,none,none,none,rfl⟩
 show mSeq _ _ [.v C,.v (.int n),.v (.int w),.no,.no,.no,.no,.no,.no]=_
 refine sq (d:=.int B) (by simp[mRd,mC,zbV,eB]) rfl ?_
 try dsimp only[List.set]
 refine sq (d:=zbk []) (by simp[mLst,mNil,sizeLine,zbk]) rfl ?_
 try dsimp only[List.set]
 refine sx (by
  have it:mItL (zaf zcx (zab (mVar 0) (zab (mVar 1) (zab (m2 oDiv (mRd 2) (mC (.int 12))) mNil)))) [.v C,.v (.int n),.v (.int w),.v (.int B),.o (zbk []),.no,.no,.no,.no]=.ok (T.map iL):=by
   simp[mItL,zaf,zab,mNil,mVar,mRd,mC,zdk (show (0:Int)<12 by decide) f12,hd,tabD]
  exact (zbP it).trans h1) ?_
 rfl
end My
namespace My
open PySem L2 PM
theorem zna (cs:List Int) (c:Int):Kd "round" (zbm [iL cs,.int c,.str "round"]):=by
 have m0:=zcq c (show (0:Int)<7 by decide)
 have m1:=zcp c (show (0:Int)<7 by decide)
 obtain⟨n,en⟩:∃n:Nat,(n:Int)=1+c%7:=⟨(1+c%7).toNat,by omega⟩
 have f7:Fit 7:=fitN 1000 (by decide)
 have f49:Fit 49:=fitN 1000 (by decide)
 obtain⟨d,B,okd,B0,B1,hk⟩:=zfy cs (n:=n) (by omega) (by omega) (c/7)
 obtain⟨fs,efs⟩:∃fs,fs=(tabF n d).map fun r=>r.map (fr B):=⟨_,rfl⟩
 have ok:TbOk n fs:=by
  refine⟨by omega,by omega,by rw[efs];simp[tabF,zcs],fun r hr=>?_,fun r hr f hf=>?_⟩
  ·rw[efs] at hr
   obtain⟨s,hs,rfl⟩:=List.mem_map.mp hr
   obtain⟨a,_,rfl⟩:=List.mem_map.mp hs
   rw[List.length_map,List.length_map,zcs]
  ·rw[efs] at hr
   obtain⟨s,hs,rfl⟩:=List.mem_map.mp hr
   obtain⟨a,ha,rfl⟩:=List.mem_map.mp hs
   obtain⟨x,hx,rfl⟩:=List.mem_map.mp hf
   obtain⟨b,hb,rfl⟩:=List.mem_map.mp hx
   obtain⟨a0,a1⟩:=mem_upt.mp ha
   obtain⟨b0,b1⟩:=mem_upt.mp hb
   have:=okd.nn a b a0 a1 b0 b1
   exact zqx B0 B1 this.1 (by omega)
 rw[← efs] at hk
 have okf:=zlW ok
 obtain⟨⟨u0,u1⟩,ud⟩:=zf9 okf
 have lu:=zda okf
 obtain⟨u,eu⟩:∃u,u=un fs.flatten:=⟨_,rfl⟩
 have fl:=ok.len
 have look:zdo [tabU (un fs.flatten) fs]=.ok .non:=by
  have e:tabU (un fs.flatten) fs=tabD (tabF n fun a b=>by1 (un fs.flatten) (fr B (d a b))):=by
   unfold tabU
   congr 1
   rw[← eu,efs]
   simp[tabF]
  rw[e]
  refine zjg (by omega) (zpN okd B0 B1 u1 fun a b a0 a1 b0 b1=>ud _ ?_)
  rw[efs]
  refine List.mem_flatten.mpr ⟨((upt n).map (d a)).map (fr B),List.mem_map.mpr ⟨_,List.mem_map.mpr ⟨a,mem_upt.mpr ⟨a0,a1⟩,rfl⟩,rfl⟩,?_⟩
  exact List.mem_map.mpr ⟨d a b,List.mem_map.mpr ⟨b,mem_upt.mpr ⟨b0,b1⟩,rfl⟩,rfl⟩
 have lnr:∀r∈fs,Ln (r.map wr):=fun r hr=>by
  have rl:=ok.row r hr
  refine⟨fun z=>?_,by rw[List.length_map];omega,fun w hw=>?_⟩
  ·have:=congrArg List.length z
   rw[List.length_map,List.length_nil] at this
   omega
  ·obtain⟨f,hf,rfl⟩:=List.mem_map.mp hw
   exact zjT (ok.am r hr f hf)
 have ab:∀r∈fs,zaL [zar r,.int u]=.ok (iL (r.map (by1 u))):=fun r hr=>by
  have:=ok.row r hr
  rw[eu]
  exact zcQ (ok.am r hr) (fun f hf=>ud f (List.mem_flatten.mpr ⟨r,hr,hf⟩)) u1 (by omega)
 obtain⟨C,eC⟩:∃C,C=iL cs:=⟨_,rfl⟩
 rw[← eC] at hk ⊢
 obtain⟨L,eL⟩:∃L:List (List Str),L=[("round" : Str)]::fs.map fun r=>r.map wr:=⟨_,rfl⟩
 have tx:Tx L:=by
  rw[eL]
  refine⟨by simp,by simp;omega,fun ws hws=>?_⟩
  rcases List.mem_cons.mp hws with e|e
  ·rw[e]
   exact⟨by simp,by simp,fun w hw=>by rw[List.mem_singleton.mp hw];exact zoS⟩
  ·obtain⟨r,hr,rfl⟩:=List.mem_map.mp e
   exact lnr r hr
 have rr:=zjJ ok
 rw[← eL,← eu] at rr
 rw[← eu] at look
 have one:okA 7 (.tup [tabU u fs])=true:=by
  show (okA 6 (tabU u fs) && true)=true
  rw[Bool.and_true]
  refine zib fun y hy=>?_
  obtain⟨p,_,rfl⟩:=List.mem_map.mp hy
  exact zjd _ _
 refine⟨L,u,[tabU u fs],[],fs.map fun r=>r.map wr,tx,eL,zdp ?_,zo1 rr,zoR look,?_,by simp,one⟩
 case refine_2=>simp[okSp,tabU,tabD];omega
 obtain⟨δ,h1,o7,rfl⟩:=zbh (b:=zat 7) (m:=zc0) zar (fun pre δ=>∃o7,δ=[.v C,.v (.int c),.v (.str "round"),.v (.int n),.v (zbk fs),.o (.lst ((("round" : Str)::pre.map fun r=>lnT (r.map wr)).map .str)),.v (zar pre.flatten),sv o7,.no,.no,.no]) fs
  (by
   rintro pre r post δ hall ⟨o7,rfl⟩
   have hr:r∈fs:=by rw[hall];simp
   have rl:=ok.row r hr
   have pl:pre.length≤12:=by have:=congrArg List.length hall;simp at this;omega
   have fl:=zhK (fs:=pre) (n:=n) fun x hx=>ok.row x (by rw[hall];exact List.mem_append_left _ hx)
   have fb:pre.flatten.length≤144:=by rw[fl];exact Nat.le_trans (Nat.mul_le_mul pl (show n≤12 by omega)) (by decide)
   obtain⟨A,eA⟩:∃A,A=D.lst ((("round" : Str)::pre.map fun r=>lnT (r.map wr)).map .str):=⟨_,rfl⟩
   rw[← eA]
   have k:zb9 [.v C,.v (.int c),.v (.str "round"),.v (.int n),.v (zbk fs),.o A,.v (zar pre.flatten),.v (zar r),.no,.no,.no]=.ok (.lst ((r.map wr).map .str)):=zaZ (l:=r.map encF) (by simp[mItL,mRd,zar]) (by rw[List.length_map];omega) (zix (ok.am r hr))
   have q1:zbw 5 (zeD " " zb9) [.v C,.v (.int c),.v (.str "round"),.v (.int n),.v (zbk fs),.o A,.v (zar pre.flatten),.v (zar r),.no,.no,.no]=.nx [.v C,.v (.int c),.v (.str "round"),.v (.int n),.v (zbk fs),.o (.lst ((("round" : Str)::(pre++[r]).map fun r=>lnT (r.map wr)).map .str)),.v (zar pre.flatten),.v (zar r),.no,.no,.no]:=by
    refine (zbJ (l:=(("round" : Str)::pre.map fun r=>lnT (r.map wr)).map .str) (d:=.str (lnT (r.map wr))) (by rw[eA];rfl) (by simp only[zeD,k,R.bind_ok];exact zg1 (lnr r hr)) (by simp;omega)).trans ?_
    simp
   have q2:mAsg (m2 oCat (mRd 6) (mRd 7)) (zat 6) [.v C,.v (.int c),.v (.str "round"),.v (.int n),.v (zbk fs),.o (.lst ((("round" : Str)::(pre++[r]).map fun r=>lnT (r.map wr)).map .str)),.v (zar pre.flatten),.v (zar r),.no,.no,.no]=.nx [.v C,.v (.int c),.v (.str "round"),.v (.int n),.v (zbk fs),.o (.lst ((("round" : Str)::(pre++[r]).map fun r=>lnT (r.map wr)).map .str)),.v (zar (pre++[r]).flatten),.v (zar r),.no,.no,.no]:=by
    have ct:=catF (l:=pre.flatten) (r:=r) (by omega)
    have e:(pre++[r]).flatten=pre.flatten++r:=by simp
    rw[e]
    exact zaT (d:=zar (pre.flatten++r)) (by simp only[zel,mRd,List.getElem?_cons_succ,List.getElem?_cons_zero,R.bind_ok,ct,R.of_some]) rfl
   exact⟨_,_,za5 rfl,.inl ((zau q1).trans q2),some (zar r),rfl⟩)
  [.v C,.v (.int c),.v (.str "round"),.v (.int n),.v (zbk fs),.o (.lst [.str "round"]),.v (zar []),.no,.no,.no,.no] ⟨none,rfl⟩
 have q1:mAsg (m2 oAdd (mC (.int 1)) (m2 oMod (mRd 1) (mC (.int 7)))) (zat 3) [.v C,.v (.int c),.v (.str "round"),.no,.no,.no,.no,.no,.no,.no,.no]=.nx [.v C,.v (.int c),.v (.str "round"),.v (.int n),.no,.no,.no,.no,.no,.no,.no]:=zaT (d:=.int n) (by simp[mRd,mC,zbV,en]) rfl
 have q2:mAsg (zaf zbY (zab (mVar 0) (zab (mVar 3) (zab (m2 oDiv (mRd 1) (mC (.int 7))) mNil)))) (zat 4) [.v C,.v (.int c),.v (.str "round"),.v (.int n),.no,.no,.no,.no,.no,.no,.no]=.nx [.v C,.v (.int c),.v (.str "round"),.v (.int n),.v (zbk fs),.no,.no,.no,.no,.no,.no]:=zaT (d:=zbk fs) (by simp[zaf,zab,mNil,mVar,mRd,mC,zdk (show (0:Int)<7 by decide) f7,hk]) rfl
 have q3:mAsg (mLst (zab (mVar 2) mNil)) (bNew 5) [.v C,.v (.int c),.v (.str "round"),.v (.int n),.v (zbk fs),.no,.no,.no,.no,.no,.no]=.nx [.v C,.v (.int c),.v (.str "round"),.v (.int n),.v (zbk fs),.o (.lst [.str "round"]),.no,.no,.no,.no,.no]:=zaT (d:=.lst [.str "round"]) (by simp[mLst,zab,mNil,mVar,sizeLine]) rfl
 have q4:mAsg (mLst mNil) (zat 6) [.v C,.v (.int c),.v (.str "round"),.v (.int n),.v (zbk fs),.o (.lst [.str "round"]),.no,.no,.no,.no,.no]=.nx [.v C,.v (.int c),.v (.str "round"),.v (.int n),.v (zbk fs),.o (.lst [.str "round"]),.v (zar []),.no,.no,.no,.no]:=zaT (d:=zar []) (by simp[mLst,mNil,sizeLine,zar]) rfl
 have q5:zei [.v C,.v (.int c),.v (.str "round"),.v (.int n),.v (zbk fs),.o (.lst [.str "round"]),.v (zar []),.no,.no,.no,.no]=.nx [.v C,.v (.int c),.v (.str "round"),.v (.int n),.v (zbk fs),.o (.lst ((("round" : Str)::fs.map fun r=>lnT (r.map wr)).map .str)),.v (zar fs.flatten),sv o7,.no,.no,.no]:=(zbP (by simp[mItL,mVar,zbk])).trans h1
 have q6:mAsg (zaf zbI (zab (mVar 6) mNil)) (zat 8) [.v C,.v (.int c),.v (.str "round"),.v (.int n),.v (zbk fs),.o (.lst ((("round" : Str)::fs.map fun r=>lnT (r.map wr)).map .str)),.v (zar fs.flatten),sv o7,.no,.no,.no]=.nx [.v C,.v (.int c),.v (.str "round"),.v (.int n),.v (zbk fs),.o (.lst ((("round" : Str)::fs.map fun r=>lnT (r.map wr)).map .str)),.v (zar fs.flatten),sv o7,.v (.int u),.no,.no]:=zaT (d:=.int u) (by simp[zaf,zab,mNil,mVar,lu,eu]) rfl
 have k2:zcy [.v C,.v (.int c),.v (.str "round"),.v (.int n),.v (zbk fs),.o (.lst ((("round" : Str)::fs.map fun r=>lnT (r.map wr)).map .str)),.v (zar fs.flatten),sv o7,.v (.int u),.no,.no]=.ok (tabU u fs):=by
  refine Eq.trans (zaZ (l:=fs.map zar) (r:=fs.map fun r=>iL (r.map (by1 u))) (by simp[mItL,mRd,zbk]) (by rw[List.length_map];omega) ?_) (by simp[tabU,tabD])
  refine zbi zar (fun r=>iL (r.map (by1 u))) _ fun r hr=>?_
  have e:zbl [.v C,.v (.int c),.v (.str "round"),.v (.int n),.v (zbk fs),.o (.lst ((("round" : Str)::fs.map fun r=>lnT (r.map wr)).map .str)),.v (zar fs.flatten),sv o7,.v (.int u),.no,.no] [8] 1=[.v (.int u),.no]:=rfl
  rw[e]
  simp[zcn,zaE,zaf,zab,mNil,mVar,ab r hr]
 have q7:mAsg zcy (zat 9) [.v C,.v (.int c),.v (.str "round"),.v (.int n),.v (zbk fs),.o (.lst ((("round" : Str)::fs.map fun r=>lnT (r.map wr)).map .str)),.v (zar fs.flatten),sv o7,.v (.int u),.no,.no]=.nx [.v C,.v (.int c),.v (.str "round"),.v (.int n),.v (zbk fs),.o (.lst ((("round" : Str)::fs.map fun r=>lnT (r.map wr)).map .str)),.v (zar fs.flatten),sv o7,.v (.int u),.v (tabU u fs),.no]:=zaT (d:=tabU u fs) (k2) rfl
 have fin:(L.map lnT).map D.str=(("round" : Str)::fs.map fun r=>lnT (r.map wr)).map .str:=by rw[eL];simp[zrB]
 rw[fin]
 refine ((zau q1).trans ((zau q2).trans ((zau q3).trans ((zau q4).trans ((zau q5).trans ((zau q6).trans ((zau q7).trans (zlS ?_))))))))
 rw[zd0 (by simp[zaA,mRd,mC,eqS])]
 simp[mFrz,zck,mLst,mTup,zab,mNil,mVar,sizeLine]
theorem zlx (cs:List Int) (c:Int):Kd "places" (zbm [iL cs,.int c,.str "places"]):=by
 have m0:=zcq c (show (0:Int)<7 by decide)
 have m1:=zcp c (show (0:Int)<7 by decide)
 obtain⟨n,en⟩:∃n:Nat,(n:Int)=1+c%7:=⟨(1+c%7).toNat,by omega⟩
 have f7:Fit 7:=fitN 1000 (by decide)
 have f49:Fit 49:=fitN 1000 (by decide)
 obtain⟨d,B,okd,B0,B1,hk⟩:=zfy cs (n:=n) (by omega) (by omega) (c/7)
 obtain⟨fs,efs⟩:∃fs,fs=(tabF n d).map fun r=>r.map (fr B):=⟨_,rfl⟩
 have ok:TbOk n fs:=by
  refine⟨by omega,by omega,by rw[efs];simp[tabF,zcs],fun r hr=>?_,fun r hr f hf=>?_⟩
  ·rw[efs] at hr
   obtain⟨s,hs,rfl⟩:=List.mem_map.mp hr
   obtain⟨a,_,rfl⟩:=List.mem_map.mp hs
   rw[List.length_map,List.length_map,zcs]
  ·rw[efs] at hr
   obtain⟨s,hs,rfl⟩:=List.mem_map.mp hr
   obtain⟨a,ha,rfl⟩:=List.mem_map.mp hs
   obtain⟨x,hx,rfl⟩:=List.mem_map.mp hf
   obtain⟨b,hb,rfl⟩:=List.mem_map.mp hx
   obtain⟨a0,a1⟩:=mem_upt.mp ha
   obtain⟨b0,b1⟩:=mem_upt.mp hb
   have:=okd.nn a b a0 a1 b0 b1
   exact zqx B0 B1 this.1 (by omega)
 rw[← efs] at hk
 have okf:=zlW ok
 obtain⟨⟨u0,u1⟩,ud⟩:=zf9 okf
 have lu:=zda okf
 obtain⟨u,eu⟩:∃u,u=un fs.flatten:=⟨_,rfl⟩
 have fl:=ok.len
 have look:zdo [tabU (un fs.flatten) fs]=.ok .non:=by
  have e:tabU (un fs.flatten) fs=tabD (tabF n fun a b=>by1 (un fs.flatten) (fr B (d a b))):=by
   unfold tabU
   congr 1
   rw[← eu,efs]
   simp[tabF]
  rw[e]
  refine zjg (by omega) (zpN okd B0 B1 u1 fun a b a0 a1 b0 b1=>ud _ ?_)
  rw[efs]
  refine List.mem_flatten.mpr ⟨((upt n).map (d a)).map (fr B),List.mem_map.mpr ⟨_,List.mem_map.mpr ⟨a,mem_upt.mpr ⟨a0,a1⟩,rfl⟩,rfl⟩,?_⟩
  exact List.mem_map.mpr ⟨d a b,List.mem_map.mpr ⟨b,mem_upt.mpr ⟨b0,b1⟩,rfl⟩,rfl⟩
 have lnr:∀r∈fs,Ln (r.map wr):=fun r hr=>by
  have rl:=ok.row r hr
  refine⟨fun z=>?_,by rw[List.length_map];omega,fun w hw=>?_⟩
  ·have:=congrArg List.length z
   rw[List.length_map,List.length_nil] at this
   omega
  ·obtain⟨f,hf,rfl⟩:=List.mem_map.mp hw
   exact zjT (ok.am r hr f hf)
 have ab:∀r∈fs,zaL [zar r,.int u]=.ok (iL (r.map (by1 u))):=fun r hr=>by
  have:=ok.row r hr
  rw[eu]
  exact zcQ (ok.am r hr) (fun f hf=>ud f (List.mem_flatten.mpr ⟨r,hr,hf⟩)) u1 (by omega)
 obtain⟨C,eC⟩:∃C,C=iL cs:=⟨_,rfl⟩
 rw[← eC] at hk ⊢
 have np:(0:Int)<(n:Int):=by omega
 have h0:=zcq (c/49) np
 have h9:=zcp (c/49) np
 obtain⟨m,em⟩:∃m,m=1+c/49%(n:Int):=⟨_,rfl⟩
 have wm:Wd (dg m):=zla (by omega) (by omega)
 have wl:=wm.len
 have sm:zdE [.int m]=some (.str (dg m)):=zmH (by omega) (by omega)
 have b1:(" " : Str).length=1:=by decide +kernel
 have b6:("places" : Str).length=6:=by decide +kernel
 have s1:zds (.str "places") (.str " ")=some (.str ("places"++" ")):=zfD (by omega)
 have s2:zds (.str ("places"++" ")) (.str (dg m))=some (.str (lnT [("places" : Str),dg m])):=by rw[zfD (by rw[zhf];omega),zk7]
 obtain⟨L,eL⟩:∃L:List (List Str),L=[("places" : Str),dg m]::fs.map fun r=>r.map wr:=⟨_,rfl⟩
 have tx:Tx L:=by
  rw[eL]
  refine⟨by simp,by simp;omega,fun ws hws=>?_⟩
  rcases List.mem_cons.mp hws with e|e
  ·rw[e]
   exact⟨by simp,by simp,fun w hw=>by
    rcases List.mem_cons.mp hw with z|z
    ·rw[z];exact zov
    ·rw[List.mem_singleton.mp z];exact wm⟩
  ·obtain⟨r,hr,rfl⟩:=List.mem_map.mp e
   exact lnr r hr
 have rr:=ziQ ok (m:=m) (by omega) (by omega)
 rw[← eL,← eu] at rr
 rw[← eu] at look
 refine⟨L,u,[tabU u fs,.int m],[dg m],fs.map fun r=>r.map wr,tx,eL,zdp ?_,znm rr,znk look,?_,by simp,?_⟩
 case refine_2=>simp[okSp,tabU,tabD];omega
 case refine_3=>
  refine zgO (zib fun y hy=>?_) rfl
  obtain⟨p,_,rfl⟩:=List.mem_map.mp hy
  exact zjd _ _
 obtain⟨δ,h1,o7,rfl⟩:=zbh (b:=zat 7) (m:=zc0) zar (fun pre δ=>∃o7,δ=[.v C,.v (.int c),.v (.str "places"),.v (.int n),.v (zbk fs),.o (.lst ((("places" : Str)::pre.map fun r=>lnT (r.map wr)).map .str)),.v (zar pre.flatten),sv o7,.no,.no,.no]) fs
  (by
   rintro pre r post δ hall ⟨o7,rfl⟩
   have hr:r∈fs:=by rw[hall];simp
   have rl:=ok.row r hr
   have pl:pre.length≤12:=by have:=congrArg List.length hall;simp at this;omega
   have fl:=zhK (fs:=pre) (n:=n) fun x hx=>ok.row x (by rw[hall];exact List.mem_append_left _ hx)
   have fb:pre.flatten.length≤144:=by rw[fl];exact Nat.le_trans (Nat.mul_le_mul pl (show n≤12 by omega)) (by decide)
   obtain⟨A,eA⟩:∃A,A=D.lst ((("places" : Str)::pre.map fun r=>lnT (r.map wr)).map .str):=⟨_,rfl⟩
   rw[← eA]
   have k:zb9 [.v C,.v (.int c),.v (.str "places"),.v (.int n),.v (zbk fs),.o A,.v (zar pre.flatten),.v (zar r),.no,.no,.no]=.ok (.lst ((r.map wr).map .str)):=zaZ (l:=r.map encF) (by simp[mItL,mRd,zar]) (by rw[List.length_map];omega) (zix (ok.am r hr))
   have q1:zbw 5 (zeD " " zb9) [.v C,.v (.int c),.v (.str "places"),.v (.int n),.v (zbk fs),.o A,.v (zar pre.flatten),.v (zar r),.no,.no,.no]=.nx [.v C,.v (.int c),.v (.str "places"),.v (.int n),.v (zbk fs),.o (.lst ((("places" : Str)::(pre++[r]).map fun r=>lnT (r.map wr)).map .str)),.v (zar pre.flatten),.v (zar r),.no,.no,.no]:=by
    refine (zbJ (l:=(("places" : Str)::pre.map fun r=>lnT (r.map wr)).map .str) (d:=.str (lnT (r.map wr))) (by rw[eA];rfl) (by simp only[zeD,k,R.bind_ok];exact zg1 (lnr r hr)) (by simp;omega)).trans ?_
    simp
   have q2:mAsg (m2 oCat (mRd 6) (mRd 7)) (zat 6) [.v C,.v (.int c),.v (.str "places"),.v (.int n),.v (zbk fs),.o (.lst ((("places" : Str)::(pre++[r]).map fun r=>lnT (r.map wr)).map .str)),.v (zar pre.flatten),.v (zar r),.no,.no,.no]=.nx [.v C,.v (.int c),.v (.str "places"),.v (.int n),.v (zbk fs),.o (.lst ((("places" : Str)::(pre++[r]).map fun r=>lnT (r.map wr)).map .str)),.v (zar (pre++[r]).flatten),.v (zar r),.no,.no,.no]:=by
    have ct:=catF (l:=pre.flatten) (r:=r) (by omega)
    have e:(pre++[r]).flatten=pre.flatten++r:=by simp
    rw[e]
    exact zaT (d:=zar (pre.flatten++r)) (by simp only[zel,mRd,List.getElem?_cons_succ,List.getElem?_cons_zero,R.bind_ok,ct,R.of_some]) rfl
   exact⟨_,_,za5 rfl,.inl ((zau q1).trans q2),some (zar r),rfl⟩)
  [.v C,.v (.int c),.v (.str "places"),.v (.int n),.v (zbk fs),.o (.lst [.str "places"]),.v (zar []),.no,.no,.no,.no] ⟨none,rfl⟩
 show mSeq _ _ [.v C,.v (.int c),.v (.str "places"),.no,.no,.no,.no,.no,.no,.no,.no]=_
 refine sq (d:=.int n) (by simp[mRd,mC,zbV,en]) rfl ?_
 try dsimp only[List.set]
 refine sq (d:=zbk fs) (by simp[zaf,zab,mNil,mVar,mRd,mC,zdk (show (0:Int)<7 by decide) f7,hk]) rfl ?_
 try dsimp only[List.set]
 refine sq (d:=.lst [.str "places"]) (by simp[mLst,zab,mNil,mVar,sizeLine]) rfl ?_
 try dsimp only[List.set]
 refine sq (d:=zar []) (by simp[mLst,mNil,sizeLine,zar]) rfl ?_
 try dsimp only[List.set]
 refine sx ((zbP (by simp[mItL,mVar,zbk])).trans h1) ?_
 refine sq (d:=.int u) (by simp[zaf,zab,mNil,mVar,lu,eu]) rfl ?_
 try dsimp only[List.set]
 have k2:zcy [.v C,.v (.int c),.v (.str "places"),.v (.int n),.v (zbk fs),.o (.lst ((("places" : Str)::fs.map fun r=>lnT (r.map wr)).map .str)),.v (zar fs.flatten),sv o7,.v (.int u),.no,.no]=.ok (tabU u fs):=by
  refine Eq.trans (zaZ (l:=fs.map zar) (r:=fs.map fun r=>iL (r.map (by1 u))) (by simp[mItL,mRd,zbk]) (by rw[List.length_map];omega) ?_) (by simp[tabU,tabD])
  refine zbi zar (fun r=>iL (r.map (by1 u))) _ fun r hr=>?_
  have e:zbl [.v C,.v (.int c),.v (.str "places"),.v (.int n),.v (zbk fs),.o (.lst ((("places" : Str)::fs.map fun r=>lnT (r.map wr)).map .str)),.v (zar fs.flatten),sv o7,.v (.int u),.no,.no] [8] 1=[.v (.int u),.no]:=rfl
  rw[e]
  simp[zcn,zaE,zaf,zab,mNil,mVar,ab r hr]
 refine sq (d:=tabU u fs) (k2) rfl ?_
 try dsimp only[List.set]
 refine sx ((zcL (by simp[zaA,mRd,mC,neS (show ("places" : Str)≠"round" by decide +kernel)])).trans rfl) ?_
 refine sq (d:=.int m) (by simp[mRd,mC,zdk (show (0:Int)<49 by decide) f49,zbV np,em]) rfl ?_
 try dsimp only[List.set]
 have fin:(L.map lnT).map D.str=.str (lnT [("places" : Str),dg m])::(fs.map fun r=>lnT (r.map wr)).map .str:=by rw[eL];simp
 rw[fin]
 have sl:mSl (mRd 5) (zc1 (mC (.int 1))) mNoP [.v C,.v (.int c),.v (.str "places"),.v (.int n),.v (zbk fs),.o (.lst ((("places" : Str)::fs.map fun r=>lnT (r.map wr)).map .str)),.v (zar fs.flatten),sv o7,.v (.int u),.v (tabU u fs),.v (.int m)]=.ok (.lst ((fs.map fun r=>lnT (r.map wr)).map .str)):=by
  have c:=zmz (l:=(("places" : Str)::fs.map fun r=>lnT (r.map wr)).map D.str) (k:=1) (by simp)
  have as:asL (.lst ((("places" : Str)::fs.map fun r=>lnT (r.map wr)).map D.str))=some ((("places" : Str)::fs.map fun r=>lnT (r.map wr)).map D.str):=rfl
  simp only[mSl,mRd,mC,mNoP,zc1,List.getElem?_cons_succ,List.getElem?_cons_zero,R.bind_ok,R.of_some,zoU,as]
  rw[show (1:Int)=((1:Nat):Int) from rfl,c];rfl
 have ct:=ziz (l:=[.str (lnT [("places" : Str),dg m])]) (r:=(fs.map fun r=>lnT (r.map wr)).map .str) (by simp;omega)
 have hd:mLst (zab (m2 zds (m2 zds (mRd 2) (mC (.str " "))) (mCB zdE (zab (mRd 10) mNil))) mNil) [.v C,.v (.int c),.v (.str "places"),.v (.int n),.v (zbk fs),.o (.lst ((("places" : Str)::fs.map fun r=>lnT (r.map wr)).map .str)),.v (zar fs.flatten),sv o7,.v (.int u),.v (tabU u fs),.v (.int m)]=.ok (.lst [.str (lnT [("places" : Str),dg m])]):=by
  simp only[mLst,zab,mNil,zel,mRd,mC,mCB,List.getElem?_cons_succ,List.getElem?_cons_zero,R.bind_ok,R.of_some,s1,sm,s2]
  exact zbf (by simp[sizeLine])
 have mm:m2 oCat (mLst (zab (m2 zds (m2 zds (mRd 2) (mC (.str " "))) (mCB zdE (zab (mRd 10) mNil))) mNil)) (mSl (mRd 5) (zc1 (mC (.int 1))) mNoP) [.v C,.v (.int c),.v (.str "places"),.v (.int n),.v (zbk fs),.o (.lst ((("places" : Str)::fs.map fun r=>lnT (r.map wr)).map .str)),.v (zar fs.flatten),sv o7,.v (.int u),.v (tabU u fs),.v (.int m)]=.ok (.lst (.str (lnT [("places" : Str),dg m])::(fs.map fun r=>lnT (r.map wr)).map .str)):=by
  simp only[zel,hd,sl,R.bind_ok,ct,R.of_some];rfl
 have tp:mTup (zab (mVar 9) (zab (mVar 10) mNil)) [.v C,.v (.int c),.v (.str "places"),.v (.int n),.v (zbk fs),.o (.lst ((("places" : Str)::fs.map fun r=>lnT (r.map wr)).map .str)),.v (zar fs.flatten),sv o7,.v (.int u),.v (tabU u fs),.v (.int m)]=.ok (.tup [tabU u fs,.int m]):=by simp[mTup,zab,mNil,mVar,sizeLine]
 have v8:mVar 8 [.v C,.v (.int c),.v (.str "places"),.v (.int n),.v (zbk fs),.o (.lst ((("places" : Str)::fs.map fun r=>lnT (r.map wr)).map .str)),.v (zar fs.flatten),sv o7,.v (.int u),.v (tabU u fs),.v (.int m)]=.ok (.int u):=rfl
 simp only[zck,mLst,zab,mNil,mm,tp,v8,R.bind_ok]
 rw[zbf (by simp[sizeLine])];rfl
end My
namespace My
open PySem L2 PM
theorem znW {n:Nat} {f:Fr} {ts:List Int} (ok:AmOk f) (hn:n≤40) (nd:ts.Nodup) (hm:∀t∈ts,0≤t∧t<(n:Int)) (line:Int):ze1 [rowD (wr f::ts.map dg),.int n,.int line]=.ok (.tup [encF f,iL ts]):=by
 have a:=zdf ok line
 have w0:oIxL (rowD (wr f::ts.map dg)) (.int 0)=some (.str (wr f)):=zjI (k:=0) rfl
 have sl:∀δ:En,δ[0]?=some (.v (rowD (wr f::ts.map dg)))→mSl (mRd 0) (zc1 (mC (.int 1))) mNoP δ=.ok (.lst ((ts.map dg).map .str)):=fun δ h=>zmd (ws:=wr f::ts.map dg) 1 (by simp) (by simp[mRd,h])
 obtain⟨Rs,eR⟩:∃Rs,Rs=rowD (wr f::ts.map dg):=⟨_,rfl⟩
 rw[← eR] at w0 sl ⊢
 have tl:ts.length≤n:=by
  have h:=List.Nodup.length_le_of_subset (l₂:=upt n) nd (fun t ht=>mem_upt.mpr (hm t ht))
  rwa [zcs] at h
 obtain⟨δ,h1,o5,o6,rfl⟩:=zbh (b:=zat 5) (m:=zjb) (fun t=>D.str (dg t)) (fun pre δ=>∃o5 o6,δ=[.v Rs,.v (.int n),.v (.int line),.v (encF f),.o (iL pre),sv o5,sv o6]) ts
  (by
   rintro pre t post δ hall ⟨o5,o6,rfl⟩
   have ht:=hm t (by rw[hall];simp)
   have nt:t∉pre:=by
    rw[hall] at nd
    intro z
    exact (List.nodup_append.mp nd).2.2 t z t (by simp) rfl
   have pl:pre.length≤40:=by have:=congrArg List.length hall;simp at this;omega
   have nb:=zdh (n:=t) (lo:=0) (hi:=(n:Int) - 1) (line:=line) ht.1 (by omega) ht.1 (by omega)
   have ni:oIn (.int t) (iL pre)=some (.bl false):=by simp[oIn,iL,zmj,nt]
   have q1:mAsg (zaf zbu (zab (mVar 5) (zab (mC (.int 0)) (zab (m2 oSub (mRd 1) (mC (.int 1))) (zab (mVar 2) mNil))))) (zat 6) [.v Rs,.v (.int n),.v (.int line),.v (encF f),.o (iL pre),.v (.str (dg t)),sv o6]=.nx [.v Rs,.v (.int n),.v (.int line),.v (encF f),.o (iL pre),.v (.str (dg t)),.v (.int t)]:=zaT (d:=.int t) (by simp[zaf,zab,mNil,mVar,mRd,mC,nb]) (za5 rfl)
   have q2:mDo (zaf zaq (zab (m2 oIn (mRd 6) (mRd 4)) (zab (mVar 2) mNil))) [.v Rs,.v (.int n),.v (.int line),.v (encF f),.o (iL pre),.v (.str (dg t)),.v (.int t)]=.nx [.v Rs,.v (.int n),.v (.int line),.v (encF f),.o (iL pre),.v (.str (dg t)),.v (.int t)]:=by simp[mDo,zaf,zab,mNil,mRd,mVar,ni,zbZ]
   have q3:zbw 4 (mVar 6) [.v Rs,.v (.int n),.v (.int line),.v (encF f),.o (iL pre),.v (.str (dg t)),.v (.int t)]=.nx [.v Rs,.v (.int n),.v (.int line),.v (encF f),.o (iL (pre++[t])),.v (.str (dg t)),.v (.int t)]:=zmI rfl rfl (by omega)
   exact⟨_,_,za5 rfl,.inl ((zau q1).trans ((zau q2).trans q3)),some (.str (dg t)),some (.int t),rfl⟩)
  [.v Rs,.v (.int n),.v (.int line),.v (encF f),.o (iL []),.no,.no] ⟨none,none,rfl⟩
 refine zbp ?_
 show mSeq _ _ [.v Rs,.v (.int n),.v (.int line),.no,.no,.no,.no]=_
 refine sq (d:=encF f) (by simp[zaf,zab,mNil,mVar,mRd,mC,w0,a]) rfl ?_
 try dsimp only[List.set]
 refine sq (d:=iL []) (by simp[mLst,mNil,sizeLine,iL]) rfl ?_
 try dsimp only[List.set]
 refine sx ((zbP (l:=ts.map fun t=>.str (dg t)) (by simp only[mItL,sl [.v Rs,.v (.int n),.v (.int line),.v (encF f),.o (iL []),.no,.no] rfl,R.bind_ok];rw[List.map_map];rfl)).trans h1) ?_
 simp[mFrz,mRet,mTup,zab,mNil,mVar,sizeLine]
abbrev Zs:=Fr×Ps
structure ZsOk (n:Nat) (z:Zs):Prop where
 am:AmOk z.1
 nd:z.2.2.Nodup
 mem:∀t∈z.2.2,0≤t∧t<(n:Int)
def encZ (z:Zs):D:=.tup [encF z.1,iL z.2.2]
def wsZ (z:Zs):List Str:=wr z.1::z.2.2.map dg
def byZ (u:Nat) (z:Zs):Ps:=(by1 u z.1,z.2.2)
theorem zj3 {n:Nat} {zs:List Zs} (n0:1≤n) (hn:n≤40) (ok:∀z∈zs,ZsOk n z) (hl:zs.length≤40):zdi [zcW ([("cover" : Str),dg n]::zs.map wsZ)]=.ok (.tup [.int (un (zs.map (·.1))),.tup [.int n,encP (zs.map (byZ (un (zs.map (·.1)))))]]):=by
 have okf:∀f∈zs.map (·.1),AmOk f:=fun f hf=>by
  obtain⟨z,hz,rfl⟩:=List.mem_map.mp hf
  exact (ok z hz).am
 have up:=(zf9 okf).1
 have uo:=zd6 okf
 have r0:=row0 [("cover" : Str),dg n] (zs.map wsZ)
 have rk:∀q:Zs×Nat,zs[q.2]?=some q.1→oIxL (zcW ([("cover" : Str),dg n]::zs.map wsZ)) (.int ((q.2:Int)+1))=some (rowD (wsZ q.1)):=fun q h=>rowS (by rw[List.getElem?_map,h];rfl)
 have rl:=zgS ([("cover" : Str),dg n]::zs.map wsZ)
 rw[List.length_cons,List.length_map] at rl
 have w1:oIxL (rowD [("cover" : Str),dg n]) (.int 1)=some (.str (dg n)):=zjI (k:=1) rfl
 have wc:=zd4 (ws:=[("cover" : Str),dg n]) (lo:=2) (hi:=2) (line:=0) (by simp) (by simp)
 have nb:=zdh (n:=(n:Int)) (lo:=1) (hi:=40) (line:=0) (by omega) (by omega) (by omega) (by omega)
 obtain⟨W,eW⟩:∃W,W=rowD [("cover" : Str),dg n]:=⟨_,rfl⟩
 obtain⟨Rs,eR⟩:∃Rs,Rs=zcW ([("cover" : Str),dg n]::zs.map wsZ):=⟨_,rfl⟩
 rw[← eR] at r0 rk rl ⊢
 rw[← eW] at r0 w1 wc
 have rn:=rngZ zs (by omega)
 obtain⟨u,eu⟩:∃u,u=un (zs.map (·.1)):=⟨_,rfl⟩
 rw[← eu] at uo up ⊢
 obtain⟨δ,h1,o3,rfl⟩:=zbh (b:=zat 3) (m:=zfT) (fun q:Zs×Nat=>.int ((q.2:Int)+1)) (fun pre δ=>∃o3,δ=[.v Rs,.v (.int n),.o (.lst ((pre.map (·.1)).map encZ)),sv o3,.no]) zs.zipIdx
  (by
   rintro pre q post δ hall ⟨o3,rfl⟩
   have hk:=(zbR hall).2.1
   have pl:pre.length=q.2:=(zbR hall).1.symm
   have q40:q.2<40:=by have:=(List.getElem?_eq_some_iff.mp hk).1;omega
   have ri:=rk q hk
   have okq:=ok q.1 (List.mem_of_getElem? hk)
   have si:ze1 [rowD (wsZ q.1),.int n,.int ((q.2:Int)+1)]=.ok (encZ q.1):=znW okq.am hn okq.nd okq.mem _
   obtain⟨V,eV⟩:∃V,V=rowD (wsZ q.1):=⟨_,rfl⟩
   rw[← eV] at ri si
   have t1:¬ (40:Int)<(q.2:Int)+1:=by omega
   obtain⟨A,eA⟩:∃A:List Zs,A=pre.map (·.1):=⟨_,rfl⟩
   have al:A.length=q.2:=by rw[eA,List.length_map,pl]
   have eA2:(pre++[q]).map (·.1)=A++[q.1]:=by rw[eA];simp
   rw[← eA]
   have bs:zat 3 (.int ((q.2:Int)+1)) [.v Rs,.v (.int n),.o (.lst (A.map encZ)),sv o3,.no]=some [.v Rs,.v (.int n),.o (.lst (A.map encZ)),.v (.int ((q.2:Int)+1)),.no]:=za5 rfl
   have q1:mDo (zaf zaq (zab (m2 oGt (mRd 3) (mC (.int 40))) (zab (mVar 3) mNil))) [.v Rs,.v (.int n),.o (.lst (A.map encZ)),.v (.int ((q.2:Int)+1)),.no]=.nx [.v Rs,.v (.int n),.o (.lst (A.map encZ)),.v (.int ((q.2:Int)+1)),.no]:=by simp[mDo,zaf,zab,mNil,mRd,mC,mVar,t1,zbZ]
   have q2:zbw 2 (zaf ze1 (zab (m2 oIxL (mRd 0) (mRd 3)) (zab (mVar 1) (zab (mVar 3) mNil)))) [.v Rs,.v (.int n),.o (.lst (A.map encZ)),.v (.int ((q.2:Int)+1)),.no]=.nx [.v Rs,.v (.int n),.o (.lst ((A++[q.1]).map encZ)),.v (.int ((q.2:Int)+1)),.no]:=(zbJ (l:=A.map encZ) (d:=encZ q.1) rfl (by simp[zaf,zab,mNil,mRd,mVar,ri,si]) (by rw[List.length_map];omega)).trans (by simp)
   refine⟨_,_,bs,.inl ((zau q1).trans q2),some (.int ((q.2:Int)+1)),?_⟩
   rw[eA2];rfl)
  [.v Rs,.v (.int n),.o (.lst []),.no,.no] ⟨none,rfl⟩
 have zm:zs.zipIdx.map (·.1)=zs:=List.zipIdx_map_fst 0 zs
 rw[zm] at h1
 refine zbp ?_
 show mSeq _ _ [.v Rs,.no,.no,.no,.no]=_
 refine sd (by
  simp[zaf,zab,mNil,mRd,mC,r0,wc]) ?_
 refine sq (d:=.int n) (by simp[zaf,zab,mNil,mRd,mC,r0,w1,nb]) rfl ?_
 try dsimp only[List.set]
 refine sq (d:=.lst []) (by simp[mLst,mNil,sizeLine]) rfl ?_
 try dsimp only[List.set]
 refine sx ((zbP (l:=zs.zipIdx.map fun q=>.int ((q.2:Int)+1)) (by simp[mRng,zab,mNil,mC,mCB,mRd,rl,rn])).trans h1) ?_
 have k1:zgI [.v Rs,.v (.int n),.o (.lst (zs.map encZ)),sv o3,.no]=.ok (zar (zs.map (·.1))):=by
  refine Eq.trans (zaZ (l:=zs.map encZ) (r:=zs.map fun z=>encF z.1) (by simp[mItL,mRd]) (by rw[List.length_map];omega) ?_) (by simp[zar])
  refine zbi encZ (fun z=>encF z.1) _ fun z hz=>?_
  simp[zcn,zbl,encZ,bTup,zbj,bNil,zaE,mVar]
 refine sq (d:=.int u) (by simp only[zaf,zab,mNil,k1,R.bind_ok,uo];rfl) rfl ?_
 try dsimp only[List.set]
 have k2:zgy [.v Rs,.v (.int n),.o (.lst (zs.map encZ)),sv o3,.v (.int u)]=.ok (encP (zs.map (byZ u))):=by
  refine Eq.trans (zaZ (l:=zs.map encZ) (r:=zs.map fun z=>encS (byZ u z)) (by simp[mItL,mRd]) (by rw[List.length_map];omega) ?_) (by simp[encP])
  refine zbi encZ (fun z=>encS (byZ u z)) _ fun z hz=>?_
  have e:zbl [.v Rs,.v (.int n),.o (.lst (zs.map encZ)),sv o3,.v (.int u)] [4] 2=[.v (.int u),.no,.no]:=rfl
  rw[e]
  simp[zcn,encZ,bTup,zbj,bNil,zaE,mTup,zaf,zab,mNil,mVar,zny (ok z hz).am up.2,sizeLine,encS,byZ]
 simp[mRet,mTup,zab,mNil,mVar,k2,sizeLine]
theorem zmS (cs:List Int) (c:Int):Kd "cover" (zcg [iL cs,.int c]):=by
 have m0:=zcq c (show (0:Int)<12 by decide)
 have m1:=zcp c (show (0:Int)<12 by decide)
 obtain⟨n,en⟩:∃n:Nat,(n:Int)=1+c%12:=⟨(1+c%12).toNat,by omega⟩
 obtain⟨cl,hcl,sl⟩:=zma cs 14
 obtain⟨S,hS,okS,lS,cv⟩:=zqF (n:=n) (cs:=cl) (by omega) hcl
 have rn:=rngT (show S.length≤1000 by omega)
 obtain⟨fs,l1,ok,k1⟩:=zgQ (f:=zcn (zaE 1) none (zaf zbe (zab (zaf zaI (zab (mVar 0) (zab (mVar 1) mNil))) (zab (mVar 1) mNil))) [.v (iL cs),.no]) D.int AmOk (upt S.length) (fun k hk=>by
  obtain⟨k0,k1⟩:=mem_upt.mp hk
  obtain⟨d,hd⟩:=zlr cs k0
  obtain⟨f,ok,hf⟩:=zeT d k k0 (by omega)
  exact⟨f,ok,by simp[zcn,zaE,zaf,zab,mNil,mVar,hd,hf]⟩)
 rw[zcs] at l1
 obtain⟨C,eC⟩:∃C,C=iL cs:=⟨_,rfl⟩
 have sl':∀δ:En,δ[0]?=some (.v C)→mSl (mRd 0) mNoP (zc1 (mC (.int 14))) δ=.ok (iL cl):=fun δ h=>sl (mRd 0) δ (by simp[mRd,h,eC])
 rw[← eC] at k1 ⊢
 obtain⟨zs,e1,e2⟩:=zjl l1
 have hz:zs.length≤15:=by rw[e2,List.length_map] at lS;exact lS
 have okz:∀z∈zs,ZsOk n z:=fun z hz=>by
  have g:=okS.good z.2 (by rw[e2];exact List.mem_map.mpr ⟨z,hz,rfl⟩)
  exact⟨ok z.1 (by rw[e1];exact List.mem_map.mpr ⟨z,hz,rfl⟩),g.nd,g.mem⟩
 have tl:∀z∈zs,z.2.2.length≤12:=fun z hz=>by
  have g:=okS.good z.2 (by rw[e2];exact List.mem_map.mpr ⟨z,hz,rfl⟩)
  have:=zmt g
  omega
 obtain⟨⟨u0,u1⟩,ud⟩:=zf9 ok
 have lu:=zda ok
 have ab:=zfc ok (by omega)
 have rc:=zj3 (n:=n) (zs:=zs) (by omega) (by omega) okz (by omega)
 rw[← e1] at rc
 have zd:S.map encS=zs.map fun z=>encS z.2:=by rw[e2,List.map_map];rfl
 have fd:fs.map encF=zs.map fun z=>encF z.1:=by rw[e1,List.map_map];rfl
 have pd:(fs.map (by1 (un fs))).map D.int=zs.map fun z=>D.int (by1 (un fs) z.1):=by
  obtain⟨u,eu⟩:∃u,u=un fs:=⟨_,rfl⟩
  rw[← eu,e1,List.map_map,List.map_map];rfl
 obtain⟨u,eu⟩:∃u,u=un fs:=⟨_,rfl⟩
 rw[← eu] at lu ab rc pd u1
 have lens:fLen [encP S]=some (.int S.length):=by simp[encP]
 have wn:Wd (dg n):=zla (by omega) (by omega)
 have sn:zdE [.int n]=some (.str (dg n)):=zmH (by omega) (by omega)
 have sk:("cover " : Str) = "cover"++" ":=by decide +kernel
 have sl4:("cover " : Str).length=6:=by decide +kernel
 have wl:=wn.len
 have hd:zds (.str "cover ") (.str (dg n))=some (.str (lnT [("cover" : Str),dg n])):=by rw[zfD (by omega),zk7,sk]
 have lnz:∀z∈zs,Ln (wsZ z):=fun z hz=>by
  have:=tl z hz
  refine⟨by simp[wsZ],by simp[wsZ];omega,fun w hw=>?_⟩
  rcases List.mem_cons.mp hw with e|e
  ·rw[e];exact zjT (okz z hz).am
  ·obtain⟨t,ht,rfl⟩:=List.mem_map.mp e
   have:=(okz z hz).mem t ht
   exact zla (by omega) (by omega)
 obtain⟨L,eL⟩:∃L:List (List Str),L=[("cover" : Str),dg n]::zs.map wsZ:=⟨_,rfl⟩
 have tx:Tx L:=by
  rw[eL]
  refine⟨by simp,by simp;omega,fun ws hws=>?_⟩
  rcases List.mem_cons.mp hws with e|e
  ·rw[e]
   exact⟨by simp,by simp,fun w hw=>by
    rcases List.mem_cons.mp hw with z|z
    ·rw[z];exact zpo
    ·rw[List.mem_singleton.mp z];exact wn⟩
  ·obtain⟨z,hz,rfl⟩:=List.mem_map.mp e
   exact lnz z hz
 rw[← eL] at rc
 have rm:zb0 [.int n,encP (zs.map (byZ u))]=.ok .non:=by
  refine zgU ⟨fun s hs=>?_,by rw[List.length_map];omega,by omega⟩ fun t ht=>?_
  ·obtain⟨z,hz,rfl⟩:=List.mem_map.mp hs
   have b:=zpE (okz z hz).am u1
   exact⟨b.1,b.2,(okz z hz).nd,(okz z hz).mem⟩
  ·obtain⟨s,hs,hts⟩:=cv t ht
   rw[e2] at hs
   obtain⟨z,hz,rfl⟩:=List.mem_map.mp hs
   exact⟨byZ u z,List.mem_map.mpr ⟨z,hz,rfl⟩,hts⟩
 refine⟨L,u,[.int n,encP (zs.map (byZ u))],[dg n],zs.map wsZ,tx,eL,zdp ?_,zpg rc,zo7 rm,?_,by simp,?_⟩
 case refine_2=>simp[okSp,encP];omega
 case refine_3=>
  refine zgO rfl (zib fun y hy=>?_)
  obtain⟨p,_,rfl⟩:=List.mem_map.mp hy
  show (true && (okA 4 (iL p.2) && true))=true
  rw[zjd];rfl
 obtain⟨δ,h1,o6,o7,rfl⟩:=zbh (b:=bTup 2 (zbj (zat 6) (zbj (zat 7) bNil))) (m:=zem) (fun z:Zs=>.tup [encF z.1,encS z.2]) (fun pre δ=>∃o6 o7,δ=[.v C,.v (.int c),.v (.int n),.v (encP S),.v (zar fs),.o (.lst ((lnT [("cover" : Str),dg n]::pre.map fun z=>lnT (wsZ z)).map .str)),sv o6,sv o7,.no,.no]) zs
  (by
   rintro pre z post δ hall ⟨o6,o7,rfl⟩
   have hz':z∈zs:=by rw[hall];simp
   have okq:=okz z hz'
   have pl:pre.length≤15:=by have:=congrArg List.length hall;simp at this;omega
   have tz:=tl z hz'
   have i1:oIxT (encS z.2) (.int 1)=some (iL z.2.2):=rfl
   obtain⟨A,eA⟩:∃A,A=D.lst ((lnT [("cover" : Str),dg n]::pre.map fun z=>lnT (wsZ z)).map .str):=⟨_,rfl⟩
   rw[← eA]
   have k:zdD [.v C,.v (.int c),.v (.int n),.v (encP S),.v (zar fs),.o A,.v (encF z.1),.v (encS z.2),.no,.no]=.ok (.lst ((z.2.2.map dg).map .str)):=by
    refine Eq.trans (zaZ (l:=z.2.2.map .int) (r:=z.2.2.map fun t=>.str (dg t)) (by simp[mItL,mRd,mC,i1,iL]) (by rw[List.length_map];omega) ?_) (by rw[List.map_map];rfl)
    refine zbi D.int (fun t=>.str (dg t)) _ fun t ht=>?_
    have:=okq.mem t ht
    have st:zdE [.int t]=some (.str (dg t)):=zmH (by omega) (by omega)
    simp[zcn,zbl,zaE,mCB,zab,mNil,mRd,st]
   have jn:zeD " " (m2 oCat (mLst (zab (zaf zaF (zab (mVar 6) mNil)) mNil)) zdD) [.v C,.v (.int c),.v (.int n),.v (encP S),.v (zar fs),.o A,.v (encF z.1),.v (encS z.2),.no,.no]=.ok (.str (lnT (wsZ z))):=by
    have ct:=ziz (l:=[.str (wr z.1)]) (r:=(z.2.2.map dg).map .str) (by simp;omega)
    have ll:mLst (zab (zaf zaF (zab (mVar 6) mNil)) mNil) [.v C,.v (.int c),.v (.int n),.v (encP S),.v (zar fs),.o A,.v (encF z.1),.v (encS z.2),.no,.no]=.ok (.lst [.str (wr z.1)]):=by simp[mLst,zab,mNil,mVar,zaf,wrt okq.am,sizeLine]
    simp only[zeD,zel,ll,k,R.bind_ok,ct,R.of_some]
    exact zg1 (lnz z hz')
   refine⟨[.v C,.v (.int c),.v (.int n),.v (encP S),.v (zar fs),.o A,.v (encF z.1),.v (encS z.2),.no,.no],[.v C,.v (.int c),.v (.int n),.v (encP S),.v (zar fs),.o (.lst ((lnT [("cover" : Str),dg n]::(pre++[z]).map fun z=>lnT (wsZ z)).map .str)),.v (encF z.1),.v (encS z.2),.no,.no],by rcases o6 with _|o6 <;> rcases o7 with _|o7 <;> rfl,.inl ((zbJ (l:=(lnT [("cover" : Str),dg n]::pre.map fun z=>lnT (wsZ z)).map .str) (d:=.str (lnT (wsZ z))) (by rw[eA];rfl) jn (by simp;omega)).trans (by simp)),some (encF z.1),some (encS z.2),rfl⟩)
  [.v C,.v (.int c),.v (.int n),.v (encP S),.v (zar fs),.o (.lst [.str (lnT [("cover" : Str),dg n])]),.no,.no,.no,.no] ⟨none,none,rfl⟩
 show mSeq _ _ [.v C,.v (.int c),.no,.no,.no,.no,.no,.no,.no,.no]=_
 refine sq (d:=.int n) (by simp[mRd,mC,zbV,en]) rfl ?_
 try dsimp only[List.set]
 refine sq (d:=encP S) (by simp only[zaf,zab,mNil,sl' [.v C,.v (.int c),.v (.int n),.no,.no,.no,.no,.no,.no,.no] rfl,R.bind_ok,show mVar 2 [.v C,.v (.int c),.v (.int n),.no,.no,.no,.no,.no,.no,.no]=.ok (.int n) from rfl,hS];rfl) rfl ?_
 try dsimp only[List.set]
 have kk:zeN [.v C,.v (.int c),.v (.int n),.v (encP S),.no,.no,.no,.no,.no,.no]=.ok (zar fs):=zaZ (l:=(upt S.length).map .int) (by simp[mRng,mCB,mRd,zab,mNil,lens,rn]) (by rw[List.length_map,zcs];omega) k1
 refine sq (d:=zar fs) (kk) rfl ?_
 try dsimp only[List.set]
 refine sq (d:=.lst [.str (lnT [("cover" : Str),dg n])]) (by simp[mLst,zab,mNil,mC,mCB,mRd,sn,hd,sizeLine]) rfl ?_
 try dsimp only[List.set]
 refine sx (by
  have zp:mZip (zab (mVar 4) (zab (mVar 3) mNil)) [.v C,.v (.int c),.v (.int n),.v (encP S),.v (zar fs),.o (.lst [.str (lnT [("cover" : Str),dg n])]),.no,.no,.no,.no]=.ok (zs.map fun z=>.tup [encF z.1,encS z.2]):=by
   show R.of (some (zipD (fs.map encF) (S.map encS)))=_
   rw[fd,zd,zj2];rfl
  exact (zbP zp).trans h1) ?_
 refine sq (d:=.int u) (by simp[zaf,zab,mNil,mVar,lu]) rfl ?_
 try dsimp only[List.set]
 refine sq (d:=iL (fs.map (by1 u))) (by simp[zaf,zab,mNil,mVar,ab]) rfl ?_
 try dsimp only[List.set]
 have k3:zdF [.v C,.v (.int c),.v (.int n),.v (encP S),.v (zar fs),.v (.lst ((lnT [("cover" : Str),dg n]::zs.map fun z=>lnT (wsZ z)).map .str)),sv o6,sv o7,.v (.int u),.v (iL (fs.map (by1 u)))]=.ok (encP (zs.map (byZ u))):=by
  refine Eq.trans (zaZ (l:=zs.map fun z=>.tup [.int (by1 u z.1),encS z.2]) (r:=zs.map fun z=>encS (byZ u z)) ?_ (by rw[List.length_map];omega) ?_) (by simp[encP])
  ·show R.of (some (zipD ((fs.map (by1 u)).map D.int) (S.map encS)))=_
   rw[pd,zd,zj2];rfl
  ·refine zbi (fun z:Zs=>D.tup [.int (by1 u z.1),encS z.2]) (fun z=>encS (byZ u z)) _ fun z hz=>?_
   have i1:oIxT (encS z.2) (.int 1)=some (iL z.2.2):=rfl
   have e:zbl [.v C,.v (.int c),.v (.int n),.v (encP S),.v (zar fs),.v (.lst ((lnT [("cover" : Str),dg n]::zs.map fun z=>lnT (wsZ z)).map .str)),sv o6,sv o7,.v (.int u),.v (iL (fs.map (by1 u)))] [] 2=[.no,.no]:=rfl
   rw[e]
   simp[zcn,bTup,zbj,bNil,zaE,mTup,zab,mNil,mVar,mRd,mC,i1,sizeLine,encS,byZ]
 have fin:(L.map lnT).map D.str=(lnT [("cover" : Str),dg n]::zs.map fun z=>lnT (wsZ z)).map .str:=by rw[eL];simp
 rw[fin]
 show zck _ [.v C,.v (.int c),.v (.int n),.v (encP S),.v (zar fs),.v (.lst ((lnT [("cover" : Str),dg n]::zs.map fun z=>lnT (wsZ z)).map .str)),sv o6,sv o7,.v (.int u),.v (iL (fs.map (by1 u)))]=_
 have tp:mTup (zab (mVar 2) (zab zdF mNil)) [.v C,.v (.int c),.v (.int n),.v (encP S),.v (zar fs),.v (.lst ((lnT [("cover" : Str),dg n]::zs.map fun z=>lnT (wsZ z)).map .str)),sv o6,sv o7,.v (.int u),.v (iL (fs.map (by1 u)))]=.ok (.tup [.int n,encP (zs.map (byZ u))]):=by
  simp only[mTup,zab,mNil,k3,show mVar 2 [.v C,.v (.int c),.v (.int n),.v (encP S),.v (zar fs),.v (.lst ((lnT [("cover" : Str),dg n]::zs.map fun z=>lnT (wsZ z)).map .str)),sv o6,sv o7,.v (.int u),.v (iL (fs.map (by1 u)))]=.ok (.int n) from rfl,R.bind_ok]
  exact zbf (by simp[sizeLine])
 simp only[zck,mLst,zab,mNil,tp,show mVar 5 [.v C,.v (.int c),.v (.int n),.v (encP S),.v (zar fs),.v (.lst ((lnT [("cover" : Str),dg n]::zs.map fun z=>lnT (wsZ z)).map .str)),sv o6,sv o7,.v (.int u),.v (iL (fs.map (by1 u)))]=.ok (.lst ((lnT [("cover" : Str),dg n]::zs.map fun z=>lnT (wsZ z)).map .str)) from rfl,show mVar 8 [.v C,.v (.int c),.v (.int n),.v (encP S),.v (zar fs),.v (.lst ((lnT [("cover" : Str),dg n]::zs.map fun z=>lnT (wsZ z)).map .str)),sv o6,sv o7,.v (.int u),.v (iL (fs.map (by1 u)))]=.ok (.int u) from rfl,R.bind_ok]
 rw[zbf (by simp[sizeLine])];rfl
end My
namespace My
open PySem L2 PM
theorem Kd.of {k:Str} {M N:R D} (h:Kd k M) (e:∀d,M=.ok d→N=.ok d):Kd k N:=by
 obtain⟨L,u,gs,ws,T,h1,h2,h3,h4⟩:=h
 exact⟨L,u,gs,ws,T,h1,h2,e _ h3,h4⟩
def ziN (k:Int):Str:=if k=0 then "cover" else if k=1 then "touch" else if k=2 then "round" else if k=3 then "places" else if k=4 then "benches" else if k=5 then "bins" else "sack"
theorem zqT (cs:List Int) {k c:Int} (c0:0≤c) (k0:0≤k) (k1:k<7):Kd (ziN k) (zb5 [.int k,iL cs,.int c]):=by
 rcases (show k=0∨k=1∨k=2∨k=3∨k=4∨k=5∨k=6 by omega) with e|e|e|e|e|e|e
 ·subst e
  have hw:ziN 0 = "cover":=by decide +kernel
  rw[hw]
  refine (zmS cs c).of fun d hd=>?_
  have hd':zcg [iL cs,.int c]=.ok d:=hd
  simp[zb5,runO,zbz,zcV,mSeq,mIfS,zaA,mRd,mC,zbb,zck,zaf,zab,mNil,mVar,hd']
 ·subst e
  have hw:ziN 1 = "touch":=by decide +kernel
  rw[hw]
  refine (zm5 cs c0).of fun d hd=>?_
  have hd':zch [iL cs,.int c]=.ok d:=hd
  simp[zb5,runO,zbz,zcV,mSeq,mIfS,zaA,mRd,mC,zbb,zck,zaf,zab,mNil,mVar,hd']
 ·subst e
  have hw:ziN 2 = "round":=by decide +kernel
  rw[hw]
  refine (zna cs c).of fun d hd=>?_
  have hd':zbm [iL cs,.int c,.str "round"]=.ok d:=hd
  simp[zb5,runO,zbz,zcV,mSeq,mIfS,zaA,mRd,mC,zbb,zck,zaf,zab,mNil,mVar,hd']
 ·subst e
  have hw:ziN 3 = "places":=by decide +kernel
  rw[hw]
  refine (zlx cs c).of fun d hd=>?_
  have hd':zbm [iL cs,.int c,.str "places"]=.ok d:=hd
  simp[zb5,runO,zbz,zcV,mSeq,mIfS,zaA,mRd,mC,zbb,zck,zaf,zab,mNil,mVar,hd']
 ·subst e
  have hw:ziN 4 = "benches":=by decide +kernel
  rw[hw]
  refine (zkJ cs c0).of fun d hd=>?_
  have hd':zbn [iL cs,.int c,.str "benches"]=.ok d:=hd
  simp[zb5,runO,zbz,zcV,mSeq,mIfS,zaA,mRd,mC,zbb,zck,zaf,zab,mNil,mVar,hd']
 ·subst e
  have hw:ziN 5 = "bins":=by decide +kernel
  rw[hw]
  refine (znn cs c0).of fun d hd=>?_
  have hd':zbn [iL cs,.int c,.str "bins"]=.ok d:=hd
  simp[zb5,runO,zbz,zcV,mSeq,mIfS,zaA,mRd,mC,zbb,zck,zaf,zab,mNil,mVar,hd']
 ·subst e
  have hw:ziN 6 = "sack":=by decide +kernel
  rw[hw]
  refine (zon cs c0).of fun d hd=>?_
  have hd':zct [iL cs,.int c]=.ok d:=hd
  simp[zb5,runO,zbz,zcV,mSeq,mIfS,zaA,mRd,mC,zbb,zck,zaf,zab,mNil,mVar,hd']
theorem zqd {k:Int} (k0:0≤k) (k1:k<7):oIxL (.lst [.str "cover",.str "touch",.str "round",.str "places",.str "benches",.str "bins",.str "sack"]) (.int k)=some (.str (ziN k)):=by
 rcases (show k=0∨k=1∨k=2∨k=3∨k=4∨k=5∨k=6 by omega) with e|e|e|e|e|e|e <;> subst e <;> rfl
theorem law_true (ns:List Int) (h:ns.length≤63):zqW [.scr ns]=.ok (.bl true):=by
 have c0:=zhS ns (k:=0) (by decide)
 have c1:=zhS ns (k:=1) (by decide)
 have c2:=zhS ns (k:=2) (by decide)
 obtain⟨a0,e0⟩:∃a,a=ns.getD (0:Int).toNat 0:=⟨_,rfl⟩
 obtain⟨a1,e1⟩:∃a,a=ns.getD (1:Int).toNat 0:=⟨_,rfl⟩
 obtain⟨a2,e2⟩:∃a,a=ns.getD (2:Int).toNat 0:=⟨_,rfl⟩
 rw[← e0] at c0
 rw[← e1] at c1
 rw[← e2] at c2
 have k0:=zcq a0 (show (0:Int)<7 by decide)
 have k1:=zcp a0 (show (0:Int)<7 by decide)
 obtain⟨k,ek⟩:∃k,k=a0%7:=⟨_,rfl⟩
 rw[← ek] at k0 k1
 obtain⟨c,hc,cc0,cc1⟩:=zfr (a1+a2) (k:=1) (by decide) (by decide)
 have wi:=zqd k0 k1
 obtain⟨cs,hcs,lcs⟩:=zmC ns (some 3) none
 obtain⟨L,u,gs,ws,T,tx,eL,hm,rr,rg,sp,gl,al⟩:=zqT cs (k:=k) (c:=c) cc0 k0 k1
 obtain⟨w,ew⟩:∃w,w=ziN k:=⟨_,rfl⟩
 rw[← ew] at wi eL rr rg
 have rd:=zqR tx eL rr rg
 have jt:=zqS tx
 obtain⟨t,et⟩:∃t,t=txT L:=⟨_,rfl⟩
 rw[← et] at rd jt
 have alk:zbo [.tup [.str w,.int u,.tup gs],.tup [.str w,.int u,.tup gs]]=.ok (.bl true):=zi9 8 _ (by
  show (true && (true && (okA 7 (.tup gs) && true)))=true
  rw[al];rfl)
 obtain⟨Ls,eLs⟩:∃Ls,Ls=D.lst ((L.map lnT).map .str):=⟨_,rfl⟩
 rw[← eLs] at hm jt
 obtain⟨S,eS⟩:∃S,S=D.scr ns:=⟨_,rfl⟩
 have aS:asL S=some (ns.map .int):=by rw[eS];rfl
 rw[← eS] at c0 c1 c2 ⊢
 have q1:mAsg (m2 oMod (zaf zaI (zab (mVar 0) (zab (mC (.int 0)) mNil))) (mC (.int 7))) (zat 1) [.v S,.no,.no,.no,.no,.no,.no,.no,.no,.no]=.nx [.v S,.v (.int k),.no,.no,.no,.no,.no,.no,.no,.no]:=zaT (d:=.int k) (by simp[zaf,zab,mNil,mVar,mC,c0,zbV,ek]) rfl
 have q2:mAsg (zaf zaK (zab (m2 oAdd (zaf zaI (zab (mVar 0) (zab (mC (.int 1)) mNil))) (zaf zaI (zab (mVar 0) (zab (mC (.int 2)) mNil)))) (zab (mC (.int 1)) mNil))) (zat 2) [.v S,.v (.int k),.no,.no,.no,.no,.no,.no,.no,.no]=.nx [.v S,.v (.int k),.v (.int c),.no,.no,.no,.no,.no,.no,.no]:=zaT (d:=.int c) (by simp[zaf,zab,mNil,mVar,mC,c1,c2,hc]) rfl
 have q3:mAsg (m2 oIxL (mLst (zab (mC (.str "cover")) (zab (mC (.str "touch")) (zab (mC (.str "round")) (zab (mC (.str "places")) (zab (mC (.str "benches")) (zab (mC (.str "bins")) (zab (mC (.str "sack")) mNil)))))))) (mRd 1)) (zat 3) [.v S,.v (.int k),.v (.int c),.no,.no,.no,.no,.no,.no,.no]=.nx [.v S,.v (.int k),.v (.int c),.v (.str w),.no,.no,.no,.no,.no,.no]:=zaT (d:=.str w) (by simp[mLst,zab,mNil,mC,mRd,sizeLine,wi]) rfl
 have sl:mSl (mRd 0) (zc1 (mC (.int 3))) mNoP [.v S,.v (.int k),.v (.int c),.v (.str w),.no,.no,.no,.no,.no,.no]=.ok (iL cs):=by
  simp only[mSl,mRd,mC,mNoP,zc1,List.getElem?_cons_zero,R.bind_ok,R.of_some,zoU,aS,hcs,iL]
 have q4:mAsg (zaf zb5 (zab (mVar 1) (zab (mSl (mRd 0) (zc1 (mC (.int 3))) mNoP) (zab (mVar 2) mNil)))) (bLst 3 (zbj (zat 4) (zbj (zat 5) (zbj (zat 6) bNil)))) [.v S,.v (.int k),.v (.int c),.v (.str w),.no,.no,.no,.no,.no,.no]=.nx [.v S,.v (.int k),.v (.int c),.v (.str w),.v Ls,.v (.int u),.v (.tup gs),.no,.no,.no]:=zaT (d:=.lst [Ls,.int u,.tup gs]) (by simp only[zaf,zab,mNil,sl,show mVar 1 [.v S,.v (.int k),.v (.int c),.v (.str w),.no,.no,.no,.no,.no,.no]=.ok (.int k) from rfl,show mVar 2 [.v S,.v (.int k),.v (.int c),.v (.str w),.no,.no,.no,.no,.no,.no]=.ok (.int c) from rfl,R.bind_ok,hm];rfl) rfl
 have q5:mAsg (zeD "\n" (mVar 4)) (zat 7) [.v S,.v (.int k),.v (.int c),.v (.str w),.v Ls,.v (.int u),.v (.tup gs),.no,.no,.no]=.nx [.v S,.v (.int k),.v (.int c),.v (.str w),.v Ls,.v (.int u),.v (.tup gs),.v (.str t),.no,.no]:=zaT (d:=.str t) (by simp only[zeD,mVar,List.getElem?_cons_succ,List.getElem?_cons_zero,R.bind_ok,jt]) rfl
 have nt:mNot (zaA (zaf zbo (zab (mVar 8) (zab (mTup (zab (mVar 3) (zab (mVar 5) (zab (mVar 6) mNil)))) mNil)))) [.v S,.v (.int k),.v (.int c),.v (.str w),.v Ls,.v (.int u),.v (.tup gs),.v (.str t),.v (.tup [.str w,.int u,.tup gs]),.no]=.ok false:=by
  simp[mNot,zaA,zaf,mTup,zab,mNil,mVar,sizeLine,alk]
 have nu:mRet (zaf zbo (zab (zaf zfZ (zab (mVar 7) mNil)) (zab (mTup (zab (mVar 3) (zab (mVar 5) (zab (mVar 6) mNil)))) mNil))) [.v S,.v (.int k),.v (.int c),.v (.str w),.v Ls,.v (.int u),.v (.tup gs),.v (.str t),.no,.no]=.rt (.bl true):=by
  simp[mRet,zaf,mTup,zab,mNil,mVar,sizeLine,rd,alk]
 have gl1:decide (gs.length≤1000)=true:=decide_eq_true (by omega)
 have fin:zj7 7 8 9 zfZ (mNot (zaA (zaf zbo (zab (mVar 8) (zab (mTup (zab (mVar 3) (zab (mVar 5) (zab (mVar 6) mNil)))) mNil))))) (mRet (zaf zbo (zab (zaf zfZ (zab (mVar 7) mNil)) (zab (mTup (zab (mVar 3) (zab (mVar 5) (zab (mVar 6) mNil)))) mNil)))) [.v S,.v (.int k),.v (.int c),.v (.str w),.v Ls,.v (.int u),.v (.tup gs),.v (.str t),.no,.no]=.rt (.bl true):=by
  unfold zj7
  rw[show asSt ([.v S,.v (.int k),.v (.int c),.v (.str w),.v Ls,.v (.int u),.v (.tup gs),.v (.str t),.no,.no])[7]?=some t from rfl]
  dsimp only
  rw[if_pos (show (noSl ([.v S,.v (.int k),.v (.int c),.v (.str w),.v Ls,.v (.int u),.v (.tup gs),.v (.str t),.no,.no])[8]? && noSl ([.v S,.v (.int k),.v (.int c),.v (.str w),.v Ls,.v (.int u),.v (.tup gs),.v (.str t),.no,.no])[9]?)=true from rfl),rd]
  dsimp only
  unfold zg7
  dsimp only
  rw[if_pos (show (gs.all okSp && decide (gs.length≤1000))=true by rw[sp,gl1];rfl)]
  show (match (mNot (zaA (zaf zbo (zab (mVar 8) (zab (mTup (zab (mVar 3) (zab (mVar 5) (zab (mVar 6) mNil)))) mNil)))) [.v S,.v (.int k),.v (.int c),.v (.str w),.v Ls,.v (.int u),.v (.tup gs),.v (.str t),.v (.tup [.str w,.int u,.tup gs]),.no]) with|.ok false=>(mRet (zaf zbo (zab (zaf zfZ (zab (mVar 7) mNil)) (zab (mTup (zab (mVar 3) (zab (mVar 5) (zab (mVar 6) mNil)))) mNil))) [.v S,.v (.int k),.v (.int c),.v (.str w),.v Ls,.v (.int u),.v (.tup gs),.v (.str t),.no,.no])|_=>.no)=_
  rw[nt]
  exact nu
 refine zbp ?_
 show mSeq _ _ [.v S,.no,.no,.no,.no,.no,.no,.no,.no,.no]=_
 exact (zau q1).trans ((zau q2).trans ((zau q3).trans ((zau q4).trans ((zau q5).trans fin))))
end My
namespace My
open PySem L2 PM PyProof.Rows
def top (i:Nat):Stmt:=PySem.Challenge.pw_goodenough_k52_texts_read.main.body.getD i (.Pass ⟨0,0,0,0⟩)
abbrev XO0:XOT:=fun _ _ _ _ _=>False
abbrev KX (K:PySem.W.Frag):Kx:=⟨K,fun _=>0,fun _=>Str.empty⟩
def zl9 (K:PySem.W.Frag):Sp:=fun vs H Q _=>∃(a:Addr) (ns:List Int),vs=[.ref a]∧SqL K H a (ns.map V.int)∧ns.length≤63∧∀H',Q (.bl true) H'
structure Txt (K:PySem.W.Frag) (mg:Str→Option Value):Prop where
 len:mg "len"=none
 abs:mg "abs"=none
 isinstance:mg "isinstance"=none
 list:mg "list"=none
 int:mg "int"=none
 bool:mg "bool"=none
 tuple:mg "tuple"=none
 str:mg "str"=none
 range:mg "range"=none
 enumerate:mg "enumerate"=none
 max:mg "max"=none
 min:mg "min"=none
 zip:mg "zip"=none
 all:mg "all"=none
 any:mg "any"=none
 g_FIGURES:∃t,mg "FIGURES"=some (.str "0123456789" t)
 g_MOST_FIGURES:∃t,mg "MOST_FIGURES"=some (.int 12 t)
 g_MOST_BOTTOM:∃t,mg "MOST_BOTTOM"=some (.int 12 t)
 g_MOST_THINGS:∃t,mg "MOST_THINGS"=some (.int 40 t)
 g_MOST_LINES:∃t,mg "MOST_LINES"=some (.int 80 t)
 g_MOST_PLACES:∃t,mg "MOST_PLACES"=some (.int 12 t)
 g_MOST_BENCHES:∃t,mg "MOST_BENCHES"=some (.int 20 t)
section
variable {P:Program} {w:World} {K:PySem.W.Frag} {mg:Str→Option Value} {base:Heap}
abbrev ze3:Stmt:=top 48
theorem ziZ:FnScope ["_law_script","_law_k"] ["_law_script","_law_k"] (zas ze3):=scMk
theorem ziK {f:Addr} {fd:FuncData} (F:Fun K "_law_cell_at" "_law_cell_at" ze3 f fd) (T:Txt K mg)  : FnOk P w K mg base CX0 1 f fd ["_law_script","_law_k"] (spM (KX K) XO0 zaI):=by
 refine F.ok ziZ (fun vs H Q E h=>zbd h) (fun cdv A outer s H vs Q E hr h=>?_)
 have hu:=zbS hr
 exact⟨_,(zag (zb8 (za8 zlU (pv 1) (zaO zaM (by rfl) T.len PySem.boot_len (zaa (pv 0) zae)) (zaS _))
   (zao (zaJ (zaW zaN (pv 0) (pv 1) (fun _ _=>rfl))))
   za0)
   (zao (zaJ zaj))),zcv (K:=(KX K)) (XO:=XO0) (E:=E) (np:=2) (nv:=0) (m:=zd2)
   (zan (zcf (za2 (zam zlO zad ((zcc zcK (zaD zad zaR))).r))
   (za7 (zam za9 zad zad))
   za4)
   (za7 zai)) rfl h⟩
abbrev zfs:Stmt:=top 49
theorem zjY:FnScope ["_law_cell","_law_k"] ["_law_cell","_law_k"] (zas zfs):=scMk
theorem zjF {f:Addr} {fd:FuncData} (F:Fun K "_law_number" "_law_number" zfs f fd) (T:Txt K mg)  : FnOk P w K mg base CX0 1 f fd ["_law_cell","_law_k"] (spM (KX K) XO0 zaK):=by
 refine F.ok zjY (fun vs H Q E h=>zbd h) (fun cdv A outer s H vs Q E hr h=>?_)
 have hu:=zbS hr
 exact⟨_,(zao (zaJ (zaB zbE (zaB zcN (zaB zb1 (zaB zb1 (zaB zbE (pv 0) (zaB zh5 zaj zaj)) (zaB zcN (pv 1) (pv 1))) zaj) (zaB zb1 zaj (zaB zcN zaj (pv 1)))) zaj))),zcv (K:=(KX K)) (XO:=XO0) (E:=E) (np:=2) (nv:=0) (m:=zfG)
   (za7 (zam zbF ((zam zdR ((zam zb2 ((zam zb2 ((zam zbF zad ((zam zig (zai).r (zai).r)).r)).r ((zam zdR zad zad)).r)).r (zai).r)).r ((zam zb2 (zai).r ((zam zdR (zai).r zad)).r)).r)).r (zai).r)) rfl h⟩
abbrev zij:Stmt:=top 52
theorem sc_law_bit:FnScope ["_law_number_here","_law_place","_law_k"] ["_law_number_here","_law_place"] (zas zij):=scMk
theorem zmV {f:Addr} {fd:FuncData} (F:Fun K "_law_bit" "_law_bit" zij f fd) (T:Txt K mg)  : FnOk P w K mg base CX0 1 f fd ["_law_number_here","_law_place"] (spM (KX K) XO0 zdS):=by
 refine F.ok sc_law_bit (fun vs H Q E h=>zbd h) (fun cdv A outer s H vs Q E hr h=>?_)
 have hu:=zbS hr
 exact⟨_,(zag (zca PassesOwn.never rfl (zb6 rfl T.range (zaa (pv 1) zae)) (zaw (i:=2) sc_law_bit.nd rfl (by first|exact Or.inl rfl|exact Or.inr rfl))
   (zao (zay (i:=0) sc_law_bit.nd rfl (by first|exact Or.inl rfl|exact Or.inr rfl) (zaB zbO (pv 0) zaj))))
   (zao (zaJ (zaB zbE (pv 0) zaj)))),zcv (K:=(KX K)) (XO:=XO0) (E:=E) (np:=2) (nv:=1) (m:=zkM)
   (zan (zce (zcb len1 (zac zah zak)) zap
   (zaC (zam zc4 zad (zai).r) zap))
   (za7 (zam zbF zad (zai).r))) rfl h⟩
abbrev zh7:Stmt:=top 53
theorem sc_law_has:FnScope ["_law_cell","_law_k","_law_thing","_law_number_here","_law_both"] ["_law_cell","_law_k","_law_thing"] (zas zh7):=scMk
theorem zm9 {f:Addr} {fd:FuncData} (F:Fun K "_law_has" "_law_has" zh7 f fd) (T:Txt K mg) (G_law_number:Has P w K mg base CX0 1 "_law_number" ["_law_cell","_law_k"] (spM (KX K) XO0 zaK)) (G_law_bit:Has P w K mg base CX0 1 "_law_bit" ["_law_number_here","_law_place"] (spM (KX K) XO0 zdS)):FnOk P w K mg base CX0 2 f fd ["_law_cell","_law_k","_law_thing"] (spM (KX K) XO0 zek):=by
 refine F.ok sc_law_has (fun vs H Q E h=>zbd h) (fun cdv A outer s H vs Q E hr h=>?_)
 have hu:=zbS hr
 exact⟨_,(zag (zay (i:=3) sc_law_has.nd rfl (by first|exact Or.inl rfl|exact Or.inr rfl) (pe_h G_law_number hr zax (zaa (pv 0) (zaa (zaB zb1 (pv 1) zaj) zae))))
   (zag (zay (i:=4) sc_law_has.nd rfl (by first|exact Or.inl rfl|exact Or.inr rfl) (zaB zb1 (pe_h G_law_bit hr zax (zaa (pv 3) (zaa (pv 2) zae))) (pe_h G_law_bit hr zax (zaa (pe_h G_law_number hr zax (zaa (pv 0) (zaa (zaB zb1 (pv 1) zaj) zae))) (zaa (pv 2) zae)))))
   (zao (zaJ (zbG zfo (pv 4) (zaB ziD zaj (zaB zbE (zaB zbO (pv 3) zaj) zaj)) (zaS _)))))),zcv (K:=(KX K)) (XO:=XO0) (E:=E) (np:=3) (nv:=2) (m:=zki)
   (zan (zaC (zal (zac zah (zac (zam zb2 zad (zai).r) zak))) zap)
   (zan (zaC (zam zb2 ((zal (zac zah (zac zah zak)))).r ((zal (zac (zal (zac zah (zac (zam zb2 zad (zai).r) zak))) (zac zah zak)))).r) zap)
   (za7 (zam zfq zad ((zam ziC (zai).r ((zam zbF ((zam zc4 zad (zai).r)).r (zai).r)).r)).r)))) rfl h⟩
abbrev zfu:Stmt:=top 50
theorem sc_law_amount:FnScope ["_law_cell","_law_k","_law_number_here"] ["_law_cell","_law_k"] (zas zfu):=scMk
theorem zjU {f:Addr} {fd:FuncData} (F:Fun K "_law_amount" "_law_amount" zfu f fd) (T:Txt K mg) (G_law_number:Has P w K mg base CX0 1 "_law_number" ["_law_cell","_law_k"] (spM (KX K) XO0 zaK)):FnOk P w K mg base CX0 2 f fd ["_law_cell","_law_k"] (spM (KX K) XO0 zcw):=by
 refine F.ok sc_law_amount (fun vs H Q E h=>zbd h) (fun cdv A outer s H vs Q E hr h=>?_)
 have hu:=zbS hr
 exact⟨_,(zag (zay (i:=2) sc_law_amount.nd rfl (by first|exact Or.inl rfl|exact Or.inr rfl) (pe_h G_law_number hr zax (zaa (pv 0) (zaa (pv 1) zae))))
   (zag (zb8 (za8 zcP (zaB zbE (pv 2) zaj) zaj (zaS _))
   (zao (zaJ (zaB zbE (zaB zbO (pv 2) zaj) zaj)))
   za0)
   (zag (zb8 (za8 zcP (zaB zbE (pv 2) zaj) zaj (zaS _))
   (zao (zaJ (zaB zbE (zaB zbO (pv 2) zaj) zaj)))
   za0)
   (zao (zaJ (zaB zbE (zaB zb1 (zaB zcN (zaB zbE (pv 0) (zaB zh5 zaj zaj)) zaj) (pv 2)) (zaB zb1 (zaB zh5 zaj zaj) zaj))))))),zcv (K:=(KX K)) (XO:=XO0) (E:=E) (np:=2) (nv:=1) (m:=zhn)
   (zan (zaC (zal (zac zah (zac zah zak))) zap)
   (zan (zcf (za2 (zam zcO ((zam zbF zad (zai).r)).r (zai).r))
   (za7 (zam zbF ((zam zc4 zad (zai).r)).r (zai).r))
   za4)
   (zan (zcf (za2 (zam zcO ((zam zbF zad (zai).r)).r (zai).r))
   (za7 (zam zbF ((zam zc4 zad (zai).r)).r (zai).r))
   za4)
   (za7 (zam zbF ((zam zb2 ((zam zdR ((zam zbF zad ((zam zig (zai).r (zai).r)).r)).r (zai).r)).r zad)).r ((zam zb2 ((zam zig (zai).r (zai).r)).r (zai).r)).r))))) rfl h⟩
abbrev zeO:Stmt:=top 54
theorem sc_law_sets:FnScope ["_law_cells","_law_many","_law_found","_law_k","_law_cell","_law_things","_law_thing"] ["_law_cells","_law_many"] (zas zeO):=scMk
theorem zlP {f:Addr} {fd:FuncData} (F:Fun K "_law_sets" "_law_sets" zeO f fd) (T:Txt K mg) (G_law_has:Has P w K mg base CX0 2 "_law_has" ["_law_cell","_law_k","_law_thing"] (spM (KX K) XO0 zek)) (G_law_amount:Has P w K mg base CX0 2 "_law_amount" ["_law_cell","_law_k"] (spM (KX K) XO0 zcw)):FnOk P w K mg base CX0 3 f fd ["_law_cells","_law_many"] (spO (KX K) XO0 zeL):=by
 refine F.ok sc_law_sets (fun vs H Q E h=>zdU h) (fun cdv A outer s H vs Q E hr h=>?_)
 have hu:=zbS hr
 exact⟨_,(zag (zay (i:=2) sc_law_sets.nd rfl (by first|exact Or.inl rfl|exact Or.inr rfl) (zby zae))
   (zag (zca PassesOwn.never rfl (zhb rfl T.enumerate (zaa (pv 0) zae)) (zdT rfl (zaY (zaw (i:=3) sc_law_sets.nd rfl (by first|exact Or.inl rfl|exact Or.inr rfl)) (zaY (zaw (i:=4) sc_law_sets.nd rfl (by first|exact Or.inl rfl|exact Or.inr rfl)) zcJ)))
   (zag (zdL (i:=5) sc_law_sets.nd rfl (by first|exact Or.inl rfl|exact Or.inr rfl) rfl (zb6 rfl T.range (zaa (pv 1) zae)) (zb3 (zas zeO) ["_law_cells","_law_many","_law_found","_law_k","_law_cell","_law_things","_law_thing"] ["_law_cell","_law_k","_law_thing"] [4,3] 1 rfl rfl rfl (by decide +kernel) (by decide +kernel) (by decide +kernel) rfl (by decide +kernel) (fun cl C s H fp pins=>(zaw (i:=2) (show List.Nodup (["_law_cell","_law_k","_law_thing"]:List Str) by decide +kernel) rfl (Or.inl rfl))) (fun cl C s H fp pins=>(pv 2)) (Or.inr ⟨_,_,rfl,rfl,fun cl C s H fp pins=>(zfA (pe_h G_law_has hr zax (zaa (pv 0) (zaa (pv 1) (zaa (pv 2) zae)))))⟩)) rfl)
   (zao (zaQ (zdm PySem.F.plainAttrs_list PySem.F.slot_list_append PySem.F.type_list_append zbH (pv 2) (zaa (zbx (zaa (pe_h G_law_amount hr zax (zaa (pv 4) (zaa (pv 3) zae))) (zaa (pv 5) zae))) zae))))))
   (zag (zb8 (za8 (zrA hr.units) (pv 2) (zby zae) (zaS _))
   (zao (zaQ (zdm PySem.F.plainAttrs_list PySem.F.slot_list_append PySem.F.type_list_append zbH (pv 2) (zaa (zbx (zaa zaj (zaa (zby zae) zae))) zae))))
   za0)
   (zag (zca PassesOwn.never rfl (zb6 rfl T.range (zaa (pv 1) zae)) (zaw (i:=6) sc_law_sets.nd rfl (by first|exact Or.inl rfl|exact Or.inr rfl))
   (zao (zb8 (za8 zcP (zaO zaM (by rfl) T.len PySem.boot_len (zaa (zcA rfl (zbv (pv 2)) (zb3 (zas zeO) ["_law_cells","_law_many","_law_found","_law_k","_law_cell","_law_things","_law_thing"] ["_law_thing","_law_price","_law_things"] [6] 2 rfl rfl rfl (by decide +kernel) (by decide +kernel) (by decide +kernel) rfl (by decide +kernel) (fun cl C s H fp pins=>(zdT rfl (zaY (zaw (i:=1) (show List.Nodup (["_law_thing","_law_price","_law_things"]:List Str) by decide +kernel) rfl (Or.inl rfl)) (zaY (zaw (i:=2) (show List.Nodup (["_law_thing","_law_price","_law_things"]:List Str) by decide +kernel) rfl (Or.inl rfl)) zcJ)))) (fun cl C s H fp pins=>zaj) (Or.inr ⟨_,_,rfl,rfl,fun cl C s H fp pins=>(za8 zkz (pv 0) (pv 2) (by with_unfolding_all rfl))⟩))) zae)) zaj (zaS _))
   (zao (zaQ (zdm PySem.F.plainAttrs_list PySem.F.slot_list_append PySem.F.type_list_append zbH (zaW zbD (zaW zaN (pv 2) (zaB zbE (zaB zcN (pv 6) zaj) (zaO zaM (by rfl) T.len PySem.boot_len (zaa (pv 2) zae))) (fun _ _=>rfl)) zaj (fun _ _=>rfl)) (zaa (pv 6) zae))))
   za0)))
   (zao (zaJ (pv 2))))))),zfm (K:=(KX K)) (XO:=XO0) (E:=E) (np:=2) (nv:=5) (m:=zjh)
   (zan (zp2 (zbc zak))
   (zan (zce (zlL (zac zah zak)) (zdP (zaV zap (zaV zap zcH)))
   (zan (zdz (zba (zcb len1 (zac zah zak)).c (by decide) zaP za3 (Or.inr ⟨_,_,rfl,rfl,(st_b (zal (zac zah (zac zah (zac zah zak)))))⟩) zah))
   (zqm (zal (zac zah (zac zah zak))))))
   (zan (zcf (za2 (zlk (zam zrx zad ((zbc zak)).e.r)))
   (zoO zai (zbc zak))
   za4)
   (zan (zce (zcb len1 (zac zah zak)) zap
   (zcf (za2 (zlk (zam zcO ((zcc zcK (zaD ((zba (zbM zad) (by decide) (zdP (zaV zaP (zaV zaP zcH))) (zfR (zbU za3 (zbU za3 zex))) (Or.inr ⟨_,_,rfl,rfl,(za2 (zam zr1 zad zad))⟩) zai)).e.r zaR))).r (zai).r)))
   (zo9 (zlk (zam zbF ((zam zdR zad (zai).r)).r ((zcc zcK (zaD zad zaR))).r)) zai zah)
   za4))
   zp4)))) rfl h⟩
abbrev ze9:Stmt:=top 51
theorem sc_law_divisor:FnScope ["_law_one","_law_other"] ["_law_one","_law_other"] (zas ze9):=scMk
theorem ziO {f:Addr} {fd:FuncData} (F:Fun K "_law_divisor" "_law_divisor" ze9 f fd) (T:Txt K mg)  : FnOk P w K mg base CX0 1 f fd ["_law_one","_law_other"] (spM (KX K) XO0 zbB):=by
 refine F.ok sc_law_divisor (fun vs H Q E h=>zbd h) (fun cdv A outer s H vs Q E hr h=>?_)
 have hu:=zbS hr
 exact⟨_,(zag (zml PassesOwn.never (za8 zfo (pv 1) zaj (zaS _))
   (zao (zqU (i:=0) (j:=1) rfl sc_law_divisor.nd rfl rfl (by decide) rfl rfl (zaa (pv 1) (zaa (zaB zbE (pv 0) (pv 1)) zae)) rfl)))
   (zao (zaJ (pv 0)))),zcv (K:=(KX K)) (XO:=XO0) (E:=E) (np:=2) (nv:=0) (m:=zgv)
   (zan (zmp (za2 (zam zfq zad (zai).r))
   (zrm (zac zah (zac (zam zbF zad zad) zak))))
   (za7 zah)) rfl h⟩
abbrev zf3:Stmt:=top 57
theorem sc_law_parts:FnScope ["_law_cell","_law_k","_law_number_here","_law_bottom","_law_top","_law_by"] ["_law_cell","_law_k"] (zas zf3):=scMk
theorem zk9 {f:Addr} {fd:FuncData} (F:Fun K "_law_parts" "_law_parts" zf3 f fd) (T:Txt K mg) (G_law_number:Has P w K mg base CX0 1 "_law_number" ["_law_cell","_law_k"] (spM (KX K) XO0 zaK)) (G_law_divisor:Has P w K mg base CX0 1 "_law_divisor" ["_law_one","_law_other"] (spM (KX K) XO0 zbB)):FnOk P w K mg base CX0 2 f fd ["_law_cell","_law_k"] (spM (KX K) XO0 zbe):=by
 refine F.ok sc_law_parts (fun vs H Q E h=>zbd h) (fun cdv A outer s H vs Q E hr h=>?_)
 have hu:=zbS hr
 exact⟨_,(zag (zay (i:=2) sc_law_parts.nd rfl (by first|exact Or.inl rfl|exact Or.inr rfl) (pe_h G_law_number hr zax (zaa (pv 0) (zaa (zaB zb1 (pv 1) zaj) zae))))
   (@zag _ _ _ _ _ (by refine zay (i:=3) ?_ ?_ ?_ ?_ ?_ ?_;(exact sc_law_parts.nd);(rfl);(first|exact Or.inl rfl|exact Or.inr rfl);(exact (@zaW _ _ _ _ _ _ _ zaN (@zby _ _ _ _ (@zaa _ _ _ _ _ zaj (@zaa _ _ _ _ _ zaj (@zaa _ _ _ _ _ zaj (@zaa _ _ _ _ _ zaj (@zaa _ _ _ _ _ zaj (@zaa _ _ _ _ _ zaj (@zaa _ _ _ _ _ zaj (@zaa _ _ _ _ _ zaj (@zaa _ _ _ _ _ (zaB zb1 zaj (zaB zbE (zaB zbO (pv 2) zaj) zaj)) zae rfl) rfl) rfl) rfl) rfl) rfl) rfl) rfl) rfl)) (zaB zbE (zaB zbO (pv 2) zaj) zaj) (fun _ _=>rfl)));(rfl);(first|exact .inl rfl|exact .inr rfl))
   (zag (zay (i:=4) sc_law_parts.nd rfl (by first|exact Or.inl rfl|exact Or.inr rfl) (zaB zbE (zaB zbO (pv 2) zaj) zaj))
   (zag (zb8 (za8 zcP (zaB zbE (pv 2) zaj) zaj (zaS _))
   (zao (zay (i:=4) sc_law_parts.nd rfl (by first|exact Or.inl rfl|exact Or.inr rfl) (zaB zbE (zaB zb1 (zaB zcN (zaB zbE (pv 0) (zaB zh5 zaj zaj)) zaj) (pv 2)) (zaB zh5 zaj zaj))))
   za0)
   (zag (zay (i:=5) sc_law_parts.nd rfl (by first|exact Or.inl rfl|exact Or.inr rfl) (pe_h G_law_divisor hr zax (zaa (pv 3) (zaa (pv 4) zae))))
   (zao (zaJ (zbx (zaa (zaB zbO (pv 4) (pv 5)) (zaa (zaB zbO (pv 3) (pv 5)) zae)))))))))),zcv (K:=(KX K)) (XO:=XO0) (E:=E) (np:=2) (nv:=4) (m:=ziF)
   (zan (zaC (zal (zac zah (zac (zam zb2 zad (zai).r) zak))) zap)
   (zan (zaC (zam za9 ((zbc (zac zai (zac zai (zac zai (zac zai (zac zai (zac zai (zac zai (zac zai (zac (zam zb2 (zai).r ((zam zbF ((zam zc4 zad (zai).r)).r (zai).r)).r) zak))))))))))).e.r ((zam zbF ((zam zc4 zad (zai).r)).r (zai).r)).r) zap)
   (zan (zaC (zam zbF ((zam zc4 zad (zai).r)).r (zai).r) zap)
   (zan (zcf (za2 (zam zcO ((zam zbF zad (zai).r)).r (zai).r))
   (zaC (zam zbF ((zam zb2 ((zam zdR ((zam zbF zad ((zam zig (zai).r (zai).r)).r)).r (zai).r)).r zad)).r ((zam zig (zai).r (zai).r)).r) zap)
   za4)
   (zan (zaC (zal (zac zah (zac zah zak))) zap)
   (za7 (zbC (zac (zam zc4 zad zad) (zac (zam zc4 zad zad) zak))))))))) rfl h⟩
abbrev zeV:Stmt:=top 58
theorem ziM:FnScope ["_law_one"] ["_law_one"] (zas zeV):=scMk
theorem ziT {f:Addr} {fd:FuncData} (F:Fun K "_law_written" "_law_written" zeV f fd) (T:Txt K mg)  : FnOk P w K mg base CX0 1 f fd ["_law_one"] (spM (KX K) XO0 zaF):=by
 refine F.ok ziM (fun vs H Q E h=>zbd h) (fun cdv A outer s H vs Q E hr h=>?_)
 have hu:=zbS hr
 exact⟨_,(zag (zb8 (za8 zcP (zaW zbD (pv 0) zaj (fun _ _=>rfl)) zaj (zaS _))
   (zao (zaJ (zcD zdw (by rfl) T.str boot_str (zaa (zaW zbD (pv 0) zaj (fun _ _=>rfl)) zae))))
   za0)
   (zao (zaJ (zaB zcG (zaB zcG (zcD zdw (by rfl) T.str boot_str (zaa (zaW zbD (pv 0) zaj (fun _ _=>rfl)) zae)) zbs) (zcD zdw (by rfl) T.str boot_str (zaa (zaW zbD (pv 0) zaj (fun _ _=>rfl)) zae)))))),zcv (K:=(KX K)) (XO:=XO0) (E:=E) (np:=1) (nv:=0) (m:=zgD)
   (zan (zcf (za2 (zam zcO ((zam zbL zad (zai).r)).r (zai).r))
   (za7 (zcc zeQ (zaD ((zam zbL zad (zai).r)).r zaR)))
   za4)
   (za7 (zam zey ((zam zey ((zcc zeQ (zaD ((zam zbL zad (zai).r)).r zaR))).r (zbT).r)).r ((zcc zeQ (zaD ((zam zbL zad (zai).r)).r zaR))).r))) rfl h⟩
abbrev zg8:Stmt:=top 59
theorem sc_law_unit:FnScope ["_law_amounts","_law_unit_here","_law_top","_law_bottom"] ["_law_amounts"] (zas zg8):=scMk
theorem zlz {f:Addr} {fd:FuncData} (F:Fun K "_law_unit" "_law_unit" zg8 f fd) (T:Txt K mg) (G_law_divisor:Has P w K mg base CX0 1 "_law_divisor" ["_law_one","_law_other"] (spM (KX K) XO0 zbB)):FnOk P w K mg base CX0 2 f fd ["_law_amounts"] (spM (KX K) XO0 zbI):=by
 refine F.ok sc_law_unit (fun vs H Q E h=>zbd h) (fun cdv A outer s H vs Q E hr h=>?_)
 have hu:=zbS hr
 exact⟨_,(zag (zay (i:=1) sc_law_unit.nd rfl (by first|exact Or.inl rfl|exact Or.inr rfl) zaj)
   (zag (zca PassesOwn.never rfl (zbv (pv 0)) (zdT rfl (zaY (zaw (i:=2) sc_law_unit.nd rfl (by first|exact Or.inl rfl|exact Or.inr rfl)) (zaY (zaw (i:=3) sc_law_unit.nd rfl (by first|exact Or.inl rfl|exact Or.inr rfl)) zcJ)))
   (zao (zay (i:=1) sc_law_unit.nd rfl (by first|exact Or.inl rfl|exact Or.inr rfl) (zaB zbO (zaB zcN (pv 1) (pv 3)) (pe_h G_law_divisor hr zax (zaa (pv 1) (zaa (pv 3) zae)))))))
   (zao (zaJ (pv 1))))),zcv (K:=(KX K)) (XO:=XO0) (E:=E) (np:=1) (nv:=3) (m:=zi0)
   (zan (zaC zai zap)
   (zan (zce (zew zah) (zdP (zaV zap (zaV zap zcH)))
   (zaC (zam zc4 ((zam zdR zad zad)).r ((zal (zac zah (zac zah zak)))).r) zap))
   (za7 zah))) rfl h⟩
abbrev zen:Stmt:=top 60
theorem zjm:FnScope ["_law_amounts","_law_unit_here"] ["_law_amounts","_law_unit_here"] (zas zen):=scMk
theorem zjB {f:Addr} {fd:FuncData} (F:Fun K "_law_wholes" "_law_wholes" zen f fd) (T:Txt K mg)  : FnOk P w K mg base CX0 1 f fd ["_law_amounts","_law_unit_here"] (spO (KX K) XO0 zaL):=by
 refine F.ok zjm (fun vs H Q E h=>zdU h) (fun cdv A outer s H vs Q E hr h=>?_)
 have hu:=zbS hr
 exact⟨_,(zao (zaJ (zcA rfl (zbv (pv 0)) (zb3 (zas zen) ["_law_amounts","_law_unit_here"] ["_law_unit_here","_law_top","_law_bottom"] [1] 2 rfl rfl rfl (by decide +kernel) (by decide +kernel) (by decide +kernel) rfl (by decide +kernel) (fun cl C s H fp pins=>(zdT rfl (zaY (zaw (i:=1) (show List.Nodup (["_law_unit_here","_law_top","_law_bottom"]:List Str) by decide +kernel) rfl (Or.inl rfl)) (zaY (zaw (i:=2) (show List.Nodup (["_law_unit_here","_law_top","_law_bottom"]:List Str) by decide +kernel) rfl (Or.inl rfl)) zcJ)))) (fun cl C s H fp pins=>(zaB zbO (zaB zcN (pv 1) (pv 0)) (pv 2))) (Or.inl ⟨rfl,rfl⟩))))),zfm (K:=(KX K)) (XO:=XO0) (E:=E) (np:=2) (nv:=0) (m:=zhz)
   (zcI (zba (zbM zad) (by decide) (zdP (zaV zaP (zaV zaP zcH))) (zfR (zbU za3 (zbU za3 zex))) (Or.inl ⟨rfl,rfl⟩) (zam zc4 ((zam zdR zad zad)).r zad))) rfl h⟩
abbrev zci:Stmt:=top 61
theorem sc_law_cover_made:FnScope ["_law_cells","_law_cell","_law_many","_law_sets_here","_law_amounts","_law_lines","_law_one","_law_pair","_law_unit_here","_law_prices"] ["_law_cells","_law_cell"] (zas zci):=scMk
theorem zhc {f:Addr} {fd:FuncData} (F:Fun K "_law_cover_made" "_law_cover_made" zci f fd) (T:Txt K mg) (G_law_cell_at:Has P w K mg base CX0 1 "_law_cell_at" ["_law_script","_law_k"] (spM (KX K) XO0 zaI)) (G_law_sets:Has P w K mg base CX0 3 "_law_sets" ["_law_cells","_law_many"] (spO (KX K) XO0 zeL)) (G_law_parts:Has P w K mg base CX0 2 "_law_parts" ["_law_cell","_law_k"] (spM (KX K) XO0 zbe)) (G_law_written:Has P w K mg base CX0 1 "_law_written" ["_law_one"] (spM (KX K) XO0 zaF)) (G_law_unit:Has P w K mg base CX0 2 "_law_unit" ["_law_amounts"] (spM (KX K) XO0 zbI)) (G_law_wholes:Has P w K mg base CX0 1 "_law_wholes" ["_law_amounts","_law_unit_here"] (spO (KX K) XO0 zaL)):FnOk P w K mg base CX0 4 f fd ["_law_cells","_law_cell"] (spO (KX K) XO0 zcg):=by
 refine F.ok sc_law_cover_made (fun vs H Q E h=>zdU h) (fun cdv A outer s H vs Q E hr h=>?_)
 have hu:=zbS hr
 exact⟨_,(zag (zay (i:=2) sc_law_cover_made.nd rfl (by first|exact Or.inl rfl|exact Or.inr rfl) (zaB zb1 zaj (zaB zbE (pv 1) zaj)))
   (zag (zay (i:=3) sc_law_cover_made.nd rfl (by first|exact Or.inl rfl|exact Or.inr rfl) (pe_h G_law_sets hr zax (zaa (zdr zd9 (pv 0) zeh (zef zaj)) (zaa (pv 2) zae))))
   (zag (zdL (i:=4) sc_law_cover_made.nd rfl (by first|exact Or.inl rfl|exact Or.inr rfl) rfl (zb6 rfl T.range (zaa (zaO zaM (by rfl) T.len PySem.boot_len (zaa (pv 3) zae)) zae)) (zb3 (zas zci) ["_law_cells","_law_cell","_law_many","_law_sets_here","_law_amounts","_law_lines","_law_one","_law_pair","_law_unit_here","_law_prices"] ["_law_cells","_law_k"] [0] 1 rfl rfl rfl (by decide +kernel) (by decide +kernel) (by decide +kernel) rfl (by decide +kernel) (fun cl C s H fp pins=>(zaw (i:=1) (show List.Nodup (["_law_cells","_law_k"]:List Str) by decide +kernel) rfl (Or.inl rfl))) (fun cl C s H fp pins=>(pe_h G_law_parts hr zax (zaa (pe_h G_law_cell_at hr zax (zaa (pv 0) (zaa (pv 1) zae))) (zaa (pv 1) zae)))) (Or.inl ⟨rfl,rfl⟩)) rfl)
   (zag (zay (i:=5) sc_law_cover_made.nd rfl (by first|exact Or.inl rfl|exact Or.inr rfl) (zby (zaa (zaB zcG zbs (zcD zdw (by rfl) T.str boot_str (zaa (pv 2) zae))) zae)))
   (zag (zca PassesOwn.never rfl (zmE rfl T.zip (zaa (pv 4) (zaa (pv 3) zae))) (zdT rfl (zaY (zaw (i:=6) sc_law_cover_made.nd rfl (by first|exact Or.inl rfl|exact Or.inr rfl)) (zaY (zaw (i:=7) sc_law_cover_made.nd rfl (by first|exact Or.inl rfl|exact Or.inr rfl)) zcJ)))
   (zao (zaQ (zdm PySem.F.plainAttrs_list PySem.F.slot_list_append PySem.F.type_list_append zbH (pv 5) (zaa (zdm PySem.F.plainAttrs_str PySem.F.slot_str_join PySem.F.type_str_join zgY zbs (zaa (zaB zeZ (zby (zaa (pe_h G_law_written hr zax (zaa (pv 6) zae)) zae)) (zcA rfl (zbv (zaW zbD (pv 7) zaj (fun _ _=>rfl))) (zb3 (zas zci) ["_law_cells","_law_cell","_law_many","_law_sets_here","_law_amounts","_law_lines","_law_one","_law_pair","_law_unit_here","_law_prices"] ["_law_thing"] [] 1 rfl rfl rfl (by decide +kernel) (by decide +kernel) (by decide +kernel) rfl (by decide +kernel) (fun cl C s H fp pins=>(zaw (i:=0) (show List.Nodup (["_law_thing"]:List Str) by decide +kernel) rfl (Or.inl rfl))) (fun cl C s H fp pins=>(zcD zdw (by rfl) (by exact T.str) boot_str (zaa (pv 0) zae))) (Or.inl ⟨rfl,rfl⟩)))) zae)) zae)))))
   (zag (zay (i:=8) sc_law_cover_made.nd rfl (by first|exact Or.inl rfl|exact Or.inr rfl) (pe_h G_law_unit hr zax (zaa (pv 4) zae)))
   (zag (zay (i:=9) sc_law_cover_made.nd rfl (by first|exact Or.inl rfl|exact Or.inr rfl) (pe_h G_law_wholes hr zax (zaa (pv 4) (zaa (pv 8) zae))))
   (zao (zaJ (zby (zaa (pv 5) (zaa (pv 8) (zaa (zbx (zaa (pv 2) (zaa (zcA rfl (zmE rfl T.zip (zaa (pv 9) (zaa (pv 3) zae))) (zb3 (zas zci) ["_law_cells","_law_cell","_law_many","_law_sets_here","_law_amounts","_law_lines","_law_one","_law_pair","_law_unit_here","_law_prices"] ["_law_price","_law_pair"] [] 2 rfl rfl rfl (by decide +kernel) (by decide +kernel) (by decide +kernel) rfl (by decide +kernel) (fun cl C s H fp pins=>(zdT rfl (zaY (zaw (i:=0) (show List.Nodup (["_law_price","_law_pair"]:List Str) by decide +kernel) rfl (Or.inl rfl)) (zaY (zaw (i:=1) (show List.Nodup (["_law_price","_law_pair"]:List Str) by decide +kernel) rfl (Or.inl rfl)) zcJ)))) (fun cl C s H fp pins=>(zbx (zaa (pv 0) (zaa (zaW zbD (pv 1) zaj (fun _ _=>rfl)) zae)))) (Or.inl ⟨rfl,rfl⟩))) zae))) zae))))))))))))),zfm (K:=(KX K)) (XO:=XO0) (E:=E) (np:=2) (nv:=8) (m:=zfg)
   (zan (zaC (zam zb2 (zai).r ((zam zbF zad (zai).r)).r) zap)
   (zan (zaC ((zbg (zac ((zcU zad zhX (zeg zai))).e (zac zah zak)))).e zap)
   (zan (zaC ((zba (zcb len1 (zac (zcc zcK (zaD zad zaR)) zak)).c (by decide) zaP za3 (Or.inl ⟨rfl,rfl⟩) (zal (zac (zal (zac zah (zac zah zak))) (zac zah zak))))).e zap)
   (zan (zdz (zbc (zac (zam zey (zbT).r ((zcc zeQ (zaD zad zaR))).r) zak)))
   (zan (zce (zpx (zac zah (zac zah zak))) (zdP (zaV zap (zaV zap zcH)))
   (zcr (zg5 ((zgu zgE ((zbc (zac (zal (zac zah zak)) zak))).e.r ((zba (zbM ((zam zbL zad (zai).r)).r) (by decide) zaP za3 (Or.inl ⟨rfl,rfl⟩) (zcc zeQ (zaD zad zaR)))).e.r)).e)))
   (zan (zaC (zal (zac zah zak)) zap)
   (zan (zaC ((zbg (zac zah (zac zah zak)))).e zap)
   (zgJ (i:=5) (zcI (zbc (zac zah (zac zah (zac (zbC (zac zah (zac ((zba (zoF (zaD zad (zaD zad zaR))) (by decide) (zdP (zaV zaP (zaV zaP zcH))) (zfR (zbU za3 (zbU za3 zex))) (Or.inl ⟨rfl,rfl⟩) (zbC (zac zah (zac (zam zbL zad (zai).r) zak))))).e zak))) zak))))))))))))) rfl h⟩
abbrev zcE:Stmt:=top 62
theorem sc_law_touch_made:FnScope ["_law_cells","_law_cell","_law_many","_law_amounts","_law_lines","_law_ends","_law_k","_law_one","_law_end","_law_other","_law_unit_here"] ["_law_cells","_law_cell"] (zas zcE):=scMk
theorem zgW {f:Addr} {fd:FuncData} (F:Fun K "_law_touch_made" "_law_touch_made" zcE f fd) (T:Txt K mg) (G_law_cell_at:Has P w K mg base CX0 1 "_law_cell_at" ["_law_script","_law_k"] (spM (KX K) XO0 zaI)) (G_law_number:Has P w K mg base CX0 1 "_law_number" ["_law_cell","_law_k"] (spM (KX K) XO0 zaK)) (G_law_parts:Has P w K mg base CX0 2 "_law_parts" ["_law_cell","_law_k"] (spM (KX K) XO0 zbe)) (G_law_written:Has P w K mg base CX0 1 "_law_written" ["_law_one"] (spM (KX K) XO0 zaF)) (G_law_unit:Has P w K mg base CX0 2 "_law_unit" ["_law_amounts"] (spM (KX K) XO0 zbI)) (G_law_wholes:Has P w K mg base CX0 1 "_law_wholes" ["_law_amounts","_law_unit_here"] (spO (KX K) XO0 zaL)):FnOk P w K mg base CX0 3 f fd ["_law_cells","_law_cell"] (spO (KX K) XO0 zch):=by
 refine F.ok sc_law_touch_made (fun vs H Q E h=>zdU h) (fun cdv A outer s H vs Q E hr h=>?_)
 have hu:=zbS hr
 exact⟨_,(zag (zay (i:=2) sc_law_touch_made.nd rfl (by first|exact Or.inl rfl|exact Or.inr rfl) (zaB zb1 zaj (zaB zbE (pv 1) zaj)))
   (zag (zdL (i:=3) sc_law_touch_made.nd rfl (by first|exact Or.inl rfl|exact Or.inr rfl) rfl (zb6 rfl T.range (zaa (pv 2) zae)) (zb3 (zas zcE) ["_law_cells","_law_cell","_law_many","_law_amounts","_law_lines","_law_ends","_law_k","_law_one","_law_end","_law_other","_law_unit_here"] ["_law_cells","_law_k"] [0] 1 rfl rfl rfl (by decide +kernel) (by decide +kernel) (by decide +kernel) rfl (by decide +kernel) (fun cl C s H fp pins=>(zaw (i:=1) (show List.Nodup (["_law_cells","_law_k"]:List Str) by decide +kernel) rfl (Or.inl rfl))) (fun cl C s H fp pins=>(pe_h G_law_parts hr zax (zaa (pe_h G_law_cell_at hr zax (zaa (pv 0) (zaa (pv 1) zae))) (zaa (pv 1) zae)))) (Or.inl ⟨rfl,rfl⟩)) rfl)
   (zag (zay (i:=4) sc_law_touch_made.nd rfl (by first|exact Or.inl rfl|exact Or.inr rfl) (zby (zaa (zdm PySem.F.plainAttrs_str PySem.F.slot_str_join PySem.F.type_str_join zgY zbs (zaa (zaB zeZ (zby (zaa zbs zae)) (zcA rfl (zbv (pv 3)) (zb3 (zas zcE) ["_law_cells","_law_cell","_law_many","_law_amounts","_law_lines","_law_ends","_law_k","_law_one","_law_end","_law_other","_law_unit_here"] ["_law_one"] [] 1 rfl rfl rfl (by decide +kernel) (by decide +kernel) (by decide +kernel) rfl (by decide +kernel) (fun cl C s H fp pins=>(zaw (i:=0) (show List.Nodup (["_law_one"]:List Str) by decide +kernel) rfl (Or.inl rfl))) (fun cl C s H fp pins=>(pe_h G_law_written hr zax (zaa (pv 0) zae))) (Or.inl ⟨rfl,rfl⟩)))) zae)) zae)))
   (zag (zay (i:=5) sc_law_touch_made.nd rfl (by first|exact Or.inl rfl|exact Or.inr rfl) (zby zae))
   (zag (zca PassesOwn.never rfl (zhb rfl T.enumerate (zaa (zdr zd9 (pv 0) zeh (zef zaj)) zae)) (zdT rfl (zaY (zaw (i:=6) sc_law_touch_made.nd rfl (by first|exact Or.inl rfl|exact Or.inr rfl)) (zaY (zaw (i:=7) sc_law_touch_made.nd rfl (by first|exact Or.inl rfl|exact Or.inr rfl)) zcJ)))
   (zag (zay (i:=8) sc_law_touch_made.nd rfl (by first|exact Or.inl rfl|exact Or.inr rfl) (pe_h G_law_number hr zax (zaa (pv 7) (zaa (zaB zb1 (pv 6) zaj) zae))))
   (zag (zay (i:=9) sc_law_touch_made.nd rfl (by first|exact Or.inl rfl|exact Or.inr rfl) (zaB zb1 (zaB zb1 (zaB zbE (pv 8) (pv 2)) zaj) (zaB zbE (zaB zbO (pv 8) (pv 2)) (zaB ziD (pv 2) zaj))))
   (zag (zaQ (zdm PySem.F.plainAttrs_list PySem.F.slot_list_append PySem.F.type_list_append zbH (pv 5) (zaa (zbx (zaa (zaB zbE (pv 8) (pv 2)) (zaa (zaB zbE (pv 9) (pv 2)) zae))) zae)))
   (zao (zaQ (zdm PySem.F.plainAttrs_list PySem.F.slot_list_append PySem.F.type_list_append zbH (pv 4) (zaa (zaB zcG (zaB zcG (zcD zdw (by rfl) T.str boot_str (zaa (zaB zbE (pv 8) (pv 2)) zae)) zbs) (zcD zdw (by rfl) T.str boot_str (zaa (zaB zbE (pv 9) (pv 2)) zae))) zae))))))))
   (zag (zay (i:=10) sc_law_touch_made.nd rfl (by first|exact Or.inl rfl|exact Or.inr rfl) (pe_h G_law_unit hr zax (zaa (pv 3) zae)))
   (zao (zaJ (zby (zaa (pv 4) (zaa (pv 10) (zaa (zbx (zaa (pe_h G_law_wholes hr zax (zaa (pv 3) (zaa (pv 10) zae))) (zaa (pv 5) zae))) zae)))))))))))),zfm (K:=(KX K)) (XO:=XO0) (E:=E) (np:=2) (nv:=9) (m:=zfh)
   (zan (zaC (zam zb2 (zai).r ((zam zbF zad (zai).r)).r) zap)
   (zan (zaC ((zba (zcb len1 (zac zah zak)).c (by decide) zaP za3 (Or.inl ⟨rfl,rfl⟩) (zal (zac (zal (zac zah (zac zah zak))) (zac zah zak))))).e zap)
   (zan (zdz (zbc (zac (zg5 ((zgu zgE ((zbc (zac zbT zak))).e.r ((zba (zbM zad) (by decide) zaP za3 (Or.inl ⟨rfl,rfl⟩) (zal (zac zah zak)))).e.r)).e) zak)))
   (zan (zdz (zbc zak))
   (zan (zce (zlL (zac ((zcU zad zhX (zeg zai))).e zak)) (zdP (zaV zap (zaV zap zcH)))
   (zan (zaC (zal (zac zah (zac (zam zb2 zad (zai).r) zak))) zap)
   (zan (zaC (zam zb2 ((zam zb2 ((zam zbF zad zad)).r (zai).r)).r ((zam zbF ((zam zc4 zad zad)).r ((zam ziC zad (zai).r)).r)).r) zap)
   (zan (zcr (zbC (zac (zam zbF zad zad) (zac (zam zbF zad zad) zak))))
   (zcr (zam zey ((zam zey ((zcc zeQ (zaD ((zam zbF zad zad)).r zaR))).r (zbT).r)).r ((zcc zeQ (zaD ((zam zbF zad zad)).r zaR))).r))))))
   (zan (zaC (zal (zac zah zak)) zap)
   (zgJ (i:=4) (zgJ (i:=5) (zcI (zbc (zac zah (zac zah (zac (zbC (zac ((zbg (zac zah (zac zah zak)))).e (zac zah zak))) zak))))))))))))) rfl h⟩
abbrev zeR:Stmt:=top 56
theorem sc_law_between:FnScope ["_law_spots","_law_one","_law_other","_law_least","_law_low","_law_high","_law_much"] ["_law_spots","_law_one","_law_other","_law_least"] (zas zeR):=scMk
theorem ziL {f:Addr} {fd:FuncData} (F:Fun K "_law_between" "_law_between" zeR f fd) (T:Txt K mg)  : FnOk P w K mg base CX0 1 f fd ["_law_spots","_law_one","_law_other","_law_least"] (spM (KX K) XO0 zdx):=by
 refine F.ok sc_law_between (fun vs H Q E h=>zbd h) (fun cdv A outer s H vs Q E hr h=>?_)
 have hu:=zbS hr
 exact⟨_,(zag (zb8 (za8 zcP (pv 1) (pv 2) (zaS _))
   (zao (zaJ zaj))
   za0)
   (zag (zay (i:=4) sc_law_between.nd rfl (by first|exact Or.inl rfl|exact Or.inr rfl) (zaO (znN rfl) (by rfl) T.min boot_min (zaa (pv 1) (zaa (pv 2) zae))))
   (zag (zay (i:=5) sc_law_between.nd rfl (by first|exact Or.inl rfl|exact Or.inr rfl) (zaO (znL rfl) (by rfl) T.max boot_max (zaa (pv 1) (zaa (pv 2) zae))))
   (zag (zay (i:=6) sc_law_between.nd rfl (by first|exact Or.inl rfl|exact Or.inr rfl) (zaB zb1 (zaB zb1 (zaW zbD (zaW zaN (pv 0) (pv 4) (fun _ _=>rfl)) zaj (fun _ _=>rfl)) (zaB zcN zaj (zaW zbD (zaW zaN (pv 0) (pv 5) (fun _ _=>rfl)) zaj (fun _ _=>rfl)))) (zaB zcN (pv 4) (pv 5))))
   (zao (zaJ (zaB zb1 (pv 3) (zaB zbE (pv 6) (zaB zb1 (pv 3) zaj))))))))),zcv (K:=(KX K)) (XO:=XO0) (E:=E) (np:=4) (nv:=3) (m:=zgz)
   (zan (zcf (za2 (zam zcO zad zad))
   (za7 zai)
   za4)
   (zan (zaC (zcc zqM (zaD zad (zaD zad zaR))) zap)
   (zan (zaC (zcc zqq (zaD zad (zaD zad zaR))) zap)
   (zan (zaC (zam zb2 ((zam zb2 ((zam zbL ((zam za9 zad zad)).r (zai).r)).r ((zam zdR (zai).r ((zam zbL ((zam za9 zad zad)).r (zai).r)).r)).r)).r ((zam zdR zad zad)).r) zap)
   (za7 (zam zb2 zad ((zam zbF zad ((zam zb2 zad (zai).r)).r)).r)))))) rfl h⟩
abbrev zcB:Stmt:=top 55
theorem sc_law_lengths:FnScope ["_law_cells","_law_many","_law_way","_law_spots","_law_k","_law_number_here","_law_reach","_law_least"] ["_law_cells","_law_many","_law_way"] (zas zcB):=scMk
theorem ziY {f:Addr} {fd:FuncData} (F:Fun K "_law_lengths" "_law_lengths" zcB f fd) (T:Txt K mg) (G_law_cell_at:Has P w K mg base CX0 1 "_law_cell_at" ["_law_script","_law_k"] (spM (KX K) XO0 zaI)) (G_law_number:Has P w K mg base CX0 1 "_law_number" ["_law_cell","_law_k"] (spM (KX K) XO0 zaK)) (G_law_between:Has P w K mg base CX0 1 "_law_between" ["_law_spots","_law_one","_law_other","_law_least"] (spM (KX K) XO0 zdx)):FnOk P w K mg base CX0 2 f fd ["_law_cells","_law_many","_law_way"] (spO (KX K) XO0 zcx):=by
 refine F.ok sc_law_lengths (fun vs H Q E h=>zdU h) (fun cdv A outer s H vs Q E hr h=>?_)
 have hu:=zbS hr
 exact⟨_,(zag (zay (i:=3) sc_law_lengths.nd rfl (by first|exact Or.inl rfl|exact Or.inr rfl) (zby zae))
   (zag (zca PassesOwn.never rfl (zb6 rfl T.range (zaa (pv 1) zae)) (zaw (i:=4) sc_law_lengths.nd rfl (by first|exact Or.inl rfl|exact Or.inr rfl))
   (zag (zay (i:=5) sc_law_lengths.nd rfl (by first|exact Or.inl rfl|exact Or.inr rfl) (pe_h G_law_number hr zax (zaa (pe_h G_law_cell_at hr zax (zaa (pv 0) (zaa (pv 4) zae))) (zaa (zaB zb1 (pv 4) zaj) zae))))
   (zag (zay (i:=6) sc_law_lengths.nd rfl (by first|exact Or.inl rfl|exact Or.inr rfl) (zaW zaN (zby (zaa zaj (zaa zaj (zaa (zaB zh5 zaj zaj) (zaa (zaB zh5 zaj zaj) zae))))) (zaB zbE (pv 5) zaj) (fun _ _=>rfl)))
   (zao (zaQ (zdm PySem.F.plainAttrs_list PySem.F.slot_list_append PySem.F.type_list_append zbH (pv 3) (zaa (zbx (zaa (zaB zbE (zaB zcN (zaB zbO (pv 5) zaj) zaj) (pv 6)) (zaa (zaB zbE (zaB zcN (zaB zbE (zaB zcN (zaB zbO (pv 5) zaj) zaj) zaj) zaj) (pv 6)) zae))) zae)))))))
   (zag (zb8 (za8 zcP (zaB zbE (pv 2) zaj) zaj (zaS _))
   (zag (zay (i:=7) sc_law_lengths.nd rfl (by first|exact Or.inl rfl|exact Or.inr rfl) (zaB zb1 zaj (zaW zbD (zaW zaN (pv 3) zaj (fun _ _=>rfl)) zaj (fun _ _=>rfl))))
   (zao (zaJ (zcA rfl (zb6 rfl T.range (zaa (pv 1) zae)) (zb3 (zas zcB) ["_law_cells","_law_many","_law_way","_law_spots","_law_k","_law_number_here","_law_reach","_law_least"] ["_law_spots","_law_least","_law_many","_law_one"] [3,7,1] 1 rfl rfl rfl (by decide +kernel) (by decide +kernel) (by decide +kernel) rfl (by decide +kernel) (fun cl C s H fp pins=>(zaw (i:=3) (show List.Nodup (["_law_spots","_law_least","_law_many","_law_one"]:List Str) by decide +kernel) rfl (by first|exact Or.inl rfl|exact Or.inr rfl))) (fun cl C s H fp pins=>(zcA rfl (zb6 (by rfl) (by exact T.range) (zaa (pv 2) zae)) (zb3 (zmy _ (zas zcB)) ["_law_spots","_law_least","_law_many","_law_one"] ["_law_spots","_law_one","_law_least","_law_other"] [0,3,1] 1 rfl rfl rfl (by decide +kernel) (by decide +kernel) (by decide +kernel) rfl (by decide +kernel) (fun cl C s H fp pins=>(zaw (i:=3) (show List.Nodup (["_law_spots","_law_one","_law_least","_law_other"]:List Str) by decide +kernel) rfl (Or.inl rfl))) (fun cl C s H fp pins=>(pe_h G_law_between hr zax (zaa (pv 0) (zaa (pv 1) (zaa (pv 3) (zaa (pv 2) zae)))))) (Or.inl ⟨rfl,rfl⟩)))) (Or.inl ⟨rfl,rfl⟩))))))
   za0)
   (zao (zaJ (zcA rfl (zbv (pv 3)) (zb3 (zas zcB) ["_law_cells","_law_many","_law_way","_law_spots","_law_k","_law_number_here","_law_reach","_law_least"] ["_law_spots","_law_a"] [3] 1 rfl rfl rfl (by decide +kernel) (by decide +kernel) (by decide +kernel) rfl (by decide +kernel) (fun cl C s H fp pins=>(zaw (i:=1) (show List.Nodup (["_law_spots","_law_a"]:List Str) by decide +kernel) rfl (by first|exact Or.inl rfl|exact Or.inr rfl))) (fun cl C s H fp pins=>(zcA rfl (zbv (pv 0)) (zb3 (zmy _ (zas zcB)) ["_law_spots","_law_a"] ["_law_a","_law_b"] [1] 1 rfl rfl rfl (by decide +kernel) (by decide +kernel) (by decide +kernel) rfl (by decide +kernel) (fun cl C s H fp pins=>(zaw (i:=1) (show List.Nodup (["_law_a","_law_b"]:List Str) by decide +kernel) rfl (Or.inl rfl))) (fun cl C s H fp pins=>(zaB zb1 (zaO zhJ (by rfl) (by exact T.abs) boot_abs (zaa (zaB ziD (zaW zbD (pv 0) zaj (fun _ _=>rfl)) (zaW zbD (pv 1) zaj (fun _ _=>rfl))) zae)) (zaO zhJ (by rfl) (by exact T.abs) boot_abs (zaa (zaB ziD (zaW zbD (pv 0) zaj (fun _ _=>rfl)) (zaW zbD (pv 1) zaj (fun _ _=>rfl))) zae)))) (Or.inl ⟨rfl,rfl⟩)))) (Or.inl ⟨rfl,rfl⟩)))))))),zfm (K:=(KX K)) (XO:=XO0) (E:=E) (np:=3) (nv:=5) (m:=zgK)
   (zan (zdz (zbc zak))
   (zan (zce (zcb len1 (zac zah zak)) zap
   (zan (zaC (zal (zac (zal (zac zah (zac zah zak))) (zac (zam zb2 zad (zai).r) zak))) zap)
   (zan (zaC (zam za9 ((zbc (zac zai (zac zai (zac (zam zig (zai).r (zai).r) (zac (zam zig (zai).r (zai).r) zak)))))).e.r ((zam zbF zad (zai).r)).r) zap)
   (zcr (zbC (zac (zam zbF ((zam zdR ((zam zc4 zad (zai).r)).r (zai).r)).r zad) (zac (zam zbF ((zam zdR ((zam zbF ((zam zdR ((zam zc4 zad (zai).r)).r (zai).r)).r (zai).r)).r (zai).r)).r zad) zak)))))))
   (zan (zcf (za2 (zam zcO ((zam zbF zad (zai).r)).r (zai).r))
   (zan (zaC (zam zb2 (zai).r ((zam zbL ((zam za9 zad (zai).r)).r (zai).r)).r) zap)
   (zcI (zba (zcb len1 (zac zah zak)).c (by decide) zaP za3 (Or.inl ⟨rfl,rfl⟩) ((zba (zcb len1 (zac zah zak)).c (by decide) zaP za3 (Or.inl ⟨rfl,rfl⟩) (zjz (zlA (zjs zah (zjs zah (zjs zah zlw))))))).e)))
   za4)
   (zcI (zba (zbM zad) (by decide) zaP za3 (Or.inl ⟨rfl,rfl⟩) ((zba (zbM zad) (by decide) zaP za3 (Or.inl ⟨rfl,rfl⟩) (zam zb2 ((zcc zmD (zaD ((zam ziC ((zam zbL zad (zai).r)).r ((zam zbL zad (zai).r)).r)).r zaR))).r ((zcc zmD (zaD ((zam ziC ((zam zbL zad (zai).r)).r ((zam zbL zad (zai).r)).r)).r zaR))).r))).e))))) rfl h⟩
abbrev zdu:Stmt:=top 63
theorem sc_law_line_lengths:FnScope ["_law_cells","_law_many","_law_cell","_law_bottom","_law_rows","_law_one","_law_row","_law_much","_law_by"] ["_law_cells","_law_many","_law_cell"] (zas zdu):=scMk
theorem zgj {f:Addr} {fd:FuncData} (F:Fun K "_law_line_lengths" "_law_line_lengths" zdu f fd) (T:Txt K mg) (G_law_divisor:Has P w K mg base CX0 1 "_law_divisor" ["_law_one","_law_other"] (spM (KX K) XO0 zbB)) (G_law_lengths:Has P w K mg base CX0 2 "_law_lengths" ["_law_cells","_law_many","_law_way"] (spO (KX K) XO0 zcx)):FnOk P w K mg base CX0 3 f fd ["_law_cells","_law_many","_law_cell"] (spO (KX K) XO0 zbY):=by
 refine F.ok sc_law_line_lengths (fun vs H Q E h=>zdU h) (fun cdv A outer s H vs Q E hr h=>?_)
 have hu:=zbS hr
 exact⟨_,(zag (zay (i:=3) sc_law_line_lengths.nd rfl (by first|exact Or.inl rfl|exact Or.inr rfl) (zaB zb1 zaj (zaB zbE (pv 2) zaj)))
   (zag (zay (i:=4) sc_law_line_lengths.nd rfl (by first|exact Or.inl rfl|exact Or.inr rfl) (zby zae))
   (zag (zca PassesOwn.never rfl (zbv (pe_h G_law_lengths hr zax (zaa (pv 0) (zaa (pv 1) (zaa (zaB zbO (pv 2) zaj) zae))))) (zaw (i:=5) sc_law_line_lengths.nd rfl (by first|exact Or.inl rfl|exact Or.inr rfl))
   (zag (zay (i:=6) sc_law_line_lengths.nd rfl (by first|exact Or.inl rfl|exact Or.inr rfl) (zby zae))
   (zag (zca PassesOwn.never rfl (zbv (pv 5)) (zaw (i:=7) sc_law_line_lengths.nd rfl (by first|exact Or.inl rfl|exact Or.inr rfl))
   (zag (zay (i:=8) sc_law_line_lengths.nd rfl (by first|exact Or.inl rfl|exact Or.inr rfl) (pe_h G_law_divisor hr zax (zaa (pv 3) (zaa (pv 7) zae))))
   (zao (zaQ (zdm PySem.F.plainAttrs_list PySem.F.slot_list_append PySem.F.type_list_append zbH (pv 6) (zaa (zbx (zaa (zaB zbO (pv 7) (pv 8)) (zaa (zaB zbO (pv 3) (pv 8)) zae))) zae))))))
   (zao (zaQ (zdm PySem.F.plainAttrs_list PySem.F.slot_list_append PySem.F.type_list_append zbH (pv 4) (zaa (pv 6) zae)))))))
   (zao (zaJ (pv 4)))))),zfm (K:=(KX K)) (XO:=XO0) (E:=E) (np:=3) (nv:=6) (m:=zeu)
   (zan (zaC (zam zb2 (zai).r ((zam zbF zad (zai).r)).r) zap)
   (zan (zdz (zbc zak))
   (zan (zce (zew ((zbg (zac zah (zac zah (zac (zam zc4 zad (zai).r) zak))))).e) zap
   (zan (zdz (zbc zak))
   (zan (zce (zew zah) zap
   (zan (zaC (zal (zac zah (zac zah zak))) zap)
   (zcr (zbC (zac (zam zc4 zad zad) (zac (zam zc4 zad zad) zak))))))
   (zgJ (i:=6) (zcr zah)))))
   zok))) rfl h⟩
abbrev zcj:Stmt:=top 64
theorem sc_law_lengths_made:FnScope ["_law_cells","_law_cell","_law_word","_law_many","_law_rows","_law_lines","_law_amounts","_law_row","_law_unit_here","_law_lengths_here","_law_chosen"] ["_law_cells","_law_cell","_law_word"] (zas zcj):=scMk
theorem zf1 {f:Addr} {fd:FuncData} (F:Fun K "_law_lengths_made" "_law_lengths_made" zcj f fd) (T:Txt K mg) (G_law_written:Has P w K mg base CX0 1 "_law_written" ["_law_one"] (spM (KX K) XO0 zaF)) (G_law_unit:Has P w K mg base CX0 2 "_law_unit" ["_law_amounts"] (spM (KX K) XO0 zbI)) (G_law_wholes:Has P w K mg base CX0 1 "_law_wholes" ["_law_amounts","_law_unit_here"] (spO (KX K) XO0 zaL)) (G_law_line_lengths:Has P w K mg base CX0 3 "_law_line_lengths" ["_law_cells","_law_many","_law_cell"] (spO (KX K) XO0 zbY)):FnOk P w K mg base CX0 4 f fd ["_law_cells","_law_cell","_law_word"] (spO (KX K) XO0 zbm):=by
 refine F.ok sc_law_lengths_made (fun vs H Q E h=>zdU h) (fun cdv A outer s H vs Q E hr h=>?_)
 have hu:=zbS hr
 exact⟨_,(zag (zay (i:=3) sc_law_lengths_made.nd rfl (by first|exact Or.inl rfl|exact Or.inr rfl) (zaB zb1 zaj (zaB zbE (pv 1) zaj)))
   (zag (zay (i:=4) sc_law_lengths_made.nd rfl (by first|exact Or.inl rfl|exact Or.inr rfl) (pe_h G_law_line_lengths hr zax (zaa (pv 0) (zaa (pv 3) (zaa (zaB zbO (pv 1) zaj) zae)))))
   (zag (zay (i:=5) sc_law_lengths_made.nd rfl (by first|exact Or.inl rfl|exact Or.inr rfl) (zby (zaa (pv 2) zae)))
   (zag (zay (i:=6) sc_law_lengths_made.nd rfl (by first|exact Or.inl rfl|exact Or.inr rfl) (zby zae))
   (zag (zca PassesOwn.never rfl (zbv (pv 4)) (zaw (i:=7) sc_law_lengths_made.nd rfl (by first|exact Or.inl rfl|exact Or.inr rfl))
   (zag (zaQ (zdm PySem.F.plainAttrs_list PySem.F.slot_list_append PySem.F.type_list_append zbH (pv 5) (zaa (zdm PySem.F.plainAttrs_str PySem.F.slot_str_join PySem.F.type_str_join zgY zbs (zaa (zcA rfl (zbv (pv 7)) (zb3 (zas zcj) ["_law_cells","_law_cell","_law_word","_law_many","_law_rows","_law_lines","_law_amounts","_law_row","_law_unit_here","_law_lengths_here","_law_chosen"] ["_law_one"] [] 1 rfl rfl rfl (by decide +kernel) (by decide +kernel) (by decide +kernel) rfl (by decide +kernel) (fun cl C s H fp pins=>(zaw (i:=0) (show List.Nodup (["_law_one"]:List Str) by decide +kernel) rfl (Or.inl rfl))) (fun cl C s H fp pins=>(pe_h G_law_written hr zax (zaa (pv 0) zae))) (Or.inl ⟨rfl,rfl⟩))) zae)) zae)))
   (zao (zay (i:=6) sc_law_lengths_made.nd rfl (by first|exact Or.inl rfl|exact Or.inr rfl) (zaB zeZ (pv 6) (pv 7))))))
   (zag (zay (i:=8) sc_law_lengths_made.nd rfl (by first|exact Or.inl rfl|exact Or.inr rfl) (pe_h G_law_unit hr zax (zaa (pv 6) zae)))
   (zag (zdL (i:=9) sc_law_lengths_made.nd rfl (by first|exact Or.inl rfl|exact Or.inr rfl) rfl (zbv (pv 4)) (zb3 (zas zcj) ["_law_cells","_law_cell","_law_word","_law_many","_law_rows","_law_lines","_law_amounts","_law_row","_law_unit_here","_law_lengths_here","_law_chosen"] ["_law_unit_here","_law_row"] [8] 1 rfl rfl rfl (by decide +kernel) (by decide +kernel) (by decide +kernel) rfl (by decide +kernel) (fun cl C s H fp pins=>(zaw (i:=1) (show List.Nodup (["_law_unit_here","_law_row"]:List Str) by decide +kernel) rfl (Or.inl rfl))) (fun cl C s H fp pins=>(pe_h G_law_wholes hr zax (zaa (pv 1) (zaa (pv 0) zae)))) (Or.inl ⟨rfl,rfl⟩)) rfl)
   (zag (zb8 (za8 zcP (pv 2) zbs (zaS _))
   (zao (zaJ (zby (zaa (pv 5) (zaa (pv 8) (zaa (zbx (zaa (pv 9) zae)) zae))))))
   za0)
   (zag (zay (i:=10) sc_law_lengths_made.nd rfl (by first|exact Or.inl rfl|exact Or.inr rfl) (zaB zb1 zaj (zaB zbE (zaB zbO (pv 1) zaj) (pv 3))))
   (zao (zaJ (zby (zaa (zaB zeZ (zby (zaa (zaB zcG (zaB zcG (pv 2) zbs) (zcD zdw (by rfl) T.str boot_str (zaa (pv 10) zae))) zae)) (zdr zd9 (pv 5) (zef zaj) zeh)) (zaa (pv 8) (zaa (zbx (zaa (pv 9) (zaa (pv 10) zae))) zae))))))))))))))),zfm (K:=(KX K)) (XO:=XO0) (E:=E) (np:=3) (nv:=8) (m:=zeo)
   (zan (zaC (zam zb2 (zai).r ((zam zbF zad (zai).r)).r) zap)
   (zan (zaC ((zbg (zac zah (zac zah (zac (zam zc4 zad (zai).r) zak))))).e zap)
   (zan (zdz (zbc (zac zah zak)))
   (zan (zaC ((zbc zak)).e zap)
   (zan (zce (zew zah) zap
   (zan (zcr (zg5 ((zba (zbM zad) (by decide) zaP za3 (Or.inl ⟨rfl,rfl⟩) (zal (zac zah zak)))).e))
   (zaC ((zgu zgE zad zad)).e zap)))
   (zan (zaC (zal (zac zah zak)) zap)
   (zan (zaC ((zba (zbM zad) (by decide) zaP za3 (Or.inl ⟨rfl,rfl⟩) ((zbg (zac zah (zac zah zak)))).e)).e zap)
   (zan (zcf (za2 (zam zcO zad (zbT).r))
   (zgJ (i:=5) (zcI (zbc (zac zah (zac zah (zac (zbC (zac zah zak)) zak))))))
   za4)
   (zan (zaC (zam zb2 (zai).r ((zam zbF ((zam zc4 zad (zai).r)).r zad)).r) zap)
   (zcI (zbc (zac ((zgu zgE ((zbc (zac (zam zey ((zam zey zad (zbT).r)).r ((zcc zeQ (zaD zad zaR))).r) zak))).e.r ((zcU zad (zeg zai) zhX)).e.r)).e (zac zah (zac (zbC (zac zah (zac zah zak))) zak)))))))))))))) rfl h⟩
abbrev zgi:Stmt:=top 65
theorem zkA:FnScope ["_law_one"] ["_law_one"] (zas zgi):=scMk
theorem zko {f:Addr} {fd:FuncData} (F:Fun K "_law_above" "_law_above" zgi f fd) (T:Txt K mg)  : FnOk P w K mg base CX0 1 f fd ["_law_one"] (spM (KX K) XO0 zcl):=by
 refine F.ok zkA (fun vs H Q E h=>zbd h) (fun cdv A outer s H vs Q E hr h=>?_)
 have hu:=zbS hr
 exact⟨_,(zag (zb8 (za8 zcP (zaW zbD (pv 0) zaj (fun _ _=>rfl)) zaj (zaS _))
   (zao (zaJ (zbx (zaa zaj (zaa zaj zae)))))
   za0)
   (zao (zaJ (pv 0)))),zcv (K:=(KX K)) (XO:=XO0) (E:=E) (np:=1) (nv:=0) (m:=zh3)
   (zan (zcf (za2 (zam zcO ((zam zbL zad (zai).r)).r (zai).r))
   (za7 (zbC (zac zai (zac zai zak))))
   za4)
   (za7 zah)) rfl h⟩
abbrev zbX:Stmt:=top 66
theorem sc_law_putting_made:FnScope ["_law_cells","_law_cell","_law_word","_law_amounts","_law_unit_here","_law_many","_law_lines","_law_room","_law_one"] ["_law_cells","_law_cell","_law_word"] (zas zbX):=scMk
theorem zf2 {f:Addr} {fd:FuncData} (F:Fun K "_law_putting_made" "_law_putting_made" zbX f fd) (T:Txt K mg) (G_law_parts:Has P w K mg base CX0 2 "_law_parts" ["_law_cell","_law_k"] (spM (KX K) XO0 zbe)) (G_law_written:Has P w K mg base CX0 1 "_law_written" ["_law_one"] (spM (KX K) XO0 zaF)) (G_law_unit:Has P w K mg base CX0 2 "_law_unit" ["_law_amounts"] (spM (KX K) XO0 zbI)) (G_law_wholes:Has P w K mg base CX0 1 "_law_wholes" ["_law_amounts","_law_unit_here"] (spO (KX K) XO0 zaL)) (G_law_above:Has P w K mg base CX0 1 "_law_above" ["_law_one"] (spM (KX K) XO0 zcl)):FnOk P w K mg base CX0 3 f fd ["_law_cells","_law_cell","_law_word"] (spO (KX K) XO0 zbn):=by
 refine F.ok sc_law_putting_made (fun vs H Q E h=>zdU h) (fun cdv A outer s H vs Q E hr h=>?_)
 have hu:=zbS hr
 exact⟨_,(zag (zdL (i:=3) sc_law_putting_made.nd rfl (by first|exact Or.inl rfl|exact Or.inr rfl) rfl (zhb rfl T.enumerate (zaa (zdr zd9 (pv 0) zeh (zef zaj)) zae)) (zb3 (zas zbX) ["_law_cells","_law_cell","_law_word","_law_amounts","_law_unit_here","_law_many","_law_lines","_law_room","_law_one"] ["_law_k","_law_one"] [] 2 rfl rfl rfl (by decide +kernel) (by decide +kernel) (by decide +kernel) rfl (by decide +kernel) (fun cl C s H fp pins=>(zdT rfl (zaY (zaw (i:=0) (show List.Nodup (["_law_k","_law_one"]:List Str) by decide +kernel) rfl (Or.inl rfl)) (zaY (zaw (i:=1) (show List.Nodup (["_law_k","_law_one"]:List Str) by decide +kernel) rfl (Or.inl rfl)) zcJ)))) (fun cl C s H fp pins=>(pe_h G_law_above hr zax (zaa (pe_h G_law_parts hr zax (zaa (pv 1) (zaa (pv 0) zae))) zae))) (Or.inl ⟨rfl,rfl⟩)) rfl)
   (zag (zb8 (za8 zcP (pv 2) zbs (zaS _))
   (zag (zay (i:=4) sc_law_putting_made.nd rfl (by first|exact Or.inl rfl|exact Or.inr rfl) (pe_h G_law_unit hr zax (zaa (pv 3) zae)))
   (zag (zay (i:=5) sc_law_putting_made.nd rfl (by first|exact Or.inl rfl|exact Or.inr rfl) (zaB zb1 zaj (zaB zbE (pv 1) zaj)))
   (zag (zay (i:=6) sc_law_putting_made.nd rfl (by first|exact Or.inl rfl|exact Or.inr rfl) (zby (zaa (zdm PySem.F.plainAttrs_str PySem.F.slot_str_join PySem.F.type_str_join zgY zbs (zaa (zaB zeZ (zby (zaa (pv 2) (zaa (zcD zdw (by rfl) T.str boot_str (zaa (pv 5) zae)) zae))) (zcA rfl (zbv (pv 3)) (zb3 (zas zbX) ["_law_cells","_law_cell","_law_word","_law_amounts","_law_unit_here","_law_many","_law_lines","_law_room","_law_one"] ["_law_one"] [] 1 rfl rfl rfl (by decide +kernel) (by decide +kernel) (by decide +kernel) rfl (by decide +kernel) (fun cl C s H fp pins=>(zaw (i:=0) (show List.Nodup (["_law_one"]:List Str) by decide +kernel) rfl (Or.inl rfl))) (fun cl C s H fp pins=>(pe_h G_law_written hr zax (zaa (pv 0) zae))) (Or.inl ⟨rfl,rfl⟩)))) zae)) zae)))
   (zao (zaJ (zby (zaa (pv 6) (zaa (pv 4) (zaa (zbx (zaa (pe_h G_law_wholes hr zax (zaa (pv 3) (zaa (pv 4) zae))) (zaa (pv 5) zae))) zae)))))))))
   za0)
   (zag (zay (i:=7) sc_law_putting_made.nd rfl (by first|exact Or.inl rfl|exact Or.inr rfl) (pe_h G_law_above hr zax (zaa (pe_h G_law_parts hr zax (zaa (pv 1) (zaa zaj zae))) zae)))
   (zag (zca PassesOwn.never rfl (zbv (pv 3)) (zaw (i:=8) sc_law_putting_made.nd rfl (by first|exact Or.inl rfl|exact Or.inr rfl))
   (zao (zb8 (za8 zlU (zaB zcN (zaW zbD (pv 7) zaj (fun _ _=>rfl)) (zaW zbD (pv 8) zaj (fun _ _=>rfl))) (zaB zcN (zaW zbD (pv 8) zaj (fun _ _=>rfl)) (zaW zbD (pv 7) zaj (fun _ _=>rfl))) (zaS _))
   (zao (zay (i:=7) sc_law_putting_made.nd rfl (by first|exact Or.inl rfl|exact Or.inr rfl) (pv 8)))
   za0)))
   (zag (zay (i:=4) sc_law_putting_made.nd rfl (by first|exact Or.inl rfl|exact Or.inr rfl) (pe_h G_law_unit hr zax (zaa (zaB zeZ (pv 3) (zby (zaa (pv 7) zae))) zae)))
   (zag (zay (i:=6) sc_law_putting_made.nd rfl (by first|exact Or.inl rfl|exact Or.inr rfl) (zby (zaa (zdm PySem.F.plainAttrs_str PySem.F.slot_str_join PySem.F.type_str_join zgY zbs (zaa (zaB zeZ (zby (zaa (pv 2) (zaa (pe_h G_law_written hr zax (zaa (pv 7) zae)) zae))) (zcA rfl (zbv (pv 3)) (zb3 (zas zbX) ["_law_cells","_law_cell","_law_word","_law_amounts","_law_unit_here","_law_many","_law_lines","_law_room","_law_one"] ["_law_one"] [] 1 rfl rfl rfl (by decide +kernel) (by decide +kernel) (by decide +kernel) rfl (by decide +kernel) (fun cl C s H fp pins=>(zaw (i:=0) (show List.Nodup (["_law_one"]:List Str) by decide +kernel) rfl (Or.inl rfl))) (fun cl C s H fp pins=>(pe_h G_law_written hr zax (zaa (pv 0) zae))) (Or.inl ⟨rfl,rfl⟩)))) zae)) zae)))
   (zao (zaJ (zby (zaa (pv 6) (zaa (pv 4) (zaa (zbx (zaa (pe_h G_law_wholes hr zax (zaa (pv 3) (zaa (pv 4) zae))) (zaa (zaW zaN (pe_h G_law_wholes hr zax (zaa (zby (zaa (pv 7) zae)) (zaa (pv 4) zae))) zaj (fun _ _=>rfl)) zae))) zae)))))))))))),zfm (K:=(KX K)) (XO:=XO0) (E:=E) (np:=3) (nv:=6) (m:=zeq)
   (zan (zaC ((zba (zjw (zaD ((zcU zad zhX (zeg zai))).e.r zaR)) (by decide) (zdP (zaV zaP (zaV zaP zcH))) (zfR (zbU za3 (zbU za3 zex))) (Or.inl ⟨rfl,rfl⟩) (zal (zac (zal (zac zah (zac zah zak))) zak)))).e zap)
   (zan (zcf (za2 (zam zcO zad (zbT).r))
   (zan (zaC (zal (zac zah zak)) zap)
   (zan (zaC (zam zb2 (zai).r ((zam zbF zad (zai).r)).r) zap)
   (zan (zaC ((zbc (zac (zg5 ((zgu zgE ((zbc (zac zah (zac (zcc zeQ (zaD zad zaR)) zak)))).e.r ((zba (zbM zad) (by decide) zaP za3 (Or.inl ⟨rfl,rfl⟩) (zal (zac zah zak)))).e.r)).e) zak))).e zap)
   (zcI (zbc (zac zah (zac zah (zac (zbC (zac ((zbg (zac zah (zac zah zak)))).e (zac zah zak))) zak))))))))
   za4)
   (zan (zaC (zal (zac (zal (zac zah (zac zai zak))) zak)) zap)
   (zan (zce (zew zah) zap
   (zcf (za2 (zam zlO ((zam zdR ((zam zbL zad (zai).r)).r ((zam zbL zad (zai).r)).r)).r ((zam zdR ((zam zbL zad (zai).r)).r ((zam zbL zad (zai).r)).r)).r))
   (zaC zah zap)
   za4))
   (zan (zaC (zal (zac ((zgu zgE zad ((zbc (zac zah zak))).e.r)).e zak)) zap)
   (zan (zaC ((zbc (zac (zg5 ((zgu zgE ((zbc (zac zah (zac (zal (zac zah zak)) zak)))).e.r ((zba (zbM zad) (by decide) zaP za3 (Or.inl ⟨rfl,rfl⟩) (zal (zac zah zak)))).e.r)).e) zak))).e zap)
   (zcI (zbc (zac zah (zac zah (zac (zbC (zac ((zbg (zac zah (zac zah zak)))).e (zac (zam za9 ((zbg (zac ((zbc (zac zah zak))).e (zac zah zak)))).e.r (zai).r) zak))) zak))))))))))) rfl h⟩
abbrev zcu:Stmt:=top 67
theorem sc_law_sack_made:FnScope ["_law_cells","_law_cell","_law_room","_law_worths","_law_weights","_law_unit_here","_law_lines","_law_one","_law_other","_law_things"] ["_law_cells","_law_cell"] (zas zcu):=scMk
theorem zhE {f:Addr} {fd:FuncData} (F:Fun K "_law_sack_made" "_law_sack_made" zcu f fd) (T:Txt K mg) (G_law_parts:Has P w K mg base CX0 2 "_law_parts" ["_law_cell","_law_k"] (spM (KX K) XO0 zbe)) (G_law_written:Has P w K mg base CX0 1 "_law_written" ["_law_one"] (spM (KX K) XO0 zaF)) (G_law_unit:Has P w K mg base CX0 2 "_law_unit" ["_law_amounts"] (spM (KX K) XO0 zbI)) (G_law_wholes:Has P w K mg base CX0 1 "_law_wholes" ["_law_amounts","_law_unit_here"] (spO (KX K) XO0 zaL)) (G_law_above:Has P w K mg base CX0 1 "_law_above" ["_law_one"] (spM (KX K) XO0 zcl)):FnOk P w K mg base CX0 3 f fd ["_law_cells","_law_cell"] (spO (KX K) XO0 zct):=by
 refine F.ok sc_law_sack_made (fun vs H Q E h=>zdU h) (fun cdv A outer s H vs Q E hr h=>?_)
 have hu:=zbS hr
 exact⟨_,(zag (zay (i:=2) sc_law_sack_made.nd rfl (by first|exact Or.inl rfl|exact Or.inr rfl) (pe_h G_law_parts hr zax (zaa (pv 1) (zaa zaj zae))))
   (zag (zdL (i:=3) sc_law_sack_made.nd rfl (by first|exact Or.inl rfl|exact Or.inr rfl) rfl (zhb rfl T.enumerate (zaa (zdr zd9 (pv 0) zeh (zef zaj)) zae)) (zb3 (zas zcu) ["_law_cells","_law_cell","_law_room","_law_worths","_law_weights","_law_unit_here","_law_lines","_law_one","_law_other","_law_things"] ["_law_k","_law_one"] [] 2 rfl rfl rfl (by decide +kernel) (by decide +kernel) (by decide +kernel) rfl (by decide +kernel) (fun cl C s H fp pins=>(zdT rfl (zaY (zaw (i:=0) (show List.Nodup (["_law_k","_law_one"]:List Str) by decide +kernel) rfl (Or.inl rfl)) (zaY (zaw (i:=1) (show List.Nodup (["_law_k","_law_one"]:List Str) by decide +kernel) rfl (Or.inl rfl)) zcJ)))) (fun cl C s H fp pins=>(pe_h G_law_parts hr zax (zaa (pv 1) (zaa (pv 0) zae)))) (Or.inl ⟨rfl,rfl⟩)) rfl)
   (zag (zdL (i:=4) sc_law_sack_made.nd rfl (by first|exact Or.inl rfl|exact Or.inr rfl) rfl (zhb rfl T.enumerate (zaa (zdr zd9 (pv 0) zeh (zef zaj)) zae)) (zb3 (zas zcu) ["_law_cells","_law_cell","_law_room","_law_worths","_law_weights","_law_unit_here","_law_lines","_law_one","_law_other","_law_things"] ["_law_k","_law_one"] [] 2 rfl rfl rfl (by decide +kernel) (by decide +kernel) (by decide +kernel) rfl (by decide +kernel) (fun cl C s H fp pins=>(zdT rfl (zaY (zaw (i:=0) (show List.Nodup (["_law_k","_law_one"]:List Str) by decide +kernel) rfl (Or.inl rfl)) (zaY (zaw (i:=1) (show List.Nodup (["_law_k","_law_one"]:List Str) by decide +kernel) rfl (Or.inl rfl)) zcJ)))) (fun cl C s H fp pins=>(pe_h G_law_above hr zax (zaa (pe_h G_law_parts hr zax (zaa (pv 1) (zaa (zaB zb1 (pv 0) zaj) zae))) zae))) (Or.inl ⟨rfl,rfl⟩)) rfl)
   (zag (zay (i:=5) sc_law_sack_made.nd rfl (by first|exact Or.inl rfl|exact Or.inr rfl) (pe_h G_law_unit hr zax (zaa (zaB zeZ (zaB zeZ (zby (zaa (pv 2) zae)) (pv 3)) (pv 4)) zae)))
   (zag (zay (i:=6) sc_law_sack_made.nd rfl (by first|exact Or.inl rfl|exact Or.inr rfl) (zby (zaa (zaB zcG zbs (pe_h G_law_written hr zax (zaa (pv 2) zae))) zae)))
   (zag (zca PassesOwn.never rfl (zmE rfl T.zip (zaa (pv 3) (zaa (pv 4) zae))) (zdT rfl (zaY (zaw (i:=7) sc_law_sack_made.nd rfl (by first|exact Or.inl rfl|exact Or.inr rfl)) (zaY (zaw (i:=8) sc_law_sack_made.nd rfl (by first|exact Or.inl rfl|exact Or.inr rfl)) zcJ)))
   (zao (zaQ (zdm PySem.F.plainAttrs_list PySem.F.slot_list_append PySem.F.type_list_append zbH (pv 6) (zaa (zaB zcG (zaB zcG (pe_h G_law_written hr zax (zaa (pv 7) zae)) zbs) (pe_h G_law_written hr zax (zaa (pv 8) zae))) zae)))))
   (zag (zdL (i:=9) sc_law_sack_made.nd rfl (by first|exact Or.inl rfl|exact Or.inr rfl) rfl (zmE rfl T.zip (zaa (pe_h G_law_wholes hr zax (zaa (pv 3) (zaa (pv 5) zae))) (zaa (pe_h G_law_wholes hr zax (zaa (pv 4) (zaa (pv 5) zae))) zae))) (zb3 (zas zcu) ["_law_cells","_law_cell","_law_room","_law_worths","_law_weights","_law_unit_here","_law_lines","_law_one","_law_other","_law_things"] ["_law_one","_law_other"] [] 2 rfl rfl rfl (by decide +kernel) (by decide +kernel) (by decide +kernel) rfl (by decide +kernel) (fun cl C s H fp pins=>(zdT rfl (zaY (zaw (i:=0) (show List.Nodup (["_law_one","_law_other"]:List Str) by decide +kernel) rfl (Or.inl rfl)) (zaY (zaw (i:=1) (show List.Nodup (["_law_one","_law_other"]:List Str) by decide +kernel) rfl (Or.inl rfl)) zcJ)))) (fun cl C s H fp pins=>(zbx (zaa (pv 0) (zaa (pv 1) zae)))) (Or.inl ⟨rfl,rfl⟩)) rfl)
   (zao (zaJ (zby (zaa (pv 6) (zaa (pv 5) (zaa (zbx (zaa (zaW zaN (pe_h G_law_wholes hr zax (zaa (zby (zaa (pv 2) zae)) (zaa (pv 5) zae))) zaj (fun _ _=>rfl)) (zaa (pv 9) zae))) zae))))))))))))),zfm (K:=(KX K)) (XO:=XO0) (E:=E) (np:=2) (nv:=8) (m:=zfz)
   (zan (zaC (zal (zac zah (zac zai zak))) zap)
   (zan (zaC ((zba (zjw (zaD ((zcU zad zhX (zeg zai))).e.r zaR)) (by decide) (zdP (zaV zaP (zaV zaP zcH))) (zfR (zbU za3 (zbU za3 zex))) (Or.inl ⟨rfl,rfl⟩) (zal (zac zah (zac zah zak))))).e zap)
   (zan (zaC ((zba (zjw (zaD ((zcU zad zhX (zeg zai))).e.r zaR)) (by decide) (zdP (zaV zaP (zaV zaP zcH))) (zfR (zbU za3 (zbU za3 zex))) (Or.inl ⟨rfl,rfl⟩) (zal (zac (zal (zac zah (zac (zam zb2 zad (zai).r) zak))) zak)))).e zap)
   (zan (zaC (zal (zac ((zgu zgE ((zgu zgE ((zbc (zac zah zak))).e.r zad)).e.r zad)).e zak)) zap)
   (zan (zdz (zbc (zac (zam zey (zbT).r ((zal (zac zah zak))).r) zak)))
   (zan (zce (zpx (zac zah (zac zah zak))) (zdP (zaV zap (zaV zap zcH)))
   (zcr (zam zey ((zam zey ((zal (zac zah zak))).r (zbT).r)).r ((zal (zac zah zak))).r)))
   (zan (zaC ((zba (zoF (zaD ((zbg (zac zah (zac zah zak)))).e.r (zaD ((zbg (zac zah (zac zah zak)))).e.r zaR))) (by decide) (zdP (zaV zaP (zaV zaP zcH))) (zfR (zbU za3 (zbU za3 zex))) (Or.inl ⟨rfl,rfl⟩) (zbC (zac zah (zac zah zak))))).e zap)
   (zgJ (i:=6) (zcI (zbc (zac zah (zac zah (zac (zbC (zac (zam za9 ((zbg (zac ((zbc (zac zah zak))).e (zac zah zak)))).e.r (zai).r) (zac zah zak))) zak))))))))))))) rfl h⟩
abbrev zg9:Stmt:=top 68
theorem zlF:FnScope ["_law_kind","_law_cells","_law_cell"] ["_law_kind","_law_cells","_law_cell"] (zas zg9):=scMk
theorem zlu {f:Addr} {fd:FuncData} (F:Fun K "_law_made" "_law_made" zg9 f fd) (T:Txt K mg) (G_law_cover_made:Has P w K mg base CX0 4 "_law_cover_made" ["_law_cells","_law_cell"] (spO (KX K) XO0 zcg)) (G_law_touch_made:Has P w K mg base CX0 3 "_law_touch_made" ["_law_cells","_law_cell"] (spO (KX K) XO0 zch)) (G_law_lengths_made:Has P w K mg base CX0 4 "_law_lengths_made" ["_law_cells","_law_cell","_law_word"] (spO (KX K) XO0 zbm)) (G_law_putting_made:Has P w K mg base CX0 3 "_law_putting_made" ["_law_cells","_law_cell","_law_word"] (spO (KX K) XO0 zbn)) (G_law_sack_made:Has P w K mg base CX0 3 "_law_sack_made" ["_law_cells","_law_cell"] (spO (KX K) XO0 zct)):FnOk P w K mg base CX0 5 f fd ["_law_kind","_law_cells","_law_cell"] (spO (KX K) XO0 zb5):=by
 refine F.ok zlF (fun vs H Q E h=>zdU h) (fun cdv A outer s H vs Q E hr h=>?_)
 have hu:=zbS hr
 exact⟨_,(zag (zb8 (za8 zcP (pv 0) zaj (zaS _))
   (zao (zaJ (pe_h G_law_cover_made hr zax (zaa (pv 1) (zaa (pv 2) zae)))))
   za0)
   (zag (zb8 (za8 zcP (pv 0) zaj (zaS _))
   (zao (zaJ (pe_h G_law_touch_made hr zax (zaa (pv 1) (zaa (pv 2) zae)))))
   za0)
   (zag (zb8 (za8 zcP (pv 0) zaj (zaS _))
   (zao (zaJ (pe_h G_law_lengths_made hr zax (zaa (pv 1) (zaa (pv 2) (zaa zbs zae))))))
   za0)
   (zag (zb8 (za8 zcP (pv 0) zaj (zaS _))
   (zao (zaJ (pe_h G_law_lengths_made hr zax (zaa (pv 1) (zaa (pv 2) (zaa zbs zae))))))
   za0)
   (zag (zb8 (za8 zcP (pv 0) zaj (zaS _))
   (zao (zaJ (pe_h G_law_putting_made hr zax (zaa (pv 1) (zaa (pv 2) (zaa zbs zae))))))
   za0)
   (zag (zb8 (za8 zcP (pv 0) zaj (zaS _))
   (zao (zaJ (pe_h G_law_putting_made hr zax (zaa (pv 1) (zaa (pv 2) (zaa zbs zae))))))
   za0)
   (zao (zaJ (pe_h G_law_sack_made hr zax (zaa (pv 1) (zaa (pv 2) zae))))))))))),zfm (K:=(KX K)) (XO:=XO0) (E:=E) (np:=3) (nv:=0) (m:=zcV)
   (zan (zcf (za2 (zam zcO zad (zai).r))
   (zcI (zbg (zac zah (zac zah zak))))
   za4)
   (zan (zcf (za2 (zam zcO zad (zai).r))
   (zcI (zbg (zac zah (zac zah zak))))
   za4)
   (zan (zcf (za2 (zam zcO zad (zai).r))
   (zcI (zbg (zac zah (zac zah (zac zbT zak)))))
   za4)
   (zan (zcf (za2 (zam zcO zad (zai).r))
   (zcI (zbg (zac zah (zac zah (zac zbT zak)))))
   za4)
   (zan (zcf (za2 (zam zcO zad (zai).r))
   (zcI (zbg (zac zah (zac zah (zac zbT zak)))))
   za4)
   (zan (zcf (za2 (zam zcO zad (zai).r))
   (zcI (zbg (zac zah (zac zah (zac zbT zak)))))
   za4)
   (zcI (zbg (zac zah (zac zah zak)))))))))) rfl h⟩
abbrev zeB:Stmt:=top 23
theorem zh2:FnScope ["wrong","line"] ["wrong","line"] (zas zeB):=scMk
theorem zhW {f:Addr} {fd:FuncData} (F:Fun K "refuse_where" "refuse_where" zeB f fd) (T:Txt K mg)  : FnOk P w K mg base CX0 1 f fd ["wrong","line"] (spM (KX K) XO0 zaq):=by
 refine F.ok zh2 (fun vs H Q E h=>zbd h) (fun cdv A outer s H vs Q E hr h=>?_)
 have hu:=zbS hr
 exact⟨_,(zao (zb8 (zfA (pv 0))
   (zao zeW)
   za0)),zcv (K:=(KX K)) (XO:=XO0) (E:=E) (np:=2) (nv:=0) (m:=zez)
   (zcf (st_b zah)
   ze8
   za4) rfl h⟩
abbrev zdc:Stmt:=top 31
theorem zfL:FnScope ["words","least","most","line"] ["words","least","most","line"] (zas zdc):=scMk
theorem zfM {f:Addr} {fd:FuncData} (F:Fun K "refuse_word_count" "refuse_word_count" zdc f fd) (T:Txt K mg) (G_refuse_where:Has P w K mg base CX0 1 "refuse_where" ["wrong","line"] (spM (KX K) XO0 zaq)):FnOk P w K mg base CX0 2 f fd ["words","least","most","line"] (spM (KX K) XO0 zav):=by
 refine F.ok zfL (fun vs H Q E h=>zbd h) (fun cdv A outer s H vs Q E hr h=>?_)
 have hu:=zbS hr
 exact⟨_,(zao (zaQ (pe_h G_refuse_where hr zax (zaa (zoE (zbG zlU (zaO zaM (by rfl) T.len PySem.boot_len (zaa (pv 0) zae)) (pv 1) (zaS _)) (ziE (zbG zfo (zaO zaM (by rfl) T.len PySem.boot_len (zaa (pv 0) zae)) (pv 2) (zaS _)))) (zaa (pv 3) zae))))),zcv (K:=(KX K)) (XO:=XO0) (E:=E) (np:=4) (nv:=0) (m:=zdb)
   (zbq (zal (zac (znA (zam zlO ((zcc zcK (zaD zad zaR))).r zad) (zam zfq ((zcc zcK (zaD zad zaR))).r zad)) (zac zah zak)))) rfl h⟩
abbrev zeU:Stmt:=top 24
theorem zkU:FnScope ["word"] ["word"] (zas zeU):=scMk
theorem zkq {f:Addr} {fd:FuncData} (F:Fun K "is_number" "is_number" zeU f fd) (T:Txt K mg)  : FnOk P w K mg base CX0 1 f fd ["word"] (spM (KX K) XO0 zcm):=by
 refine F.ok zkU (fun vs H Q E h=>zbd h) (fun cdv A outer s H vs Q E hr h=>?_)
 have hu:=zbS hr
 exact⟨_,(zag (zb8 ((zq5 (za8 zcP (zaO zhm (by rfl) T.len PySem.boot_len (zaa (pv 0) zae)) zaj (zaS _)) (zpQ (za8 zfo (zaO zhm (by rfl) T.len PySem.boot_len (zaa (pv 0) zae)) (zc7 (by rfl) T.g_MOST_FIGURES) (zaS _))))).pt
   (zao (zaJ zjR))
   za0)
   (zag (zb8 (zfA (zaO (zop rfl) (by rfl) T.any boot_any (zaa (zcA rfl (zrv (pv 0)) (zb3 (zas zeU) ["word"] ["sign"] [] 1 rfl rfl rfl (by decide +kernel) (by decide +kernel) (by decide +kernel) rfl (by decide +kernel) (fun cl C s H fp pins=>(zaw (i:=0) (show List.Nodup (["sign"]:List Str) by decide +kernel) rfl (Or.inl rfl))) (fun cl C s H fp pins=>(zbG znB (pv 0) (zpa (by rfl) (by exact T.g_FIGURES)) (by with_unfolding_all rfl))) (Or.inl ⟨rfl,rfl⟩))) zae)))
   (zao (zaJ zjR))
   za0)
   (zao (zaJ (zoE (zbG zn1 (zaW zrc (pv 0) zaj (fun _ _=>rfl)) zbs (zaS _)) (ziE (zbG zcP (pv 0) zbs (zaS _)))))))),zcv (K:=(KX K)) (XO:=XO0) (E:=E) (np:=1) (nv:=0) (m:=ziw)
   (zan (zcf (zrp (za2 (zam zcO ((zcc zne (zaD zad zaR))).r (zai).r)) (za2 (zam zfq ((zcc zne (zaD zad zaR))).r (zai).r)))
   (za7 zkd)
   za4)
   (zan (zcf (st_b (zcc zrQ (zaD ((zba (zq7 zah).c (by decide) zaP za3 (Or.inl ⟨rfl,rfl⟩) (zam zrP zad (zbT).r))).e.r zaR)))
   (za7 zkd)
   za4)
   (za7 (znA (zam zng ((zam zrz zad (zai).r)).r (zbT).r) (zam zcO zad (zbT).r))))) rfl h⟩
abbrev zgb:Stmt:=top 25
theorem sc_number_in:FnScope ["word","least","most","line","number"] ["word","least","most","line"] (zas zgb):=scMk
theorem zk1 {f:Addr} {fd:FuncData} (F:Fun K "number_in" "number_in" zgb f fd) (T:Txt K mg) (G_refuse_where:Has P w K mg base CX0 1 "refuse_where" ["wrong","line"] (spM (KX K) XO0 zaq)) (G_is_number:Has P w K mg base CX0 1 "is_number" ["word"] (spM (KX K) XO0 zcm)):FnOk P w K mg base CX0 2 f fd ["word","least","most","line"] (spM (KX K) XO0 zbu):=by
 refine F.ok sc_number_in (fun vs H Q E h=>zbd h) (fun cdv A outer s H vs Q E hr h=>?_)
 have hu:=zbS hr
 exact⟨_,(zag (zaQ (pe_h G_refuse_where hr zax (zaa (zn3 (pe_h G_is_number hr zax (zaa (pv 0) zae))) (zaa (pv 3) zae))))
   (zag (zay (i:=4) sc_number_in.nd rfl (by first|exact Or.inl rfl|exact Or.inr rfl) (zcD zhY (by rfl) T.int boot_int (zaa (pv 0) zae)))
   (zag (zaQ (pe_h G_refuse_where hr zax (zaa (zoE (zbG zlU (pv 4) (pv 1) (zaS _)) (ziE (zbG zfo (pv 4) (pv 2) (zaS _)))) (zaa (pv 3) zae))))
   (zao (zaJ (pv 4)))))),zcv (K:=(KX K)) (XO:=XO0) (E:=E) (np:=4) (nv:=1) (m:=zhO)
   (zan (zbq (zal (zac (znR (zal (zac zah zak))) (zac zah zak))))
   (zan (zaC (zcc zlD (zaD zad zaR)) zap)
   (zan (zbq (zal (zac (znA (zam zlO zad zad) (zam zfq zad zad)) (zac zah zak))))
   (za7 zah)))) rfl h⟩
abbrev zec:Stmt:=top 7
theorem sc_common_factor:FnScope ["one","other","great","small","rest"] ["one","other"] (zas zec):=scMk
theorem zhC {f:Addr} {fd:FuncData} (F:Fun K "common_factor" "common_factor" zec f fd) (T:Txt K mg)  : FnOk P w K mg base CX0 1 f fd ["one","other"] (spM (KX K) XO0 zbQ):=by
 refine F.ok sc_common_factor (fun vs H Q E h=>zbd h) (fun cdv A outer s H vs Q E hr h=>?_)
 have hu:=zbS hr
 exact⟨_,(zag (zay (i:=2) sc_common_factor.nd rfl (by first|exact Or.inl rfl|exact Or.inr rfl) (zaO zhJ (by rfl) T.abs boot_abs (zaa (pv 0) zae)))
   (zag (zay (i:=3) sc_common_factor.nd rfl (by first|exact Or.inl rfl|exact Or.inr rfl) (zaO zhJ (by rfl) T.abs boot_abs (zaa (pv 1) zae)))
   (zag (zml PassesOwn.never (za8 zfo (pv 3) zaj (zaS _))
   (zag (zay (i:=4) sc_common_factor.nd rfl (by first|exact Or.inl rfl|exact Or.inr rfl) (zaB zbE (pv 2) (pv 3)))
   (zag (zay (i:=2) sc_common_factor.nd rfl (by first|exact Or.inl rfl|exact Or.inr rfl) (pv 3))
   (zao (zay (i:=3) sc_common_factor.nd rfl (by first|exact Or.inl rfl|exact Or.inr rfl) (pv 4))))))
   (zao (zaJ (pv 2)))))),zcv (K:=(KX K)) (XO:=XO0) (E:=E) (np:=2) (nv:=3) (m:=zeb)
   (zan (zaC (zcc zmD (zaD zad zaR)) zap)
   (zan (zaC (zcc zmD (zaD zad zaR)) zap)
   (zan (zmp (za2 (zam zfq zad (zai).r))
   (zan (zaC (zam zbF zad zad) zap)
   (zan (zaC zah zap)
   (zaC zah zap))))
   (za7 zah)))) rfl h⟩
abbrev ze2:Stmt:=top 26
theorem sc_amount_in:FnScope ["word","line","parts","top","bottom"] ["word","line"] (zas ze2):=scMk
theorem zkt {f:Addr} {fd:FuncData} (F:Fun K "amount_in" "amount_in" ze2 f fd) (T:Txt K mg) (G_refuse_where:Has P w K mg base CX0 1 "refuse_where" ["wrong","line"] (spM (KX K) XO0 zaq)) (G_is_number:Has P w K mg base CX0 1 "is_number" ["word"] (spM (KX K) XO0 zcm)) (G_common_factor:Has P w K mg base CX0 1 "common_factor" ["one","other"] (spM (KX K) XO0 zbQ)):FnOk P w K mg base CX0 2 f fd ["word","line"] (spM (KX K) XO0 zbt):=by
 refine F.ok sc_amount_in (fun vs H Q E h=>zbd h) (fun cdv A outer s H vs Q E hr h=>?_)
 have hu:=zbS hr
 exact⟨_,(zag (zay (i:=2) sc_amount_in.nd rfl (by first|exact Or.inl rfl|exact Or.inr rfl) (zdm PySem.F.plainAttrs_str PySem.F.slot_str_split PySem.F.type_str_split zjq (pv 0) (zaa zbs zae)))
   (zag (zaQ (pe_h G_refuse_where hr zax (zaa (zbG zfo (zaO zaM (by rfl) T.len PySem.boot_len (zaa (pv 2) zae)) zaj (zaS _)) (zaa (pv 1) zae))))
   (zag (zaQ (pe_h G_refuse_where hr zax (zaa (zn3 (zaO (znG rfl) (by rfl) T.all boot_all (zaa (zcA rfl (zbv (pv 2)) (zb3 (zas ze2) ["word","line","parts","top","bottom"] ["part"] [] 1 rfl rfl rfl (by decide +kernel) (by decide +kernel) (by decide +kernel) rfl (by decide +kernel) (fun cl C s H fp pins=>(zaw (i:=0) (show List.Nodup (["part"]:List Str) by decide +kernel) rfl (Or.inl rfl))) (fun cl C s H fp pins=>(pe_h G_is_number hr zax (zaa (pv 0) zae))) (Or.inl ⟨rfl,rfl⟩))) zae))) (zaa (pv 1) zae))))
   (zag (zay (i:=3) sc_amount_in.nd rfl (by first|exact Or.inl rfl|exact Or.inr rfl) (zcD zhY (by rfl) T.int boot_int (zaa (zaW zaN (pv 2) zaj (fun _ _=>rfl)) zae)))
   (zag (zb8 (za8 zcP (zaO zaM (by rfl) T.len PySem.boot_len (zaa (pv 2) zae)) zaj (zaS _))
   (zao (zaJ (zbx (zaa (pv 3) (zaa zaj zae)))))
   za0)
   (zag (zay (i:=4) sc_amount_in.nd rfl (by first|exact Or.inl rfl|exact Or.inr rfl) (zcD zhY (by rfl) T.int boot_int (zaa (zaW zaN (pv 2) zaj (fun _ _=>rfl)) zae)))
   (zag (zaQ (pe_h G_refuse_where hr zax (zaa (zoE (zbG zlU (pv 4) zaj (zaS _)) (ziE (zbG zfo (pv 4) (zc7 (by rfl) T.g_MOST_BOTTOM) (zaS _)))) (zaa (pv 1) zae))))
   (zag (zaQ (pe_h G_refuse_where hr zax (zaa (zbG zfo (pe_h G_common_factor hr zax (zaa (pv 3) (zaa (pv 4) zae))) zaj (zaS _)) (zaa (pv 1) zae))))
   (zao (zaJ (zbx (zaa (pv 3) (zaa (pv 4) zae))))))))))))),zcv (K:=(KX K)) (XO:=XO0) (E:=E) (np:=2) (nv:=3) (m:=zhQ)
   (zan (zaC ((zh8 zah)).e zap)
   (zan (zbq (zal (zac (zam zfq ((zcc zcK (zaD zad zaR))).r (zai).r) (zac zah zak))))
   (zan (zbq (zal (zac (znR (zcc zrY (zaD ((zba (zbM zad) (by decide) zaP za3 (Or.inl ⟨rfl,rfl⟩) (zal (zac zah zak)))).e.r zaR))) (zac zah zak))))
   (zan (zaC (zcc zlD (zaD ((zam za9 zad (zai).r)).r zaR)) zap)
   (zan (zcf (za2 (zam zcO ((zcc zcK (zaD zad zaR))).r (zai).r))
   (za7 (zbC (zac zah (zac zai zak))))
   za4)
   (zan (zaC (zcc zlD (zaD ((zam za9 zad (zai).r)).r zaR)) zap)
   (zan (zbq (zal (zac (znA (zam zlO zad (zai).r) (zam zfq zad (zai).r)) (zac zah zak))))
   (zan (zbq (zal (zac (zam zfq ((zal (zac zah (zac zah zak)))).r (zai).r) (zac zah zak))))
   (za7 (zbC (zac zah (zac zah zak)))))))))))) rfl h⟩
abbrev zjL:Stmt:=top 32
theorem sc_set_in:FnScope ["words","many","line","price","things","word","thing"] ["words","many","line"] (zas zjL):=scMk
theorem zoi {f:Addr} {fd:FuncData} (F:Fun K "set_in" "set_in" zjL f fd) (T:Txt K mg) (G_refuse_where:Has P w K mg base CX0 1 "refuse_where" ["wrong","line"] (spM (KX K) XO0 zaq)) (G_number_in:Has P w K mg base CX0 2 "number_in" ["word","least","most","line"] (spM (KX K) XO0 zbu)) (G_amount_in:Has P w K mg base CX0 2 "amount_in" ["word","line"] (spM (KX K) XO0 zbt)):FnOk P w K mg base CX0 3 f fd ["words","many","line"] (spM (KX K) XO0 ze1):=by
 refine F.ok sc_set_in (fun vs H Q E h=>zbd h) (fun cdv A outer s H vs Q E hr h=>?_)
 have hu:=zbS hr
 exact⟨_,(zag (zay (i:=3) sc_set_in.nd rfl (by first|exact Or.inl rfl|exact Or.inr rfl) (pe_h G_amount_in hr zax (zaa (zaW zaN (pv 0) zaj (fun _ _=>rfl)) (zaa (pv 2) zae))))
   (zag (zay (i:=4) sc_set_in.nd rfl (by first|exact Or.inl rfl|exact Or.inr rfl) (zby zae))
   (zag (zca PassesOwn.never rfl (zbv (zdr zd9 (pv 0) (zef zaj) zeh)) (zaw (i:=5) sc_set_in.nd rfl (by first|exact Or.inl rfl|exact Or.inr rfl))
   (zag (zay (i:=6) sc_set_in.nd rfl (by first|exact Or.inl rfl|exact Or.inr rfl) (pe_h G_number_in hr zax (zaa (pv 5) (zaa zaj (zaa (zaB ziD (pv 1) zaj) (zaa (pv 2) zae))))))
   (zag (zaQ (pe_h G_refuse_where hr zax (zaa (zbG zkz (pv 6) (pv 4) (by with_unfolding_all rfl)) (zaa (pv 2) zae))))
   (zao (zaQ (zdm PySem.F.plainAttrs_list PySem.F.slot_list_append PySem.F.type_list_append zbH (pv 4) (zaa (pv 6) zae)))))))
   (zao (zaJ (zbx (zaa (pv 3) (zaa (pv 4) zae)))))))),zcv (K:=(KX K)) (XO:=XO0) (E:=E) (np:=3) (nv:=4) (m:=zmG)
   (zan (zaC (zal (zac (zam za9 zad (zai).r) (zac zah zak))) zap)
   (zan (zdz (zbc zak))
   (zan (zce (zew ((zcU zad (zeg zai) zhX)).e) zap
   (zan (zaC (zal (zac zah (zac zai (zac (zam ziC zad (zai).r) (zac zah zak))))) zap)
   (zan (zbq (zal (zac (zam zr1 zad zad) (zac zah zak))))
   (zcr zah))))
   (zgJ (i:=4) (za7 (zbC (zac zah (zac zah zak)))))))) rfl h⟩
abbrev zdA:Stmt:=top 8
theorem zgq:FnScope ["one","other"] ["one","other"] (zas zdA):=scMk
theorem zgw {f:Addr} {fd:FuncData} (F:Fun K "common_multiple" "common_multiple" zdA f fd) (T:Txt K mg) (G_common_factor:Has P w K mg base CX0 1 "common_factor" ["one","other"] (spM (KX K) XO0 zbQ)):FnOk P w K mg base CX0 2 f fd ["one","other"] (spM (KX K) XO0 zb4):=by
 refine F.ok zgq (fun vs H Q E h=>zbd h) (fun cdv A outer s H vs Q E hr h=>?_)
 have hu:=zbS hr
 exact⟨_,(zao (zaJ (zaB zcN (pv 0) (zaB zbO (pv 1) (pe_h G_common_factor hr zax (zaa (pv 0) (zaa (pv 1) zae))))))),zcv (K:=(KX K)) (XO:=XO0) (E:=E) (np:=2) (nv:=0) (m:=zdK)
   (za7 (zam zdR zad ((zam zc4 zad ((zal (zac zah (zac zah zak)))).r)).r)) rfl h⟩
abbrev zia:Stmt:=top 28
theorem sc_unit_of:FnScope ["amounts","unit","amount"] ["amounts"] (zas zia):=scMk
theorem zmM {f:Addr} {fd:FuncData} (F:Fun K "unit_of" "unit_of" zia f fd) (T:Txt K mg) (G_common_multiple:Has P w K mg base CX0 2 "common_multiple" ["one","other"] (spM (KX K) XO0 zb4)):FnOk P w K mg base CX0 3 f fd ["amounts"] (spM (KX K) XO0 zb7):=by
 refine F.ok sc_unit_of (fun vs H Q E h=>zbd h) (fun cdv A outer s H vs Q E hr h=>?_)
 have hu:=zbS hr
 exact⟨_,(zag (zay (i:=1) sc_unit_of.nd rfl (by first|exact Or.inl rfl|exact Or.inr rfl) zaj)
   (zag (zca PassesOwn.never rfl (zbv (pv 0)) (zaw (i:=2) sc_unit_of.nd rfl (by first|exact Or.inl rfl|exact Or.inr rfl))
   (zao (zay (i:=1) sc_unit_of.nd rfl (by first|exact Or.inl rfl|exact Or.inr rfl) (pe_h G_common_multiple hr zax (zaa (pv 1) (zaa (zaW zbD (pv 2) zaj (fun _ _=>rfl)) zae))))))
   (zao (zaJ (pv 1))))),zcv (K:=(KX K)) (XO:=XO0) (E:=E) (np:=1) (nv:=2) (m:=zkW)
   (zan (zaC zai zap)
   (zan (zce (zew zah) zap
   (zaC (zal (zac zah (zac (zam zbL zad (zai).r) zak))) zap))
   (za7 zah))) rfl h⟩
abbrev zfd:Stmt:=top 29
theorem ziH:FnScope ["amount","unit"] ["amount","unit"] (zas zfd):=scMk
theorem ziW {f:Addr} {fd:FuncData} (F:Fun K "by_the_unit" "by_the_unit" zfd f fd) (T:Txt K mg)  : FnOk P w K mg base CX0 1 f fd ["amount","unit"] (spM (KX K) XO0 zbr):=by
 refine F.ok ziH (fun vs H Q E h=>zbd h) (fun cdv A outer s H vs Q E hr h=>?_)
 have hu:=zbS hr
 exact⟨_,(zao (zaJ (zaB zcN (zaW zbD (pv 0) zaj (fun _ _=>rfl)) (zaB zbO (pv 1) (zaW zbD (pv 0) zaj (fun _ _=>rfl)))))),zcv (K:=(KX K)) (XO:=XO0) (E:=E) (np:=2) (nv:=0) (m:=ze7)
   (za7 (zam zdR ((zam zbL zad (zai).r)).r ((zam zc4 zad ((zam zbL zad (zai).r)).r)).r)) rfl h⟩
abbrev zdQ:Stmt:=top 33
theorem sc_read_cover:FnScope ["rows","many","sets","line","unit"] ["rows"] (zas zdQ):=scMk
theorem zj1 {f:Addr} {fd:FuncData} (F:Fun K "read_cover" "read_cover" zdQ f fd) (T:Txt K mg) (G_refuse_where:Has P w K mg base CX0 1 "refuse_where" ["wrong","line"] (spM (KX K) XO0 zaq)) (G_refuse_word_count:Has P w K mg base CX0 2 "refuse_word_count" ["words","least","most","line"] (spM (KX K) XO0 zav)) (G_number_in:Has P w K mg base CX0 2 "number_in" ["word","least","most","line"] (spM (KX K) XO0 zbu)) (G_set_in:Has P w K mg base CX0 3 "set_in" ["words","many","line"] (spM (KX K) XO0 ze1)) (G_unit_of:Has P w K mg base CX0 3 "unit_of" ["amounts"] (spM (KX K) XO0 zb7)) (G_by_the_unit:Has P w K mg base CX0 1 "by_the_unit" ["amount","unit"] (spM (KX K) XO0 zbr)):FnOk P w K mg base CX0 4 f fd ["rows"] (spM (KX K) XO0 zdi):=by
 refine F.ok sc_read_cover (fun vs H Q E h=>zbd h) (fun cdv A outer s H vs Q E hr h=>?_)
 have hu:=zbS hr
 exact⟨_,(zag (zaQ (pe_h G_refuse_word_count hr zax (zaa (zaW zaN (pv 0) zaj (fun _ _=>rfl)) (zaa zaj (zaa zaj (zaa zaj zae))))))
   (zag (zay (i:=1) sc_read_cover.nd rfl (by first|exact Or.inl rfl|exact Or.inr rfl) (pe_h G_number_in hr zax (zaa (zaW zaN (zaW zaN (pv 0) zaj (fun _ _=>rfl)) zaj (fun _ _=>rfl)) (zaa zaj (zaa (zc7 (by rfl) T.g_MOST_THINGS) (zaa zaj zae))))))
   (zag (zay (i:=2) sc_read_cover.nd rfl (by first|exact Or.inl rfl|exact Or.inr rfl) (zby zae))
   (zag (zca PassesOwn.never rfl (zgs rfl T.range (zaa zaj (zaa (zaO zaM (by rfl) T.len PySem.boot_len (zaa (pv 0) zae)) zae))) (zaw (i:=3) sc_read_cover.nd rfl (by first|exact Or.inl rfl|exact Or.inr rfl))
   (zag (zaQ (pe_h G_refuse_where hr zax (zaa (zbG zfo (pv 3) (zc7 (by rfl) T.g_MOST_THINGS) (zaS _)) (zaa (pv 3) zae))))
   (zao (zaQ (zdm PySem.F.plainAttrs_list PySem.F.slot_list_append PySem.F.type_list_append zbH (pv 2) (zaa (pe_h G_set_in hr zax (zaa (zaW zaN (pv 0) (pv 3) (fun _ _=>rfl)) (zaa (pv 1) (zaa (pv 3) zae)))) zae))))))
   (zag (zay (i:=4) sc_read_cover.nd rfl (by first|exact Or.inl rfl|exact Or.inr rfl) (pe_h G_unit_of hr zax (zaa (zcA rfl (zbv (pv 2)) (zb3 (zas zdQ) ["rows","many","sets","line","unit"] ["price","things"] [] 2 rfl rfl rfl (by decide +kernel) (by decide +kernel) (by decide +kernel) rfl (by decide +kernel) (fun cl C s H fp pins=>(zdT rfl (zaY (zaw (i:=0) (show List.Nodup (["price","things"]:List Str) by decide +kernel) rfl (Or.inl rfl)) (zaY (zaw (i:=1) (show List.Nodup (["price","things"]:List Str) by decide +kernel) rfl (Or.inl rfl)) zcJ)))) (fun cl C s H fp pins=>(pv 0)) (Or.inl ⟨rfl,rfl⟩))) zae)))
   (zao (zaJ (zbx (zaa (pv 4) (zaa (zbx (zaa (pv 1) (zaa (zcA rfl (zbv (pv 2)) (zb3 (zas zdQ) ["rows","many","sets","line","unit"] ["unit","price","things"] [4] 2 rfl rfl rfl (by decide +kernel) (by decide +kernel) (by decide +kernel) rfl (by decide +kernel) (fun cl C s H fp pins=>(zdT rfl (zaY (zaw (i:=1) (show List.Nodup (["unit","price","things"]:List Str) by decide +kernel) rfl (Or.inl rfl)) (zaY (zaw (i:=2) (show List.Nodup (["unit","price","things"]:List Str) by decide +kernel) rfl (Or.inl rfl)) zcJ)))) (fun cl C s H fp pins=>(zbx (zaa (pe_h G_by_the_unit hr zax (zaa (pv 1) (zaa (pv 0) zae))) (zaa (pv 2) zae)))) (Or.inl ⟨rfl,rfl⟩))) zae))) zae)))))))))),zcv (K:=(KX K)) (XO:=XO0) (E:=E) (np:=1) (nv:=4) (m:=zht)
   (zan (zbq (zal (zac (zam za9 zad (zai).r) (zac zai (zac zai (zac zai zak))))))
   (zan (zaC (zal (zac (zam za9 ((zam za9 zad (zai).r)).r (zai).r) (zac zai (zac zai (zac zai zak))))) zap)
   (zan (zdz (zbc zak))
   (zan (zce (zgo len2 (zac zai (zac (zcc zcK (zaD zad zaR)) zak))) zap
   (zan (zbq (zal (zac (zam zfq zad (zai).r) (zac zah zak))))
   (zcr (zal (zac (zam za9 zad zad) (zac zah (zac zah zak)))))))
   (zan (zaC (zal (zac ((zba (zbM zad) (by decide) (zdP (zaV zaP (zaV zaP zcH))) (zfR (zbU za3 (zbU za3 zex))) (Or.inl ⟨rfl,rfl⟩) zah)).e zak)) zap)
   (za7 (zbC (zac zah (zac (zbC (zac zah (zac ((zba (zbM zad) (by decide) (zdP (zaV zaP (zaV zaP zcH))) (zfR (zbU za3 (zbU za3 zex))) (Or.inl ⟨rfl,rfl⟩) (zbC (zac (zal (zac zah (zac zah zak))) (zac zah zak))))).e zak))) zak))))))))) rfl h⟩
abbrev zio:Stmt:=top 34
theorem sc_line_in:FnScope ["words","points","line","one","other"] ["words","points","line"] (zas zio):=scMk
theorem zmO {f:Addr} {fd:FuncData} (F:Fun K "line_in" "line_in" zio f fd) (T:Txt K mg) (G_refuse_where:Has P w K mg base CX0 1 "refuse_where" ["wrong","line"] (spM (KX K) XO0 zaq)) (G_refuse_word_count:Has P w K mg base CX0 2 "refuse_word_count" ["words","least","most","line"] (spM (KX K) XO0 zav)) (G_number_in:Has P w K mg base CX0 2 "number_in" ["word","least","most","line"] (spM (KX K) XO0 zbu)):FnOk P w K mg base CX0 3 f fd ["words","points","line"] (spM (KX K) XO0 zeF):=by
 refine F.ok sc_line_in (fun vs H Q E h=>zbd h) (fun cdv A outer s H vs Q E hr h=>?_)
 have hu:=zbS hr
 exact⟨_,(zag (zaQ (pe_h G_refuse_word_count hr zax (zaa (pv 0) (zaa zaj (zaa zaj (zaa (pv 2) zae))))))
   (zag (zay (i:=3) sc_line_in.nd rfl (by first|exact Or.inl rfl|exact Or.inr rfl) (pe_h G_number_in hr zax (zaa (zaW zaN (pv 0) zaj (fun _ _=>rfl)) (zaa zaj (zaa (zaB ziD (pv 1) zaj) (zaa (pv 2) zae))))))
   (zag (zay (i:=4) sc_line_in.nd rfl (by first|exact Or.inl rfl|exact Or.inr rfl) (pe_h G_number_in hr zax (zaa (zaW zaN (pv 0) zaj (fun _ _=>rfl)) (zaa zaj (zaa (zaB ziD (pv 1) zaj) (zaa (pv 2) zae))))))
   (zag (zaQ (pe_h G_refuse_where hr zax (zaa (zbG zcP (pv 3) (pv 4) (zaS _)) (zaa (pv 2) zae))))
   (zao (zaJ (zbx (zaa (pv 3) (zaa (pv 4) zae))))))))),zcv (K:=(KX K)) (XO:=XO0) (E:=E) (np:=3) (nv:=2) (m:=zkE)
   (zan (zbq (zal (zac zah (zac zai (zac zai (zac zah zak))))))
   (zan (zaC (zal (zac (zam za9 zad (zai).r) (zac zai (zac (zam ziC zad (zai).r) (zac zah zak))))) zap)
   (zan (zaC (zal (zac (zam za9 zad (zai).r) (zac zai (zac (zam ziC zad (zai).r) (zac zah zak))))) zap)
   (zan (zbq (zal (zac (zam zcO zad zad) (zac zah zak))))
   (za7 (zbC (zac zah (zac zah zak)))))))) rfl h⟩
abbrev zcY:Stmt:=top 30
theorem zgH:FnScope ["amounts","unit"] ["amounts","unit"] (zas zcY):=scMk
theorem zgB {f:Addr} {fd:FuncData} (F:Fun K "all_by_the_unit" "all_by_the_unit" zcY f fd) (T:Txt K mg) (G_by_the_unit:Has P w K mg base CX0 1 "by_the_unit" ["amount","unit"] (spM (KX K) XO0 zbr)):FnOk P w K mg base CX0 2 f fd ["amounts","unit"] (spO (KX K) XO0 za6):=by
 refine F.ok zgH (fun vs H Q E h=>zdU h) (fun cdv A outer s H vs Q E hr h=>?_)
 have hu:=zbS hr
 exact⟨_,(zao (zaJ (zcA rfl (zbv (pv 0)) (zb3 (zas zcY) ["amounts","unit"] ["unit","amount"] [1] 1 rfl rfl rfl (by decide +kernel) (by decide +kernel) (by decide +kernel) rfl (by decide +kernel) (fun cl C s H fp pins=>(zaw (i:=1) (show List.Nodup (["unit","amount"]:List Str) by decide +kernel) rfl (Or.inl rfl))) (fun cl C s H fp pins=>(pe_h G_by_the_unit hr zax (zaa (pv 1) (zaa (pv 0) zae)))) (Or.inl ⟨rfl,rfl⟩))))),zfm (K:=(KX K)) (XO:=XO0) (E:=E) (np:=2) (nv:=0) (m:=zeI)
   (zcI (zba (zbM zad) (by decide) zaP za3 (Or.inl ⟨rfl,rfl⟩) (zal (zac zah (zac zah zak))))) rfl h⟩
abbrev zes:Stmt:=top 35
theorem sc_read_touch:FnScope ["rows","prices","lines","line","unit"] ["rows"] (zas zes):=scMk
theorem zjK {f:Addr} {fd:FuncData} (F:Fun K "read_touch" "read_touch" zes f fd) (T:Txt K mg) (G_refuse_where:Has P w K mg base CX0 1 "refuse_where" ["wrong","line"] (spM (KX K) XO0 zaq)) (G_refuse_word_count:Has P w K mg base CX0 2 "refuse_word_count" ["words","least","most","line"] (spM (KX K) XO0 zav)) (G_amount_in:Has P w K mg base CX0 2 "amount_in" ["word","line"] (spM (KX K) XO0 zbt)) (G_unit_of:Has P w K mg base CX0 3 "unit_of" ["amounts"] (spM (KX K) XO0 zb7)) (G_line_in:Has P w K mg base CX0 3 "line_in" ["words","points","line"] (spM (KX K) XO0 zeF)) (G_all_by_the_unit:Has P w K mg base CX0 2 "all_by_the_unit" ["amounts","unit"] (spO (KX K) XO0 za6)):FnOk P w K mg base CX0 4 f fd ["rows"] (spM (KX K) XO0 zdj):=by
 refine F.ok sc_read_touch (fun vs H Q E h=>zbd h) (fun cdv A outer s H vs Q E hr h=>?_)
 have hu:=zbS hr
 exact⟨_,(zag (zaQ (pe_h G_refuse_word_count hr zax (zaa (zaW zaN (pv 0) zaj (fun _ _=>rfl)) (zaa zaj (zaa (zaB zb1 zaj (zc7 (by rfl) T.g_MOST_THINGS)) (zaa zaj zae))))))
   (zag (zdL (i:=1) sc_read_touch.nd rfl (by first|exact Or.inl rfl|exact Or.inr rfl) rfl (zbv (zdr zd9 (zaW zaN (pv 0) zaj (fun _ _=>rfl)) (zef zaj) zeh)) (zb3 (zas zes) ["rows","prices","lines","line","unit"] ["word"] [] 1 rfl rfl rfl (by decide +kernel) (by decide +kernel) (by decide +kernel) rfl (by decide +kernel) (fun cl C s H fp pins=>(zaw (i:=0) (show List.Nodup (["word"]:List Str) by decide +kernel) rfl (Or.inl rfl))) (fun cl C s H fp pins=>(pe_h G_amount_in hr zax (zaa (pv 0) (zaa zaj zae)))) (Or.inl ⟨rfl,rfl⟩)) rfl)
   (zag (zay (i:=2) sc_read_touch.nd rfl (by first|exact Or.inl rfl|exact Or.inr rfl) (zby zae))
   (zag (zca PassesOwn.never rfl (zgs rfl T.range (zaa zaj (zaa (zaO zaM (by rfl) T.len PySem.boot_len (zaa (pv 0) zae)) zae))) (zaw (i:=3) sc_read_touch.nd rfl (by first|exact Or.inl rfl|exact Or.inr rfl))
   (zag (zaQ (pe_h G_refuse_where hr zax (zaa (zbG zfo (pv 3) (zc7 (by rfl) T.g_MOST_LINES) (zaS _)) (zaa (pv 3) zae))))
   (zao (zaQ (zdm PySem.F.plainAttrs_list PySem.F.slot_list_append PySem.F.type_list_append zbH (pv 2) (zaa (pe_h G_line_in hr zax (zaa (zaW zaN (pv 0) (pv 3) (fun _ _=>rfl)) (zaa (zaO zaM (by rfl) T.len PySem.boot_len (zaa (pv 1) zae)) (zaa (pv 3) zae)))) zae))))))
   (zag (zay (i:=4) sc_read_touch.nd rfl (by first|exact Or.inl rfl|exact Or.inr rfl) (pe_h G_unit_of hr zax (zaa (pv 1) zae)))
   (zao (zaJ (zbx (zaa (pv 4) (zaa (zbx (zaa (pe_h G_all_by_the_unit hr zax (zaa (pv 1) (zaa (pv 4) zae))) (zaa (pv 2) zae))) zae)))))))))),zcv (K:=(KX K)) (XO:=XO0) (E:=E) (np:=1) (nv:=4) (m:=zhr)
   (zan (zbq (zal (zac (zam za9 zad (zai).r) (zac zai (zac (zam zb2 (zai).r (zai).r) (zac zai zak))))))
   (zan (zaC ((zba (zbM ((zcU ((zam za9 zad (zai).r)).r (zeg zai) zhX)).e.r) (by decide) zaP za3 (Or.inl ⟨rfl,rfl⟩) (zal (zac zah (zac zai zak))))).e zap)
   (zan (zdz (zbc zak))
   (zan (zce (zgo len2 (zac zai (zac (zcc zcK (zaD zad zaR)) zak))) zap
   (zan (zbq (zal (zac (zam zfq zad (zai).r) (zac zah zak))))
   (zcr (zal (zac (zam za9 zad zad) (zac (zcc zcK (zaD zad zaR)) (zac zah zak)))))))
   (zan (zaC (zal (zac zah zak)) zap)
   (zgJ (i:=2) (za7 (zbC (zac zah (zac (zbC (zac ((zbg (zac zah (zac zah zak)))).e (zac zah zak))) zak)))))))))) rfl h⟩
abbrev zfI:Stmt:=top 36
theorem sc_table_in:FnScope ["rows","count","table","line"] ["rows"] (zas zfI):=scMk
theorem zlQ {f:Addr} {fd:FuncData} (F:Fun K "table_in" "table_in" zfI f fd) (T:Txt K mg) (G_refuse_where:Has P w K mg base CX0 1 "refuse_where" ["wrong","line"] (spM (KX K) XO0 zaq)) (G_amount_in:Has P w K mg base CX0 2 "amount_in" ["word","line"] (spM (KX K) XO0 zbt)):FnOk P w K mg base CX0 3 f fd ["rows"] (spO (KX K) XO0 zeJ):=by
 refine F.ok sc_table_in (fun vs H Q E h=>zdU h) (fun cdv A outer s H vs Q E hr h=>?_)
 have hu:=zbS hr
 exact⟨_,(zag (zaQ (pe_h G_refuse_where hr zax (zaa (zbG zcP (zaO zaM (by rfl) T.len PySem.boot_len (zaa (pv 0) zae)) zaj (zaS _)) (zaa zaj zae))))
   (zag (zay (i:=1) sc_table_in.nd rfl (by first|exact Or.inl rfl|exact Or.inr rfl) (zaO zaM (by rfl) T.len PySem.boot_len (zaa (zaW zaN (pv 0) zaj (fun _ _=>rfl)) zae)))
   (zag (zaQ (pe_h G_refuse_where hr zax (zaa (zbG zfo (pv 1) (zc7 (by rfl) T.g_MOST_PLACES) (zaS _)) (zaa zaj zae))))
   (zag (zay (i:=2) sc_table_in.nd rfl (by first|exact Or.inl rfl|exact Or.inr rfl) (zby zae))
   (zag (zca PassesOwn.never rfl (zgs rfl T.range (zaa zaj (zaa (zaO zaM (by rfl) T.len PySem.boot_len (zaa (pv 0) zae)) zae))) (zaw (i:=3) sc_table_in.nd rfl (by first|exact Or.inl rfl|exact Or.inr rfl))
   (zag (zaQ (pe_h G_refuse_where hr zax (zaa (zoE (zbG zfo (pv 3) (pv 1) (zaS _)) (ziE (zbG zn1 (zaO zaM (by rfl) T.len PySem.boot_len (zaa (zaW zaN (pv 0) (pv 3) (fun _ _=>rfl)) zae)) (pv 1) (zaS _)))) (zaa (pv 3) zae))))
   (zao (zaQ (zdm PySem.F.plainAttrs_list PySem.F.slot_list_append PySem.F.type_list_append zbH (pv 2) (zaa (zcA rfl (zbv (zaW zaN (pv 0) (pv 3) (fun _ _=>rfl))) (zb3 (zas zfI) ["rows","count","table","line"] ["line","word"] [3] 1 rfl rfl rfl (by decide +kernel) (by decide +kernel) (by decide +kernel) rfl (by decide +kernel) (fun cl C s H fp pins=>(zaw (i:=1) (show List.Nodup (["line","word"]:List Str) by decide +kernel) rfl (Or.inl rfl))) (fun cl C s H fp pins=>(pe_h G_amount_in hr zax (zaa (pv 1) (zaa (pv 0) zae)))) (Or.inl ⟨rfl,rfl⟩))) zae))))))
   (zag (zaQ (pe_h G_refuse_where hr zax (zaa (zbG zlU (zaO zaM (by rfl) T.len PySem.boot_len (zaa (pv 2) zae)) (pv 1) (zaS _)) (zaa (zaO zaM (by rfl) T.len PySem.boot_len (zaa (pv 0) zae)) zae))))
   (zao (zaJ (pv 2))))))))),zfm (K:=(KX K)) (XO:=XO0) (E:=E) (np:=1) (nv:=3) (m:=zi7)
   (zan (zbq (zal (zac (zam zcO ((zcc zcK (zaD zad zaR))).r (zai).r) (zac zai zak))))
   (zan (zaC (zcc zcK (zaD ((zam za9 zad (zai).r)).r zaR)) zap)
   (zan (zbq (zal (zac (zam zfq zad (zai).r) (zac zai zak))))
   (zan (zdz (zbc zak))
   (zan (zce (zgo len2 (zac zai (zac (zcc zcK (zaD zad zaR)) zak))) zap
   (zan (zbq (zal (zac (znA (zam zfq zad zad) (zam zng ((zcc zcK (zaD ((zam za9 zad zad)).r zaR))).r zad)) (zac zah zak))))
   (zcr ((zba (zbM ((zam za9 zad zad)).r) (by decide) zaP za3 (Or.inl ⟨rfl,rfl⟩) (zal (zac zah (zac zah zak))))).e)))
   (zan (zbq (zal (zac (zam zlO ((zcc zcK (zaD zad zaR))).r zad) (zac (zcc zcK (zaD zad zaR)) zak))))
   zok)))))) rfl h⟩
abbrev zdN:Stmt:=top 37
theorem sc_read_lengths:FnScope ["rows","table","amounts","row","unit"] ["rows"] (zas zdN):=scMk
theorem zhV {f:Addr} {fd:FuncData} (F:Fun K "read_lengths" "read_lengths" zdN f fd) (T:Txt K mg) (G_unit_of:Has P w K mg base CX0 3 "unit_of" ["amounts"] (spM (KX K) XO0 zb7)) (G_all_by_the_unit:Has P w K mg base CX0 2 "all_by_the_unit" ["amounts","unit"] (spO (KX K) XO0 za6)) (G_table_in:Has P w K mg base CX0 3 "table_in" ["rows"] (spO (KX K) XO0 zeJ)):FnOk P w K mg base CX0 4 f fd ["rows"] (spM (KX K) XO0 zco):=by
 refine F.ok sc_read_lengths (fun vs H Q E h=>zbd h) (fun cdv A outer s H vs Q E hr h=>?_)
 have hu:=zbS hr
 exact⟨_,(zag (zay (i:=1) sc_read_lengths.nd rfl (by first|exact Or.inl rfl|exact Or.inr rfl) (pe_h G_table_in hr zax (zaa (pv 0) zae)))
   (zag (zay (i:=2) sc_read_lengths.nd rfl (by first|exact Or.inl rfl|exact Or.inr rfl) (zby zae))
   (zag (zca PassesOwn.never rfl (zbv (pv 1)) (zaw (i:=3) sc_read_lengths.nd rfl (by first|exact Or.inl rfl|exact Or.inr rfl))
   (zao (zaQ (zdm PySem.F.plainAttrs_list PySem.F.slot_list_extend PySem.F.type_list_extend znP (pv 2) (zaa (pv 3) zae)))))
   (zag (zay (i:=4) sc_read_lengths.nd rfl (by first|exact Or.inl rfl|exact Or.inr rfl) (pe_h G_unit_of hr zax (zaa (pv 2) zae)))
   (zao (zaJ (zbx (zaa (pv 4) (zaa (zcA rfl (zbv (pv 1)) (zb3 (zas zdN) ["rows","table","amounts","row","unit"] ["unit","row"] [4] 1 rfl rfl rfl (by decide +kernel) (by decide +kernel) (by decide +kernel) rfl (by decide +kernel) (fun cl C s H fp pins=>(zaw (i:=1) (show List.Nodup (["unit","row"]:List Str) by decide +kernel) rfl (Or.inl rfl))) (fun cl C s H fp pins=>(pe_h G_all_by_the_unit hr zax (zaa (pv 1) (zaa (pv 0) zae)))) (Or.inl ⟨rfl,rfl⟩))) zae))))))))),zcv (K:=(KX K)) (XO:=XO0) (E:=E) (np:=1) (nv:=4) (m:=zfX)
   (zan (zaC ((zbg (zac zah zak))).e zap)
   (zan (zdz (zbc zak))
   (zan (zce (zew zah) zap
   (znx zah))
   (zan (zaC (zjz (zlA zlw)) zap)
   (za7 (zbC (zac zah (zac ((zba (zbM zad) (by decide) zaP za3 (Or.inl ⟨rfl,rfl⟩) ((zbg (zac zah (zac zah zak)))).e)).e zak)))))))) rfl h⟩
abbrev zft:Stmt:=top 38
theorem sc_read_round:FnScope ["rows","told"] ["rows"] (zas zft):=scMk
theorem zjr {f:Addr} {fd:FuncData} (F:Fun K "read_round" "read_round" zft f fd) (T:Txt K mg) (G_refuse_word_count:Has P w K mg base CX0 2 "refuse_word_count" ["words","least","most","line"] (spM (KX K) XO0 zav)) (G_read_lengths:Has P w K mg base CX0 4 "read_lengths" ["rows"] (spM (KX K) XO0 zco)):FnOk P w K mg base CX0 5 f fd ["rows"] (spM (KX K) XO0 zdg):=by
 refine F.ok sc_read_round (fun vs H Q E h=>zbd h) (fun cdv A outer s H vs Q E hr h=>?_)
 have hu:=zbS hr
 exact⟨_,(zag (zaQ (pe_h G_refuse_word_count hr zax (zaa (zaW zaN (pv 0) zaj (fun _ _=>rfl)) (zaa zaj (zaa zaj (zaa zaj zae))))))
   (zag (zay (i:=1) sc_read_round.nd rfl (by first|exact Or.inl rfl|exact Or.inr rfl) (pe_h G_read_lengths hr zax (zaa (pv 0) zae)))
   (zao (zaJ (zbx (zaa (zaW zbD (pv 1) zaj (fun _ _=>rfl)) (zaa (zbx (zaa (zaW zbD (pv 1) zaj (fun _ _=>rfl)) zae)) zae))))))),zcv (K:=(KX K)) (XO:=XO0) (E:=E) (np:=1) (nv:=1) (m:=zhw)
   (zan (zbq (zal (zac (zam za9 zad (zai).r) (zac zai (zac zai (zac zai zak))))))
   (zan (zaC (zal (zac zah zak)) zap)
   (za7 (zbC (zac (zam zbL zad (zai).r) (zac (zbC (zac (zam zbL zad (zai).r) zak)) zak)))))) rfl h⟩
abbrev zfa:Stmt:=top 39
theorem sc_read_places:FnScope ["rows","many","told"] ["rows"] (zas zfa):=scMk
theorem ziU {f:Addr} {fd:FuncData} (F:Fun K "read_places" "read_places" zfa f fd) (T:Txt K mg) (G_refuse_where:Has P w K mg base CX0 1 "refuse_where" ["wrong","line"] (spM (KX K) XO0 zaq)) (G_refuse_word_count:Has P w K mg base CX0 2 "refuse_word_count" ["words","least","most","line"] (spM (KX K) XO0 zav)) (G_number_in:Has P w K mg base CX0 2 "number_in" ["word","least","most","line"] (spM (KX K) XO0 zbu)) (G_read_lengths:Has P w K mg base CX0 4 "read_lengths" ["rows"] (spM (KX K) XO0 zco)):FnOk P w K mg base CX0 5 f fd ["rows"] (spM (KX K) XO0 zcX):=by
 refine F.ok sc_read_places (fun vs H Q E h=>zbd h) (fun cdv A outer s H vs Q E hr h=>?_)
 have hu:=zbS hr
 exact⟨_,(zag (zaQ (pe_h G_refuse_word_count hr zax (zaa (zaW zaN (pv 0) zaj (fun _ _=>rfl)) (zaa zaj (zaa zaj (zaa zaj zae))))))
   (zag (zay (i:=1) sc_read_places.nd rfl (by first|exact Or.inl rfl|exact Or.inr rfl) (pe_h G_number_in hr zax (zaa (zaW zaN (zaW zaN (pv 0) zaj (fun _ _=>rfl)) zaj (fun _ _=>rfl)) (zaa zaj (zaa (zc7 (by rfl) T.g_MOST_PLACES) (zaa zaj zae))))))
   (zag (zay (i:=2) sc_read_places.nd rfl (by first|exact Or.inl rfl|exact Or.inr rfl) (pe_h G_read_lengths hr zax (zaa (pv 0) zae)))
   (zag (zaQ (pe_h G_refuse_where hr zax (zaa (zbG zfo (pv 1) (zaO zaM (by rfl) T.len PySem.boot_len (zaa (zaW zbD (pv 2) zaj (fun _ _=>rfl)) zae)) (zaS _)) (zaa zaj zae))))
   (zao (zaJ (zbx (zaa (zaW zbD (pv 2) zaj (fun _ _=>rfl)) (zaa (zbx (zaa (zaW zbD (pv 2) zaj (fun _ _=>rfl)) (zaa (pv 1) zae))) zae))))))))),zcv (K:=(KX K)) (XO:=XO0) (E:=E) (np:=1) (nv:=2) (m:=zgx)
   (zan (zbq (zal (zac (zam za9 zad (zai).r) (zac zai (zac zai (zac zai zak))))))
   (zan (zaC (zal (zac (zam za9 ((zam za9 zad (zai).r)).r (zai).r) (zac zai (zac zai (zac zai zak))))) zap)
   (zan (zaC (zal (zac zah zak)) zap)
   (zan (zbq (zal (zac (zam zfq zad ((zcc zcK (zaD ((zam zbL zad (zai).r)).r zaR))).r) (zac zai zak))))
   (za7 (zbC (zac (zam zbL zad (zai).r) (zac (zbC (zac (zam zbL zad (zai).r) (zac zah zak))) zak)))))))) rfl h⟩
abbrev zcT:Stmt:=top 27
theorem sc_amount_above_nought:FnScope ["word","line","amount"] ["word","line"] (zas zcT):=scMk
theorem zfp {f:Addr} {fd:FuncData} (F:Fun K "amount_above_nought" "amount_above_nought" zcT f fd) (T:Txt K mg) (G_refuse_where:Has P w K mg base CX0 1 "refuse_where" ["wrong","line"] (spM (KX K) XO0 zaq)) (G_amount_in:Has P w K mg base CX0 2 "amount_in" ["word","line"] (spM (KX K) XO0 zbt)):FnOk P w K mg base CX0 3 f fd ["word","line"] (spM (KX K) XO0 zaU):=by
 refine F.ok sc_amount_above_nought (fun vs H Q E h=>zbd h) (fun cdv A outer s H vs Q E hr h=>?_)
 have hu:=zbS hr
 exact⟨_,(zag (zay (i:=2) sc_amount_above_nought.nd rfl (by first|exact Or.inl rfl|exact Or.inr rfl) (pe_h G_amount_in hr zax (zaa (pv 0) (zaa (pv 1) zae))))
   (zag (zaQ (pe_h G_refuse_where hr zax (zaa (zbG zcP (zaW zbD (pv 2) zaj (fun _ _=>rfl)) zaj (zaS _)) (zaa (pv 1) zae))))
   (zao (zaJ (pv 2))))),zcv (K:=(KX K)) (XO:=XO0) (E:=E) (np:=2) (nv:=1) (m:=zcR)
   (zan (zaC (zal (zac zah (zac zah zak))) zap)
   (zan (zbq (zal (zac (zam zcO ((zam zbL zad (zai).r)).r (zai).r) (zac zah zak))))
   (za7 zah))) rfl h⟩
abbrev zdO:Stmt:=top 40
theorem sc_read_benches:FnScope ["rows","many","works","unit"] ["rows"] (zas zdO):=scMk
theorem ziG {f:Addr} {fd:FuncData} (F:Fun K "read_benches" "read_benches" zdO f fd) (T:Txt K mg) (G_refuse_where:Has P w K mg base CX0 1 "refuse_where" ["wrong","line"] (spM (KX K) XO0 zaq)) (G_refuse_word_count:Has P w K mg base CX0 2 "refuse_word_count" ["words","least","most","line"] (spM (KX K) XO0 zav)) (G_number_in:Has P w K mg base CX0 2 "number_in" ["word","least","most","line"] (spM (KX K) XO0 zbu)) (G_unit_of:Has P w K mg base CX0 3 "unit_of" ["amounts"] (spM (KX K) XO0 zb7)) (G_all_by_the_unit:Has P w K mg base CX0 2 "all_by_the_unit" ["amounts","unit"] (spO (KX K) XO0 za6)) (G_amount_above_nought:Has P w K mg base CX0 3 "amount_above_nought" ["word","line"] (spM (KX K) XO0 zaU)):FnOk P w K mg base CX0 4 f fd ["rows"] (spM (KX K) XO0 zcF):=by
 refine F.ok sc_read_benches (fun vs H Q E h=>zbd h) (fun cdv A outer s H vs Q E hr h=>?_)
 have hu:=zbS hr
 exact⟨_,(zag (zaQ (pe_h G_refuse_word_count hr zax (zaa (zaW zaN (pv 0) zaj (fun _ _=>rfl)) (zaa zaj (zaa (zaB zb1 zaj (zc7 (by rfl) T.g_MOST_THINGS)) (zaa zaj zae))))))
   (zag (zay (i:=1) sc_read_benches.nd rfl (by first|exact Or.inl rfl|exact Or.inr rfl) (pe_h G_number_in hr zax (zaa (zaW zaN (zaW zaN (pv 0) zaj (fun _ _=>rfl)) zaj (fun _ _=>rfl)) (zaa zaj (zaa (zc7 (by rfl) T.g_MOST_BENCHES) (zaa zaj zae))))))
   (zag (zdL (i:=2) sc_read_benches.nd rfl (by first|exact Or.inl rfl|exact Or.inr rfl) rfl (zbv (zdr zd9 (zaW zaN (pv 0) zaj (fun _ _=>rfl)) (zef zaj) zeh)) (zb3 (zas zdO) ["rows","many","works","unit"] ["word"] [] 1 rfl rfl rfl (by decide +kernel) (by decide +kernel) (by decide +kernel) rfl (by decide +kernel) (fun cl C s H fp pins=>(zaw (i:=0) (show List.Nodup (["word"]:List Str) by decide +kernel) rfl (Or.inl rfl))) (fun cl C s H fp pins=>(pe_h G_amount_above_nought hr zax (zaa (pv 0) (zaa zaj zae)))) (Or.inl ⟨rfl,rfl⟩)) rfl)
   (zag (zaQ (pe_h G_refuse_where hr zax (zaa (zbG zfo (zaO zaM (by rfl) T.len PySem.boot_len (zaa (pv 0) zae)) zaj (zaS _)) (zaa zaj zae))))
   (zag (zay (i:=3) sc_read_benches.nd rfl (by first|exact Or.inl rfl|exact Or.inr rfl) (pe_h G_unit_of hr zax (zaa (pv 2) zae)))
   (zao (zaJ (zbx (zaa (pv 3) (zaa (zbx (zaa (pe_h G_all_by_the_unit hr zax (zaa (pv 2) (zaa (pv 3) zae))) (zaa (pv 1) zae))) zae)))))))))),zcv (K:=(KX K)) (XO:=XO0) (E:=E) (np:=1) (nv:=3) (m:=zfS)
   (zan (zbq (zal (zac (zam za9 zad (zai).r) (zac zai (zac (zam zb2 (zai).r (zai).r) (zac zai zak))))))
   (zan (zaC (zal (zac (zam za9 ((zam za9 zad (zai).r)).r (zai).r) (zac zai (zac zai (zac zai zak))))) zap)
   (zan (zaC ((zba (zbM ((zcU ((zam za9 zad (zai).r)).r (zeg zai) zhX)).e.r) (by decide) zaP za3 (Or.inl ⟨rfl,rfl⟩) (zal (zac zah (zac zai zak))))).e zap)
   (zan (zbq (zal (zac (zam zfq ((zcc zcK (zaD zad zaR))).r (zai).r) (zac zai zak))))
   (zan (zaC (zal (zac zah zak)) zap)
   (za7 (zbC (zac zah (zac (zbC (zac ((zbg (zac zah (zac zah zak)))).e (zac zah zak))) zak))))))))) rfl h⟩
abbrev ze5:Stmt:=top 41
theorem sc_read_bins:FnScope ["rows","amounts","unit","sizes","room"] ["rows"] (zas ze5):=scMk
theorem zk6 {f:Addr} {fd:FuncData} (F:Fun K "read_bins" "read_bins" ze5 f fd) (T:Txt K mg) (G_refuse_where:Has P w K mg base CX0 1 "refuse_where" ["wrong","line"] (spM (KX K) XO0 zaq)) (G_refuse_word_count:Has P w K mg base CX0 2 "refuse_word_count" ["words","least","most","line"] (spM (KX K) XO0 zav)) (G_unit_of:Has P w K mg base CX0 3 "unit_of" ["amounts"] (spM (KX K) XO0 zb7)) (G_all_by_the_unit:Has P w K mg base CX0 2 "all_by_the_unit" ["amounts","unit"] (spO (KX K) XO0 za6)) (G_amount_above_nought:Has P w K mg base CX0 3 "amount_above_nought" ["word","line"] (spM (KX K) XO0 zaU)):FnOk P w K mg base CX0 4 f fd ["rows"] (spM (KX K) XO0 zdB):=by
 refine F.ok sc_read_bins (fun vs H Q E h=>zbd h) (fun cdv A outer s H vs Q E hr h=>?_)
 have hu:=zbS hr
 exact⟨_,(zag (zaQ (pe_h G_refuse_word_count hr zax (zaa (zaW zaN (pv 0) zaj (fun _ _=>rfl)) (zaa zaj (zaa (zaB zb1 zaj (zc7 (by rfl) T.g_MOST_THINGS)) (zaa zaj zae))))))
   (zag (zdL (i:=1) sc_read_bins.nd rfl (by first|exact Or.inl rfl|exact Or.inr rfl) rfl (zbv (zdr zd9 (zaW zaN (pv 0) zaj (fun _ _=>rfl)) (zef zaj) zeh)) (zb3 (zas ze5) ["rows","amounts","unit","sizes","room"] ["word"] [] 1 rfl rfl rfl (by decide +kernel) (by decide +kernel) (by decide +kernel) rfl (by decide +kernel) (fun cl C s H fp pins=>(zaw (i:=0) (show List.Nodup (["word"]:List Str) by decide +kernel) rfl (Or.inl rfl))) (fun cl C s H fp pins=>(pe_h G_amount_above_nought hr zax (zaa (pv 0) (zaa zaj zae)))) (Or.inl ⟨rfl,rfl⟩)) rfl)
   (zag (zaQ (pe_h G_refuse_where hr zax (zaa (zbG zfo (zaO zaM (by rfl) T.len PySem.boot_len (zaa (pv 0) zae)) zaj (zaS _)) (zaa zaj zae))))
   (zag (zay (i:=2) sc_read_bins.nd rfl (by first|exact Or.inl rfl|exact Or.inr rfl) (pe_h G_unit_of hr zax (zaa (pv 1) zae)))
   (zag (zay (i:=3) sc_read_bins.nd rfl (by first|exact Or.inl rfl|exact Or.inr rfl) (pe_h G_all_by_the_unit hr zax (zaa (pv 1) (zaa (pv 2) zae))))
   (zag (zay (i:=4) sc_read_bins.nd rfl (by first|exact Or.inl rfl|exact Or.inr rfl) (zdm PySem.F.plainAttrs_list PySem.F.slot_list_pop PySem.F.type_list_pop zo5 (pv 3) (zaa zaj zae)))
   (zao (zaJ (zbx (zaa (pv 2) (zaa (zbx (zaa (pv 3) (zaa (pv 4) zae))) zae))))))))))),zcv (K:=(KX K)) (XO:=XO0) (E:=E) (np:=1) (nv:=4) (m:=zie)
   (zan (zbq (zal (zac (zam za9 zad (zai).r) (zac zai (zac (zam zb2 (zai).r (zai).r) (zac zai zak))))))
   (zan (zaC ((zba (zbM ((zcU ((zam za9 zad (zai).r)).r (zeg zai) zhX)).e.r) (by decide) zaP za3 (Or.inl ⟨rfl,rfl⟩) (zal (zac zah (zac zai zak))))).e zap)
   (zan (zbq (zal (zac (zam zfq ((zcc zcK (zaD zad zaR))).r (zai).r) (zac zai zak))))
   (zan (zaC (zal (zac zah zak)) zap)
   (zan (zdz (zbg (zac zah (zac zah zak))))
   (zan (zqo zai zap)
   (zgJ (i:=3) (za7 (zbC (zac zah (zac (zbC (zac zah (zac zah zak))) zak))))))))))) rfl h⟩
abbrev zhe:Stmt:=top 42
theorem zlJ:FnScope ["words","line"] ["words","line"] (zas zhe):=scMk
theorem zlm {f:Addr} {fd:FuncData} (F:Fun K "thing_in" "thing_in" zhe f fd) (T:Txt K mg) (G_refuse_word_count:Has P w K mg base CX0 2 "refuse_word_count" ["words","least","most","line"] (spM (KX K) XO0 zav)) (G_amount_in:Has P w K mg base CX0 2 "amount_in" ["word","line"] (spM (KX K) XO0 zbt)) (G_amount_above_nought:Has P w K mg base CX0 3 "amount_above_nought" ["word","line"] (spM (KX K) XO0 zaU)):FnOk P w K mg base CX0 4 f fd ["words","line"] (spM (KX K) XO0 zdH):=by
 refine F.ok zlJ (fun vs H Q E h=>zbd h) (fun cdv A outer s H vs Q E hr h=>?_)
 have hu:=zbS hr
 exact⟨_,(zag (zaQ (pe_h G_refuse_word_count hr zax (zaa (pv 0) (zaa zaj (zaa zaj (zaa (pv 1) zae))))))
   (zao (zaJ (zbx (zaa (pe_h G_amount_in hr zax (zaa (zaW zaN (pv 0) zaj (fun _ _=>rfl)) (zaa (pv 1) zae))) (zaa (pe_h G_amount_above_nought hr zax (zaa (zaW zaN (pv 0) zaj (fun _ _=>rfl)) (zaa (pv 1) zae))) zae)))))),zcv (K:=(KX K)) (XO:=XO0) (E:=E) (np:=2) (nv:=0) (m:=zgR)
   (zan (zbq (zal (zac zah (zac zai (zac zai (zac zah zak))))))
   (za7 (zbC (zac (zal (zac (zam za9 zad (zai).r) (zac zah zak))) (zac (zal (zac (zam za9 zad (zai).r) (zac zah zak))) zak))))) rfl h⟩
abbrev zeS:Stmt:=top 43
theorem sc_read_sack:FnScope ["rows","room","amounts","things","line","thing","unit","whole"] ["rows"] (zas zeS):=scMk
theorem zlc {f:Addr} {fd:FuncData} (F:Fun K "read_sack" "read_sack" zeS f fd) (T:Txt K mg) (G_refuse_where:Has P w K mg base CX0 1 "refuse_where" ["wrong","line"] (spM (KX K) XO0 zaq)) (G_refuse_word_count:Has P w K mg base CX0 2 "refuse_word_count" ["words","least","most","line"] (spM (KX K) XO0 zav)) (G_amount_in:Has P w K mg base CX0 2 "amount_in" ["word","line"] (spM (KX K) XO0 zbt)) (G_unit_of:Has P w K mg base CX0 3 "unit_of" ["amounts"] (spM (KX K) XO0 zb7)) (G_by_the_unit:Has P w K mg base CX0 1 "by_the_unit" ["amount","unit"] (spM (KX K) XO0 zbr)) (G_thing_in:Has P w K mg base CX0 4 "thing_in" ["words","line"] (spM (KX K) XO0 zdH)):FnOk P w K mg base CX0 5 f fd ["rows"] (spM (KX K) XO0 zdG):=by
 refine F.ok sc_read_sack (fun vs H Q E h=>zbd h) (fun cdv A outer s H vs Q E hr h=>?_)
 have hu:=zbS hr
 exact⟨_,(zag (zaQ (pe_h G_refuse_word_count hr zax (zaa (zaW zaN (pv 0) zaj (fun _ _=>rfl)) (zaa zaj (zaa zaj (zaa zaj zae))))))
   (zag (zay (i:=1) sc_read_sack.nd rfl (by first|exact Or.inl rfl|exact Or.inr rfl) (pe_h G_amount_in hr zax (zaa (zaW zaN (zaW zaN (pv 0) zaj (fun _ _=>rfl)) zaj (fun _ _=>rfl)) (zaa zaj zae))))
   (zag (zay (i:=2) sc_read_sack.nd rfl (by first|exact Or.inl rfl|exact Or.inr rfl) (zby (zaa (pv 1) zae)))
   (zag (zay (i:=3) sc_read_sack.nd rfl (by first|exact Or.inl rfl|exact Or.inr rfl) (zby zae))
   (zag (zca PassesOwn.never rfl (zgs rfl T.range (zaa zaj (zaa (zaO zaM (by rfl) T.len PySem.boot_len (zaa (pv 0) zae)) zae))) (zaw (i:=4) sc_read_sack.nd rfl (by first|exact Or.inl rfl|exact Or.inr rfl))
   (zag (zaQ (pe_h G_refuse_where hr zax (zaa (zbG zfo (pv 4) (zc7 (by rfl) T.g_MOST_THINGS) (zaS _)) (zaa (pv 4) zae))))
   (zag (zay (i:=5) sc_read_sack.nd rfl (by first|exact Or.inl rfl|exact Or.inr rfl) (pe_h G_thing_in hr zax (zaa (zaW zaN (pv 0) (pv 4) (fun _ _=>rfl)) (zaa (pv 4) zae))))
   (zag (zaQ (zdm PySem.F.plainAttrs_list PySem.F.slot_list_append PySem.F.type_list_append zbH (pv 3) (zaa (pv 5) zae)))
   (zao (zaQ (zdm PySem.F.plainAttrs_list PySem.F.slot_list_extend PySem.F.type_list_extend znP (pv 2) (zaa (pv 5) zae))))))))
   (zag (zay (i:=6) sc_read_sack.nd rfl (by first|exact Or.inl rfl|exact Or.inr rfl) (pe_h G_unit_of hr zax (zaa (pv 2) zae)))
   (zag (zdL (i:=7) sc_read_sack.nd rfl (by first|exact Or.inl rfl|exact Or.inr rfl) rfl (zbv (pv 3)) (zb3 (zas zeS) ["rows","room","amounts","things","line","thing","unit","whole"] ["unit","worth","weight"] [6] 2 rfl rfl rfl (by decide +kernel) (by decide +kernel) (by decide +kernel) rfl (by decide +kernel) (fun cl C s H fp pins=>(zdT rfl (zaY (zaw (i:=1) (show List.Nodup (["unit","worth","weight"]:List Str) by decide +kernel) rfl (Or.inl rfl)) (zaY (zaw (i:=2) (show List.Nodup (["unit","worth","weight"]:List Str) by decide +kernel) rfl (Or.inl rfl)) zcJ)))) (fun cl C s H fp pins=>(zbx (zaa (pe_h G_by_the_unit hr zax (zaa (pv 1) (zaa (pv 0) zae))) (zaa (pe_h G_by_the_unit hr zax (zaa (pv 2) (zaa (pv 0) zae))) zae)))) (Or.inl ⟨rfl,rfl⟩)) rfl)
   (zao (zaJ (zbx (zaa (pv 6) (zaa (zbx (zaa (pe_h G_by_the_unit hr zax (zaa (pv 1) (zaa (pv 6) zae))) (zaa (pv 7) zae))) zae)))))))))))),zcv (K:=(KX K)) (XO:=XO0) (E:=E) (np:=1) (nv:=7) (m:=zhZ)
   (zan (zbq (zal (zac (zam za9 zad (zai).r) (zac zai (zac zai (zac zai zak))))))
   (zan (zaC (zal (zac (zam za9 ((zam za9 zad (zai).r)).r (zai).r) (zac zai zak))) zap)
   (zan (zdz (zbc (zac zah zak)))
   (zan (zdz (zbc zak))
   (zan (zce (zgo len2 (zac zai (zac (zcc zcK (zaD zad zaR)) zak))) zap
   (zan (zbq (zal (zac (zam zfq zad (zai).r) (zac zah zak))))
   (zan (zaC (zal (zac (zam za9 zad zad) (zac zah zak))) zap)
   (zan (zcr zah)
   (znx zah)))))
   (zan (zaC (zjz (zlA zlw)) zap)
   (zan (zaC ((zba (zbM zad) (by decide) (zdP (zaV zaP (zaV zaP zcH))) (zfR (zbU za3 (zbU za3 zex))) (Or.inl ⟨rfl,rfl⟩) (zbC (zac (zal (zac zah (zac zah zak))) (zac (zal (zac zah (zac zah zak))) zak))))).e zap)
   (za7 (zbC (zac zah (zac (zbC (zac (zal (zac zah (zac zah zak))) (zac zah zak))) zak))))))))))) rfl h⟩
abbrev zf4:Stmt:=top 44
theorem zkZ:FnScope ["kind","rows"] ["kind","rows"] (zas zf4):=scMk
theorem zkl {f:Addr} {fd:FuncData} (F:Fun K "read_rows" "read_rows" zf4 f fd) (T:Txt K mg) (G_read_cover:Has P w K mg base CX0 4 "read_cover" ["rows"] (spM (KX K) XO0 zdi)) (G_read_touch:Has P w K mg base CX0 4 "read_touch" ["rows"] (spM (KX K) XO0 zdj)) (G_read_round:Has P w K mg base CX0 5 "read_round" ["rows"] (spM (KX K) XO0 zdg)) (G_read_places:Has P w K mg base CX0 5 "read_places" ["rows"] (spM (KX K) XO0 zcX)) (G_read_benches:Has P w K mg base CX0 4 "read_benches" ["rows"] (spM (KX K) XO0 zcF)) (G_read_bins:Has P w K mg base CX0 4 "read_bins" ["rows"] (spM (KX K) XO0 zdB)) (G_read_sack:Has P w K mg base CX0 5 "read_sack" ["rows"] (spM (KX K) XO0 zdG)):FnOk P w K mg base CX0 6 f fd ["kind","rows"] (spM (KX K) XO0 za1):=by
 refine F.ok zkZ (fun vs H Q E h=>zbd h) (fun cdv A outer s H vs Q E hr h=>?_)
 have hu:=zbS hr
 exact⟨_,(zag (zb8 (za8 zcP (pv 0) zbs (zaS _))
   (zao (zaJ (pe_h G_read_cover hr zax (zaa (pv 1) zae))))
   za0)
   (zag (zb8 (za8 zcP (pv 0) zbs (zaS _))
   (zao (zaJ (pe_h G_read_touch hr zax (zaa (pv 1) zae))))
   za0)
   (zag (zb8 (za8 zcP (pv 0) zbs (zaS _))
   (zao (zaJ (pe_h G_read_round hr zax (zaa (pv 1) zae))))
   za0)
   (zag (zb8 (za8 zcP (pv 0) zbs (zaS _))
   (zao (zaJ (pe_h G_read_places hr zax (zaa (pv 1) zae))))
   za0)
   (zag (zb8 (za8 zcP (pv 0) zbs (zaS _))
   (zao (zaJ (pe_h G_read_benches hr zax (zaa (pv 1) zae))))
   za0)
   (zag (zb8 (za8 zcP (pv 0) zbs (zaS _))
   (zao (zaJ (pe_h G_read_bins hr zax (zaa (pv 1) zae))))
   za0)
   (zag (zb8 (za8 zcP (pv 0) zbs (zaS _))
   (zao (zaJ (pe_h G_read_sack hr zax (zaa (pv 1) zae))))
   za0)
   (zao zeW)))))))),zcv (K:=(KX K)) (XO:=XO0) (E:=E) (np:=2) (nv:=0) (m:=zcz)
   (zan (zcf (za2 (zam zcO zad (zbT).r))
   (za7 (zal (zac zah zak)))
   za4)
   (zan (zcf (za2 (zam zcO zad (zbT).r))
   (za7 (zal (zac zah zak)))
   za4)
   (zan (zcf (za2 (zam zcO zad (zbT).r))
   (za7 (zal (zac zah zak)))
   za4)
   (zan (zcf (za2 (zam zcO zad (zbT).r))
   (za7 (zal (zac zah zak)))
   za4)
   (zan (zcf (za2 (zam zcO zad (zbT).r))
   (za7 (zal (zac zah zak)))
   za4)
   (zan (zcf (za2 (zam zcO zad (zbT).r))
   (za7 (zal (zac zah zak)))
   za4)
   (zan (zcf (za2 (zam zcO zad (zbT).r))
   (za7 (zal (zac zah zak)))
   za4)
   ze8))))))) rfl h⟩
abbrev zdV:Stmt:=top 12
theorem sc_refuse_missing:FnScope ["many","sets","held","one","thing"] ["many","sets"] (zas zdV):=scMk
theorem zg2 {f:Addr} {fd:FuncData} (F:Fun K "refuse_missing" "refuse_missing" zdV f fd) (T:Txt K mg)  : FnOk P w K mg base CX0 1 f fd ["many","sets"] (spM (KX K) XO0 zb0):=by
 refine F.ok sc_refuse_missing (fun vs H Q E h=>zbd h) (fun cdv A outer s H vs Q E hr h=>?_)
 have hu:=zbS hr
 exact⟨_,(zag (zay (i:=2) sc_refuse_missing.nd rfl (by first|exact Or.inl rfl|exact Or.inr rfl) zpb)
   (zag (zca PassesOwn.never rfl (zbv (pv 1)) (zaw (i:=3) sc_refuse_missing.nd rfl (by first|exact Or.inl rfl|exact Or.inr rfl))
   (zao (zca PassesOwn.never rfl (zbv (zaW zbD (pv 3) zaj (fun _ _=>rfl))) (zaw (i:=4) sc_refuse_missing.nd rfl (by first|exact Or.inl rfl|exact Or.inr rfl))
   (zao (zqD hu (pv 2) (pv 4) zjR rfl)))))
   (zao (zca PassesOwn.never rfl (zb6 rfl T.range (zaa (pv 0) zae)) (zaw (i:=4) sc_refuse_missing.nd rfl (by first|exact Or.inl rfl|exact Or.inr rfl))
   (zao (zb8 (zr2 (znD hu (pv 4) (pv 2)))
   (zao zeW)
   za0)))))),zcv (K:=(KX K)) (XO:=XO0) (E:=E) (np:=2) (nv:=3) (m:=zff)
   (zan (zdz zo2)
   (zan (zce (zew zah) zap
   (zce (zew (zam zbL zad (zai).r)) zap
   (zqK zah zkd)))
   (zce (zcb len1 (zac zah zak)) zap
   (zcf (st_b (zog zah zad))
   ze8
   za4)))) rfl h⟩
abbrev zin:Stmt:=top 14
theorem sc_look_at:FnScope ["lengths","count","a","b","c"] ["lengths"] (zas zin):=scMk
theorem zm0 {f:Addr} {fd:FuncData} (F:Fun K "look_at" "look_at" zin f fd) (T:Txt K mg)  : FnOk P w K mg base CX0 1 f fd ["lengths"] (spM (KX K) XO0 zdo):=by
 refine F.ok sc_look_at (fun vs H Q E h=>zbd h) (fun cdv A outer s H vs Q E hr h=>?_)
 have hu:=zbS hr
 exact⟨_,(zag (zay (i:=1) sc_look_at.nd rfl (by first|exact Or.inl rfl|exact Or.inr rfl) (zaO zaM (by rfl) T.len PySem.boot_len (zaa (pv 0) zae)))
   (zag (zca PassesOwn.never rfl (zb6 rfl T.range (zaa (pv 1) zae)) (zaw (i:=2) sc_look_at.nd rfl (by first|exact Or.inl rfl|exact Or.inr rfl))
   (zao (zb8 (za8 zn1 (zaW zaN (zaW zaN (pv 0) (pv 2) (fun _ _=>rfl)) (pv 2) (fun _ _=>rfl)) zaj (zaS _))
   (zao zeW)
   za0)))
   (zag (zca PassesOwn.never rfl (zb6 rfl T.range (zaa (pv 1) zae)) (zaw (i:=2) sc_look_at.nd rfl (by first|exact Or.inl rfl|exact Or.inr rfl))
   (zao (zca PassesOwn.never rfl (zb6 rfl T.range (zaa (pv 2) zae)) (zaw (i:=3) sc_look_at.nd rfl (by first|exact Or.inl rfl|exact Or.inr rfl))
   (zao (zb8 (za8 zn1 (zaW zaN (zaW zaN (pv 0) (pv 2) (fun _ _=>rfl)) (pv 3) (fun _ _=>rfl)) (zaW zaN (zaW zaN (pv 0) (pv 3) (fun _ _=>rfl)) (pv 2) (fun _ _=>rfl)) (zaS _))
   (zao zeW)
   za0)))))
   (zao (zca PassesOwn.never rfl (zb6 rfl T.range (zaa (pv 1) zae)) (zaw (i:=2) sc_look_at.nd rfl (by first|exact Or.inl rfl|exact Or.inr rfl))
   (zao (zca PassesOwn.never rfl (zb6 rfl T.range (zaa (pv 1) zae)) (zaw (i:=3) sc_look_at.nd rfl (by first|exact Or.inl rfl|exact Or.inr rfl))
   (zao (zca PassesOwn.never rfl (zb6 rfl T.range (zaa (pv 1) zae)) (zaw (i:=4) sc_look_at.nd rfl (by first|exact Or.inl rfl|exact Or.inr rfl))
   (zao (zb8 (za8 zlU (zaB zb1 (zaW zaN (zaW zaN (pv 0) (pv 2) (fun _ _=>rfl)) (pv 3) (fun _ _=>rfl)) (zaW zaN (zaW zaN (pv 0) (pv 3) (fun _ _=>rfl)) (pv 4) (fun _ _=>rfl))) (zaW zaN (zaW zaN (pv 0) (pv 2) (fun _ _=>rfl)) (pv 4) (fun _ _=>rfl)) (zaS _))
   (zao zeW)
   za0))))))))))),zcv (K:=(KX K)) (XO:=XO0) (E:=E) (np:=1) (nv:=4) (m:=zkH)
   (zan (zaC (zcc zcK (zaD zad zaR)) zap)
   (zan (zce (zcb len1 (zac zah zak)) zap
   (zcf (za2 (zam zng ((zam za9 ((zam za9 zad zad)).r zad)).r (zai).r))
   ze8
   za4))
   (zan (zce (zcb len1 (zac zah zak)) zap
   (zce (zcb len1 (zac zah zak)) zap
   (zcf (za2 (zam zng ((zam za9 ((zam za9 zad zad)).r zad)).r ((zam za9 ((zam za9 zad zad)).r zad)).r))
   ze8
   za4)))
   (zce (zcb len1 (zac zah zak)) zap
   (zce (zcb len1 (zac zah zak)) zap
   (zce (zcb len1 (zac zah zak)) zap
   (zcf (za2 (zam zlO ((zam zb2 ((zam za9 ((zam za9 zad zad)).r zad)).r ((zam za9 ((zam za9 zad zad)).r zad)).r)).r ((zam za9 ((zam za9 zad zad)).r zad)).r))
   ze8
   za4))))))) rfl h⟩
abbrev zdt:Stmt:=top 10
theorem sc_refuse_too_great:FnScope ["sizes","room","number","size"] ["sizes","room"] (zas zdt):=scMk
theorem zf0 {f:Addr} {fd:FuncData} (F:Fun K "refuse_too_great" "refuse_too_great" zdt f fd) (T:Txt K mg)  : FnOk P w K mg base CX0 1 f fd ["sizes","room"] (spM (KX K) XO0 zbW):=by
 refine F.ok sc_refuse_too_great (fun vs H Q E h=>zbd h) (fun cdv A outer s H vs Q E hr h=>?_)
 have hu:=zbS hr
 exact⟨_,(zao (zca PassesOwn.never rfl (zhb rfl T.enumerate (zaa (pv 0) zae)) (zdT rfl (zaY (zaw (i:=2) sc_refuse_too_great.nd rfl (by first|exact Or.inl rfl|exact Or.inr rfl)) (zaY (zaw (i:=3) sc_refuse_too_great.nd rfl (by first|exact Or.inl rfl|exact Or.inr rfl)) zcJ)))
   (zao (zb8 (za8 zfo (pv 3) (pv 1) (zaS _))
   (zao zeW)
   za0)))),zcv (K:=(KX K)) (XO:=XO0) (E:=E) (np:=2) (nv:=2) (m:=zet)
   (zce (zlL (zac zah zak)) (zdP (zaV zap (zaV zap zcH)))
   (zcf (za2 (zam zfq zad zad))
   ze8
   za4)) rfl h⟩
abbrev zeA:Stmt:=top 45
theorem zid:FnScope ["kind","given"] ["kind","given"] (zas zeA):=scMk
theorem ziA {f:Addr} {fd:FuncData} (F:Fun K "refuse_given" "refuse_given" zeA f fd) (T:Txt K mg) (G_refuse_missing:Has P w K mg base CX0 1 "refuse_missing" ["many","sets"] (spM (KX K) XO0 zb0)) (G_look_at:Has P w K mg base CX0 1 "look_at" ["lengths"] (spM (KX K) XO0 zdo)) (G_refuse_too_great:Has P w K mg base CX0 1 "refuse_too_great" ["sizes","room"] (spM (KX K) XO0 zbW)):FnOk P w K mg base CX0 2 f fd ["kind","given"] (spM (KX K) XO0 zaH):=by
 refine F.ok zid (fun vs H Q E h=>zbd h) (fun cdv A outer s H vs Q E hr h=>?_)
 have hu:=zbS hr
 exact⟨_,(zao (zb8 (za8 zcP (pv 0) zbs (zaS _))
   (zao (zaQ (pe_h G_refuse_missing hr zax (zaa (zaW zbD (pv 1) zaj (fun _ _=>rfl)) (zaa (zaW zbD (pv 1) zaj (fun _ _=>rfl)) zae)))))
   (zao (zb8 ((zq5 (za8 zcP (pv 0) zbs (zaS _)) (zpQ (za8 zcP (pv 0) zbs (zaS _))))).pt
   (zao (zaQ (pe_h G_look_at hr zax (zaa (zaW zbD (pv 1) zaj (fun _ _=>rfl)) zae))))
   (zao (zb8 (za8 zcP (pv 0) zbs (zaS _))
   (zao (zaQ (pe_h G_refuse_too_great hr zax (zaa (zaW zbD (pv 1) zaj (fun _ _=>rfl)) (zaa (zaW zbD (pv 1) zaj (fun _ _=>rfl)) zae)))))
   za0)))))),zcv (K:=(KX K)) (XO:=XO0) (E:=E) (np:=2) (nv:=0) (m:=zbN)
   (zcf (za2 (zam zcO zad (zbT).r))
   (zbq (zal (zac (zam zbL zad (zai).r) (zac (zam zbL zad (zai).r) zak))))
   (zcf (zrp (za2 (zam zcO zad (zbT).r)) (za2 (zam zcO zad (zbT).r)))
   (zbq (zal (zac (zam zbL zad (zai).r) zak)))
   (zcf (za2 (zam zcO zad (zbT).r))
   (zbq (zal (zac (zam zbL zad (zai).r) (zac (zam zbL zad (zai).r) zak))))
   za4))) rfl h⟩
abbrev zmm:Stmt:=top 46
theorem sc_read:FnScope ["text","rows","kind","told"] ["text"] (zas zmm):=scMk
theorem zqE {f:Addr} {fd:FuncData} (F:Fun K "read" "read" zmm f fd) (T:Txt K mg) (G_read_rows:Has P w K mg base CX0 6 "read_rows" ["kind","rows"] (spM (KX K) XO0 za1)) (G_refuse_given:Has P w K mg base CX0 2 "refuse_given" ["kind","given"] (spM (KX K) XO0 zaH)):FnOk P w K mg base CX0 7 f fd ["text"] (spM (KX K) XO0 zfZ):=by
 refine F.ok sc_read (fun vs H Q E h=>zbd h) (fun cdv A outer s H vs Q E hr h=>?_)
 have hu:=zbS hr
 exact⟨_,(zag (zdL (i:=1) sc_read.nd rfl (by first|exact Or.inl rfl|exact Or.inr rfl) rfl (zbv (zdm PySem.F.plainAttrs_str PySem.F.slot_str_split PySem.F.type_str_split zjq (pv 0) (zaa zbs zae))) (zb3 (zas zmm) ["text","rows","kind","told"] ["line"] [] 1 rfl rfl rfl (by decide +kernel) (by decide +kernel) (by decide +kernel) rfl (by decide +kernel) (fun cl C s H fp pins=>(zaw (i:=0) (show List.Nodup (["line"]:List Str) by decide +kernel) rfl (Or.inl rfl))) (fun cl C s H fp pins=>(zdm PySem.F.plainAttrs_str PySem.F.slot_str_split PySem.F.type_str_split zjq (pv 0) (zaa zbs zae))) (Or.inl ⟨rfl,rfl⟩)) rfl)
   (zag (zay (i:=2) sc_read.nd rfl (by first|exact Or.inl rfl|exact Or.inr rfl) (zaW zaN (zaW zaN (pv 1) zaj (fun _ _=>rfl)) zaj (fun _ _=>rfl)))
   (zag (zay (i:=3) sc_read.nd rfl (by first|exact Or.inl rfl|exact Or.inr rfl) (pe_h G_read_rows hr zax (zaa (pv 2) (zaa (pv 1) zae))))
   (zag (zaQ (pe_h G_refuse_given hr zax (zaa (pv 2) (zaa (zaW zbD (pv 3) zaj (fun _ _=>rfl)) zae))))
   (zao (zaJ (zbx (zaa (pv 2) (zaa (zaW zbD (pv 3) zaj (fun _ _=>rfl)) (zaa (zaW zbD (pv 3) zaj (fun _ _=>rfl)) zae)))))))))),zcv (K:=(KX K)) (XO:=XO0) (E:=E) (np:=1) (nv:=3) (m:=zpP)
   (zan (zaC ((zba (zbM ((zh8 zah)).e.r) (by decide) zaP za3 (Or.inl ⟨rfl,rfl⟩) ((zh8 zah)).e)).e zap)
   (zan (zaC (zam za9 ((zam za9 zad (zai).r)).r (zai).r) zap)
   (zan (zaC (zal (zac zah (zac zah zak))) zap)
   (zan (zbq (zal (zac zah (zac (zam zbL zad (zai).r) zak))))
   (za7 (zbC (zac zah (zac (zam zbL zad (zai).r) (zac (zam zbL zad (zai).r) zak))))))))) rfl h⟩
abbrev zf6:Stmt:=top 69
theorem sc_law_alike:FnScope ["_law_found","_law_due","_law_one","_law_other"] ["_law_found","_law_due"] (zas zf6):=scMk
theorem zle {n:Nat} {f:Addr} {fd:FuncData} (F:Fun K "_law_alike" "_law_alike" zf6 f fd) (T:Txt K mg) (G_law_alike:Has P w K mg base CX0 (n+1) "_law_alike" ["_law_found","_law_due"] (spM (KX K) XO0 (zbK n))):FnOk P w K mg base CX0 (n+2) f fd ["_law_found","_law_due"] (spM (KX K) XO0 (zbK (n+1))):=by
 rw[show zbK (n+1)=runF 2 2 (zgh (zbK n)) from rfl]
 refine F.ok sc_law_alike (fun vs H Q E h=>zbd h) (fun cdv A outer s H vs Q E hr h=>?_)
 have hu:=zbS hr
 exact⟨_,(zag (zb8 (zfA (zaO zbA (by rfl) T.isinstance boot_isinstance (zaa (pv 1) (zaa (ze6 (v:=.ty "int") (by rfl) T.int boot_int rfl) zae))))
   (zao (zaJ (zof (zaO zbA (by rfl) T.isinstance boot_isinstance (zaa (pv 0) (zaa (ze6 (v:=.ty "int") (by rfl) T.int boot_int rfl) zae))) (zof (zn3 (zaO zbA (by rfl) T.isinstance boot_isinstance (zaa (pv 0) (zaa (ze6 (v:=.ty "bool") (by rfl) T.bool boot_bool rfl) zae)))) (ziE (zbG zcP (pv 0) (pv 1) (zaS _)))))))
   za0)
   (zag (zb8 (zfA (zaO zbA (by rfl) T.isinstance boot_isinstance (zaa (pv 1) (zaa (ze6 (v:=.ty "str") (by rfl) T.str boot_str rfl) zae))))
   (zao (zaJ (zof (zaO zbA (by rfl) T.isinstance boot_isinstance (zaa (pv 0) (zaa (ze6 (v:=.ty "str") (by rfl) T.str boot_str rfl) zae))) (ziE (zbG zcP (pv 0) (pv 1) (zaS _))))))
   za0)
   (zag (zb8 (zfA (zaO zbA (by rfl) T.isinstance boot_isinstance (zaa (pv 1) (zaa (ze6 (v:=.ty "tuple") (by rfl) T.tuple boot_tuple rfl) zae))))
   (zao (zb8 (zmF (zfA (zaO zbA (by rfl) T.isinstance boot_isinstance (zaa (pv 0) (zaa (ze6 (v:=.ty "tuple") (by rfl) T.tuple boot_tuple rfl) zae)))))
   (zao (zaJ zjR))
   za0))
   (zao (zb8 (zmF (zfA (zaO zbA (by rfl) T.isinstance boot_isinstance (zaa (pv 0) (zaa (ze6 (v:=.ty "list") (by rfl) T.list boot_list rfl) zae)))))
   (zao (zaJ zjR))
   za0)))
   (zag (zb8 (za8 zn1 (zaO zaM (by rfl) T.len PySem.boot_len (zaa (pv 0) zae)) (zaO zaM (by rfl) T.len PySem.boot_len (zaa (pv 1) zae)) (zaS _))
   (zao (zaJ zjR))
   za0)
   (zag (zca PassesOwn.never rfl (zqG rfl T.zip (zaa (pv 0) (zaa (pv 1) zae))) (zdT rfl (zaY (zaw (i:=2) sc_law_alike.nd rfl (by first|exact Or.inl rfl|exact Or.inr rfl)) (zaY (zaw (i:=3) sc_law_alike.nd rfl (by first|exact Or.inl rfl|exact Or.inr rfl)) zcJ)))
   (zao (zb8 (zmF (zfA (zpz G_law_alike hr (by rfl) zax (zaa (pv 2) (zaa (pv 3) zae)))))
   (zao (zaJ zjR))
   za0)))
   (zao (zaJ zjR))))))),zcv (K:=(KX K)) (XO:=XO0) (E:=E) (np:=2) (nv:=2) (m:=zgh (zbK n))
   (zan (zcf (st_b (zhq zmw zad))
   (za7 (znY (zhq zmw zad) (znY (znR (zhq znQ zad)) (zam zcO zad zad))))
   za4)
   (zan (zcf (st_b (zhq zmh zad))
   (za7 (znY (zhq zmh zad) (zam zcO zad zad)))
   za4)
   (zan (zcf (st_b (zhq zi1 zad))
   (zcf (zmi (st_b (zhq zi1 zad)))
   (za7 zkd)
   za4)
   (zcf (zmi (st_b (zhq zhU zad)))
   (za7 zkd)
   za4))
   (zan (zcf (za2 (zam zng ((zcc zcK (zaD zad zaR))).r ((zcc zcK (zaD zad zaR))).r))
   (za7 zkd)
   za4)
   (zan (zce (zqp (zac zah (zac zah zak))) (zdP (zaV zap (zaV zap zcH)))
   (zcf (zmi (st_b (zal (zac zah (zac zah zak)))))
   (za7 zkd)
   za4))
   (za7 zkd)))))) rfl h⟩
abbrev zjV:Stmt:=top 70
theorem sc_law:FnScope ["_law_script","_law_kind","_law_cell","_law_word","_law_lines","_law_unit_here","_law_due","_law_text","_law_found","_law_one"] ["_law_script"] (zas zjV):=scMk
theorem zrU {f:Addr} {fd:FuncData} (F:Fun K "law" "law" zjV f fd) (T:Txt K mg) (G_law_cell_at:Has P w K mg base CX0 1 "_law_cell_at" ["_law_script","_law_k"] (spM (KX K) XO0 zaI)) (G_law_number:Has P w K mg base CX0 1 "_law_number" ["_law_cell","_law_k"] (spM (KX K) XO0 zaK)) (G_law_made:Has P w K mg base CX0 5 "_law_made" ["_law_kind","_law_cells","_law_cell"] (spO (KX K) XO0 zb5)) (G_read:Has P w K mg base CX0 7 "read" ["text"] (spM (KX K) XO0 zfZ)) (G_law_alike:Has P w K mg base CX0 9 "_law_alike" ["_law_found","_law_due"] (spM (KX K) XO0 zbo)):FnOk P w K mg base CX0 10 f fd ["_law_script"] (zl9 K):=by
 refine F.ok sc_law (fun vs H Q E h=>?_) (fun cdv A outer s H vs Q E hr h=>?_)
 ·obtain⟨a,ns,rfl,_⟩:=h
  rfl
 ·obtain⟨a,ns,rfl,hS,hlen,hq⟩:=h
  have hu:=zbS hr
  exact⟨_,(zag (zay (i:=1) sc_law.nd rfl (by first|exact Or.inl rfl|exact Or.inr rfl) (zaB zbE (pe_h G_law_cell_at hr zax (zaa (pv 0) (zaa zaj zae))) zaj))
   (zag (zay (i:=2) sc_law.nd rfl (by first|exact Or.inl rfl|exact Or.inr rfl) (pe_h G_law_number hr zax (zaa (zaB zb1 (pe_h G_law_cell_at hr zax (zaa (pv 0) (zaa zaj zae))) (pe_h G_law_cell_at hr zax (zaa (pv 0) (zaa zaj zae)))) (zaa zaj zae))))
   (@zag _ _ _ _ _ (by refine zay (i:=3) ?_ ?_ ?_ ?_ ?_ ?_;(exact sc_law.nd);(rfl);(first|exact Or.inl rfl|exact Or.inr rfl);(exact (@zaW _ _ _ _ _ _ _ zaN (@zby _ _ _ _ (@zaa _ _ _ _ _ zbs (@zaa _ _ _ _ _ zbs (@zaa _ _ _ _ _ zbs (@zaa _ _ _ _ _ zbs (@zaa _ _ _ _ _ zbs (@zaa _ _ _ _ _ zbs (@zaa _ _ _ _ _ zbs zae rfl) rfl) rfl) rfl) rfl) rfl) rfl)) (pv 1) (fun _ _=>rfl)));(rfl);(first|exact .inl rfl|exact .inr rfl))
   (zag (zrM (pe_h G_law_made hr zax (zaa (pv 1) (zaa (zdr zd9 (pv 0) (zef zaj) zeh) (zaa (pv 2) zae)))) (znv rfl (zaY (zaw (i:=4) sc_law.nd rfl (by first|exact Or.inl rfl|exact Or.inr rfl)) (zaY (zaw (i:=5) sc_law.nd rfl (by first|exact Or.inl rfl|exact Or.inr rfl)) (zaY (zaw (i:=6) sc_law.nd rfl (by first|exact Or.inl rfl|exact Or.inr rfl)) zcJ)))))
   (zag (zay (i:=7) sc_law.nd rfl (by first|exact Or.inl rfl|exact Or.inr rfl) (zdm PySem.F.plainAttrs_str PySem.F.slot_str_join PySem.F.type_str_join zgY zbs (zaa (pv 4) zae)))
   (zag (zay (i:=8) sc_law.nd rfl (by first|exact Or.inl rfl|exact Or.inr rfl) (pe_h G_read hr zax (zaa (pv 7) zae)))
   (zag (zb8 (zmF (zfA (pe_h G_law_alike hr zax (zaa (pv 8) (zaa (zbx (zaa (pv 3) (zaa (pv 5) (zaa (pv 6) zae)))) zae)))))
   (zao (zaJ zjR))
   za0)
   (zag (zca PassesOwn.never rfl (zrn (zaW zbD (pv 8) zaj (fun _ _=>rfl))) (zaw (i:=9) sc_law.nd rfl (by first|exact Or.inl rfl|exact Or.inr rfl))
   (zao (zb8 (zfA (zaO zbA (by rfl) T.isinstance boot_isinstance (zaa (pv 9) (zaa (ze6 (v:=.ty "list") (by rfl) T.list boot_list rfl) zae))))
   (zao (zaQ (zdm PySem.F.plainAttrs_list PySem.F.slot_list_append PySem.F.type_list_append zbH (pv 9) (zaa zaj zae))))
   za0)))
   (zao (zaJ (pe_h G_law_alike hr zax (zaa (pe_h G_read hr zax (zaa (pv 7) zae)) (zaa (zbx (zaa (pv 3) (zaa (pv 5) (zaa (pv 6) zae)))) zae))))))))))))),zcv (K:=(KX K)) (XO:=XO0) (E:=E) (np:=1) (nv:=9) (m:=zrd)
   (zan (zaC (zam zbF ((zal (zac zah (zac zai zak)))).r (zai).r) zap)
   (zan (zaC (zal (zac (zam zb2 ((zal (zac zah (zac zai zak)))).r ((zal (zac zah (zac zai zak)))).r) (zac zai zak))) zap)
   (zan (zaC (zam za9 ((zbc (zac zbT (zac zbT (zac zbT (zac zbT (zac zbT (zac zbT (zac zbT zak))))))))).e.r zad) zap)
   (zan (zaC ((zbg (zac zah (zac ((zcU zad (zeg zai) zhX)).e (zac zah zak))))).e (zrI (zaV zap (zaV zap (zaV zap zcH)))))
   (zan (zaC (zg5 zah) zap)
   (zo6 (by decide) (zmi (st_b (zal (zac zah (zac (zbC (zac zah (zac zah (zac zah zak)))) zak)))))
   (za7 (zal (zac (zal (zac zah zak)) (zac (zbC (zac zah (zac zah (zac zah zak)))) zak)))))))))) rfl (zrk (f:=zqW) (law_true ns hlen) hS hq)⟩
end
theorem all_mk {l:PySem.W.OpenLaw} {w:World} {K:PySem.W.Frag} {h:Heap} {mg:Str→Option Value} {fa:Addr} (X:K.In h) (G:h.Ns mainGlobals mg) (hfa:mg "law"=some (.ref fa))
  (d0:∃f fd,DefAt K "_law_cell_at" ze3 f fd)
  (d1:∃f fd,DefAt K "_law_number" zfs f fd)
  (d2:∃f fd,DefAt K "_law_bit" zij f fd)
  (d3:∃f fd,DefAt K "_law_has" zh7 f fd)
  (d4:∃f fd,DefAt K "_law_amount" zfu f fd)
  (d5:∃f fd,DefAt K "_law_sets" zeO f fd)
  (d6:∃f fd,DefAt K "_law_divisor" ze9 f fd)
  (d7:∃f fd,DefAt K "_law_parts" zf3 f fd)
  (d8:∃f fd,DefAt K "_law_written" zeV f fd)
  (d9:∃f fd,DefAt K "_law_unit" zg8 f fd)
  (d10:∃f fd,DefAt K "_law_wholes" zen f fd)
  (d11:∃f fd,DefAt K "_law_cover_made" zci f fd)
  (d12:∃f fd,DefAt K "_law_touch_made" zcE f fd)
  (d13:∃f fd,DefAt K "_law_between" zeR f fd)
  (d14:∃f fd,DefAt K "_law_lengths" zcB f fd)
  (d15:∃f fd,DefAt K "_law_line_lengths" zdu f fd)
  (d16:∃f fd,DefAt K "_law_lengths_made" zcj f fd)
  (d17:∃f fd,DefAt K "_law_above" zgi f fd)
  (d18:∃f fd,DefAt K "_law_putting_made" zbX f fd)
  (d19:∃f fd,DefAt K "_law_sack_made" zcu f fd)
  (d20:∃f fd,DefAt K "_law_made" zg9 f fd)
  (d21:∃f fd,DefAt K "refuse_where" zeB f fd)
  (d22:∃f fd,DefAt K "refuse_word_count" zdc f fd)
  (d23:∃f fd,DefAt K "is_number" zeU f fd)
  (d24:∃f fd,DefAt K "number_in" zgb f fd)
  (d25:∃f fd,DefAt K "common_factor" zec f fd)
  (d26:∃f fd,DefAt K "amount_in" ze2 f fd)
  (d27:∃f fd,DefAt K "set_in" zjL f fd)
  (d28:∃f fd,DefAt K "common_multiple" zdA f fd)
  (d29:∃f fd,DefAt K "unit_of" zia f fd)
  (d30:∃f fd,DefAt K "by_the_unit" zfd f fd)
  (d31:∃f fd,DefAt K "read_cover" zdQ f fd)
  (d32:∃f fd,DefAt K "line_in" zio f fd)
  (d33:∃f fd,DefAt K "all_by_the_unit" zcY f fd)
  (d34:∃f fd,DefAt K "read_touch" zes f fd)
  (d35:∃f fd,DefAt K "table_in" zfI f fd)
  (d36:∃f fd,DefAt K "read_lengths" zdN f fd)
  (d37:∃f fd,DefAt K "read_round" zft f fd)
  (d38:∃f fd,DefAt K "read_places" zfa f fd)
  (d39:∃f fd,DefAt K "amount_above_nought" zcT f fd)
  (d40:∃f fd,DefAt K "read_benches" zdO f fd)
  (d41:∃f fd,DefAt K "read_bins" ze5 f fd)
  (d42:∃f fd,DefAt K "thing_in" zhe f fd)
  (d43:∃f fd,DefAt K "read_sack" zeS f fd)
  (d44:∃f fd,DefAt K "read_rows" zf4 f fd)
  (d45:∃f fd,DefAt K "refuse_missing" zdV f fd)
  (d46:∃f fd,DefAt K "look_at" zin f fd)
  (d47:∃f fd,DefAt K "refuse_too_great" zdt f fd)
  (d48:∃f fd,DefAt K "refuse_given" zeA f fd)
  (d49:∃f fd,DefAt K "read" zmm f fd)
  (d50:∃f fd,DefAt K "_law_alike" zf6 f fd)
  {fL:Addr} {oc:Value} {od an:Option Addr} {osl:Array (Option Value)} {kV doc pm cdv ct:Value} (aL:PySem.W.nsIn K mainGlobals "law"=some (some (.ref fL)))
  (lL:K.lookup fL=some ⟨oc,od,.func (PySem.W.fnOf "law" "law" (zgd zjV) (zfF zjV) (zas zjV) .none kV doc pm an cdv ct),osl⟩) (cL:PySem.W.codeIn K cdv "law"=true) (kL:PySem.W.keepIn K (.ref fL)=true)
  (z0:PySem.W.nsIn K mainGlobals "len"=some none)
  (z1:PySem.W.nsIn K mainGlobals "abs"=some none)
  (z2:PySem.W.nsIn K mainGlobals "isinstance"=some none)
  (z3:PySem.W.nsIn K mainGlobals "list"=some none)
  (z4:PySem.W.nsIn K mainGlobals "int"=some none)
  (z5:PySem.W.nsIn K mainGlobals "bool"=some none)
  (z6:PySem.W.nsIn K mainGlobals "tuple"=some none)
  (z7:PySem.W.nsIn K mainGlobals "str"=some none)
  (z8:PySem.W.nsIn K mainGlobals "range"=some none)
  (z9:PySem.W.nsIn K mainGlobals "enumerate"=some none)
  (z10:PySem.W.nsIn K mainGlobals "max"=some none)
  (z11:PySem.W.nsIn K mainGlobals "min"=some none)
  (z12:PySem.W.nsIn K mainGlobals "zip"=some none)
  (z13:PySem.W.nsIn K mainGlobals "all"=some none)
  (z14:PySem.W.nsIn K mainGlobals "any"=some none)
  {tkFIGURES tkMOST_FIGURES tkMOST_BOTTOM tkMOST_THINGS tkMOST_LINES tkMOST_PLACES tkMOST_BENCHES:Tok}
  (gv_FIGURES:PySem.W.nsIn K mainGlobals "FIGURES"=some (some (.str "0123456789" tkFIGURES)))
  (gv_MOST_FIGURES:PySem.W.nsIn K mainGlobals "MOST_FIGURES"=some (some (.int 12 tkMOST_FIGURES)))
  (gv_MOST_BOTTOM:PySem.W.nsIn K mainGlobals "MOST_BOTTOM"=some (some (.int 12 tkMOST_BOTTOM)))
  (gv_MOST_THINGS:PySem.W.nsIn K mainGlobals "MOST_THINGS"=some (some (.int 40 tkMOST_THINGS)))
  (gv_MOST_LINES:PySem.W.nsIn K mainGlobals "MOST_LINES"=some (some (.int 80 tkMOST_LINES)))
  (gv_MOST_PLACES:PySem.W.nsIn K mainGlobals "MOST_PLACES"=some (some (.int 12 tkMOST_PLACES)))
  (gv_MOST_BENCHES:PySem.W.nsIn K mainGlobals "MOST_BENCHES"=some (some (.int 20 tkMOST_BENCHES)))
  : ∃fd:FuncData,(∀(s:Shared) (v:Value),BindsTo s fd ⟨[v],[]⟩ [("_law_script",v)])∧∀base:Heap,K.In base→base.Ns mainGlobals mg→FnOk l.prog w K mg base CX0 10 fa fd ["_law_script"] (zl9 K):=by
 have e:=hfa.symm.trans (PySem.W.mg_of X G aL)
 cases e
 have T:Txt K mg:=⟨PySem.W.mg_none_of X G z0,PySem.W.mg_none_of X G z1,PySem.W.mg_none_of X G z2,PySem.W.mg_none_of X G z3,PySem.W.mg_none_of X G z4,PySem.W.mg_none_of X G z5,PySem.W.mg_none_of X G z6,PySem.W.mg_none_of X G z7,PySem.W.mg_none_of X G z8,PySem.W.mg_none_of X G z9,PySem.W.mg_none_of X G z10,PySem.W.mg_none_of X G z11,PySem.W.mg_none_of X G z12,PySem.W.mg_none_of X G z13,PySem.W.mg_none_of X G z14,⟨_,PySem.W.mg_of X G gv_FIGURES⟩,⟨_,PySem.W.mg_of X G gv_MOST_FIGURES⟩,⟨_,PySem.W.mg_of X G gv_MOST_BOTTOM⟩,⟨_,PySem.W.mg_of X G gv_MOST_THINGS⟩,⟨_,PySem.W.mg_of X G gv_MOST_LINES⟩,⟨_,PySem.W.mg_of X G gv_MOST_PLACES⟩,⟨_,PySem.W.mg_of X G gv_MOST_BENCHES⟩⟩
 obtain⟨f0,g0,D0⟩:=d0
 obtain⟨f1,g1,D1⟩:=d1
 obtain⟨f2,g2,D2⟩:=d2
 obtain⟨f3,g3,D3⟩:=d3
 obtain⟨f4,g4,D4⟩:=d4
 obtain⟨f5,g5,D5⟩:=d5
 obtain⟨f6,g6,D6⟩:=d6
 obtain⟨f7,g7,D7⟩:=d7
 obtain⟨f8,g8,D8⟩:=d8
 obtain⟨f9,g9,D9⟩:=d9
 obtain⟨f10,g10,D10⟩:=d10
 obtain⟨f11,g11,D11⟩:=d11
 obtain⟨f12,g12,D12⟩:=d12
 obtain⟨f13,g13,D13⟩:=d13
 obtain⟨f14,g14,D14⟩:=d14
 obtain⟨f15,g15,D15⟩:=d15
 obtain⟨f16,g16,D16⟩:=d16
 obtain⟨f17,g17,D17⟩:=d17
 obtain⟨f18,g18,D18⟩:=d18
 obtain⟨f19,g19,D19⟩:=d19
 obtain⟨f20,g20,D20⟩:=d20
 obtain⟨f21,g21,D21⟩:=d21
 obtain⟨f22,g22,D22⟩:=d22
 obtain⟨f23,g23,D23⟩:=d23
 obtain⟨f24,g24,D24⟩:=d24
 obtain⟨f25,g25,D25⟩:=d25
 obtain⟨f26,g26,D26⟩:=d26
 obtain⟨f27,g27,D27⟩:=d27
 obtain⟨f28,g28,D28⟩:=d28
 obtain⟨f29,g29,D29⟩:=d29
 obtain⟨f30,g30,D30⟩:=d30
 obtain⟨f31,g31,D31⟩:=d31
 obtain⟨f32,g32,D32⟩:=d32
 obtain⟨f33,g33,D33⟩:=d33
 obtain⟨f34,g34,D34⟩:=d34
 obtain⟨f35,g35,D35⟩:=d35
 obtain⟨f36,g36,D36⟩:=d36
 obtain⟨f37,g37,D37⟩:=d37
 obtain⟨f38,g38,D38⟩:=d38
 obtain⟨f39,g39,D39⟩:=d39
 obtain⟨f40,g40,D40⟩:=d40
 obtain⟨f41,g41,D41⟩:=d41
 obtain⟨f42,g42,D42⟩:=d42
 obtain⟨f43,g43,D43⟩:=d43
 obtain⟨f44,g44,D44⟩:=d44
 obtain⟨f45,g45,D45⟩:=d45
 obtain⟨f46,g46,D46⟩:=d46
 obtain⟨f47,g47,D47⟩:=d47
 obtain⟨f48,g48,D48⟩:=d48
 obtain⟨f49,g49,D49⟩:=d49
 obtain⟨f50,g50,D50⟩:=d50
 have FL:=zpM (st:=zjV) lL cL kL
 refine⟨PySem.W.fnOf "law" "law" (zgd zjV) (zfF zjV) (zas zjV) .none kV doc pm an cdv ct,fun s v=>.of_eq rfl,fun base _ _=>?_⟩
 have G_law_cell_at:Has l.prog w K mg base CX0 1 "_law_cell_at" ["_law_script","_law_k"] (spM (KX K) XO0 zaI):=D0.has X G (ziK D0.fn T  ) (D0.fn.binds fun _ _ _ _ _ _ us hl=>match us,hl with|[_,_],_=>rfl)
 have G_law_number:Has l.prog w K mg base CX0 1 "_law_number" ["_law_cell","_law_k"] (spM (KX K) XO0 zaK):=D1.has X G (zjF D1.fn T  ) (D1.fn.binds fun _ _ _ _ _ _ us hl=>match us,hl with|[_,_],_=>rfl)
 have G_law_bit:Has l.prog w K mg base CX0 1 "_law_bit" ["_law_number_here","_law_place"] (spM (KX K) XO0 zdS):=D2.has X G (zmV D2.fn T  ) (D2.fn.binds fun _ _ _ _ _ _ us hl=>match us,hl with|[_,_],_=>rfl)
 have G_law_has:Has l.prog w K mg base CX0 2 "_law_has" ["_law_cell","_law_k","_law_thing"] (spM (KX K) XO0 zek):=D3.has X G (zm9 D3.fn T  G_law_number G_law_bit) (D3.fn.binds fun _ _ _ _ _ _ us hl=>match us,hl with|[_,_,_],_=>rfl)
 have G_law_amount:Has l.prog w K mg base CX0 2 "_law_amount" ["_law_cell","_law_k"] (spM (KX K) XO0 zcw):=D4.has X G (zjU D4.fn T  G_law_number) (D4.fn.binds fun _ _ _ _ _ _ us hl=>match us,hl with|[_,_],_=>rfl)
 have G_law_sets:Has l.prog w K mg base CX0 3 "_law_sets" ["_law_cells","_law_many"] (spO (KX K) XO0 zeL):=D5.has X G (zlP D5.fn T  G_law_has G_law_amount) (D5.fn.binds fun _ _ _ _ _ _ us hl=>match us,hl with|[_,_],_=>rfl)
 have G_law_divisor:Has l.prog w K mg base CX0 1 "_law_divisor" ["_law_one","_law_other"] (spM (KX K) XO0 zbB):=D6.has X G (ziO D6.fn T  ) (D6.fn.binds fun _ _ _ _ _ _ us hl=>match us,hl with|[_,_],_=>rfl)
 have G_law_parts:Has l.prog w K mg base CX0 2 "_law_parts" ["_law_cell","_law_k"] (spM (KX K) XO0 zbe):=D7.has X G (zk9 D7.fn T  G_law_number G_law_divisor) (D7.fn.binds fun _ _ _ _ _ _ us hl=>match us,hl with|[_,_],_=>rfl)
 have G_law_written:Has l.prog w K mg base CX0 1 "_law_written" ["_law_one"] (spM (KX K) XO0 zaF):=D8.has X G (ziT D8.fn T  ) (D8.fn.binds fun _ _ _ _ _ _ us hl=>match us,hl with|[_],_=>rfl)
 have G_law_unit:Has l.prog w K mg base CX0 2 "_law_unit" ["_law_amounts"] (spM (KX K) XO0 zbI):=D9.has X G (zlz D9.fn T  G_law_divisor) (D9.fn.binds fun _ _ _ _ _ _ us hl=>match us,hl with|[_],_=>rfl)
 have G_law_wholes:Has l.prog w K mg base CX0 1 "_law_wholes" ["_law_amounts","_law_unit_here"] (spO (KX K) XO0 zaL):=D10.has X G (zjB D10.fn T  ) (D10.fn.binds fun _ _ _ _ _ _ us hl=>match us,hl with|[_,_],_=>rfl)
 have G_law_cover_made:Has l.prog w K mg base CX0 4 "_law_cover_made" ["_law_cells","_law_cell"] (spO (KX K) XO0 zcg):=D11.has X G (zhc D11.fn T  G_law_cell_at G_law_sets G_law_parts G_law_written G_law_unit G_law_wholes) (D11.fn.binds fun _ _ _ _ _ _ us hl=>match us,hl with|[_,_],_=>rfl)
 have G_law_touch_made:Has l.prog w K mg base CX0 3 "_law_touch_made" ["_law_cells","_law_cell"] (spO (KX K) XO0 zch):=D12.has X G (zgW D12.fn T  G_law_cell_at G_law_number G_law_parts G_law_written G_law_unit G_law_wholes) (D12.fn.binds fun _ _ _ _ _ _ us hl=>match us,hl with|[_,_],_=>rfl)
 have G_law_between:Has l.prog w K mg base CX0 1 "_law_between" ["_law_spots","_law_one","_law_other","_law_least"] (spM (KX K) XO0 zdx):=D13.has X G (ziL D13.fn T  ) (D13.fn.binds fun _ _ _ _ _ _ us hl=>match us,hl with|[_,_,_,_],_=>rfl)
 have G_law_lengths:Has l.prog w K mg base CX0 2 "_law_lengths" ["_law_cells","_law_many","_law_way"] (spO (KX K) XO0 zcx):=D14.has X G (ziY D14.fn T  G_law_cell_at G_law_number G_law_between) (D14.fn.binds fun _ _ _ _ _ _ us hl=>match us,hl with|[_,_,_],_=>rfl)
 have G_law_line_lengths:Has l.prog w K mg base CX0 3 "_law_line_lengths" ["_law_cells","_law_many","_law_cell"] (spO (KX K) XO0 zbY):=D15.has X G (zgj D15.fn T  G_law_divisor G_law_lengths) (D15.fn.binds fun _ _ _ _ _ _ us hl=>match us,hl with|[_,_,_],_=>rfl)
 have G_law_lengths_made:Has l.prog w K mg base CX0 4 "_law_lengths_made" ["_law_cells","_law_cell","_law_word"] (spO (KX K) XO0 zbm):=D16.has X G (zf1 D16.fn T  G_law_written G_law_unit G_law_wholes G_law_line_lengths) (D16.fn.binds fun _ _ _ _ _ _ us hl=>match us,hl with|[_,_,_],_=>rfl)
 have G_law_above:Has l.prog w K mg base CX0 1 "_law_above" ["_law_one"] (spM (KX K) XO0 zcl):=D17.has X G (zko D17.fn T  ) (D17.fn.binds fun _ _ _ _ _ _ us hl=>match us,hl with|[_],_=>rfl)
 have G_law_putting_made:Has l.prog w K mg base CX0 3 "_law_putting_made" ["_law_cells","_law_cell","_law_word"] (spO (KX K) XO0 zbn):=D18.has X G (zf2 D18.fn T  G_law_parts G_law_written G_law_unit G_law_wholes G_law_above) (D18.fn.binds fun _ _ _ _ _ _ us hl=>match us,hl with|[_,_,_],_=>rfl)
 have G_law_sack_made:Has l.prog w K mg base CX0 3 "_law_sack_made" ["_law_cells","_law_cell"] (spO (KX K) XO0 zct):=D19.has X G (zhE D19.fn T  G_law_parts G_law_written G_law_unit G_law_wholes G_law_above) (D19.fn.binds fun _ _ _ _ _ _ us hl=>match us,hl with|[_,_],_=>rfl)
 have G_law_made:Has l.prog w K mg base CX0 5 "_law_made" ["_law_kind","_law_cells","_law_cell"] (spO (KX K) XO0 zb5):=D20.has X G (zlu D20.fn T  G_law_cover_made G_law_touch_made G_law_lengths_made G_law_putting_made G_law_sack_made) (D20.fn.binds fun _ _ _ _ _ _ us hl=>match us,hl with|[_,_,_],_=>rfl)
 have G_refuse_where:Has l.prog w K mg base CX0 1 "refuse_where" ["wrong","line"] (spM (KX K) XO0 zaq):=D21.has X G (zhW D21.fn T  ) (D21.fn.binds fun _ _ _ _ _ _ us hl=>match us,hl with|[_,_],_=>rfl)
 have G_refuse_word_count:Has l.prog w K mg base CX0 2 "refuse_word_count" ["words","least","most","line"] (spM (KX K) XO0 zav):=D22.has X G (zfM D22.fn T  G_refuse_where) (D22.fn.binds fun _ _ _ _ _ _ us hl=>match us,hl with|[_,_,_,_],_=>rfl)
 have G_is_number:Has l.prog w K mg base CX0 1 "is_number" ["word"] (spM (KX K) XO0 zcm):=D23.has X G (zkq D23.fn T  ) (D23.fn.binds fun _ _ _ _ _ _ us hl=>match us,hl with|[_],_=>rfl)
 have G_number_in:Has l.prog w K mg base CX0 2 "number_in" ["word","least","most","line"] (spM (KX K) XO0 zbu):=D24.has X G (zk1 D24.fn T  G_refuse_where G_is_number) (D24.fn.binds fun _ _ _ _ _ _ us hl=>match us,hl with|[_,_,_,_],_=>rfl)
 have G_common_factor:Has l.prog w K mg base CX0 1 "common_factor" ["one","other"] (spM (KX K) XO0 zbQ):=D25.has X G (zhC D25.fn T  ) (D25.fn.binds fun _ _ _ _ _ _ us hl=>match us,hl with|[_,_],_=>rfl)
 have G_amount_in:Has l.prog w K mg base CX0 2 "amount_in" ["word","line"] (spM (KX K) XO0 zbt):=D26.has X G (zkt D26.fn T  G_refuse_where G_is_number G_common_factor) (D26.fn.binds fun _ _ _ _ _ _ us hl=>match us,hl with|[_,_],_=>rfl)
 have G_set_in:Has l.prog w K mg base CX0 3 "set_in" ["words","many","line"] (spM (KX K) XO0 ze1):=D27.has X G (zoi D27.fn T  G_refuse_where G_number_in G_amount_in) (D27.fn.binds fun _ _ _ _ _ _ us hl=>match us,hl with|[_,_,_],_=>rfl)
 have G_common_multiple:Has l.prog w K mg base CX0 2 "common_multiple" ["one","other"] (spM (KX K) XO0 zb4):=D28.has X G (zgw D28.fn T  G_common_factor) (D28.fn.binds fun _ _ _ _ _ _ us hl=>match us,hl with|[_,_],_=>rfl)
 have G_unit_of:Has l.prog w K mg base CX0 3 "unit_of" ["amounts"] (spM (KX K) XO0 zb7):=D29.has X G (zmM D29.fn T  G_common_multiple) (D29.fn.binds fun _ _ _ _ _ _ us hl=>match us,hl with|[_],_=>rfl)
 have G_by_the_unit:Has l.prog w K mg base CX0 1 "by_the_unit" ["amount","unit"] (spM (KX K) XO0 zbr):=D30.has X G (ziW D30.fn T  ) (D30.fn.binds fun _ _ _ _ _ _ us hl=>match us,hl with|[_,_],_=>rfl)
 have G_read_cover:Has l.prog w K mg base CX0 4 "read_cover" ["rows"] (spM (KX K) XO0 zdi):=D31.has X G (zj1 D31.fn T  G_refuse_where G_refuse_word_count G_number_in G_set_in G_unit_of G_by_the_unit) (D31.fn.binds fun _ _ _ _ _ _ us hl=>match us,hl with|[_],_=>rfl)
 have G_line_in:Has l.prog w K mg base CX0 3 "line_in" ["words","points","line"] (spM (KX K) XO0 zeF):=D32.has X G (zmO D32.fn T  G_refuse_where G_refuse_word_count G_number_in) (D32.fn.binds fun _ _ _ _ _ _ us hl=>match us,hl with|[_,_,_],_=>rfl)
 have G_all_by_the_unit:Has l.prog w K mg base CX0 2 "all_by_the_unit" ["amounts","unit"] (spO (KX K) XO0 za6):=D33.has X G (zgB D33.fn T  G_by_the_unit) (D33.fn.binds fun _ _ _ _ _ _ us hl=>match us,hl with|[_,_],_=>rfl)
 have G_read_touch:Has l.prog w K mg base CX0 4 "read_touch" ["rows"] (spM (KX K) XO0 zdj):=D34.has X G (zjK D34.fn T  G_refuse_where G_refuse_word_count G_amount_in G_unit_of G_line_in G_all_by_the_unit) (D34.fn.binds fun _ _ _ _ _ _ us hl=>match us,hl with|[_],_=>rfl)
 have G_table_in:Has l.prog w K mg base CX0 3 "table_in" ["rows"] (spO (KX K) XO0 zeJ):=D35.has X G (zlQ D35.fn T  G_refuse_where G_amount_in) (D35.fn.binds fun _ _ _ _ _ _ us hl=>match us,hl with|[_],_=>rfl)
 have G_read_lengths:Has l.prog w K mg base CX0 4 "read_lengths" ["rows"] (spM (KX K) XO0 zco):=D36.has X G (zhV D36.fn T  G_unit_of G_all_by_the_unit G_table_in) (D36.fn.binds fun _ _ _ _ _ _ us hl=>match us,hl with|[_],_=>rfl)
 have G_read_round:Has l.prog w K mg base CX0 5 "read_round" ["rows"] (spM (KX K) XO0 zdg):=D37.has X G (zjr D37.fn T  G_refuse_word_count G_read_lengths) (D37.fn.binds fun _ _ _ _ _ _ us hl=>match us,hl with|[_],_=>rfl)
 have G_read_places:Has l.prog w K mg base CX0 5 "read_places" ["rows"] (spM (KX K) XO0 zcX):=D38.has X G (ziU D38.fn T  G_refuse_where G_refuse_word_count G_number_in G_read_lengths) (D38.fn.binds fun _ _ _ _ _ _ us hl=>match us,hl with|[_],_=>rfl)
 have G_amount_above_nought:Has l.prog w K mg base CX0 3 "amount_above_nought" ["word","line"] (spM (KX K) XO0 zaU):=D39.has X G (zfp D39.fn T  G_refuse_where G_amount_in) (D39.fn.binds fun _ _ _ _ _ _ us hl=>match us,hl with|[_,_],_=>rfl)
 have G_read_benches:Has l.prog w K mg base CX0 4 "read_benches" ["rows"] (spM (KX K) XO0 zcF):=D40.has X G (ziG D40.fn T  G_refuse_where G_refuse_word_count G_number_in G_unit_of G_all_by_the_unit G_amount_above_nought) (D40.fn.binds fun _ _ _ _ _ _ us hl=>match us,hl with|[_],_=>rfl)
 have G_read_bins:Has l.prog w K mg base CX0 4 "read_bins" ["rows"] (spM (KX K) XO0 zdB):=D41.has X G (zk6 D41.fn T  G_refuse_where G_refuse_word_count G_unit_of G_all_by_the_unit G_amount_above_nought) (D41.fn.binds fun _ _ _ _ _ _ us hl=>match us,hl with|[_],_=>rfl)
 have G_thing_in:Has l.prog w K mg base CX0 4 "thing_in" ["words","line"] (spM (KX K) XO0 zdH):=D42.has X G (zlm D42.fn T  G_refuse_word_count G_amount_in G_amount_above_nought) (D42.fn.binds fun _ _ _ _ _ _ us hl=>match us,hl with|[_,_],_=>rfl)
 have G_read_sack:Has l.prog w K mg base CX0 5 "read_sack" ["rows"] (spM (KX K) XO0 zdG):=D43.has X G (zlc D43.fn T  G_refuse_where G_refuse_word_count G_amount_in G_unit_of G_by_the_unit G_thing_in) (D43.fn.binds fun _ _ _ _ _ _ us hl=>match us,hl with|[_],_=>rfl)
 have G_read_rows:Has l.prog w K mg base CX0 6 "read_rows" ["kind","rows"] (spM (KX K) XO0 za1):=D44.has X G (zkl D44.fn T  G_read_cover G_read_touch G_read_round G_read_places G_read_benches G_read_bins G_read_sack) (D44.fn.binds fun _ _ _ _ _ _ us hl=>match us,hl with|[_,_],_=>rfl)
 have G_refuse_missing:Has l.prog w K mg base CX0 1 "refuse_missing" ["many","sets"] (spM (KX K) XO0 zb0):=D45.has X G (zg2 D45.fn T  ) (D45.fn.binds fun _ _ _ _ _ _ us hl=>match us,hl with|[_,_],_=>rfl)
 have G_look_at:Has l.prog w K mg base CX0 1 "look_at" ["lengths"] (spM (KX K) XO0 zdo):=D46.has X G (zm0 D46.fn T  ) (D46.fn.binds fun _ _ _ _ _ _ us hl=>match us,hl with|[_],_=>rfl)
 have G_refuse_too_great:Has l.prog w K mg base CX0 1 "refuse_too_great" ["sizes","room"] (spM (KX K) XO0 zbW):=D47.has X G (zf0 D47.fn T  ) (D47.fn.binds fun _ _ _ _ _ _ us hl=>match us,hl with|[_,_],_=>rfl)
 have G_refuse_given:Has l.prog w K mg base CX0 2 "refuse_given" ["kind","given"] (spM (KX K) XO0 zaH):=D48.has X G (ziA D48.fn T  G_refuse_missing G_look_at G_refuse_too_great) (D48.fn.binds fun _ _ _ _ _ _ us hl=>match us,hl with|[_,_],_=>rfl)
 have G_read:Has l.prog w K mg base CX0 7 "read" ["text"] (spM (KX K) XO0 zfZ):=D49.has X G (zqE D49.fn T  G_read_rows G_refuse_given) (D49.fn.binds fun _ _ _ _ _ _ us hl=>match us,hl with|[_],_=>rfl)
 have key_law_alike:∀n,FnOk l.prog w K mg base CX0 (n+1) f50 g50 ["_law_found","_law_due"] (spM (KX K) XO0 (zbK n)):=by
  intro n
  induction n with
  | zero=>exact⟨fun vs H Q E h=>by obtain⟨_,_,_,_,z⟩:=h;exact (show False from z).elim,fun A outer s H args us vs Q E hr e b v h=>by obtain⟨_,_,_,_,z⟩:=h;exact (show False from z).elim⟩
  | succ n ih=>exact zle D50.fn T (D50.has X G ih (D50.fn.binds fun _ _ _ _ _ _ us hl=>match us,hl with|[_,_],_=>rfl))
 have G_law_alike:Has l.prog w K mg base CX0 9 "_law_alike" ["_law_found","_law_due"] (spM (KX K) XO0 zbo):=D50.has X G (key_law_alike 8) (D50.fn.binds fun _ _ _ _ _ _ us hl=>match us,hl with|[_,_],_=>rfl)
 exact zrU FL T G_law_cell_at G_law_number G_law_made G_read G_law_alike
theorem walk {l:PySem.W.OpenLaw} {q:Program} {loose:List Str} {XP:(Str→Option Value)→Heap→Prop} {YP:World→Heap→Prop} {d:DefRec} {K:Params→PySem.W.Frag} (hn:l.most=some 63) (hdf:d.params.defaults=[])
  (hY:∀(w:World) (h:Heap),YP w h→(K w.params).In h) (hT:∀w:World,zoc (K w.params)=none)
  (F:∀(w:World) (mg:Str→Option Value) (fa:Addr) (h:Heap),(K w.params).In h→h.Ns mainGlobals mg→mg d.name=some (.ref fa) →
   ∃fd:FuncData,(∀(s:Shared) (u:Value),BindsTo s fd ⟨[u],[]⟩ [("_law_script",u)])∧∀base:Heap,(K w.params).In base→base.Ns mainGlobals mg→FnOk l.prog w (K w.params) mg base CX0 10 fa fd ["_law_script"] (zl9 (K w.params))) :
  PySem.W.WalkO q loose XP YP l.row.toRowW d [] (fun f vs=>PySem.call f vs):=
 L2.walk_of (n:=63) (k:=10) (x:="_law_script") (CX:=fun _=>CX0) (sp:=fun w=>zl9 (K w.params)) hn (by decide) hdf ⟨rfl,by decide,by decide⟩ hY hT F (fun _ _ a ns hl _ hS=>⟨a,ns,rfl,hS,hl,fun _=>rfl⟩) fun _ _ _ _ _ z=>z
end My
def PySem.W.Fast.tw9068093023107145529:Nat:=0
def PySem.W.Fast.tw1168933109670832098:Nat:=0
def PySem.W.Fast.tw6528563132888619944:Nat:=0
def PySem.W.Fast.tw13867071665993916359:Nat:=0
def PySem.W.Fast.tw5188300500345337176:Nat:=0
def PySem.W.Fast.tw17601237892821754667:Nat:=0
def PySem.W.Fast.tw2099994470703823842:Nat:=0
def PySem.W.Fast.tw12007807949984521305:Nat:=0
def PySem.W.Fast.tw13656457511757579047:Nat:=0
def PySem.W.Fast.tw4273261903219850296:Nat:=0
def PySem.W.Fast.tw8892763311468250434:Nat:=0
def PySem.W.Fast.tw17214766193025527213:Nat:=0
def PySem.W.Fast.tw9965352451965572705:Nat:=0
def PySem.W.Fast.tw13208476192681862319:Nat:=0
def PySem.W.Fast.tw7540284565345803948:Nat:=0
def PySem.W.Fast.tw18331385648203200215:Nat:=0
def PySem.W.Fast.tw10911511612674912431:Nat:=0
open PySem PySem.W PyProof.Rows
set_option maxRecDepth 100000 in
set_option maxHeartbeats 0 in
theorem PySem.Challenge.cw_goodenough_k52_texts_read_holds : PySem.Challenge.rw_goodenough_k52_texts_read.Holds := by
 w_on;o_law;k_head;(case hw=>w_witness2)
 k_fill
 refine My.walk (l:=PySem.Challenge.rw_goodenough_k52_texts_read) rfl rfl (fun w h Y=>by first|exact PySem.W.kIn_of Y|exact PySem.W.km_in_of Y) ?tab ?F
 (case tab=>intro w;kernel_rfl)
 case F=>
  intro w mg fa h KX G hmg
  refine' My.all_mk KX G hmg (L2.defAt_mk ?a0 ?l0 ?c0 ?k0) (L2.defAt_mk ?a1 ?l1 ?c1 ?k1) (L2.defAt_mk ?a2 ?l2 ?c2 ?k2) (L2.defAt_mk ?a3 ?l3 ?c3 ?k3) (L2.defAt_mk ?a4 ?l4 ?c4 ?k4) (L2.defAt_mk ?a5 ?l5 ?c5 ?k5) (L2.defAt_mk ?a6 ?l6 ?c6 ?k6) (L2.defAt_mk ?a7 ?l7 ?c7 ?k7) (L2.defAt_mk ?a8 ?l8 ?c8 ?k8) (L2.defAt_mk ?a9 ?l9 ?c9 ?k9) (L2.defAt_mk ?a10 ?l10 ?c10 ?k10) (L2.defAt_mk ?a11 ?l11 ?c11 ?k11) (L2.defAt_mk ?a12 ?l12 ?c12 ?k12) (L2.defAt_mk ?a13 ?l13 ?c13 ?k13) (L2.defAt_mk ?a14 ?l14 ?c14 ?k14) (L2.defAt_mk ?a15 ?l15 ?c15 ?k15) (L2.defAt_mk ?a16 ?l16 ?c16 ?k16) (L2.defAt_mk ?a17 ?l17 ?c17 ?k17) (L2.defAt_mk ?a18 ?l18 ?c18 ?k18) (L2.defAt_mk ?a19 ?l19 ?c19 ?k19) (L2.defAt_mk ?a20 ?l20 ?c20 ?k20) (L2.defAt_mk ?a21 ?l21 ?c21 ?k21) (L2.defAt_mk ?a22 ?l22 ?c22 ?k22) (L2.defAt_mk ?a23 ?l23 ?c23 ?k23) (L2.defAt_mk ?a24 ?l24 ?c24 ?k24) (L2.defAt_mk ?a25 ?l25 ?c25 ?k25) (L2.defAt_mk ?a26 ?l26 ?c26 ?k26) (L2.defAt_mk ?a27 ?l27 ?c27 ?k27) (L2.defAt_mk ?a28 ?l28 ?c28 ?k28) (L2.defAt_mk ?a29 ?l29 ?c29 ?k29) (L2.defAt_mk ?a30 ?l30 ?c30 ?k30) (L2.defAt_mk ?a31 ?l31 ?c31 ?k31) (L2.defAt_mk ?a32 ?l32 ?c32 ?k32) (L2.defAt_mk ?a33 ?l33 ?c33 ?k33) (L2.defAt_mk ?a34 ?l34 ?c34 ?k34) (L2.defAt_mk ?a35 ?l35 ?c35 ?k35) (L2.defAt_mk ?a36 ?l36 ?c36 ?k36) (L2.defAt_mk ?a37 ?l37 ?c37 ?k37) (L2.defAt_mk ?a38 ?l38 ?c38 ?k38) (L2.defAt_mk ?a39 ?l39 ?c39 ?k39) (L2.defAt_mk ?a40 ?l40 ?c40 ?k40) (L2.defAt_mk ?a41 ?l41 ?c41 ?k41) (L2.defAt_mk ?a42 ?l42 ?c42 ?k42) (L2.defAt_mk ?a43 ?l43 ?c43 ?k43) (L2.defAt_mk ?a44 ?l44 ?c44 ?k44) (L2.defAt_mk ?a45 ?l45 ?c45 ?k45) (L2.defAt_mk ?a46 ?l46 ?c46 ?k46) (L2.defAt_mk ?a47 ?l47 ?c47 ?k47) (L2.defAt_mk ?a48 ?l48 ?c48 ?k48) (L2.defAt_mk ?a49 ?l49 ?c49 ?k49) (L2.defAt_mk ?a50 ?l50 ?c50 ?k50) ?aL ?lL ?cL ?kL ?z0 ?z1 ?z2 ?z3 ?z4 ?z5 ?z6 ?z7 ?z8 ?z9 ?z10 ?z11 ?z12 ?z13 ?z14 ?gv_FIGURES ?gv_MOST_FIGURES ?gv_MOST_BOTTOM ?gv_MOST_THINGS ?gv_MOST_LINES ?gv_MOST_PLACES ?gv_MOST_BENCHES
  (case a0=>k_is);(case l0=>k_is);(case c0=>k_is);(case k0=>k_is)
  (case a1=>k_is);(case l1=>k_is);(case c1=>k_is);(case k1=>k_is)
  (case a2=>k_is);(case l2=>k_is);(case c2=>k_is);(case k2=>k_is)
  (case a3=>k_is);(case l3=>k_is);(case c3=>k_is);(case k3=>k_is)
  (case a4=>k_is);(case l4=>k_is);(case c4=>k_is);(case k4=>k_is)
  (case a5=>k_is);(case l5=>k_is);(case c5=>k_is);(case k5=>k_is)
  (case a6=>k_is);(case l6=>k_is);(case c6=>k_is);(case k6=>k_is)
  (case a7=>k_is);(case l7=>k_is);(case c7=>k_is);(case k7=>k_is)
  (case a8=>k_is);(case l8=>k_is);(case c8=>k_is);(case k8=>k_is)
  (case a9=>k_is);(case l9=>k_is);(case c9=>k_is);(case k9=>k_is)
  (case a10=>k_is);(case l10=>k_is);(case c10=>k_is);(case k10=>k_is)
  (case a11=>k_is);(case l11=>k_is);(case c11=>k_is);(case k11=>k_is)
  (case a12=>k_is);(case l12=>k_is);(case c12=>k_is);(case k12=>k_is)
  (case a13=>k_is);(case l13=>k_is);(case c13=>k_is);(case k13=>k_is)
  (case a14=>k_is);(case l14=>k_is);(case c14=>k_is);(case k14=>k_is)
  (case a15=>k_is);(case l15=>k_is);(case c15=>k_is);(case k15=>k_is)
  (case a16=>k_is);(case l16=>k_is);(case c16=>k_is);(case k16=>k_is)
  (case a17=>k_is);(case l17=>k_is);(case c17=>k_is);(case k17=>k_is)
  (case a18=>k_is);(case l18=>k_is);(case c18=>k_is);(case k18=>k_is)
  (case a19=>k_is);(case l19=>k_is);(case c19=>k_is);(case k19=>k_is)
  (case a20=>k_is);(case l20=>k_is);(case c20=>k_is);(case k20=>k_is)
  (case a21=>k_is);(case l21=>k_is);(case c21=>k_is);(case k21=>k_is)
  (case a22=>k_is);(case l22=>k_is);(case c22=>k_is);(case k22=>k_is)
  (case a23=>k_is);(case l23=>k_is);(case c23=>k_is);(case k23=>k_is)
  (case a24=>k_is);(case l24=>k_is);(case c24=>k_is);(case k24=>k_is)
  (case a25=>k_is);(case l25=>k_is);(case c25=>k_is);(case k25=>k_is)
  (case a26=>k_is);(case l26=>k_is);(case c26=>k_is);(case k26=>k_is)
  (case a27=>k_is);(case l27=>k_is);(case c27=>k_is);(case k27=>k_is)
  (case a28=>k_is);(case l28=>k_is);(case c28=>k_is);(case k28=>k_is)
  (case a29=>k_is);(case l29=>k_is);(case c29=>k_is);(case k29=>k_is)
  (case a30=>k_is);(case l30=>k_is);(case c30=>k_is);(case k30=>k_is)
  (case a31=>k_is);(case l31=>k_is);(case c31=>k_is);(case k31=>k_is)
  (case a32=>k_is);(case l32=>k_is);(case c32=>k_is);(case k32=>k_is)
  (case a33=>k_is);(case l33=>k_is);(case c33=>k_is);(case k33=>k_is)
  (case a34=>k_is);(case l34=>k_is);(case c34=>k_is);(case k34=>k_is)
  (case a35=>k_is);(case l35=>k_is);(case c35=>k_is);(case k35=>k_is)
  (case a36=>k_is);(case l36=>k_is);(case c36=>k_is);(case k36=>k_is)
  (case a37=>k_is);(case l37=>k_is);(case c37=>k_is);(case k37=>k_is)
  (case a38=>k_is);(case l38=>k_is);(case c38=>k_is);(case k38=>k_is)
  (case a39=>k_is);(case l39=>k_is);(case c39=>k_is);(case k39=>k_is)
  (case a40=>k_is);(case l40=>k_is);(case c40=>k_is);(case k40=>k_is)
  (case a41=>k_is);(case l41=>k_is);(case c41=>k_is);(case k41=>k_is)
  (case a42=>k_is);(case l42=>k_is);(case c42=>k_is);(case k42=>k_is)
  (case a43=>k_is);(case l43=>k_is);(case c43=>k_is);(case k43=>k_is)
  (case a44=>k_is);(case l44=>k_is);(case c44=>k_is);(case k44=>k_is)
  (case a45=>k_is);(case l45=>k_is);(case c45=>k_is);(case k45=>k_is)
  (case a46=>k_is);(case l46=>k_is);(case c46=>k_is);(case k46=>k_is)
  (case a47=>k_is);(case l47=>k_is);(case c47=>k_is);(case k47=>k_is)
  (case a48=>k_is);(case l48=>k_is);(case c48=>k_is);(case k48=>k_is)
  (case a49=>k_is);(case l49=>k_is);(case c49=>k_is);(case k49=>k_is)
  (case a50=>k_is);(case l50=>k_is);(case c50=>k_is);(case k50=>k_is)
  (case aL=>k_is);(case lL=>k_is);(case cL=>k_is);(case kL=>k_is)
  (case z0=>k_is)
  (case z1=>k_is)
  (case z2=>k_is)
  (case z3=>k_is)
  (case z4=>k_is)
  (case z5=>k_is)
  (case z6=>k_is)
  (case z7=>k_is)
  (case z8=>k_is)
  (case z9=>k_is)
  (case z10=>k_is)
  (case z11=>k_is)
  (case z12=>k_is)
  (case z13=>k_is)
  (case z14=>k_is)
  (case gv_FIGURES=>k_is)
  (case gv_MOST_FIGURES=>k_is)
  (case gv_MOST_BOTTOM=>k_is)
  (case gv_MOST_THINGS=>k_is)
  (case gv_MOST_LINES=>k_is)
  (case gv_MOST_PLACES=>k_is)
  (case gv_MOST_BENCHES=>k_is)
#print axioms PySem.Challenge.cw_goodenough_k52_texts_read_holds
