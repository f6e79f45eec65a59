import PyProof.Rows.All
import Wide.All
import OpenK.AllK
import Wide.FinOn
import Lean
import PyProof.EqAt
import PyProof.EqKinds
import PyProof.TupleCall
import PySem.Challenge.RW_goodenough_k46_rounds_looked_at
set_option Elab.async false
set_option linter.all false
set_option maxRecDepth 100000
set_option maxHeartbeats 4000000
set_option bootstrap.genMatcherCode false
noncomputable section
def v9:=@PySem.Around.under_plainId
def oO:=@Array.getD_eq_getD_getElem?
def v_:=@Array.getElem?_eq_some_iff
def wa:=@Array.getElem?_toList
def si:=@Array.length_toList
def uz:=@Array.perm_iff_toList_perm
def iY:=@Bool.and_eq_true
def sj:=@Bool.eq_false_iff
def oP:=@Bool.eq_iff_iff
def oQ:=@Bool.false_eq_true
def cW:=@Bool.false_ne_true
def qz:=@PySem.Calls.callWith_builtin
def sk:=@PySem.Calls.evalArgs_plain
def so:=@PySem.Calls.spliced_cons
def dO:=@Classical.byContradiction
def nC:=@Eq.trans
def lM:=@PySem.F.plain_min_loop
def nD:=@PySem.F.slot_dict_itemiterator_next
def qA:=@PySem.F.slot_tuple_lt
def bu:=@PySem.Heap.get?_push_of_some
def cu:=@PySem.Heap.get?_push_size
def dZ:=@PySem.Heap.get?_update_other
def jS:=@PySem.Heap.get?_update_self
def aQ:=@PySem.Heap.lt_size
def lN:=@PySem.Heap.size_push
def iZ:=@Int.le_refl
def qB:=@Int.lt_or_gt_of_ne
def nE:=@Int.toNat_natCast
def nF:=@PySem.W.KasT.kasWp_bind
def qC:=@List.Nodup.length_le_of_subset
def sq:=@List.Perm.eq_of_pairwise
def il:=@List.all_cons
def d_:=@List.all_eq_true
def f9:=@List.all_map
def nG:=@List.any_cons
def sr:=@List.append_assoc
def f_:=@List.append_nil
def su:=@List.concat_eq_append
def sx:=@List.cons_append
def sA:=@List.drop_eq_getElem_cons
def qD:=@List.drop_length
def vw:=@List.eq_nil_of_length_eq_zero
def sC:=@List.eq_nil_or_concat
def nJ:=@List.ext_getElem?
def sD:=@List.filterMap_cons
def sE:=@List.filter_cons
def sH:=@List.find?_cons
def lO:=@List.flatMap_cons
def lP:=@List.foldl_cons
def sJ:=@List.forIn_cons
def bN:=@List.getD_eq_getElem?_getD
def iu:=@List.getElem?_append_left
def jT:=@List.getElem?_append_right
def ec:=@List.getElem?_cons_succ
def c6:=@List.getElem?_cons_zero
def bx:=@List.getElem?_eq_getElem
def kA:=@List.getElem?_eq_none_iff
def cI:=@List.getElem?_eq_some_iff
def nK:=@List.getElem?_inj
def bB:=@List.getElem?_map
def lQ:=@List.getElem?_replicate
def aO:=@List.getElem?_set_ne
def bH:=@List.getElem?_set_self
def qE:=@List.getElem?_toArray
def kB:=@List.getElem_of_mem
def sL:=@List.le_antisymm
def bO:=@List.length_append
def ef:=@List.length_cons
def iv:=@List.length_drop
def i7:=@List.length_eq_zero_iff
def vx:=@List.length_eraseIdx_of_lt
def aI:=@List.length_map
def nM:=@List.length_nil
def nN:=@List.length_pos_iff
def nP:=@List.length_range
def sM:=@List.length_set
def iw:=@List.length_singleton
def gB:=@List.length_take
def fI:=@List.lookup_cons
def dC:=@List.map_append
def i9:=@List.map_congr_left
def b7:=@List.map_cons
def jU:=@List.map_drop
def bX:=@List.map_map
def qF:=@List.map_nil
def qG:=@List.map_set
def lR:=@List.map_take
def cD:=@List.mem_append
def dq:=@List.mem_append_left
def c7:=@List.mem_append_right
def aR:=@List.mem_cons
def bz:=@List.mem_cons_of_mem
def lS:=@List.mem_cons_self
def qH:=@List.mem_erase_of_ne
def jV:=@List.mem_filter
def lU:=@List.mem_filterMap
def kC:=@List.mem_flatMap
def c8:=@List.mem_map
def sN:=@List.mem_mergeSort
def eg:=@List.mem_of_getElem?
def cF:=@List.mem_range
def bc:=@List.mem_singleton
def sO:=@List.mem_zipIdx_iff_getElem?
def l9:=@List.mergeSort_perm
def l_:=@List.nodup_append
def fQ:=@List.nodup_cons
def mf:=@List.nodup_range
def oR:=@List.of_mem_zip
def oS:=@List.pairwise_cons
def oV:=@List.pairwise_map
def mq:=@List.pairwise_mergeSort
def bI:=@List.size_toArray
def kE:=@List.sum_cons
def kF:=@List.take_of_length_le
def oW:=@List.take_succ
def oX:=@Nat.add_sub_cancel
def kG:=@Nat.le_of_lt
def aB:=@Nat.le_refl
def fo:=@Nat.le_succ
def bV:=@Nat.le_trans
def cY:=@Nat.lt_irrefl
def iB:=@Nat.lt_of_le_of_lt
def cA:=@Nat.lt_of_lt_of_le
def oY:=@Nat.lt_succ_of_lt
def fq:=@Nat.lt_succ_self
def fR:=@Nat.lt_trans
def oZ:=@Nat.mul_le_mul_right
def mr:=@Nat.ne_of_gt
def bC:=@Nat.ne_of_lt
def cG:=@Nat.zero_le
def aJ:=@Ne.symm
def o3:=@PySem.Obj.data_mapFields
def o7:=@PySem.Obj.isFreed_of_fields
def o8:=@Option.bind_some
def o9:=@Option.getD_some
def mu:=@Option.isSome_iff_exists
def mv:=@Option.map_eq_some_iff
def o_:=@Option.map_some
def eU:=@Option.some.inj
def gD:=@PySem.PassesOwn.leaving
def iC:=@PySem.PassesOwn.never
def jx:=@PyProof.Rows.callWith_type1
def pd:=@PyProof.Rows.slot_tuple_getitem
def pf:=@PySem.F.args_tuple_add_2
def ph:=@PySem.F.entry_tuple_add
def jy:=@PySem.F.excBase_ValueError
def jz:=@PySem.F.plainAttrs_list
def pj:=@PySem.F.slot_dict_get
def pk:=@PySem.F.slot_tuple_add
def ft:=@PySem.W.Looks.at
def kH:=@PySem.W.any_some
def mw:=@PySem.W.callWith_K
def px:=@PySem.W.cellsFrom_some
def dR:=@PySem.W.kia_one
def pz:=@PySem.W.looks_findIn
def cZ:=@PySem.W.mg_none_of
def eE:=@PySem.W.mg_of
def pD:=@PySem.W.plainGet_of
def bK:=@PySem.boot_len
def fS:=@PySem.mem_of_lookup
def iD:=@beq_eq_false_iff_ne
def mz:=@beq_iff_eq
def pE:=@beq_self_eq_true
def iE:=@PyProof.Rows.boot_isinstance
def cM:=@PyProof.Rows.boot_list
def iF:=@PyProof.Rows.boot_sorted
def jA:=@PySem.call_meets
def kI:=@PySem.codeAny_mono
def bT:=@congrArg
def kJ:=@decide_eq_decide
def bf:=@decide_eq_false
def bg:=@decide_eq_true
def gE:=@if_false
def ao:=@if_neg
def ak:=@if_pos
def iG:=@if_true
def kK:=@of_decide_eq_true
def mB:=@PySem.plainId_quiet
def fu:=@PySem.sizeLine_eq
def mD:=@PySem.tupleKind_room_in1
def kL:=@PySem.wpAny_Call_Name_kw
def ah:=@PySem.wpAny_bind
def pG:=@PySem.wpAny_callSpecial?_slot
def iH:=@PySem.wpAny_call_entry
def pK:=@PySem.wpAny_dictEntries
def jB:=@PySem.wpAny_execs_nil
def eV:=@PySem.wpAny_field
def fv:=@PySem.wpAny_holding
def mE:=@PySem.wpAny_isInstance
def pL:=@PySem.wpAny_isOneOf_itemiter
def jC:=@PySem.wpAny_letGo
def cw:=@PySem.wpAny_mono
def gF:=@PySem.wpAny_newObj_type
def iI:=@PySem.wpAny_passesOwn
def au:=@PySem.wpAny_pure
def mF:=@PySem.wpAny_pyIter_list
def mG:=@PySem.wpAny_seqItems
def mH:=@PySem.wpAny_setField
def kM:=@PySem.wpAny_setField_rec
def gG:=@PySem.wpAny_truthy_bool
def mI:=@PySem.wpAny_tryCatch
def mJ:=@PySem.wpAny_tupleItemsOf
def mK:=@PySem.wpAny_typeNameOfWhole_itemiter
def mL:=@PySem.wpAny_typeOf
def iJ:=@PySem.wpAny_updateSeq
namespace L2
open PySem PySem.Spec PyProof.Rows
abbrev Key:=Sum Int Str
def xD:Key->Value->Bool |.inl k,v=>Value.isInt k v |.inr x,v=>Value.isStrOf x v
def Dd(w:World):Key->Int |.inl k=>hashInt k |.inr x=>hashStr w x
theorem uc:∀{k:Key}{v:Value},xD k v=true->(∃i t,k=Sum.inl i/\v=Value.int i t)\/(∃x t,k=Sum.inr x/\v=Value.str x t) |.inl i,v,h=>by obtain⟨t,e⟩:=Value.isInt_shape h;simp_all |.inr x,v,h=>by obtain⟨t,e⟩:=Value.isStrOf_shape h;simp_all
theorem PV(i:Int)(t:Tok):xD (.inl i) (.int i t)=true:=by simp[xD,Value.isInt]
theorem PY(x:Str)(t:Tok):xD (.inr x) (.str x t)=true:=by simp[xD,Value.isStrOf]
theorem PZ(a b:Int):decide ((Sum.inl a:Key)=Sum.inl b)=(a==b):=by
 by_cases e:a=b;.simp_all
 .have h:¬(Sum.inl a:Key)=Sum.inl b:=fun q=>e (Sum.inl.inj q);rw[bf h];exact(iD.mpr e).symm
theorem P0(a b:Str):decide ((Sum.inr a:Key)=Sum.inr b)=decide (a=b):=by simp
theorem P1(a:Int)(b:Str):decide ((Sum.inl a:Key)=Sum.inr b)=false:=bf (fun q=>nomatch q)
theorem P2(a:Str)(b:Int):decide ((Sum.inr a:Key)=Sum.inl b)=false:=bf (fun q=>nomatch q)
def oE(prog:Program)(w:World):PySem.KeyKind prog w Key where
  is:=xD;hash:=Dd w;inj:=fun v a b l f=>by
    rcases uc l with⟨i,t,rfl,rfl⟩|⟨x,t,rfl,rfl⟩
    . rcases uc f with⟨j,u,rfl,e⟩|⟨y,u,rfl,e⟩;.injection e with c _;rw[c]
      .exact nomatch e
    . rcases uc f with⟨j,u,rfl,e⟩|⟨y,u,rfl,e⟩;.exact nomatch e
      .injection e with c _;rw[c]
  byValue:=fun k v h=>by rcases uc h with⟨i,t,rfl,rfl⟩|⟨x,t,rfl,rfl⟩<;>rfl
  pyHash:=fun d h=>by
    rcases uc d with⟨i,t,rfl,rfl⟩|⟨x,t,rfl,rfl⟩;.exact wpAny_pyHash_int h
    .exact wpAny_pyHash_str h
  eqBool:=fun g d h=>by
    rcases uc g with⟨i,t,rfl,rfl⟩|⟨x,t,rfl,rfl⟩
    . rcases uc d with⟨j,u,rfl,rfl⟩|⟨y,u,rfl,rfl⟩;.rw[PZ] at h;exact wpAny_eqBool_int h
      .rw[P1] at h;exact SeqAt.EqAt.int_str i t y u _ _ _ _ h
    . rcases uc d with⟨j,u,rfl,rfl⟩|⟨y,u,rfl,rfl⟩;.rw[P2] at h;exact SeqAt.EqAt.str_int x t j u _ _ _ _ h
      .rw[P0] at h;exact wpAny_eqBool_str h
  «strs»:=fun k x t v h=>by
    rcases uc h with⟨i,u,rfl,e⟩|⟨y,u,rfl,e⟩;.exact nomatch e
    .injection e with c _;subst c;cases v<;>rfl
theorem P4(prog:Program)(w:World)(i:Int)(t:Tok):(oE prog w).is (.inl i) (.int i t)=true:=PV i t
theorem P5(prog:Program)(w:World)(x:Str)(t:Tok):(oE prog w).is (.inr x) (.str x t)=true:=PY x t
inductive V where |non|bl(b:Bool)|int(i:Int)|str(x:Str)|rO(b:Array UInt8)|wb(b:UInt64)|ref(a:Addr)|ty(n:String) deriving DecidableEq
def RelV:V->Value->Prop |.non,u=>u=Value.none |.bl b,u=>u=Value.bool b |.int i,u=>∃t,u=Value.int i t |.str x,u=>∃t,u=Value.str x t |.rO b,u=>∃t,u=Value.bytes b t |.wb b,u=>∃t,u=Value.float b t |.ref a,u=>u=Value.ref a |.ty n,u=>u=Value.type n
abbrev Vals:List V->List Value->Prop:=Paired RelV
theorem Vals.length(r:Vals xs us):xs.length=us.length:=Paired.length r
theorem Vals.get:∀{xs:List V}{us:List Value}{i:Nat}{x:V},Vals xs us->xs[i]?=some x->∃u,us[i]?=some u/\RelV x u |_,_,_,_,.nil,e=>by simp at e |_,_,0,_,.cons r _,e=>by simp_all |_,_,i+1,x,.cons _ t,e=>by obtain⟨u,a,b⟩:=Vals.get (i:=i) (x:=x) t (by simp_all);simp_all
theorem Vals.set(r:RelV x u):∀{xs:List V}{us:List Value}(i:Nat),Vals xs us->Vals (xs.set i x) (us.set i u) |_,_,_,.nil=>.nil |_,_,0,.cons _ t=>.cons r t |_,_,i+1,.cons q t=>.cons q (Vals.set r i t)
theorem Vals.append:∀{xs ys:List V}{us ws:List Value},Vals xs us->Vals ys ws->Vals (xs++ys) (us++ws) |_,_,_,_,.nil,s=>s |_,_,_,_,.cons r t,s=>.cons r (Vals.append t s)
theorem Vals.take:∀{xs:List V}{us:List Value}(n:Nat),Vals xs us->Vals (xs.take n) (us.take n) |_,_,0,_=>.nil |_,_,_+1,.nil=>.nil |_,_,n+1,.cons r t=>.cons r (Vals.take n t)
theorem Vals.drop:∀{xs:List V}{us:List Value}(n:Nat),Vals xs us->Vals (xs.drop n) (us.drop n) |_,_,0,r=>r |_,_,_+1,.nil=>.nil |_,_,n+1,.cons _ t=>Vals.drop n t
def gH:Option V->Option Value->Prop |some v,some u=>RelV v u |none,none=>True |_,_=>False
def KV{κ:Type}:List (κ×V)->List (κ×Value)->Prop:=Paired fun(p:κ×V) (q:κ×Value)=>p.1=q.1/\RelV p.2 q.2
def kV:Key->V |.inl i=>.int i |.inr x=>.str x
inductive HO where |lst(xs:List V) |tup(xs:List V) |dK(kvs:List (Key×V))|dT(kvs:List (List Key×V)) |set(S:Int->Bool)(n:Nat) |ins(C dx:Addr)(fs:List (Str×V)) |own(x:Addr) |xd(fs:List (Str×V)) |met(f x:Addr) |nq(lo hi:Int) |fB(o:Obj)(u:HO) |sP(ps:Array Value) |ext(φ:Heap->Prop)
abbrev Hp:=Addr->Option HO
noncomputable def upd(H:Hp)(a:Addr)(o:HO):Hp:=fun b=>if b=a then some o else H b
theorem b9:upd H a o a=some o:=by unfold upd;simp
theorem a9(h:b≠a):upd H a o b=H b:=by unfold upd;simp_all
theorem P6:upd (upd H a o) a u=upd H a u:=by unfold upd;simp_all
theorem AV{H:Hp}(h:H a=some o)(h':H b=some u)(d:o≠u):a≠b:=by intro e;simp_all
theorem eF{H:Hp}(h:H a=some o)(h':H b=none):a≠b:=by intro e;simp_all
noncomputable def P7(fd:FuncData):Option Pos:= match fd.body with |.stmts [.Return (some (.Call _ _ [⟨_,.Lambda _ _ _ a,_⟩] _)) _]=>some a |_=>none
noncomputable def tabAt(K:PySem.W.Frag)(v:Value):Option Addr:= match v with
 |.ref c=>match K.lookup c with
  |some o=>match o.data with
   |.fields a=>match(a[11]?:Option Value) with |some (.ref P)=>some P |_=>none
   |_=>none
  |_=>none
 |_=>none
def tabOf(K:PySem.W.Frag):Option (Addr×Array Value):= K.findSome? fun p=>match p.2.data with
 |.func b=>match P7 b with |some a=>(tabAt K b.code).map fun P=>(P,#[.str (b.qualname++".<locals>."++"<lambda>") 0,rawInt a.line,rawInt a.col]) |none=>none
 |_=>none
def jW(H:Hp)(h:Heap)(a:Addr)(ps:Array Value):Prop:= ∃(q:Str) (t:Tok) (g e:Int) (d:List Value) (b:Array Value),ps.toList=.str q t::rawInt g::rawInt e::d/\h.get? a=some {cls:=.none,data:=.fields b}/\ (b=#[]\/∃(c:Addr) (o:Obj) (f:Array Value) (u:Tok),b=#[rawInt g,rawInt e,.ref c]/\H c=some (.own a)/\h.get? c=some o/\o.data=.fields f/\f[1]?=some (.str q u))
theorem jW.lt(x:jW H h a ps):a<h.objs.size:=let⟨_,_,_,_,_,_,_,e,_⟩:=x;aQ e
theorem jW.i_(x:jW H h a ps)(k:∀b u,(b=a\/H b=some (.own a))->h.get? b=some u->h'.get? b=some u) (m:∀b,H b=some (.own a)->H' b=some (.own a)):jW H' h' a ps:=by
 obtain⟨q,t,r,s,d,e,n,p,g⟩:=x;refine⟨q,t,_,_,_,_,n,k _ _ (.inl rfl) p,?_⟩;rcases g with g|⟨c,o,v,u,l,f,i,j⟩;.simp_all
 .exact .inr ⟨c,o,_,u,l,m _ f,k _ _ (.inr f) i,j⟩
def pO(K:PySem.W.Frag)(H:Hp):Prop:=∀t,tabOf K=some t->∃a,H t.1=some (.sP (t.2++a))
theorem pO.none{K:PySem.W.Frag}(h:tabOf K=.none):pO K H:=fun t e=>by simp_all
theorem pO.grown{K:PySem.W.Frag}(x:pO K H)(g:∀b ps,H b=some (.sP ps)->∃more,H' b=some (.sP (ps++more))):pO K H':=fun t e=>by obtain⟨d,c⟩:=x t e;obtain⟨a,f⟩:=g _ _ c;exact⟨d++a,by simp_all⟩
section
variable(P:Program)(w:World)
def dD(H:Hp)(h:Heap)(a:Addr):HO->Prop |.lst d=>d.length<=sizeLine/\∃(b:List Value) (n:Nat),Vals d b/\h.get? a=some {cls:=.type "list",data:=.seq b.toArray n} |.tup d=>d.length<=sizeLine/\∃b:List Value,Vals d b/\IsTup h a b.toArray |.dK c=>c.length<=sizeLine/\(a==sysModules)=false/\∃s,KV c s/\h.DictOf (oE P w) a s |.dT c=>c.length<=sizeLine/\(a==sysModules)=false/\∃d:List (List Key×Addr×Value), Paired (fun(p:List Key×V) (q:List Key×Addr×Value)=>p.1=q.1/\H q.2.1=some (.tup (p.1.map kV))/\RelV p.2 q.2.2) c d/\ ∃o l y,h.get? a=some o/\o.ExactDict/\o.data=.dict l y/\l.toList=d.map (entryOfKey (tupleKind (oE P w)))/\(d.map (·.1)).Nodup |.set S n=>h.SetOf (intKind P w) a S n |.ins C i g=>H i=some (.own a)/\g.length<=1000/\i≠a/\h.get? a=some (PySem.W.instObj C i)/\ ∃e,h.Ns1 i e/\(∀f,gH (g.lookup f) (e f))/\PySem.Within e (g.map (·.1)) |.own _=>∃o,h.get? a=some o |.xd g=>∃e,h.Ns1 a e/\∀f,gH (g.lookup f) (e f) |.nq lo z=>∃t u v,h.get? a=some {cls:=.type "range",data:=.fields #[.int lo t,.int z u,.int 1 v]} |.fB o u=>h.get? a=some o/\dD H h a u |.sP A=>jW H h a A |.met f x=>h.get? a=some (PySem.W.methodObj (.ref f) (.ref x)) |.ext k=>k h/\(∃o,h.get? a=some o)/\∀m r:Heap,k m->(∀o,m.get? a=some o->r.get? a=some o)->k r
def gI(H:Hp)(h:Heap):Prop:=∀a o,H a=some o->dD P w H h a o
end
section
variable{P:Program}{w:World}{H H':Hp}{h h':Heap}{a:Addr}{o:HO}
theorem dD.lt(x:dD P w H h a o):a<h.objs.size:=by cases o with |lst j=>obtain⟨_,_,_,_,e⟩:=x;exact aQ e |tup j=>obtain⟨_,_,_,p⟩:=x;exact p.lt |dK b=>obtain⟨_,_,_,_,o,_,_,e,_⟩:=x;exact aQ e |dT b=>obtain⟨_,_,_,_,o,_,_,e,_⟩:=x;exact aQ e |set S n=>obtain⟨o,_,_,_,e,_⟩:=x;exact aQ e |ins C D d=>obtain⟨_,_,_,e,_⟩:=x;exact aQ e |own y=>obtain⟨_,e⟩:=x;exact aQ e |xd d=>obtain⟨_,⟨_,_,_,e,_⟩,_⟩:=x;exact aQ e |nq lo z=>obtain⟨_,_,_,e⟩:=x;exact aQ e |fB A u=>obtain⟨e,_⟩:=x;exact aQ e |sP v=>exact jW.lt x |met f y=>exact aQ x |ext t=>obtain⟨_,⟨_,e⟩,_⟩:=x;exact aQ e
theorem Paired.wc:∀{yL:List α}{l₂:List c},Paired F yL l₂->(∀a b,F a b->G a b)->Paired G yL l₂ |_,_,.nil,_=>.nil |_,_,.cons r t,f=>.cons (f _ _ r) (Paired.wc t f)
theorem dD.i_(x:dD P w H h a o)(k:∀b u,(b=a\/H b=some (.own a))->h.get? b=some u->h'.get? b=some u) (s:∀b,H b=some (.own a)->H' b=some (.own a))(J:∀b xs,H b=some (.tup xs)->H' b=some (.tup xs)):dD P w H' h' a o:=by induction o with |lst xs=>obtain⟨z,l,n,r,e⟩:=x;exact⟨z,_,n,r,k _ _ (.inl rfl) e⟩ |tup xs=>obtain⟨z,l,r,g,e,c⟩:=x;exact⟨z,_,r,_,k _ _ (.inl rfl) e,c⟩ |dK m=>obtain⟨z,y,vs,r,g,i,j,e,c⟩:=x;exact⟨z,y,_,r,_,_,_,k _ _ (.inl rfl) e,c⟩ |dT m=> obtain⟨z,y,xs,r,g,i,j,e,c⟩:=x;exact⟨z,y,_,Paired.wc r fun p q z=>⟨z.1,J _ _ z.2.1,z.2.2⟩,_,_,_,k _ _ (.inl rfl) e,c⟩ |set S n=>obtain⟨g,i,j,t,e,c⟩:=x;exact⟨_,_,_,t,k _ _ (.inl rfl) e,c⟩ |ins C dx Q=> obtain⟨d,z,B,e,O,⟨L,i,j,D,c⟩,r⟩:=x;exact⟨s _ d,z,B,k _ _ (.inl rfl) e,_,⟨_,_,_,k _ _ (.inr d) D,c⟩,r⟩ |own y=>obtain⟨g,e⟩:=x;exact⟨_,k _ _ (.inl rfl) e⟩ |xd Q=>obtain⟨O,⟨L,i,j,e,c⟩,r⟩:=x;exact⟨_,⟨_,_,_,k _ _ (.inl rfl) e,c⟩,r⟩ |nq lo hi=>obtain⟨t,u,v,e⟩:=x;exact⟨t,u,v,k _ _ (.inl rfl) e⟩ |fB g u N=>obtain⟨e,q⟩:=x;exact⟨k _ _ (.inl rfl) e,N q⟩ |sP ps=>exact jW.i_ x k s |met f y=> have e:h.get? a=some _:=x;show h'.get? a=some _;simp_all |ext Y=>obtain⟨p,⟨o,e⟩,st⟩:=x;exact⟨st _ _ p fun o q=>k _ _ (.inl rfl) q,⟨o,k _ _ (.inl rfl) e⟩,st⟩
theorem gI.lt(x:gI P w H h)(e:H a=some o):a<h.objs.size:=(x a o e).lt
theorem gI.fresh(x:gI P w H h)(e:h.objs.size<=a):H a=none:=by cases q:H a with |none=>rfl |some u=>exact absurd (cA (x.lt q) e) (cY _)
theorem gI.kept(x:gI P w H h)(k:∀b u,h.get? b=some u->h'.get? b=some u):gI P w H h':=fun a o e=> (x a o e).i_ (fun b u _ q=>k b u q) (fun _ q=>q) fun _ _ q=>q
theorem gI.laid(x:gI P w H h)(k:∀b u,h.get? b=some u->h'.get? b=some u)(g:h.objs.size<=a)(i:dD P w (upd H a o) h' a o):gI P w (upd H a o) h':=fun b u e=>by
 have f:=x.fresh g;by_cases d:b=a;.subst d;rw[b9] at e;simp_all
 .rw[a9 d] at e;exact(x b u e).i_ (fun c v _ q=>k c v q) (fun c q=>by rwa[a9 (eF q f)]) fun c j q=>by rwa[a9 (eF q f)]
end
def Rd(H:Hp)(a:Addr)(u:HO):Prop:=H a=some u\/∃o,H a=some (.fB o u)
theorem Rd.of(h:H a=some u):Rd H a u:=.inl h
theorem Rd.ok(r:Rd H a u)(x:gI P w H h):dD P w H h a u:=by
 rcases r with r|⟨o,r⟩;.exact x a u r
 .obtain⟨_,q⟩:=x a _ r;exact q
def yM:Option HO->Prop |some (.lst _)=>True |some (.dK _)=>True |some (.dT _)=>True |some (.set _ _)=>True |some (.ins _ _ _)=>True |some (.ext _)=>True |_=>False
section
variable{P:Program}{w:World}{H:Hp}{h h':Heap}{x e:Addr}{o':HO}
theorem gI.write(s:gI P w H h)(o:yM (H x))(n:e=x\/H e=some (.own x))(k:∀b u,b≠e->h.get? b=some u->h'.get? b=some u)(j:∃u,h'.get? e=some u) (p:dD P w (upd H x o') h' x o'):gI P w (upd H x o') h':=fun b u q=>by
  have a:∀c y,H c=some (.own y)->c≠x:=fun c y r z=>by subst z;rwa[r] at o
  have f:∀c l,H c=some (.tup l)->c≠x:=fun c l r z=>by subst z;rwa[r] at o
  by_cases i:b=x;.subst i;rw[b9] at q;grind
  . rw[a9 i] at q;by_cases d:b=e
    . have m:H b=some (.own x):=by
        rcases n with z|z;.grind
        grind
      rw[q] at m;cases m;obtain⟨v,t⟩:=j;exact⟨v,by rwa[d]⟩
    . refine(s b u q).i_ (fun c v g r=>k c v ?_ r) (fun c r=>by rwa[a9 (a c b r)]) fun c l r=>by rwa[a9 (f c _ r)]
      rcases g with rfl|g;.exact d
      . rintro rfl;rcases n with z|z;.exact a c b g z
        .rw[g] at z;cases z;exact i rfl
end
structure Un(fs ex:List Addr)(H H':Hp)(h h':Heap):Prop where
 keep:∀b o,h.get? b=some o->H b=none->b∉fs->b∉ex->h'.get? b=some o
 slot:∀b o,h.get? b=some o->H b=none->b∈fs->b∉ex->∃sl,h'.get? b=some {o with slots:=sl}free:∀b o,h.get? b=some o->H b=none->b∉ex->H' b=none
 there:∀b o,h.get? b=some o->b∉ex->∃o',h'.get? b=some o'
 i':∀b xs,H b=some (.tup xs)->H' b=some (.tup xs)iK:∀b o u,H b=some (.fB o u)->H' b=some (.fB o u)g9:∀b ps,H b=some (.sP ps)->∃more,H' b=some (.sP (ps++more))
section
variable{fs Df ex Iu:List Addr}{H H1 H2:Hp}{h h1 h2 h':Heap}{a x e:Addr}{o:HO}
theorem Un.any(u:Un fs ex H H1 h h1)(q:h.get? b=some g)(n:H b=none)(d:b∉ex):∃f,h1.get? b=some {g with slots:=f}:=by
 by_cases c:b∈fs;.exact u.slot b _ q n c d
 .exact⟨_,u.keep b _ q n c d⟩
theorem Un.trans(a:Un fs ex H H1 h h1)(b:Un fs ex H1 H2 h1 h2):Un fs ex H H2 h h2 where
 keep:=fun c i q n g d=>b.keep c _ (a.keep c _ q n g d) (a.free c _ q n d) g d;slot:=fun c i q n g d=>by obtain⟨s,f⟩:=a.slot c _ q n g d;obtain⟨r,j⟩:=b.slot c _ f (a.free c _ q n d) g d;simp_all
 free:=fun c i q n d=>by obtain⟨k,f⟩:=a.there c _ q d;exact b.free c _ f (a.free c _ q n d) d
 there:=fun c i q d=>by obtain⟨k,f⟩:=a.there c _ q d;exact b.there c _ f d
 i':=fun c m q=>b.i' c _ (a.i' c _ q);iK:=fun c i m q=>b.iK c _ _ (a.iK c _ _ q);g9:=fun c t q=>by obtain⟨p,f⟩:=a.g9 c _ q;obtain⟨l,j⟩:=b.g9 c _ f;exact⟨p++l,by simp_all⟩
theorem Un.kept(k:∀b u,h.get? b=some u->h'.get? b=some u):Un fs ex H H h h':= ⟨fun b c q _ _ _=>k b _ q,fun b c q _ _ _=>⟨_,k b _ q⟩,fun _ _ _ n _=>n,fun b c q _=>⟨_,k b _ q⟩,fun _ _ q=>q,fun _ _ _ q=>q,fun _ d q=>⟨#[],by simp_all⟩⟩
theorem Un.refl:Un fs ex H H h h:=Un.kept fun _ _ q=>q
theorem Un.laid(k:∀b u,h.get? b=some u->h'.get? b=some u)(d:h.objs.size<=a)(c:H a=none):Un fs ex H (upd H a o) h h' where
 keep:=fun b u q _ _ _=>k b u q;slot:=fun b u q _ _ _=>⟨_,k b u q⟩;free:=fun b u q n _=>by rwa[a9 (bC (cA (aQ q) d))]
 there:=fun b u q _=>⟨u,k b u q⟩;i':=fun b f q=>by rwa[a9 (eF q c)]
 iK:=fun b u f q=>by rwa[a9 (eF q c)]
 g9:=fun b g q=>⟨#[],by rw[a9 (eF q c),q];simp⟩
theorem Un.write(f:yM (H x))(r:e=x\/H e=some (.own x))(k:∀b u,b≠e->h.get? b=some u->h'.get? b=some u)(g:∃u,h'.get? e=some u):Un fs ex H (upd H x o) h h':=by
 have j:∀b,H b=none->b≠x:=fun b n z=>by subst z;rwa[n] at f
 have i:∀b,H b=none->b≠e:=fun b n z=>by simp_all
 have d:∀b u,H b=some u->¬yM (some u)->b≠x:=fun b u q m z=>by subst z;rw[q] at f;exact m f
 refine⟨fun b u q n _ _=>k b u (i b n) q,fun b u q n _ _=>⟨_,k b u (i b n) q⟩,fun b u q n _=>by rwa[a9 (j b n)],fun b u q _=>?_, fun b l q=>by rwa[a9 (d b _ q fun z=>z)],fun b u l q=>by rwa[a9 (d b _ q fun z=>z)],fun b p q=>⟨#[],by rw[a9 (d b _ q fun z=>z),q];simp⟩⟩;by_cases c:b=e;.subst c;exact g
 .exact⟨u,k b u c q⟩
theorem Un.mono(u:Un fs ex H H1 h h1)(i:∀b∈fs,b∈Df)(d:∀b∈ex,b∈Iu):Un Df Iu H H1 h h1:= ⟨fun b f q n g c=>u.keep b _ q n (fun z=>g (i b z)) fun z=>c (d b z),fun _ _ q n _ c=>u.any q n fun z=>c (d _ z),fun b f q n c=>u.free b _ q n fun z=>c (d b z),fun b f q c=>u.there b _ q fun z=>c (d b z),u.i',u.iK,u.g9⟩
end
def Iv(h:Heap)(H:Hp):List Addr:=(List.range h.objs.size).filter fun a=>(H a).isSome
def mM(h:Heap)(H:Hp):Heap:=PySem.W.hideAll h (Iv h H)
theorem P8(h:Heap)(H:Hp):(mM h H).objs.size=h.objs.size:=PySem.W.hideAll_size _ _
theorem P9(e:h.get? b=some o)(n:H b=none):(mM h H).get? b=some o:= PySem.W.hideAll_get _ e fun a=>by have q:=(jV.mp a).2;simp_all
theorem P_(e:(mM h H).get? b=some o):h.get? b=some o/\H b=none:=by have a:=PySem.W.of_hideAll _ e;refine⟨a,?_⟩;cases q:H b with |none=>rfl |some x=> have c:b∈Iv h H:=jV.mpr ⟨cF.mpr (aQ a),by simp[q]⟩;have z:(mM h H).get? b=none:=PySem.W.hideAll_none _ c;simp_all
def Qa(g h:Heap)(L:Addr):List (Addr×Obj):=(List.range h.objs.size).filterMap fun a=>if a=L\/(g.get? a).isSome=true then none else(h.get? a).map fun o=>(a,o)
def rest(g h:Heap)(L d:Addr):List (Addr×Obj):=(Qa g h L).filter fun p=>decide (p.1≠d)
structure Mod(K:PySem.W.Frag)(mg:Str->Option Value)(base:Heap):Prop where
 we:K.In base
 glob:base.Ns mainGlobals mg
 blt:∃mb,base.Ns builtinsNs mb/\∀x:Str,x≠"__name__"->mb x=bootBuiltins x
 nolimit:base.NoLimit
structure Cx where
 prog:Program
 w:World
 K:PySem.W.Frag
 mg:Str->Option Value
 base:Heap
 A:Around
 N:List Str
 fJ:Shared
 qV:Hp
 env:Env
 outer:List Env
 stack:List Env
 ex:List Addr
 fn:Str->Bool
 calm:Bool
 pn:List (Addr×Obj)xe:Value->Shared->Prop
noncomputable def lC(l:List Env):List Addr:=l.filterMap (·.frame)
abbrev Cx.fs(X:Cx):List Addr:=lC X.outer
def AW(a:Scope)(x:Str):Prop:=a.names.lookup x=some .local\/a.names.lookup x=some .cell\/a.names.lookup x=some .free
def Loc(a:Scope)(x:Str):Prop:=a.names.lookup x=some .local\/a.names.lookup x=some .cell
def Look(env:Env)(h:Heap)(m:Str->Option Value)(x:Str)(u:Value):Prop:= (env.kindOf x=some .local/\m x=some u)\/((env.kindOf x=some .cell\/env.kindOf x=some .free)/\∃c,env.cells.lookup x=some c/\h.IsCell c (some u))
structure Cx.Ok(X:Cx):Prop where
 mod:Mod X.K X.mg X.base
 kind:X.env.scope.kind=.function
 glob:X.env.globals=mainGlobals
 blt:X.env.builtins=builtinsNs
 above:X.fJ.heap.objs.size<=X.env.locals
 inj:∀x y c,X.env.cells.lookup x=some c->X.env.cells.lookup y=some c->x=y
 has:∀x,(X.env.kindOf x=some .cell\/X.env.kindOf x=some .free)->∃c,X.env.cells.lookup x=some c
 wg:∀x c,X.fn x=true->X.env.cells.lookup x=some c->X.fJ.heap.objs.size<=c
 hd:X.calm=true->X.A.handled=none
 frames:X.A.frames=some X.stack
 xE:X.stack=X.outer\/(X.stack=X.env::X.outer/\X.env.frame=some X.env.locals)AX:∀b∈X.ex,b≠X.env.locals/\∀x c,X.env.cells.lookup x=some c->c≠b
 bs:∀b o,X.base.get? b=some o->X.fJ.heap.get? b=some o/\X.qV b=none
 rP:X.base.objs.size<=X.fJ.heap.objs.size
 pP:∀b o,X.base.get? b=some o->b∉X.ex
 qW:∀b∈X.ex,b∉X.fs
 ja:X.fJ.heap.FunFrames X.base X.outer
 sQ:∀b∈X.fs,X.qV b=none
 tb:pO X.K X.qV
structure Inv(X:Cx)(pins:List (Addr×Obj))(σ:List (Option V))(H:Hp)(s:Shared):Prop where
 ok:X.Ok
 os:s.os=X.fJ.os
 bare:AllBare s.gens
 base:Un X.fs X.ex X.qV H X.fJ.heap s.heap
 loc:∃m,s.heap.Ns X.env.locals m/\∀(i:Nat)(x:Str)(v:V),X.N[i]?=some x->σ[i]?=some (some v)->AW X.env.scope x->∃u,RelV v u/\Look X.env s.heap m x u
 cell:∀x c,X.env.cells.lookup x=some c->∃v,s.heap.IsCell c v
 free:H X.env.locals=none
 ej:∀x c,X.env.cells.lookup x=some c->H c=none
 pin:∀p∈X.pn++pins,s.heap.get? p.1=some p.2/\H p.1=none/\p.1≠X.env.locals/\p.1∉X.fs/\∀v,p.2.data≠.cell v
 bF:gI X.prog X.w H s.heap
 len:σ.length=X.N.length
section
variable{X:Cx}{pins:List (Addr×Obj)}{σ:List (Option V)}{H H':Hp}{s:Shared}{h':Heap}
theorem Cx.Ok.Dg(c:X.Ok)(e:X.base.get? b=some o):b∉X.fs:=fun a=>by have:=(c.ja.mem a).1;simp_all
theorem Inv.bs(I:Inv X pins σ H s):∀b o,X.base.get? b=some o->s.heap.get? b=some o/\H b=none:=fun b o e=> ⟨I.base.keep b o (I.ok.bs b o e).1 (I.ok.bs b o e).2 (I.ok.Dg e) (I.ok.pP b o e),I.base.free b o (I.ok.bs b o e).1 (I.ok.bs b o e).2 (I.ok.pP b o e)⟩
theorem Inv.bk(I:Inv X pins σ H s):∀b o,X.base.get? b=some o->s.heap.get? b=some o:=fun b o e=>(I.bs b o e).1
theorem Inv.mod(I:Inv X pins σ H s):Mod X.K X.mg X.base:=I.ok.mod
theorem Inv.iQ(I:Inv X pins σ H s):X.K.In s.heap:=I.ok.mod.we.keeps I.bk
theorem Inv.fr (I : Inv X pins σ H s) : ∃ m, Fr X.base X.env.locals s.heap m :=
  let ⟨m, hn, _⟩ := I.loc
  ⟨m, hn, I.bk, bV I.ok.rP I.ok.above⟩
theorem Inv.lt(I:Inv X pins σ H s):X.env.locals<s.heap.objs.size:=let⟨_,a,_⟩:=I.loc;a.lt
theorem Inv.sz(I:Inv X pins σ H s):X.fJ.heap.objs.size<=s.heap.objs.size:=bV I.ok.above (kG I.lt)
theorem Inv.yN(I:Inv X pins σ H s)(h:s.heap.objs.size<=a):a∉X.fs:=fun c=>let⟨_,o,b,_⟩:=I.ok.ja.mem c;absurd (cA (aQ b) (bV I.sz h)) (cY _)
theorem Inv.ud(I:Inv X pins σ H s):∀x c,X.env.cells.lookup x=some c->c≠X.env.locals:=fun x c e z=>by obtain⟨v,o,d,g⟩:=I.cell x c e;obtain⟨m,⟨i,h,f,b,a,_⟩,_⟩:=I.loc;simp_all
theorem Inv.ja(I:Inv X pins σ H s):s.heap.FunFrames X.base X.outer:=by
 have c:∀(l:List _),(∀b∈lC l,b∈X.fs)->X.fJ.heap.FunFrames X.base l->s.heap.FunFrames X.base l:=by intro l;induction l with |nil=>intro _ _;trivial |cons i r q=> rintro g ⟨p,⟨L,o,f,m,t,k⟩,j⟩;have a:=g L (by unfold lC;rw[sD,f];simp);obtain⟨u,e⟩:=I.base.slot L o t (I.ok.sQ L a) a fun z=>I.ok.qW L z a;exact⟨p,⟨L,_,f,m,e,k⟩,q (fun b d=>g b (by unfold lC;rw[sD,f];exact bz _ d)) j⟩
 exact c _ (fun _ d=>d) I.ok.ja
theorem Inv.stack(I:Inv X pins σ H s):s.heap.FunFrames X.base X.stack:=by
 rcases I.ok.xE with e|⟨e,b⟩;.rw[e];exact I.ja
 .rw[e];obtain⟨m,a,_⟩:=I.loc;exact .cons (by rw[I.ok.kind];decide) b a (Heap.get?_none_of_le (bV I.ok.rP I.ok.above)) I.ja
theorem Inv.gJ(I:Inv X pins σ H s):∀b∈lC X.stack,b∈X.env.locals::X.fs:=fun b a=>by
 rcases I.ok.xE with e|⟨e,c⟩;.simp_all
 .rw[e] at a;unfold lC at a;rwa[sD,c] at a
theorem Inv.jb(I:Inv X pins σ H s):∀b∈lC X.stack,H b=none:=fun b a=>by
 rcases aR.mp (I.gJ b a) with e|a;.rw[e];exact I.free
 .obtain⟨_,o,c,_⟩:=I.ok.ja.mem a;exact I.base.free b o c (I.ok.sQ b a) fun z=>I.ok.qW b z a
theorem Inv.step{g':Array GenState}{t':Nat}{d':Drawn}{ch:List Addr}(I:Inv X pins σ H s) (h:∀b∈ch,(b∈X.ex\/X.fJ.heap.objs.size<=b)/\b≠X.env.locals/\(∀x c,X.env.cells.lookup x=some c->c≠b)/\∀p∈X.pn++pins,p.1≠b) (t:∀b o,b≠X.env.locals->b∉X.fs->b∉ch->s.heap.get? b=some o->H b=none->h'.get? b=some o) (A:∀b o,b≠X.env.locals->b∈X.fs->b∉ch->s.heap.get? b=some o->H b=none->∃Q,h'.get? b=some {o with slots:=Q})(f:∀b o,b∉ch->s.heap.get? b=some o->H b=none->H' b=none) (B:∀b o,b∉ch->s.heap.get? b=some o->∃O,h'.get? b=some O) (E:∀b xs,H b=some (.tup xs)->H' b=some (.tup xs))(J:∀b o u,H b=some (.fB o u)->H' b=some (.fB o u))(L:∀b ps,H b=some (.sP ps)->∃more,H' b=some (.sP (ps++more))) (ns:∀m,s.heap.Ns X.env.locals m->h'.Ns X.env.locals m)(N:gI X.prog X.w H' h')(hg:AllBare g'): Inv X pins σ H' {s with heap:=h',gens:=g',drawn:=d',toks:=t'}:=by
  have M:∀b o,X.fJ.heap.get? b=some o->b≠X.env.locals:=fun b o e=>bC (cA (aQ e) I.ok.above);have y:∀b o,X.fJ.heap.get? b=some o->b∉X.ex->b∉ch:=fun b o e a C=>by
    rcases(h b C).1 with z|z;.exact a z
    .exact absurd (cA (aQ e) z) (cY _)
  have j:∀x c,X.env.cells.lookup x=some c->∀v,s.heap.IsCell c v->h'.IsCell c v:=fun x c e v ⟨o,D,R⟩=>by
    have g:=fun z=>(h c z).2.2.1 x c e rfl;by_cases S:c∈X.fs;.obtain⟨Q,q⟩:=A c o (I.ud x c e) S g D (I.ej x c e);exact⟨_,q,R⟩
    .exact⟨o,t c o (I.ud x c e) S g D (I.ej x c e),R⟩
  refine⟨I.ok,I.os,hg,⟨fun b o e n C a=>?_,fun b o e n C a=>?_,fun b o e n a=>?_,fun b o e a=>?_,fun b xs e=>E b _ (I.base.i' b _ e),fun b o xs e=>J b o _ (I.base.iK b o _ e),fun b ps e=>?_⟩,?_,fun x c e=>?_,?_,fun x c e=>?_,fun p Y=>?_,N,I.len⟩;.exact t b o (M b o e) C (y b o e a) (I.base.keep b o e n C a) (I.base.free b o e n a)
  .obtain⟨Q,w⟩:=I.base.slot b o e n C a;obtain⟨Qb,G⟩:=A b _ (M b o e) C (y b o e a) w (I.base.free b o e n a);exact⟨_,G⟩
  .obtain⟨O,w⟩:=I.base.there b o e a;exact f b _ (y b o e a) w (I.base.free b o e n a)
  .obtain⟨O,w⟩:=I.base.there b o e a;exact B b _ (y b o e a) w
  .obtain⟨m1,w⟩:=I.base.g9 b _ e;obtain⟨m2,G⟩:=L b _ w;exact⟨_,by rw[G,Array.append_assoc]⟩
  . obtain⟨m,Z,hl⟩:=I.loc;refine⟨m,ns m Z,fun i x v w G e3=>?_⟩;obtain⟨u,r,l⟩:=hl i x v w G e3;refine⟨u,r,?_⟩;rcases l with l|⟨k,c,e,z⟩;.exact .inl l
    .exact .inr ⟨k,c,e,j x c e _ z⟩
  .obtain⟨v,z⟩:=I.cell x c e;exact⟨v,j x c e v z⟩
  .obtain⟨m,⟨o,_,_,D,_⟩,_⟩:=I.loc;exact f _ o (fun z=>(h _ z).2.1 rfl) D I.free
  .obtain⟨v,o,D,R⟩:=I.cell x c e;exact f c o (fun z=>(h c z).2.2.1 x c e rfl) D (I.ej x c e)
  .obtain⟨e,n,T,U,d⟩:=I.pin p Y;have g:=fun z=>(h _ z).2.2.2 p Y rfl;exact⟨t _ _ T U g e n,f _ _ g e n,T,U,d⟩
theorem Inv.un(I:Inv X pins σ H s)(u:Un X.fs [] H H' s.heap h')(c:gI X.prog X.w H' h'):Inv X pins σ H' {s with heap:=h',toks:=t'}:=by obtain⟨m,⟨o,p,v,f,r⟩,_⟩:=id I.loc;obtain⟨l,j⟩:=u.any f I.free (by simp);exact I.step (ch:=[]) (fun _ z=>nomatch z) (fun b o _ d _ e n=>u.keep b o e n d (by simp)) (fun b o _ d _ e n=>u.slot b o e n d (by simp)) (fun b o _ e n=>u.free b o e n (by simp)) (fun b o _ e=>u.there b o e (by simp)) u.i' u.iK u.g9 (fun t k=>by obtain⟨q,i,h,a,g⟩:=k;rw[f] at a;cases a;exact⟨_,_,_,j,g⟩) c I.bare
theorem Inv.call(I:Inv X pins σ H s)(u:Un (lC X.stack) ch H H' s.heap h')(g:gI X.prog X.w H' h')(v:AllBare g') (d:∀b∈ch,(b∈X.ex\/X.fJ.heap.objs.size<=b)/\b≠X.env.locals/\(∀x c,X.env.cells.lookup x=some c->c≠b)/\∀p∈X.pn++pins,p.1≠b): Inv X pins σ H' {s with heap:=h',gens:=g',drawn:=d',toks:=t'}:=by obtain⟨m,⟨o,w,y,i,r⟩,_⟩:=id I.loc;obtain⟨C,h⟩:=u.any i I.free fun z=>(d _ z).2.1 rfl;exact I.step d (fun b o h k a e n=>u.keep b o e n (fun z=>(aR.mp (I.gJ b z)).elim h k) a) (fun b o _ _ a e n=>u.any e n a) (fun b o a e n=>u.free b o e n a) (fun b o a e=>u.there b o e a) u.i' u.iK u.g9 (fun B q=>by obtain⟨A,j,l,f,t⟩:=q;rw[i] at f;cases f;exact⟨_,_,_,h,t⟩) g v
theorem Inv.turned(I:Inv X pins σ H s)(k:∀b o,b≠a->s.heap.get? b=some o->h'.get? b=some o)(y:H a=none)(g:a≠X.env.locals) (h1:a∈X.ex\/X.fJ.heap.objs.size<=a)(h2:∀x c,X.env.cells.lookup x=some c->c≠a)(h3:∀p∈X.pn++pins,p.1≠a):Inv X pins σ H {s with heap:=h',toks:=t'}:=by
  have f:∀b u,H b=some u->b≠a:=fun b u e z=>by simp_all
  refine I.step (ch:=[a]) (fun b j=>?_) (fun b o _ _ d e _=>k b o (fun z=>d (by simp[z])) e) (fun b o _ _ d e _=>⟨_,k b o (fun z=>d (by simp[z])) e⟩) (fun _ _ _ _ n=>n) (fun b o d e=>⟨o,k b o (fun z=>d (by simp[z])) e⟩) (fun _ _ e=>e) (fun _ _ _ e=>e) (fun b t e=>⟨#[],by rw[e];simp⟩) (fun m h=>?_) (fun b u e=>?_) I.bare
  . have e:=by simpa using j
    subst e;exact⟨h1,g,h2,h3⟩
  .obtain⟨o,w,l,i,r⟩:=h;exact⟨o,_,_,k _ o (aJ g) i,r⟩
  . refine(I.bF b u e).i_ (fun c v d q=>k c v ?_ q) (fun _ q=>q) fun _ _ q=>q;rcases d with z|z;.rw[z];exact f b u e
    .exact f c _ z
theorem Inv.tok(I:Inv X pins σ H s)(t:Nat):Inv X pins σ H {s with toks:=t}:=I.un Un.refl I.bF
theorem Inv.kept(I:Inv X pins σ H s)(k:∀b u,s.heap.get? b=some u->h'.get? b=some u):Inv X pins σ H {s with heap:=h',toks:=t'}:=I.un (Un.kept k) (I.bF.kept k)
theorem Inv.laid(I:Inv X pins σ H s)(k:∀b u,s.heap.get? b=some u->h'.get? b=some u)(c:s.heap.objs.size<=a)(d:dD X.prog X.w (upd H a o) h' a o): Inv X pins σ (upd H a o) {s with heap:=h',toks:=t'}:=I.un (Un.laid k c (I.bF.fresh c)) (I.bF.laid k c d)
theorem Inv.write(I:Inv X pins σ H s)(d:yM (H x))(f:e=x\/H e=some (.own x))(k:∀b u,b≠e->s.heap.get? b=some u->h'.get? b=some u)(a:∃u,h'.get? e=some u) (c:dD X.prog X.w (upd H x o) h' x o):Inv X pins σ (upd H x o) {s with heap:=h',toks:=t'}:=I.un (Un.write d f k a) (I.bF.write d f k a c)
theorem Inv.weak {lV : List (Option V)} (I : Inv X pins σ H s) (hl : lV.length = σ.length) (w : ∀ (i : Nat) v, lV[i]? = some (some v) → σ[i]? = some (some v)) : Inv X pins lV H s :=
  ⟨I.ok, I.os, I.bare, I.base, let ⟨m, hn, Qc⟩ := I.loc; ⟨m, hn, fun i x v e1 e2 e3 => Qc i x v e1 (w i v e2) e3⟩, I.cell, I.free, I.ej, I.pin, I.bF, hl.trans I.len⟩
theorem Inv.qI(I:Inv X pins σ H s)(h:∀p∈a,s.heap.get? p.1=some p.2/\H p.1=none/\p.1≠X.env.locals/\p.1∉X.fs/\∀v,p.2.data≠.cell v):Inv X a σ H s:= ⟨I.ok,I.os,I.bare,I.base,I.loc,I.cell,I.free,I.ej,fun p b=>(cD.mp b).elim (fun z=>I.pin p (dq _ z)) (h p),I.bF,I.len⟩
theorem Dh{N:List Str}(c:N.Nodup){i j:Nat}(a:N[i]?=some x)(b:N[j]?=some x):i=j:=by obtain⟨g,e⟩:=cI.mp a;obtain⟨f,d⟩:=cI.mp b;exact(List.getElem_inj c).mp (e.trans d.symm)
theorem Qd(I:Inv X pins σ H s)(hN:X.N.Nodup)(hi:X.N[i]?=some x)(t:Loc X.env.scope x)(r:RelV v u) (h:∀s',Inv X pins (σ.set i (some v)) H s'->(∃a,Heap.SameBut a s.heap s'.heap/\(a=X.env.locals\/X.env.cells.lookup x=some a))->Q () s')(hf:X.fn x=true\/X.env.scope.names.lookup x=some .local:=by first|exact .inl rfl|exact .inr rfl|assumption):wpAny M A (storeName X.env x u) Q E s:=by
  obtain⟨m,hn,hl⟩:=id I.loc;have R:(X.env.scope.kind==.class||(X.env.scope.kind==.module&&X.env.locals !=X.env.globals))=false:=by rw[I.ok.kind];rfl
  have C:i<σ.length:=by rw[I.len];exact(cI.mp hi).1
  have L:=I.ud;have l:∀{a:Addr}{h':Heap},(∃o,s.heap.get? a=some o/\H a=none)->Heap.SameBut a s.heap h'->gI X.prog X.w H h':=fun{a h'} ha f b ob e=>by refine(I.bF b ob e).i_ (fun c w' w q=>(f.2 c ?_).trans q) (fun _ q=>q) fun _ _ q=>q;rintro rfl;simp_all
  rcases t with N|N
  . refine wpAny_storeName_local N hn (fun h' Z f=>?_) R;obtain⟨oL,_,_,Qe,_⟩:=id hn;refine h _ ⟨I.ok,I.os,I.bare,⟨fun b o e n G t=>?_,fun b o e n G t=>?_,I.base.free,fun b o e t=>?_,I.base.i',I.base.iK,I.base.g9⟩,⟨_,Z,fun j y v' g B Y=>?_⟩,fun y c e=>?_,I.free,I.ej,fun p hp=>?_,l ⟨oL,Qe,I.free⟩ f,by simpa using I.len⟩ ⟨_,f,.inl rfl⟩;.exact(f.2 b (bC (cA (aQ e) I.ok.above))).trans (I.base.keep b o e n G t)
    .obtain⟨sl,g⟩:=I.base.slot b o e n G t;exact⟨sl,(f.2 b (bC (cA (aQ e) I.ok.above))).trans g⟩
    .obtain⟨o',g⟩:=I.base.there b o e t;exact⟨o',(f.2 b (bC (cA (aQ e) I.ok.above))).trans g⟩
    . by_cases D:j=i;.subst D;rw[hi] at g;cases g;rw[bH C] at B;cases B;exact⟨u,r,.inl ⟨N,by simp⟩⟩
      . rw[aO (aJ D)] at B;obtain⟨u',r',q⟩:=hl j y v' g B Y;refine⟨u',r',?_⟩;rcases q with⟨k,e⟩|⟨k,c,e,z⟩;.refine .inl ⟨k,?_⟩;have:y≠x:=fun e=>D (Dh hN g (e▸hi));grind
        .exact .inr ⟨k,c,e,z.sameBut f (L y c e)⟩
    .obtain⟨w',z⟩:=I.cell y c e;exact⟨w',z.sameBut f (L y c e)⟩
    .obtain⟨e,n,U,nf,d⟩:=I.pin p hp;exact⟨(f.2 p.1 U).trans e,n,U,nf,d⟩
  . have J:X.fn x=true:=by
      rcases hf with z|z;.exact z
      grind
    obtain⟨c,w⟩:=I.ok.has x (.inl N);obtain⟨w',z⟩:=I.cell x c w;refine wpAny_storeName_cell I.ok.kind N w z (fun h' O f=>?_);obtain⟨oc,S,Qf⟩:=id z;refine h {s with heap:=h'} ⟨I.ok,I.os,I.bare,⟨fun b o e n G t=>?_,fun b o e n G t=>?_,I.base.free,fun b o e t=>?_,I.base.i',I.base.iK,I.base.g9⟩,⟨m,hn.sameBut f (aJ (L x c w)),fun j y v' g B Y=>?_⟩,fun y c' e=>?_,I.free,I.ej,fun p hp=>?_,l ⟨oc,S,I.ej x c w⟩ f,by simpa using I.len⟩ ⟨c,f,.inr w⟩;.exact(f.2 b (bC (cA (aQ e) (I.ok.wg x c J w)))).trans (I.base.keep b o e n G t)
    .obtain⟨sl,g⟩:=I.base.slot b o e n G t;exact⟨sl,(f.2 b (bC (cA (aQ e) (I.ok.wg x c J w)))).trans g⟩
    .obtain⟨o',g⟩:=I.base.there b o e t;exact⟨o',(f.2 b (bC (cA (aQ e) (I.ok.wg x c J w)))).trans g⟩
    . by_cases D:j=i;.subst D;rw[hi] at g;cases g;rw[bH C] at B;cases B;exact⟨u,r,.inr ⟨.inl N,c,w,O⟩⟩
      . rw[aO (aJ D)] at B;obtain⟨u',r',q⟩:=hl j y _ g B Y;refine⟨_,r',?_⟩;rcases q with q|⟨k,c',e,z'⟩;.exact .inl q
        .refine .inr ⟨k,_,e,z'.sameBut f ?_⟩;rintro rfl;exact D (Dh hN g (I.ok.inj _ _ _ e w▸hi))
    . by_cases T:c'=c;.subst T;exact⟨_,O⟩
      .obtain⟨w2,z2⟩:=I.cell y _ e;exact⟨_,z2.sameBut f T⟩
    .obtain⟨e,n,U,nf,d⟩:=I.pin p hp;refine⟨(f.2 _ ?_).trans e,n,U,nf,d⟩;intro q;rw[q,S] at e;have q':=eU e;exact d _ (by rwa[<-q'])
theorem yO(I:Inv X pins σ H s)(a:X.N.Nodup)(hi:X.N[i]?=some x)(c:Loc X.env.scope x)(r:RelV v u) (h:∀s',Inv X pins (σ.set i (some v)) H s'->Q () s')(d:X.fn x=true\/X.env.scope.names.lookup x=some .local:=by first|exact .inl rfl|exact .inr rfl|assumption):wpAny M A (storeName X.env x u) Q E s:= Qd I a hi c r (fun s' b _=>h _ b) d
end
abbrev XK:=Value->Option Addr->Hp->Prop
abbrev St:=List (Option V)
abbrev VK:=V->Hp->Prop
abbrev TE:=St->Hp->VK->Prop
abbrev TT:=St->Hp->(Bool->Hp->Prop)->Prop
abbrev TA:=St->Hp->(List V->Hp->Prop)->Prop
structure Ends where
 nx:St->Hp->Prop
 rt:VK
 bk:St->Hp->Prop:=fun _ _=>False
 ct:St->Hp->Prop:=fun _ _=>False
abbrev TS:=Ends->St->Hp->Prop
def EP(X:Cx)(pins:List (Addr×Obj))(σ:St)(Q:VK)(u:Value)(s':Shared):Prop:=∃v a,Inv X pins σ a s'/\RelV v u/\Q v a
def TP(X:Cx)(pins:List (Addr×Obj))(σ:St)(Q:Bool->Hp->Prop)(b:Bool)(s':Shared):Prop:=∃a,Inv X pins σ a s'/\Q b a
def AP(X:Cx)(pins:List (Addr×Obj))(σ:St)(Q:List V->Hp->Prop)(us:List Value)(s':Shared):Prop:=∃a b,Inv X pins σ b s'/\Vals a us/\Q a b
def SP(X:Cx)(pins:List (Addr×Obj))(D:Ends)(f:Flow)(s':Shared):Prop:= match f with |.next=>∃a b,Inv X pins a b s'/\D.nx a b |.brk=>∃a b,Inv X pins a b s'/\D.bk a b |.cont=>∃a b,Inv X pins a b s'/\D.ct a b |.ret u=>∃v a b,Inv X pins a b s'/\RelV v u/\D.rt v b
def PE(X:Cx)(e:Expr)(t:TE):Prop:= ∀(a:List (Addr×Obj))(s:Shared)(b:St)(H:Hp)(Q:VK),Inv X a b H s->t b H Q->wpAny (model X.prog X.w) X.A (eval e X.env) (EP X a b Q) X.xe s
def PT(X:Cx)(e:Expr)(t:TT):Prop:= ∀(a:List (Addr×Obj))(s:Shared)(b:St)(H:Hp)(Q:Bool->Hp->Prop),Inv X a b H s->t b H Q->wpAny (model X.prog X.w) X.A (isTrue e X.env (eval e X.env)) (TP X a b Q) X.xe s
def PW(X:Cx)(e:Expr)(t:TT):Prop:= ∀(b:Sem Value)(a:List (Addr×Obj))(s:Shared)(c:St)(H:Hp)(Q:Bool->Hp->Prop),Inv X a c H s->t c H Q->wpAny (model X.prog X.w) X.A (isTrue e X.env b) (TP X a c Q) X.xe s
theorem PW.pt(h:PW X e t):PT X e t:=h _
def PA(X:Cx)(es:List Expr)(t:TA):Prop:= ∀(b:Pos)(a:List (Addr×Obj))(s:Shared)(c:St)(H:Hp)(Q:List V->Hp->Prop),Inv X a c H s->t c H Q->wpAny (model X.prog X.w) X.A (spliced (backTo b (starEach es X.env))) (AP X a c Q) X.xe s
def PS(X:Cx)(st:Stmt)(t:TS):Prop:= ∀(a:List (Addr×Obj))(s:Shared)(b:St)(H:Hp)(D:Ends),Inv X a b H s->t D b H->wpAny (model X.prog X.w) X.A (exec st X.env) (SP X a D) X.xe s
def km(X:Cx)(st:List Stmt)(t:TS):Prop:= ∀(a:List (Addr×Obj))(s:Shared)(b:St)(H:Hp)(D:Ends),Inv X a b H s->t D b H->wpAny (model X.prog X.w) X.A (execs st X.env) (SP X a D) X.xe s
theorem bW(h:wpAny M A t Q E s)(c:∀a s,Q a s->b a s):wpAny M A t b E s:=cw h c fun _ _ x=>x
section
variable {X : Cx}
def bh(i:Nat):TE:=fun a H Q=>∃v,a[i]?=some (some v)/\Q v H
def tC(v:V):TE:=fun _ H Q=>Q v H
theorem Qg(k:X.N[i]?=some x)(n:AW X.env.scope x)(hd:(x==("__debug__":Str))=false:=by decide)(f:(x==("__classdict__":Str))=false:=by decide):PE X (.Name x pos) (bh i):=by
  rintro j s t H Q I ⟨v,e,h⟩;obtain⟨m,o,p⟩:=I.loc;obtain⟨u,r,l⟩:=p i x v k e n;have b:EP X _ _ Q u s:=⟨v,H,I,r,h⟩;rcases l with⟨d,q⟩|⟨d,c,g,a⟩;.exact wpAny_Name (wpAny_loadName_local I.ok.kind d o q b) hd
  . rcases d with d|d;.exact wpAny_Name (wpAny_loadName_cell I.ok.kind d g a b) hd
    .exact wpAny_Name (wpAny_loadName_free I.ok.kind d g a b f) hd
theorem aK:PE X (.Constant (.int i) j pos) (tC (.int i)):=fun _ _ _ H _ I h=>wpAny_Constant_int ⟨.int i,H,I.tok _,⟨_,rfl⟩,h⟩
theorem qJ:PE X (.Constant (.bool b) j pos) (tC (.bl b)):=fun _ _ _ H _ I h=>Constant_bool ⟨.bl b,H,I,rfl,h⟩
theorem rQ:PE X (.Constant .none j pos) (tC .non):=fun _ _ _ H _ I h=>Constant_none ⟨.non,H,I,rfl,h⟩
theorem pQ:PE X (.Constant (.str x) j pos) (tC (.str x)):=fun _ _ _ H _ I h=>Calls.Constant_str ⟨.str x,H,I.tok _,⟨_,rfl⟩,h⟩
def Gl(X:Cx)(x:Str):Prop:=X.env.kindOf x=some .globalImplicit
theorem wh(I:Inv X pins σ H s)(b:Gl X x)(a:X.mg x=some u)(h:Q u s) (hd:(x==("__debug__":Str))=false:=by decide):wpAny (model X.prog X.w) X.A (eval (.Name x pos) X.env) Q E s:= Calls.Name_function_global I.ok.kind b (Calls.loadGlobal_global (by rw[I.ok.glob];exact I.mod.glob.keeps I.bk) a h) hd
theorem vy(I:Inv X pins σ H s)(e:Gl X x)(a:X.mg x=none)(c:bootBuiltins x=some u)(h:Q u s) (b:x≠"__name__":=by decide)(hd:(x==("__debug__":Str))=false:=by decide):wpAny (model X.prog X.w) X.A (eval (.Name x pos) X.env) Q E s:=let⟨_,d,f⟩:=I.mod.blt;Calls.Name_function_global I.ok.kind e (Calls.loadGlobal_builtin (by rw[I.ok.glob];exact I.mod.glob.keeps I.bk) a (by rw[I.ok.blt];exact d.keeps I.bk) ((f x b).trans c) h) hd
theorem yP {x : Str} {v : V} {u : Value} {pos : Pos} (hg : Gl X x) (hm : X.mg x = some u) (r : RelV v u) (hd : (x == ("__debug__" : Str)) = false := by decide) : PE X (.Name x pos) (tC v) :=
  fun _ _ _ H _ I h => wh I hg hm ⟨v, H, I, r, h⟩ hd
theorem Iw(d:Gl X x)(a:X.mg x=none)(c:bootBuiltins x=some u)(r:RelV v u)(b:x≠"__name__":=by decide)(hd:(x==("__debug__":Str))=false:=by decide):PE X (.Name x pos) (tC v):= fun _ _ _ H _ I h=>vy I d a c ⟨v,H,I,r,h⟩ b hd
variable{a b:Expr}{ta tb:TE}{pos:Pos}
def PC(X:Cx)(op:CmpOp)(a b:Expr)(t:TE):Prop:= ∀(c:List (Addr×Obj))(s:Shared)(f:St)(H:Hp)(Q:VK),Inv X c f H s->t f H Q-> wpAny (model X.prog X.w) X.A (eval a X.env) (fun v e=>wpAny (model X.prog X.w) X.A (eval b X.env) (fun u d=>wpAny (model X.prog X.w) X.A (compareOp op v u) (EP X c f Q) X.xe d) X.xe e) X.xe s
def tB(t:TE):TT:=fun d H Q=>t d H fun x e=>∃c,x=.bl c/\Q c e
theorem Di(h:PC X op a b t)(h1:behindInMarks op b=false:=by first|exact yQ _ (by decide) (by decide)|rfl):PT X (.Compare a [op] [b] pos) (tB t):=by intro e s m H Q I j;refine wpAny_isTrue_Compare1 (bW (h _ s _ H _ I j) fun v o h1=>bW h1 fun u n k=>bW k fun c l ⟨x,_,i,g,f⟩=>?_) h1;obtain⟨d,rfl,q⟩:=f;cases g;exact gG ⟨_,i,q⟩
theorem qX(h:PE X e t)(l:∀c,isTrue e X.env c=(do let v<-c;standAt e.pos;holding [v] (truthy v)):=by intro _;rfl):PT X e (tB t):=by intro f s n H Q I k;refine isTrue_plain (bW (h _ s _ H _ I k) fun v m ⟨x,_,j,i,g⟩=>?_) (l _);obtain⟨d,rfl,q⟩:=g;cases i;exact gG ⟨_,j,q⟩
variable{tA uA:TT}{rest:List Expr}
def yR(t u:TT):TT:=fun d H Q=>t d H fun c e=>if c=true then u d e Q else Q false e
def Iy(t u:TT):TT:=fun d H Q=>t d H fun c e=>if c=true then Q true e else u d e Q
def yS(t:TT):TT:=fun d H Q=>t d H fun c e=>Q (!c) e
theorem Dj(f:PT X a tA):PW X (.BoolOp .And [a] pos) tA:=by intro g d s i H Q I h;refine isTrue_and (bW (f _ s _ H Q I h) fun c j e=>?_);cases c with |true=>exact isTrue_and_nil e |false=>exact e
theorem uB(f:PT X a tA):PW X (.BoolOp .Or [a] pos) tA:=by intro g d s i H Q I h;refine isTrue_or (bW (f _ s _ H Q I h) fun c j e=>?_);cases c with |false=>exact isTrue_or_nil e |true=>exact e
theorem Dl(g:PT X a tA)(i:PW X (.BoolOp .And (b::rest) pos) uA):PW X (.BoolOp .And (a::b::rest) pos) (yR tA uA):=by intro j f s l H Q I h;refine isTrue_and (bW (g _ s _ H _ I h) fun c k ⟨_,d,e⟩=>?_);cases c with |true=>exact i _ _ _ _ _ Q d e |false=>exact⟨_,d,e⟩
theorem qY(g:PT X a tA)(i:PW X (.BoolOp .Or (b::rest) pos) uA):PW X (.BoolOp .Or (a::b::rest) pos) (Iy tA uA):=by intro j f s l H Q I h;refine isTrue_or (bW (g _ s _ H _ I h) fun c k ⟨_,d,e⟩=>?_);cases c with |true=>exact⟨_,d,e⟩ |false=>exact i _ _ _ _ _ Q d e
theorem wj(d:PT X a tA):PT X (.UnaryOp .Not a pos) (yS tA):=fun c s e H Q I h=>isTrue_not (d _ s _ H _ I h)
def Iz(ta tb:TE):TE:=fun d H Q=>ta d H fun x e=>∃c,x=.bl c/\if c=true then tb d e Q else Q (.bl false) e
def IA (ta : TE) : TE := fun σ H Q => ta σ H fun x H1 => ∃ c, x = .bl c ∧ Q (.bl (!c)) H1
theorem AY(h:PE X a t):PE X (.BoolOp op [a] pos) t:=fun c s e H Q I d=>BoolOp_one (h _ s _ H Q I d)
theorem yT(j:PE X a ta)(g:PE X (.BoolOp .And (b::rest) pos) tb):PE X (.BoolOp .And (a::b::rest) pos) (Iz ta tb):=by intro f s l H Q I h;refine BoolOp_and (bW (j _ s _ H _ I h) fun v k ⟨x,_,e,i,d⟩=>?_);obtain⟨c,rfl,d⟩:=d;cases i;refine gG ?_;cases c with |true=>exact g _ _ _ _ Q e d |false=>exact⟨.bl _,_,e,rfl,d⟩
theorem Dp (ha : PE X a ta) : PE X (.UnaryOp .Not a pos) (IA ta) := by
  intro pins s σ H Q I h
  refine UnaryOp_ (bW (ha _ s _ H _ I h) fun v s1 ⟨x, _, I1, r1, q1⟩ => ?_)
  obtain ⟨c, rfl, q1⟩ := q1
  cases r1
  exact not_of (gG ⟨.bl _, _, I1, rfl, q1⟩)
def IB(t:TT)(ta tb:TE):TE:=fun d H Q=>t d H fun c e=>if c=true then ta d e Q else tb d e Q
theorem IC(j:PT X c tA)(k:PE X a ta)(i:PE X b tb):PE X (.IfExp c a b pos) (IB tA ta tb):=by intro g s m H Q I h;refine wpAny_IfExp (bW (j _ s _ H _ I h) fun d l ⟨_,f,e⟩=>?_);cases d with |true=>exact k _ _ _ _ Q f e |false=>exact i _ _ _ _ Q f e
end
def gh(K:PySem.W.Frag)(H:Hp)(a:Addr)(xs:List V):Prop:= Rd H a (.lst xs)\/ ∃(o:Obj) (b:Array Value) (n:Nat),K.lookup a=some o/\o.cls=.type "list"/\o.dict=none/\o.data=.seq b n/\b.size<=sizeLine/\Vals xs b.toList
def jo(K:PySem.W.Frag)(H:Hp)(a:Addr)(xs:List V):Prop:= Rd H a (.tup xs)\/ ∃(o:Obj) (b:Array Value) (n:Nat),K.lookup a=some o/\o.cls=.type "tuple"/\o.data=.seq b n/\b.size<=sizeLine/\Vals xs b.toList
noncomputable def Dq:Value->Option V |.none=>some .non |.bool b=>some (.bl b) |.int i _=>some (.int i) |.str x _=>some (.str x) |.bytes b _=>some (.rO b) |.float b _=>some (.wb b) |.ref a=>some (.ref a) |.type n=>some (.ty n) |_=>none
theorem RelV.abs(r:RelV x u):Dq u=some x:=by cases x with |non=>cases r;rfl |bl _=>cases r;rfl |int _=>obtain⟨t,rfl⟩:=r;rfl |str _=>obtain⟨t,rfl⟩:=r;rfl |rO _=>obtain⟨t,rfl⟩:=r;rfl |wb _=>obtain⟨t,rfl⟩:=r;rfl |ref _=>cases r;rfl |ty _=>cases r;rfl
theorem RelV.inj(r:RelV x u)(q:RelV y u):x=y:=eU (r.abs.symm.trans q.abs)
theorem Vals.inj:∀{xs ys:List V}{us:List Value},Vals xs us->Vals ys us->xs=ys |_,_,_,.nil,.nil=>rfl |_,_,_,.cons r t,.cons a b=>by rw[r.inj a,Vals.inj t b]
section
variable{X:Cx}{pins:List (Addr×Obj)}{σ:St}{H:Hp}{s:Shared}{a:Addr}{xs ys:List V}
theorem gh.of{K:PySem.W.Frag}(h:H a=some (.lst xs)):gh K H a xs:=.inl (.inl h)
theorem jo.of{K:PySem.W.Frag}(h:H a=some (.tup xs)):jo K H a xs:=.inl (.inl h)
theorem Inv.list(I:Inv X pins σ H s)(h:gh X.K H a xs):∃its:List Value,Vals xs its/\PlainL s.heap a its.toArray/\xs.length<=sizeLine:=by
 rcases h with h|⟨o,its,n,b,d,c,g,f,r⟩;.obtain⟨z,its,n,r,e⟩:=h.ok I.bF;exact⟨_,r,⟨_,n,e,rfl,rfl,rfl⟩,z⟩
 .refine⟨_,r,⟨o,n,I.iQ a o b,d,c,by omega⟩,?_⟩;have e:=r.length;simp at e;lia
theorem Inv.tuple(I:Inv X pins σ H s)(h:jo X.K H a xs):∃its:List Value,Vals xs its/\IsTup s.heap a its.toArray/\xs.length<=sizeLine:=by
 rcases h with h|⟨o,its,n,c,b,f,d,r⟩;.obtain⟨z,its,r,p⟩:=h.ok I.bF;exact⟨_,r,p,z⟩
 .refine⟨_,r,⟨o,I.iQ a o c,b,n,by omega⟩,?_⟩;have e:=r.length;simp at e;omega
theorem Inv.nQ(I:Inv X pins σ H s)(h:gh X.K H a xs)(h':gh X.K H a ys):xs=ys:=by
 obtain⟨c,r,⟨o,n,e,_,_,d⟩,_⟩:=I.list h;obtain⟨b,g,⟨i,j,l,_,_,k⟩,_⟩:=I.list h';have:c=b:=by simp_all
 subst this;exact r.inj g
theorem Inv.qZ(I:Inv X pins σ H s)(h:jo X.K H a xs)(h':jo X.K H a ys):xs=ys:=by
 obtain⟨c,r,⟨o,e,_,n,d⟩,_⟩:=I.tuple h;obtain⟨b,g,⟨i,l,_,j,k⟩,_⟩:=I.tuple h';have:c=b:=by simp_all
 subst this;exact r.inj g
end
noncomputable abbrev Cx.lD(X:Cx)(E:Value->Shared->Prop):Cx:={X with xe:=E}
abbrev Cx.wk(X:Cx):Cx:=X.lD fun _ _=>False
theorem Cx.Ok.lD{X:Cx}(a:X.Ok)(E:Value->Shared->Prop):(X.lD E).Ok:= ⟨a.mod,a.kind,a.glob,a.blt,a.above,a.inj,a.has,a.wg,a.hd,a.frames,a.xE,a.AX,a.bs,a.rP,a.pP,a.qW,a.ja,a.sQ,a.tb⟩
theorem Cx.Ok.gK{X:Cx}(a:(X.lD E).Ok):X.Ok:= ⟨a.mod,a.kind,a.glob,a.blt,a.above,a.inj,a.has,a.wg,a.hd,a.frames,a.xE,a.AX,a.bs,a.rP,a.pP,a.qW,a.ja,a.sQ,a.tb⟩
section
variable{X:Cx}{pins:List (Addr×Obj)}{σ:St}{H:Hp}{s:Shared}{E:Value->Shared->Prop}
theorem Inv.lD(I:Inv X pins σ H s)(E:Value->Shared->Prop):Inv (X.lD E) pins σ H s:=⟨I.ok.lD E,I.os,I.bare,I.base,I.loc,I.cell,I.free,I.ej,I.pin,I.bF,I.len⟩
theorem Inv.gK(I:Inv (X.lD E) pins σ H s):Inv X pins σ H s:=⟨I.ok.gK,I.os,I.bare,I.base,I.loc,I.cell,I.free,I.ej,I.pin,I.bF,I.len⟩
theorem SP.gK(h:SP (X.lD E) pins D f s'):SP X pins D f s':=by cases f with |next=>obtain⟨a,b,I,q⟩:=h;exact⟨_,_,I.gK,q⟩ |brk=>obtain⟨a,b,I,q⟩:=h;exact⟨_,_,I.gK,q⟩ |cont=>obtain⟨a,b,I,q⟩:=h;exact⟨_,_,I.gK,q⟩ |ret u=>obtain⟨v,a,b,I,r,q⟩:=h;exact⟨v,_,_,I.gK,r,q⟩
theorem km.wk{st:List Stmt}(h:km X.wk st t):km X st t:=fun pins s σ H D I a=> cw (h _ s _ H D (I.lD _) a) (fun _ _ q=>q.gK) fun _ _ z=>False.elim z
end
section
variable{X:Cx}{st:Stmt}{rest:List Stmt}{t u:TS}{e:Expr}{te:TE}{pos:Pos}
def AZ:TS:=fun D a H=>D.nx a H
def iM(t u:TS):TS:=fun D a H=>t {D with nx:=u D} a H
theorem et:km X [] AZ:=fun _ _ a H _ I h=>jB ⟨_,H,I,h⟩
theorem a8(h1:PS X st t)(h2:km X rest u):km X (st::rest) (iM t u):=by intro c s j H D I h;refine wpAny_execs_cons (bW (h1 _ s _ H _ I h) fun f k q=>?_);cases f with |next=> obtain⟨g,l,i,q⟩:=q;exact h2 _ _ _ _ D i q |ret v=>exact q |brk=>exact q |cont=>exact q
theorem dh(h1:PS X st t):km X [st] t:=by intro c s g H D I h;refine wpAny_execs_cons (bW (h1 _ s _ H D I h) fun f i q=>?_);cases f with |next=>exact jB q |ret v=>exact q |brk=>exact q |cont=>exact q
theorem Inv.quiet(I:Inv X pins σ H s):interactive X.env=false:=by simp[interactive,I.ok.kind]
def wm(te:TE):TS:=fun D a H=>te a H fun _ b=>D.nx a b
theorem vz(b:PE X e te)(f:swapsWith e none pos.line X.env=pure false:=by rfl):PS X (.Expr e pos) (wm te):=fun a s i H D I h=>wpAny_Expr_any (bW (b _ s _ H _ I h) fun v g ⟨x,_,c,_,d⟩=>⟨_,_,c,d⟩) I.quiet f
def jD(te:TE):TS:=fun D a H=>te a H D.rt
theorem sR(f:PE X e te):PS X (.Return (some e) pos) (jD te):=fun a s i H D I h=>wpAny_Return_some (bW (f _ s _ H _ I h) fun v g ⟨x,_,d,c,b⟩=>⟨x,_,_,d,c,b⟩)
def uC(c:TT)(t u:TS):TS:=fun D a H=>c a H fun b d=>if b=true then t D a d else u D a d
theorem dP(k:PT X c l)(m:km X a t)(j:km X b u):PS X (.If c a b pos) (uC l t u):=by intro i s n H D I h;refine wpAny_If (bW (k _ s _ H _ I h) fun d o ⟨_,g,f⟩=>?_);cases d with |true=>exact m _ _ _ _ D g f |false=>exact j _ _ _ _ D g f
def ID : TS := fun _ _ _ => False
theorem Qh {Qi : List Stmt} : km X Qi ID := fun _ _ _ _ _ _ h => h.elim
end
abbrev TG:=V->St->Hp->(St->Hp->Prop)->Prop
abbrev xF:=List V->St->Hp->(St->Hp->Prop)->Prop
def PG(X:Cx)(a:Expr)(t:TG):Prop:= ∀(b:List (Addr×Obj))(s:Shared)(e:St)(H:Hp)(v:V)(u:Value)(Q:St->Hp->Prop),Inv X b e H s->RelV v u->t v e H Q-> wpAny (model X.prog X.w) X.A (assign a X.env u) (fun _ f=>∃c d,Inv X b c d f/\Q c d) X.xe s
def A0(X:Cx)(ts:List Expr)(t:xF):Prop:= ∀(a:List (Addr×Obj))(s:Shared)(d:St)(H:Hp)(f:List V)(e:List Value)(Q:St->Hp->Prop),Inv X a d H s->Vals f e->t f d H Q-> wpAny (model X.prog X.w) X.A (assignInOrder ((assignEach ts X.env).map (·.2)) e) (fun _ g=>∃b c,Inv X a b c g/\Q b c) X.xe s
abbrev yU:=V->V->V->Hp->(Hp->Prop)->Prop
def yV(X:Cx)(t:yU):Prop:= ∀(a:List (Addr×Obj))(s:Shared)(d:St)(H:Hp)(o i v:V)(b c u:Value)(Q:Hp->Prop),Inv X a d H s->RelV o b->RelV i c->RelV v u->t o i v H Q-> wpAny (model X.prog X.w) X.A (setItem b c u) (fun _ f=>∃e,Inv X a d e f/\Q e) X.xe s
section
variable {X : Cx} {pos : Pos}
def jE(i:Nat):TG:=fun v a H Q=>Q (a.set i (some v)) H
theorem vA(b:X.N.Nodup)(hi:X.N[i]?=some x)(d:Loc X.env.scope x)(c:X.fn x=true\/X.env.scope.names.lookup x=some .local:=by first|exact .inl rfl|exact .inr rfl|assumption):PG X (.Name x pos) (jE i):=fun a s g H v u Q I r h=>wpAny_assign_Name (yO I b hi d r (fun f e=>⟨_,H,e,h⟩) c)
def uD:xF:=fun a b H Q=>a=[]/\Q b H
def xG(t:TG)(u:xF):xF:=fun b d H Q=>∃v r,b=v::r/\t v d H fun a c=>u r a c Q
theorem q_:A0 X [] uD:=by rintro a s c H b d Q I r ⟨e,h⟩;exact assignInOrder_nil ⟨_,H,I,h⟩
theorem jr(h1:PG X e t)(h2:A0 X es u) (f:(assignEach (e::es) X.env).map (·.2)=assign e X.env::(assignEach es X.env).map (·.2):=by rfl):A0 X (e::es) (xG t u):=by rintro a s m H k l Q I r ⟨v,n,d,h⟩;subst d;cases r with |cons r i=> rw[f];exact assignInOrder_cons (bW (h1 _ s _ H _ _ _ I r h) fun _ j ⟨_,_,c,g⟩=>h2 _ _ _ _ _ _ Q c i g)
def uE(K:PySem.W.Frag)(n:Nat)(t:xF):TG:=fun v c H Q=>∃a b,v=.ref a/\jo K H a b/\b.length=n/\t b c H Q
theorem rb(y:X.calm=true)(h:A0 X es t) (l:(assignEach es X.env).length=n:=by rfl)(c:(assignEach es X.env).findIdx? (·.1)=none:=by rfl):PG X (.Tuple es k pos) (uE X.K n t):=by rintro d s B H v u Q I r ⟨a,C,j,z,x,f⟩;subst j;cases r;obtain⟨w,g,m,A⟩:=I.tuple z;refine assign_Tuple_tuple (I.ok.hd y) m (by simp[l,<-x,g.length]) c fun i q=>?_;have p:Inv X _ _ H {s with heap:=i}:=I.kept fun b o e=>q b o (bC (aQ e)) e;exact h _ _ _ H _ _ Q p (by omega) f
def sS(e b:TE)(t:yU):TG:=fun v a H Q=>e a H fun o d=>b a d fun i f=>t o i v f fun c=>Q a c
theorem vB(f:PE X o w)(hi:PE X i n)(j:yV X t) (C:∀v,assign (.Subscript o i pos) X.env v=(do
 let a<-holding [v] (eval o X.env) let b<-holding [v,a] (eval i X.env)standAt pos
 holding [v,a,b] (setItem a b v)release [v,a,b] []):=by intro _;rfl):PG X (.Subscript o i pos) (sS w n t):=fun c s z H v u Q I r h=>ah (fv (bW (f _ s _ H _ I h) fun a D ⟨x,_,q,l,g⟩=>(ah (fv (bW (hi _ _ _ _ _ q g) fun b B ⟨y,_,e,m,d⟩=>ah (wpAny_standAt (ah (fv (bW (j _ _ _ _ x y v _ _ u _ e l m r d) fun _ A ⟨_,k,p⟩=>wpAny_release ⟨_,_,k,p⟩)))))))))
def fD(c:TE)(g:TG):TS:=fun D a H=>c a H fun x b=>g x a b D.nx
theorem uF(m:PE X e c)(k:PG X a g)(j:swapsWithSole [a] e pos.line X.env=pure false:=by rfl)(l:swappedStores [a] e X.env=pure none:=by rfl) (h1:(assignEach [a] X.env).map (·.2)=[assign a X.env]:=by rfl):PS X (.Assign [a] e pos) (fD c g):=by intro b s o H D I h;refine wpAny_Assign_stores (bW (m _ s _ H _ I h) fun v p ⟨x,_,f,d,i⟩=>?_) j l;rw[h1];exact bW (k _ _ _ _ x v _ f d i) fun _ n q=>q
theorem nR(g:X.N.Nodup)(hi:X.N[i]?=some x)(j:Loc X.env.scope x)(l:PE X e o)(k:swapsWith e (some (.Name x a)) pos.line X.env=pure false:=by rfl)(m:X.fn x=true\/X.env.scope.names.lookup x=some .local:=by first|exact .inl rfl|exact .inr rfl|assumption): PS X (.Assign [.Name x a] e pos) (fD o (jE i)):=fun b s q H D I h=>wpAny_Assign_Name (bW (l _ s _ H _ I h) fun v p ⟨y,t,f,d,c⟩=>yO f g hi j d (fun r n=>⟨_,_,n,c⟩) m) k
def Dr(c:TT)(h:TS):TS:=fun D a H=>∃W:Nat->St->Hp->Prop,(∃m,W m a H)/\∀m a H,W m a H-> c a H fun b e=>if b=true then∃N:St->Hp->Prop,(∀d g,N d g->∃f,f<m/\W f d g)/\h {D with nx:=N,ct:=N,bk:=D.nx} a e else D.nx a e
theorem Dt(w:PassesOwn (model X.prog X.w) X.A X.env X.xe)(C:PT X c J)(x:km X e G):PS X (.While c e [] pos) (Dr J G):=by rintro t s T H D I ⟨W,⟨S,z⟩,d⟩;refine wpAny_While (codeAny_whileLoop (fun n O=>∃a u,Inv X _ a u O/\W n a u) ?_ _ ⟨_,H,I,z⟩);rintro n Q ⟨M,U,E,L⟩;refine iI w (bW (C _ _ _ _ _ E (d n _ _ L)) fun b R ⟨_,q,g⟩=>?_);cases b with
 |true=> obtain⟨N,o,g⟩:=g;refine iI w (bW (x _ _ _ _ _ q g) fun f Y h=>?_);cases f with |next=> obtain⟨m,B,j,k⟩:=h;obtain⟨y,l,i⟩:=o _ _ k;exact⟨_,l,_,_,j,i⟩ |cont=> obtain⟨m,B,j,k⟩:=h;obtain⟨y,l,i⟩:=o _ _ k;exact⟨_,l,_,_,j,i⟩ |brk=>exact h |ret v=>exact h
 |false=> exact jB ⟨_,_,q,g⟩
end
structure It where
 go:Nat->Hp->Prop
 yW:Nat->Hp->V->Hp->Prop
 stop:Nat->Hp->Prop
def jF(X:Cx)(pins:List (Addr×Obj))(H:Hp)(b:Addr):Prop:= H b=none/\b≠X.env.locals/\b∉X.fs/\(b∈X.ex\/X.fJ.heap.objs.size<=b)/\(∀x c,X.env.cells.lookup x=some c->c≠b)/\∀p∈X.pn++pins,p.1≠b
theorem Inv.lE(I:Inv X pins σ H s)(a:s.heap.objs.size<=b)(f:H' b=none):jF X pins H' b:=by
 refine⟨f,mr (cA I.lt a),I.yN a,.inr (bV I.sz a),fun x c e z=>?_,fun p d z=>?_⟩;.obtain⟨v,q⟩:=I.cell x c e;exact absurd (cA q.lt (by simp_all)) (cY _)
 .exact absurd (cA (aQ (I.pin p d).1) (by simp_all)) (cY _)
structure Turn(P:Program)(w:World)(K:PySem.W.Frag)(tg:Expr)(J:It)(fp:List Addr)(it:Addr)(tn:Nat->Heap->Prop):Prop where
 mem:it∈fp
 obj:∀i h,tn i h->∀b∈fp,∃o,h.get? b=some o/\∀v,o.data≠.cell v
 keep:∀i h h',tn i h->(∀b∈fp,∀o,h.get? b=some o->h'.get? b=some o)->tn i h'
 item:∀(X:Cx),X.prog=P->X.w=w->X.K=K->X.calm=true->∀(i:Nat)(pins:List (Addr×Obj))(s:Shared)(σ:St)(H:Hp)(E:Value->Shared->Prop),Inv X pins σ H s->(∀b∈fp,jF X pins H b)->tn i s.heap->J.go i H-> wpAny (model P w) X.A (pyNext (.ref it)) (fun r s1=>∃u,r=some u/\ wpAny (model P w) X.A (letOwnedTupleGo tg (.ref it) u) (fun _ s2=>∃x H',Inv X pins σ H' s2/\RelV x u/\J.yW i H x H'/\tn (i+1) s2.heap/\∀b∈fp,H' b=none) E s1) E s
 done:∀(X:Cx),X.prog=P->X.w=w->X.K=K->X.calm=true->∀(i:Nat)(pins:List (Addr×Obj))(s:Shared)(σ:St)(H:Hp)(E:Value->Shared->Prop),Inv X pins σ H s->(∀b∈fp,jF X pins H b)->tn i s.heap->J.stop i H-> wpAny (model P w) X.A (pyNext (.ref it)) (fun r s1=>r=none/\Inv X pins σ H s1) E s
 self:∀(A:Around)(i:Nat)(s:Shared)(Q:Value->Shared->Prop)(E:Value->Shared->Prop),tn i s.heap->Q (.ref it) s->wpAny (model P w) A (pyIter (.ref it)) Q E s
abbrev TI:=St->Hp->(It->Hp->Prop)->Prop
def IE(X:Cx)(pins:List (Addr×Obj))(σ:St)(h:Expr)(R:It->Hp->Prop)(a:Value)(e:Shared):Prop:= ∃(f:Addr) (d:List Addr) (g:Nat->Heap->Prop) (J:It) (c:Hp),a=.ref f/\Inv X pins σ c e/\Turn X.prog X.w X.K h J d f g/\g 0 e.heap/\(∀b∈d,jF X pins c b)/\R J c
def PI(X:Cx)(f b:Expr)(d:TI):Prop:= ∀(a:List (Addr×Obj))(s:Shared)(c:St)(H:Hp)(R:It->Hp->Prop),Inv X a c H s->d c H R-> wpAny (model X.prog X.w) X.A (eval b X.env) (fun v e=>wpAny (model X.prog X.w) X.A (pyIter v) (IE X a c f R) X.xe e) X.xe s
theorem A1(b:s.heap.get? d=some o)(e:o.cls=.type n)(hd:o.data=.fields vs) (f:["enumerate","zip","dict_itemiterator","dict_reverseitemiterator","odict_iterator","itertools.zip_longest","itertools.pairwise"].contains n=false)(a:Q () s):wpAny M A (letOwnedTupleGo c (.ref d) u) Q E s:=by cases c<;>first |exact au a |(cases u<;>first |exact au a |(refine ah (wpAny_load b ?_);rw[e,hd];show wpAny M A (if(["enumerate","zip","dict_itemiterator","dict_reverseitemiterator","odict_iterator","itertools.zip_longest","itertools.pairwise"].contains n&&vs[0]?==some _)=true then _ else _) Q E s;rw[ao (by grind)];exact au a))
def Du(K:PySem.W.Frag)(a:Addr):It:= ⟨fun i H=>∃b x,gh K H a b/\b[i]?=some x,fun i H x c=>c=H/\∀b,gh K H a b->b[i]?=some x,fun i H=>∃b,gh K H a b/\b.length<=i⟩
def IF(K:PySem.W.Frag)(a:Addr):It:= ⟨fun i H=>∃b x,jo K H a b/\b[i]?=some x,fun i H x c=>c=H/\∀b,jo K H a b->b[i]?=some x,fun i H=>∃b,jo K H a b/\b.length<=i⟩
def yX(lo:Int)(n:Nat):It:=⟨fun i _=>i<n,fun i H x a=>a=H/\x=.int (lo+i),fun i _=>n<=i⟩
theorem Qj{K:PySem.W.Frag}(a g:Addr):Turn P w K tg (Du K a) [g] g (fun i h=>h.IsListIter g a i) where
 mem:=by simp
 obj:=fun i h st b f=>by
  have e:b=g:=by simp_all
  subst e;obtain⟨o,e,c,d⟩:=st;exact⟨o,e,fun v z=>by grind⟩
 keep:=fun i h O st k=>st.at fun o e=>k _ (by simp) o e;item:=by intro X D r B N i l s R H E I n st L;subst D r B;obtain⟨xs,x,m,M⟩:=L;obtain⟨A,G,p,S⟩:=I.list m;obtain⟨u,hu,Q⟩:=G.get M;obtain⟨t,J,Y,y,q,C⟩:=n g (by simp);refine wpAny_pyNext_list_item st p.isList (x:=u) (by simp_all) fun O j U=>?_;obtain⟨o,e,c,d⟩:=id j;exact⟨u,rfl,A1 e c d rfl ⟨x,H,(I.turned (fun b o f e=>(U.2 b f).trans e) t J y q C),Q,⟨rfl,fun ys Z=>by rwa[I.nQ Z m]⟩,j,fun b f=>(n b f).1⟩⟩
 done:=by intro X D r B N i l s R H E I n st L;subst D r B;obtain⟨xs,m,M⟩:=L;obtain⟨A,G,p,S⟩:=I.list m;obtain⟨t,J,Y,y,q,C⟩:=n g (by simp);have hl:=G.length;exact wpAny_pyNext_list_end (I.ok.hd N) st p.isList (by simp_all) fun O T=>⟨rfl,I.turned (fun b o f e=>T b o f e) t J y q C⟩
 self:=fun _ _ _ _ _ st h=>wpAny_pyIter_listiter st h
theorem Qk{w:World}{K:PySem.W.Frag}(a it:Addr):Turn P w K tg (IF K a) [it] it (fun i h=>h.IsTupleIter it a i) where
 mem:=by simp
 obj:=fun i h st b g=>by
  have e:b=it:=by simpa using g
  subst e;obtain⟨o,e,c,d⟩:=st;exact⟨o,e,fun v z=>by simp_all⟩
 keep:=fun i h n st k=>st.at fun o e=>k it (by simp) o e;item:=by intro X L C D N i f s O H E I q st M;subst L C D;obtain⟨T,x,m,t⟩:=M;obtain⟨j,B,p,Q⟩:=I.tuple m;obtain⟨u,hu,U⟩:=B.get t;obtain⟨y,J,Z,A,r,G⟩:=q it (by simp);refine wpAny_pyNext_tuple_item st (show s.heap.IsTuple a j.toArray from p) (x:=u) (by simp_all) fun n l sb=>?_;have S:Inv X f O H {s with heap:=n}:=I.turned (t':=s.toks) (fun b o g e=>(sb.2 b g).trans e) y J A r G;obtain⟨o,e,c,d⟩:=id l;exact⟨u,rfl,A1 (s:={s with heap:=n}) e c d (by decide) ⟨x,H,S,U,⟨rfl,fun ys Y=>by rw[I.qZ Y m];exact t⟩,l,fun b g=>(q b g).1⟩⟩
 done:=by intro X L C D N i f s O H E I q st M;subst L C D;obtain⟨T,m,t⟩:=M;obtain⟨j,B,p,Q⟩:=I.tuple m;obtain⟨y,J,Z,A,r,G⟩:=q it (by simp);have hl:=B.length;exact wpAny_pyNext_tuple_end (I.ok.hd N) st (p) (by simp;lia) fun n R=>⟨rfl,I.turned (fun b o g e=>R b o g e) y J A r G⟩
 self:=fun _ _ _ _ _ st h=>wpAny_pyIter_tupleiter st h
theorem Ql{K:PySem.W.Frag}(a:Addr)(lo:Int)(n:Nat):Turn P w K O (yX lo n) [a] a (fun i h=>IsRangeIter h a (lo+(i:Nat)*1) ((n:Int)-(i:Nat)) 1) where
 mem:=by simp
 obj:=fun i h st b c=>by
  have e:b=a:=by simp_all
  subst e;exact⟨_,st,fun v z=>by trivial⟩
 keep:=fun i h p st k=>k _ (by simp) _ st;item:=by intro X A y B r i d s L H E I g st u;subst A y B;obtain⟨j,q,G,m,x,l⟩:=g a (by simp);refine(Walks.range (I.ok.hd r) _ _ 1 n).item i s _ _ u st fun v p M D f N=>?_;obtain⟨t,rfl⟩:=D;have C:Inv X _ _ H {s with heap:=p,toks:=M}:=I.turned (fun b o c e=>N b o (by grind) e) j q m x l;refine⟨_,rfl,A1 f rfl rfl (by decide) ⟨.int _,H,C,⟨t,?_⟩,⟨rfl,rfl⟩,f,fun b c=>(g b c).1⟩⟩;rw[Int.mul_one]
 done:=by intro X A y B r i d s L H E I g st u;obtain⟨j,q,G,m,x,l⟩:=g a (by simp);exact wpAny_pyNext_range_end (I.ok.hd r) st (by have:n<=i:=u;lia) fun p J=>⟨rfl,I.turned (fun b o c e=>J b o c e) j q m x l⟩
 self:=fun _ _ _ _ _ st h=>wpAny_pyIter_rangeiter st h
section
variable{X:Cx}{tg:Expr}
def Dv(K:PySem.W.Frag)(c:TE):TI:=fun d H R=>c d H fun x b=>∃a,x=.ref a/\(∃e,gh K b a e)/\R (Du K a) b
def yY(K:PySem.W.Frag)(c:TE):TI:=fun d H R=>c d H fun x b=>∃a,x=.ref a/\(∃e,jo K b a e)/\R (IF K a) b
theorem k8(f:PE X l k):PI X tg l (Dv X.K k):=by
 intro d s w H R I h;refine bW (f _ s _ H _ I h) fun v n ⟨x,_,c,g,j⟩=>?_;obtain⟨a,e,⟨t,i⟩,q⟩:=j;subst e;cases g;obtain⟨m,u,p,y⟩:=c.list i;refine mF p.isList (⟨_,_,_,_,_,rfl,c.kept fun b o e=>bu _ e,Qj a _,⟨_,cu _ rfl,rfl,rfl⟩,fun b r=>?_,q⟩);have e:b=n.heap.objs.size:=by simp_all
 subst e;exact c.lE (aB _) (c.bF.fresh (aB _))
theorem Qm(f:PE X l k):PI X tg l (yY X.K k):=by
 intro d s w H R I h;refine bW (f _ s _ H _ I h) fun v n ⟨x,_,c,g,j⟩=>?_;obtain⟨a,e,⟨t,i⟩,q⟩:=j;subst e;cases g;obtain⟨m,u,p,y⟩:=c.tuple i;refine wpAny_pyIter_tuple (p) (⟨_,_,_,_,_,rfl,c.kept fun b o e=>bu _ e,Qk a _,⟨_,cu _ rfl,rfl,rfl⟩,fun b r=>?_,q⟩);have e:b=n.heap.objs.size:=by simp_all
 subst e;exact c.lE (aB _) (c.bF.fresh (aB _))
theorem IG{H:Hp}{lo hi:Int}(I:Inv X pins σ H s)(h1:-(2^62)<=lo)(h2:lo<2^62)(h3:-(2^62)<=hi)(c:hi<2^62) (q:R (yX lo (hi-lo).toNat) H):wpAny (model X.prog X.w) X.A (pyIter (.ref s.heap.objs.size)) (IE X pins σ tg R) E {s with heap:=s.heap.push {cls:=.type "range",data:=.fields #[.int lo t,.int hi u,.int 1 v]},toks:=tk}:=by
  refine wpAny_pyIter_range (IsRange.new ..) (small_one h1 h2 h3 c) ?_;have a:Inv X _ _ H {s with heap:=s.heap.push {cls:=.type "range",data:=.fields #[.int lo t,.int hi u,.int 1 v]},toks:=tk}:=I.kept fun b o e=>bu _ e;refine⟨_,_,_,_,H,rfl, a.kept fun b o e=>bu _ e,Ql _ _ _,?_,fun b g=>?_,q⟩
  . have d:lo+(0:Nat)*1=lo:=by simp
    have f:((hi-lo).toNat:Int)-(0:Nat)=Builtin.Range.rangeSize lo hi 1:=by rw[rangeSize_one];lia
    rw[d,f];exact cu _ rfl
  . have e:b=(s.heap.push {cls:=.type "range",data:=.fields #[.int lo t,.int hi u,.int 1 v]}).objs.size:=by simp_all
    subst e;exact a.lE (aB _) (a.bF.fresh (aB _))
def IH(c:TA):TI:=fun a H R=>c a H fun d b=>∃j:Int,d=[.int j]/\-(2^62)<=j/\j<2^62/\R (yX 0 j.toNat) b
def A2(c:TA):TI:=fun d H R=>c d H fun a b=>∃i j:Int,a=[.int i,.int j]/\(-(2^62)<=i/\i<2^62/\-(2^62)<=j/\j<2^62)/\R (yX i (j-i).toNat) b
theorem nS(m:Gl X "range")(i:X.mg "range"=none)(n:PA X [a] f)(k:starEach [a] X.env=[(false,eval a X.env)]:=by rfl):PI X tg (.Call (.Name "range" p) [a] [] pos) (IH f):=by intro c s w H R I h;refine Call_ (vy I m i boot_range (jx (bW (n _ _ s _ H _ I h) fun x v ⟨_,_,g,o,b⟩=>?_) k rfl));obtain⟨j,e,b,u,q⟩:=b;subst e;cases o with |cons r l=> cases l;obtain⟨t,rfl⟩:=r;exact call_range_1 (IG g (by lia) (by lia) b u (by simp_all))
theorem A3(z:Gl X "range")(u:X.mg "range"=none)(o:PA X [a,b] v)(E:starEach [a,b] X.env=[(false,eval a X.env),(false,eval b X.env)]:=by rfl)(d:starEach [b] X.env=[(false,eval b X.env)]:=by rfl): PI X tg (.Call (.Name "range" p) [a,b] [] pos) (A2 v):=by intro k s B H R I h;refine Call_ (vy I z u boot_range (jx (bW (o _ _ s _ H _ I h) fun A C ⟨_,_,x,m,f⟩=>?_) (by simp_all) (by rw[d];rfl)));obtain⟨i,j,e,⟨f,l,y,n⟩,q⟩:=f;subst e;cases m with |cons r g=> cases g with |cons w g=> cases g;obtain⟨t,rfl⟩:=r;obtain⟨D,rfl⟩:=w;exact call_range_2 (IG x f l y n q)
def sT(h:TI)(g:TG)(k:TS):TS:=fun D a H=>h a H fun J f=>∃W:Nat->Nat->St->Hp->Prop,(∃m,W 0 m a f)/\∀i m a H,W i m a H-> (J.stop i H/\D.nx a H)\/(J.go i H/\∃N:St->Hp->Prop,(∀b c,N b c->∃e,e<m/\W (i+1) e b c)/\∀x c,J.yW i H x c->g x a c fun d j=>k {D with nx:=N,ct:=N,bk:=D.nx} d j)
def xH(fp:List Addr)(h:Heap):List (Addr×Obj):=fp.filterMap fun b=>(h.get? b).map fun o=>(b,o)
theorem yZ(a:b∈fp)(e:h.get? b=some o):(b,o)∈xH fp h:=lU.mpr ⟨b,a,by simp_all⟩
theorem Qn(a:p∈xH fp h):p.1∈fp/\h.get? p.1=some p.2:=by obtain⟨b,c,e⟩:=lU.mp a;cases q:h.get? b with |none=>simp_all |some o=> grind
theorem Inv.pinned(I:Inv X pins σ H s)(i:∀b∈fp,jF X pins H b)(g:∀b∈fp,∃o,s.heap.get? b=some o/\∀v,o.data≠.cell v):Inv X (pins++xH fp s.heap) σ H s:= I.qI fun p f=>(cD.mp f).elim (fun z=>I.pin p (c7 _ z)) fun z=>by obtain⟨a,e⟩:=Qn z;obtain⟨j,k,h,_⟩:=i _ a;obtain⟨o,c,d⟩:=g _ a;rw[e] at c;cases c;exact⟨e,j,k,h,d⟩
theorem Inv.gM(I:Inv X (pins++pl) σ H s):Inv X pins σ H s:=I.qI fun p a=>I.pin p (c7 _ (dq _ a))
theorem rR(A:PassesOwn (model X.prog X.w) X.A X.env X.xe)(Z:X.calm=true)(hi:PI X tg t wi)(hg:PG X tg g)(j:km X L tb) (hs:∀x,foldedSetIterable t X.env x=pure x:=by intro _;rfl):PS X (.For tg t L [] pos) (sT wi g tb):=by
  intro a s σ H D I h;refine wpAny_For (bW (hi a s σ H _ I h) fun v s1 h1=>bW h1 fun Qo s2 h2=>?_) hs;obtain⟨it,Q,tn,J,H2,e,I2,T,R,f2,W,⟨m0,w0⟩,M⟩:=h2;subst e;have l:∀{q:Hp},(∀b∈Q,q b=none)->∀b∈Q,jF X a q b:=fun hn b j=>⟨hn b j,(f2 b j).2⟩;refine codeAny_forLoop_any (fun n s'=>∃i p q,Inv X a p q s'/\tn i s'.heap/\(∀b∈Q,q b=none)/\W i n p q) ?_ m0 ⟨0,σ,H2,I2,R,fun b j=>(f2 b j).1,w0⟩;rintro n s3 ⟨i,B,Y,I3,C,E,w3⟩;rcases M i n B Y w3 with⟨G,qn⟩|⟨go,N,hN,step⟩;.refine iI A (bW (T.done X rfl rfl rfl Z i a s3 B Y X.xe I3 (l E) C G) fun r s4 ⟨S,I4⟩=>?_);subst S;exact jB ⟨_,_,I4,qn⟩
  . refine iI A (bW (T.item X rfl rfl rfl Z i _ _ _ _ _ I3 (l E) C go) fun r s4 ⟨u,S,h4⟩=>?_);subst S;refine iI A (bW h4 fun _ s5 ⟨x,_,I5,r5,y5,y,U⟩=>?_);refine iI A (bW (hg _ _ _ _ x u _ (I5.pinned (l U) (T.obj _ _ y)) r5 (step x _ y5)) fun _ s6 ⟨_,_,I6,q6⟩=>(iI A (bW (j _ _ _ _ _ I6 q6) fun f s7 w=>?_)));have again:∀{c:St}{z:Hp},Inv X (a++xH _ _) c z _->N _ _->∃m,m<n/\∃i p q,Inv X _ p q _/\tn i s7.heap/\(∀b∈Q,q b=none)/\W i m p q:=fun{c z} k O=>by obtain⟨m',hm,w7⟩:=hN _ _ O;refine⟨_,hm,_,_,_,k.gM,T.keep _ _ _ y fun b j o e=>(k.pin _ (c7 _ (c7 _ (yZ j e)))).1,fun b j=>?_,w7⟩;obtain⟨o,e,d⟩:=T.obj _ _ y b j;exact(k.pin _ (c7 _ (c7 _ (yZ j e)))).2.1
    cases f with |next=>obtain⟨c,z,k,O⟩:=w;exact again k O |cont=>obtain⟨c,z,k,O⟩:=w;exact again k O |brk=>obtain⟨c,z,k,w⟩:=w;exact⟨_,_,k.gM,w⟩ |ret v=>obtain⟨x7,c,z,k,r7,w⟩:=w;exact⟨_,_,_,k.gM,r7,w⟩
end
abbrev R2:=V->V->Hp->VK->Prop
def gT(X:Cx)(f:Value->Value->Sem Value)(r:R2):Prop:= ∀(a:List (Addr×Obj))(s:Shared)(b:St)(H:Hp)(x y:V)(v u:Value)(Q:VK),Inv X a b H s->RelV x v->RelV y u->r x y H Q-> wpAny (model X.prog X.w) X.A (f v u) (EP X a b Q) X.xe s
def Dw(X:Cx)(f:Value->Sem Value)(r:V->Hp->VK->Prop):Prop:= ∀(a:List (Addr×Obj))(s:Shared)(b:St)(H:Hp)(x:V)(v:Value)(Q:VK),Inv X a b H s->RelV x v->r x H Q-> wpAny (model X.prog X.w) X.A (f v) (EP X a b Q) X.xe s
def cj(X:Cx)(f:Value)(r:List V->Hp->VK->Prop):Prop:= ∀(a:List (Addr×Obj))(s:Shared)(d:St)(H:Hp)(b:List V)(c:List Value)(Q:VK),Inv X a d H s->Vals b c->r b H Q-> wpAny (model X.prog X.w) X.A (call f c) (EP X a d Q) X.xe s
def iN(r:R2)(e d:TE):TE:=fun a H Q=>e a H fun x c=>d a c fun y b=>r x y b Q
def II(r:V->Hp->VK->Prop)(c:TE):TE:=fun a H Q=>c a H fun x b=>r x b Q
def rI(C:Int->Int->Prop)(g:Int->Int->V):R2:=fun x y H Q=>∃i j,x=.int i/\y=.int j/\C i j/\Q (g i j) H
def mO(g:Int->Int->V):R2:=fun x y H Q=>∃i j,x=.int i/\y=.int j/\Q (g i j) H
def rU(g:Int->V):V->Hp->VK->Prop:=fun x H Q=>∃i,x=.int i/\Q (g i) H
section
variable {X : Cx} {a b c : Expr} {ta tb tc : TE} {pos : Pos}
theorem wo(l:PE X a ta)(m:PE X b tb){R:V->V->Hp->Prop}(I:Inv X pins σ H s) (h:ta σ H fun x k=>tb σ k fun y g=>R x y g){f:Value->Value->Sem Value} (p:∀v u i x y g,Inv X pins σ g i->RelV x v->RelV y u->R x y g->wpAny (model X.prog X.w) X.A (f v u) Q X.xe i): wpAny (model X.prog X.w) X.A (eval a X.env) (fun v d=>wpAny (model X.prog X.w) X.A (eval b X.env) (fun u e=>wpAny (model X.prog X.w) X.A (f v u) Q X.xe e) X.xe d) X.xe s:=by refine bW (l _ s _ H _ I h) fun v o ⟨x,_,n,_,j⟩=>(bW (m _ _ _ _ _ n j) fun u i ⟨y,_,_,_,_⟩=>?_);grind
theorem aZ(g:gT X (binaryOp op) r)(i:PE X a ta)(j:PE X b tb):PE X (.BinOp a op b pos) (iN r ta tb):=fun d s n H Q I h=>wpAny_BinOp (wo i j I h fun v u l x y m k f e q=>g _ _ _ _ x y v u Q k f e q)
theorem A4(e:Dw X (unaryOp op) r)(i:PE X a ta):PE X (.UnaryOp op a pos) (II r ta):=fun d s l H Q I h=>UnaryOp_ (bW (i _ s _ H _ I h) fun v k ⟨x,_,g,f,j⟩=>e _ _ _ _ x v Q g f j)
theorem A5{g:Int->Int->Int} (rule:∀(i j:Int)(t u:Tok)(s:Shared)(Q:Value->Shared->Prop)(E:Value->Shared->Prop),C i j->Q (.int (g i j) s.toks) {s with toks:=s.toks+1}->wpAny (model X.prog X.w) X.A (f (.int i t) (.int j u)) Q E s): gT X f (rI C fun i j=>.int (g i j)):=by rintro d s m H x y v u Q I e k ⟨i,j,rfl,rfl,h,q⟩;obtain⟨t,rfl⟩:=e;obtain⟨l,rfl⟩:=k;exact rule i j t _ s _ _ h ⟨.int _,H,I.tok _,⟨_,rfl⟩,q⟩
theorem y4{g:Int->Int->Int} (rule:∀(i j:Int)(t u:Tok)(s:Shared)(Q:Value->Shared->Prop)(E:Value->Shared->Prop),Q (.int (g i j) s.toks) {s with toks:=s.toks+1}->wpAny (model X.prog X.w) X.A (f (.int i t) (.int j u)) Q E s): gT X f (mO fun i j=>.int (g i j)):=by rintro d s k H x y v u Q I h e ⟨i,j,rfl,rfl,q⟩;obtain⟨t,rfl⟩:=h;obtain⟨l,rfl⟩:=e;exact rule i j t _ s _ _ ⟨.int _,H,I.tok _,⟨_,rfl⟩,q⟩
theorem uG{g:Int->Int->Bool} (rule:∀(i j:Int)(t u:Tok)(s:Shared)(Q:Value->Shared->Prop)(E:Value->Shared->Prop),Q (.bool (g i j)) s->wpAny (model X.prog X.w) X.A (f (.int i t) (.int j u)) Q E s): gT X f (mO fun i j=>.bl (g i j)):=by rintro d s k H x y v u Q I h e ⟨i,j,rfl,rfl,q⟩;obtain⟨t,rfl⟩:=h;obtain⟨l,rfl⟩:=e;exact rule i j t _ s _ _ ⟨.bl _,H,I,rfl,q⟩
def sU(i j:Int):Prop:=0<=j/\j<=1000000/\i.natAbs<2^64
def y8(i j:Int):Prop:=(-(2^64)<i/\i<2^64)\/(-(2^64)<j/\j<2^64)
theorem y8.ok(h:y8 i j):IntMulOk i j:=by
 rcases h with⟨d,e⟩|⟨d,e⟩;.exact .of_left (intBits_le_64 d e)
 .exact .of_right (intBits_le_64 d e)
theorem fK:gT X (binaryOp .Add) (mO fun i j=>.int (i+j)):=y4 fun _ _ _ _ _ _ _ q=>add_int q
theorem xI:gT X (binaryOp .Sub) (mO fun i j=>.int (i-j)):=y4 fun _ _ _ _ _ _ _ q=>sub_int q
theorem e6:gT X (binaryOp .Mod) (rI (fun _ j=>0<j) fun i j=>.int (i%j)):=A5 fun i j _ _ _ _ _ d q=>mod_int' (by lia) (by rwa[Int.fmod_eq_emod_of_nonneg i (by lia)])
theorem Dy:gT X (binaryOp .Pow) (rI sU fun i j=>.int (i^j.toNat)):=A5 fun _ _ _ _ _ _ _ d q=>pow_int_small d.1 d.2.1 d.2.2 q
theorem Qp{g:Int->Int} (rule:∀(i:Int)(t:Tok)(s:Shared)(Q:Value->Shared->Prop)(E:Value->Shared->Prop),Q (.int (g i) s.toks) {s with toks:=s.toks+1}->wpAny (model X.prog X.w) X.A (f (.int i t)) Q E s): Dw X f (rU fun i=>.int (g i)):=by rintro d s h H x v Q I e ⟨i,rfl,q⟩;obtain⟨t,rfl⟩:=e;exact rule i t s _ _ ⟨.int _,H,I.tok _,⟨_,rfl⟩,q⟩
theorem A6:Dw X (unaryOp .USub) (rU fun i=>.int (-i)):=Qp fun _ _ _ _ _ q=>neg_int q
end
def pU:V->V->Bool |.non,.non=>true|.non,.int _=>true|.int _,.non=>true|.non,.bl _=>true|.bl _,.non=>true|.non,.str _=>true|.str _,.non=>true |.int _,.int _=>true|.bl _,.bl _=>true|.str _,.str _=>true|.rO _,.rO _=>true |.int _,.str _=>true|.str _,.int _=>true|.bl _,.str _=>true|.str _,.bl _=>true |_,_=>false
def IJ:R2:=fun x y H Q=>pU x y=true/\Q (.bl (decide (x=y))) H
def IK:R2:=fun x y H Q=>pU x y=true/\Q (.bl (!decide (x=y))) H
theorem IL:decide (V.int i=V.int j)=(i==j):=by grind
theorem IM:decide (V.bl i=V.bl j)=(i==j):=by grind
theorem IP:decide (V.str i=V.str j)=(i==j):=by grind
theorem IQ:decide (V.rO i=V.rO j)=(i.toList==j.toList):=by rw[oP];simp
section
variable {X : Cx} {a b c : Expr} {ta tb tc : TE} {pos : Pos}
theorem iy(I:Inv X pins σ H s)(q:Q (.bl k) H)(e:k=d):EP X pins σ Q (.bool d) s:=by subst e;exact⟨.bl k,H,I,rfl,q⟩
theorem g_:gT X (compareOp .Eq) IJ:=by rintro o s p H x y v u Q I l d ⟨k,q⟩;cases x with
 |non=> cases l;cases y with |non=>cases d;exact PySem.EqNone.eq_none_none (iy I q (by simp)) |bl j=>cases d;exact PySem.EqNone.eq_none_bool (iy I q (by simp)) |int j=>obtain⟨g,rfl⟩:=d;exact PySem.EqNone.eq_none_int (iy I q (by simp)) |str j=>obtain⟨g,rfl⟩:=d;exact PySem.EqNone.eq_none_str (iy I q (by simp)) |_=>exact absurd (show false=true from k) cW
 |bl i=> cases l;cases y with |non=>cases d;exact PySem.EqNone.eq_bool_none (iy I q (by simp)) |bl j=>cases d;exact eq_bool (iy I q IM) |str j=>obtain⟨g,rfl⟩:=d;exact PySem.EqMixed.eq_bool_str (iy I q (by simp)) |_=>exact absurd (show false=true from k) cW
 |int i=> obtain⟨t,rfl⟩:=l;cases y with |non=>cases d;exact PySem.EqNone.eq_int_none (iy I q (by simp)) |int j=>obtain⟨g,rfl⟩:=d;exact eq_int (iy I q IL) |str j=>obtain⟨g,rfl⟩:=d;exact PySem.EqMixed.eq_int_str (iy I q (by simp)) |_=>exact absurd (show false=true from k) cW
 |str i=> obtain⟨t,rfl⟩:=l;cases y with |non=>cases d;exact PySem.EqNone.eq_str_none (iy I q (by simp)) |bl j=>cases d;exact PySem.EqMixed.eq_str_bool (iy I q (by simp)) |int j=>obtain⟨g,rfl⟩:=d;exact PySem.EqMixed.eq_str_int (iy I q (by simp)) |str j=>obtain⟨g,rfl⟩:=d;exact eq_str (iy I q IP) |_=>exact absurd (show false=true from k) cW
 |rO i=> obtain⟨t,rfl⟩:=l;cases y with |rO j=>obtain⟨g,rfl⟩:=d;exact PySem.W.eq_bytes (iy I q IQ) |_=>exact absurd (show false=true from k) cW
 |_=>cases y<;>exact absurd (show false=true from k) cW
theorem A7:gT X (compareOp .NotEq) IK:=by rintro o s p H x y v u Q I l d ⟨k,q⟩;cases x with
 |non=> cases l;cases y with |non=>cases d;exact PySem.EqNone.ne_none_none (iy I q (by simp)) |bl j=>cases d;exact PySem.EqNone.ne_none_bool (iy I q (by simp)) |int j=>obtain⟨g,rfl⟩:=d;exact PySem.EqNone.ne_none_int (iy I q (by simp)) |str j=>obtain⟨g,rfl⟩:=d;exact PySem.EqNone.ne_none_str (iy I q (by simp)) |_=>exact absurd (show false=true from k) cW
 |bl i=> cases l;cases y with |non=>cases d;exact PySem.EqNone.ne_bool_none (iy I q (by simp)) |bl j=>cases d;exact ne_bool (iy I q (bT not IM)) |str j=>obtain⟨g,rfl⟩:=d;exact PySem.EqMixed.ne_bool_str (iy I q (by simp)) |_=>exact absurd (show false=true from k) cW
 |int i=> obtain⟨t,rfl⟩:=l;cases y with |non=>cases d;exact PySem.EqNone.ne_int_none (iy I q (by simp)) |int j=>obtain⟨g,rfl⟩:=d;exact ne_int (iy I q (bT not IL)) |str j=>obtain⟨g,rfl⟩:=d;exact PySem.EqMixed.ne_int_str (iy I q (by simp)) |_=>exact absurd (show false=true from k) cW
 |str i=> obtain⟨t,rfl⟩:=l;cases y with |non=>cases d;exact PySem.EqNone.ne_str_none (iy I q (by simp)) |bl j=>cases d;exact PySem.EqMixed.ne_str_bool (iy I q (by simp)) |int j=>obtain⟨g,rfl⟩:=d;exact PySem.EqMixed.ne_str_int (iy I q (by simp)) |str j=>obtain⟨g,rfl⟩:=d;exact ne_str (iy I q (bT not IP)) |_=>exact absurd (show false=true from k) cW
 |rO i=> obtain⟨t,rfl⟩:=l;cases y with |rO j=>obtain⟨g,rfl⟩:=d;exact PySem.W.ne_bytes (iy I q (bT not IQ)) |_=>exact absurd (show false=true from k) cW
 |_=>cases y<;>exact absurd (show false=true from k) cW
theorem uH:gT X (compareOp .Lt) (mO fun i j=>.bl (decide (i<j))):=uG fun _ _ _ _ _ _ _ q=>lt_int q
theorem Qq:gT X (compareOp .LtE) (mO fun i j=>.bl (decide (i<=j))):=uG fun _ _ _ _ _ _ _ q=>le_int q
theorem vC:gT X (compareOp .Gt) (mO fun i j=>.bl (decide (j<i))):=uG fun _ _ _ _ _ _ _ q=>gt_int q
theorem IS:gT X (compareOp .GtE) (mO fun i j=>.bl (decide (j<=i))):=uG fun _ _ _ _ _ _ _ q=>ge_int q
theorem y9:gT X (compareOp .Is) (fun x y H Q=>y=.non/\Q (.bl (decide (x=.non))) H):=by rintro d s g H x y v u Q I f e ⟨rfl,q⟩;cases e;refine is_none_gen (iy I q ?_);cases x<;>first |rfl |(obtain⟨t,rfl⟩:=f;rfl)
theorem Qr:gT X (compareOp .IsNot) (fun x y H Q=>y=.non/\Q (.bl (!decide (x=.non))) H):=by rintro d s g H x y v u Q I f e ⟨rfl,q⟩;cases e;refine isnot_none_gen (iy I q ?_);cases x<;>first |rfl |(obtain⟨t,rfl⟩:=f;rfl)
theorem gT.or(h:gT X f r)(h':gT X f i):gT X f (fun x y H Q=>r x y H Q\/i x y H Q):=by
 intro e s j H x y v u Q I g d q;rcases q with q|q;.exact h _ s _ H x y v u Q I g d q
 .exact h' _ s _ H x y v u Q I g d q
theorem wq(b:Expr)(h:op≠.In:=by decide)(h2:op≠.NotIn:=by decide):behindInMarks op b=false:=by
 have d:(op==CmpOp.In)=false:=by cases op<;>first|rfl|simp_all
 have e:(op==CmpOp.NotIn)=false:=by cases op<;>first|rfl|grind
 cases b<;>simp[behindInMarks,d,e]
theorem IT(g:gT X (compareOp op) r)(j:PE X a ta)(i:PE X b tb)(l:behindInMarks op b=false):PE X (.Compare a [op] [b] pos) (iN r ta tb):=fun d s m H Q I h=>wpAny_Compare1 (wo j i I h fun v u n x y o f k e q=>g _ _ _ _ x y v u Q f k e q) l
def Dz(t:TE):TT:=fun d H Q=>t d H fun x e=>∃k,x=.bl k/\Q k e
theorem xJ(j:gT X (compareOp op) r)(m:PE X a ta)(f:PE X b tb)(p:behindInMarks op b=false):PT X (.Compare a [op] [b] pos) (Dz (iN r ta tb)):=by intro d s E H Q I h;refine wpAny_isTrue_Compare1 (bW (m _ s _ H _ I h) fun v B ⟨x,_,w,q,l⟩=>bW (f _ _ _ _ _ w l) fun u C ⟨y,_,i,g,n⟩=> bW (j _ _ _ _ x y v u _ i q g n) fun c D ⟨z,_,o,A,k,e,t⟩=>?_) p;subst e;cases A;exact gG ⟨_,o,t⟩
def IU(r i:R2)(ta tb tc:TE):TE:=fun d H Q=>ta d H fun x g=>tb d g fun y j=>r x y j fun z e=>∃k,z=.bl k/\ (if k=true then tc d e fun f h=>i y f h Q else Q (.bl false) e)
theorem Qs(M:gT X (compareOp op) r)(g:gT X (compareOp f) L)(t:PE X a ta)(E:PE X b tb)(q:PE X c tc) (D:lastMarks [op,f] [b,c]=false:=by with_unfolding_all rfl):PE X (.Compare a [op,f] [b,c] pos) (IU r L ta tb tc):=by intro m s S H Q I h;refine Compare_chain (bW (t _ s _ H _ I h) fun v N ⟨x,_,B,w,o⟩=>chain_link (bW (E _ _ _ _ _ B o) fun u R ⟨y,_,C,j,A⟩=> bW (M _ _ _ _ x y v u _ C w j A) fun d T ⟨z,_,i,n,k,e,l⟩=>?_)) D;subst e;cases n;refine gG ?_;cases k with |false=>exact ite_ff ⟨.bl _,_,i,rfl,l⟩ |true=>exact ite_tt (chain_last (bW (q _ _ _ _ _ i l) fun O U ⟨_,_,p,J,G⟩=>g _ _ _ _ y _ u _ Q p j J G))
theorem A8:(sizeLine:Nat)<2^63:=by decide
theorem lW(r:Vals [x] us):∃u,us=[u]/\RelV x u:=by cases r with |cons f e=>cases e;simp_all
theorem y_(r:Vals [x,y] us):∃u e,us=[u,e]/\RelV x u/\RelV y e:=by cases r with |cons h f=> cases f with |cons i g=>cases g;grind
theorem IV:cj X (.builtin "abs") (fun xs H Q=>∃i,xs=[.int i]/\Q (.int (if i<0 then-i else i)) H):=by rintro d s f H xs g Q I r ⟨i,rfl,q⟩;obtain⟨u,rfl,t,rfl⟩:=lW r;exact call_abs_int fun u e=>⟨.int _,H,I.tok _,⟨_,rfl⟩,q⟩
theorem Qt(f:X.calm=true):cj X (.builtin "max") (fun xs H Q=>∃i j,xs=[.int i,.int j]/\Q (.int (if j>i then j else i)) H):=by
 rintro e s n H xs m Q I r ⟨i,j,rfl,q⟩;obtain⟨u,h,rfl,⟨t,rfl⟩,⟨l,rfl⟩⟩:=y_ r;refine max_two_ints (I.ok.hd f) fun o g k=>⟨_,H,I.kept k,?_,q⟩;by_cases d:j>i;.rw[ak d,ak d];exact⟨_,rfl⟩
 .rw[ao d,ao d];exact⟨_,rfl⟩
theorem IW(f:X.calm=true):cj X (.builtin "min") (fun xs H Q=>∃i j,xs=[.int i,.int j]/\Q (.int (if j<i then j else i)) H):=by
 rintro e s n H xs m Q I r ⟨i,j,rfl,q⟩;obtain⟨u,h,rfl,⟨t,rfl⟩,⟨l,rfl⟩⟩:=y_ r;refine min_two_ints (I.ok.hd f) fun o g k=>⟨_,H,I.kept k,?_,q⟩;by_cases d:j<i;.rw[ak d,ak d];exact⟨_,rfl⟩
 .rw[ao d,ao d];exact⟨_,rfl⟩
theorem IX : cj X (.type "int") (fun xs H Q => (∃ i, xs = [.int i] ∧ Q (.int i) H) ∨ ∃ k, xs = [.bl k] ∧ Q (.int (if k then 1 else 0)) H) := by
  intro pins s σ H xs us Q I r h
  rcases h with ⟨i, rfl, q⟩ | ⟨k, rfl, q⟩
  · obtain ⟨u, rfl, t, rfl⟩ := lW r
    exact call_int_int ⟨.int i, H, I, ⟨_, rfl⟩, q⟩
  · obtain ⟨u, rfl, r1⟩ := lW r
    cases r1
    exact call_int_bool ⟨.int _, H, I.tok _, ⟨_, rfl⟩, q⟩
end
structure pV(h:Heap)(x dx C:Addr)(mA:Str->Option Value):Prop where
 obj:h.get? x=some (PySem.W.instObj C dx)ns:h.Ns1 dx mA
 ne:dx≠x
theorem Qu{h:Heap}(n:h.Ns1 d l):∃od,h.get? d=some od/\∀name,PySem.W.lookIn name od=some (l name):=by
  obtain⟨o,j,m,i,k,g,_,c⟩:=n;refine⟨o,i,fun name=>?_⟩;have e:=c name;unfold nsFind findBy at e;rw[<-Array.find?_toList] at e;unfold PySem.W.lookIn;rw[k];dsimp;split;.simp_all
  . have a:j.toList.any (·.refKey)=false:=by rw[List.any_eq_false];intro y f;obtain⟨z,t,b⟩:=g y (Array.mem_toList_iff.mp f);simp[DictEntry.refKey,b]
    simp_all
theorem pV.look(I:pV h x b C c):∃od,PySem.W.InstAt h x (PySem.W.instObj C b) C (some od)/\∀name,PySem.W.lookIn name od=some (c name):= let⟨_,a,d⟩:=Qu I.ns;⟨_,⟨I.obj,rfl,rfl,a⟩,d⟩
section
variable{prog:Program}{w:World}{A:Around}{E:Value->Shared->Prop}{s:Shared}{K:PySem.W.Frag}{x dx C f:Addr}{mA:Str->Option Value}{name:Str}{v:Value}
theorem get_map(X:K.In s.heap)(I:pV s.heap x dx C mA)(d:PySem.W.plainGet K C name=true)(e:PySem.W.hasDictIn K C=true) (c:PySem.W.findIn K (.ref C) name=some none)(g:mA name=some v)(a:PySem.W.handedIn v=true)(h:Q v {s with toks:=s.toks+1}): wpAny (model prog w) A (getAttr (.ref x) name b) Q E s:=let⟨_,J,_⟩:=I.look;PySem.W.get_value X J (pD d).1 (PySem.W.findObj_own e c rfl (by simp_all)) a h
theorem Qv(X:K.In s.heap)(I:pV s.heap x dx C mA)(a:PySem.W.plainGet K C name=true) (c:PySem.W.findIn K (.ref C) name=some (some (.ref f)))(b:PySem.W.isFn K (.ref f)=true)(d:mA name=none)(h:Q (.ref f,[.ref x]) s): wpAny (model prog w) A (getMethod (.ref x) name pl) Q E s:=let⟨_,J,_⟩:=I.look;PySem.W.method_fn X J (pD a).1 (pD a).2 c (mz.mp b) (by show(PySem.W.lookIn _ _).map _=some _;simp_all) h
theorem Qw(X:K.In s.heap)(I:pV s.heap x dx C mA) (p:PySem.W.findIn K (.ref C) "__setattr__"=some (some (.builtin "object.__setattr__")))(q:PySem.W.plainOver K C=true)(l:PySem.W.takerIn K C name=some none)(o:PySem.W.hasDictIn K C=true) (m:PySem.Within mA ns)(hsz:ns.length<=sizeLine) (h:∀h',pV h' x dx C (fun y=>if y=name then some v else mA y)->Heap.SameBut dx s.heap h'->Q () {s with heap:=h',toks:=s.toks+2}): wpAny (model prog w) A (setAttr (.ref x) name v) Q E s:=by obtain⟨t,J,z⟩:=I.look;refine PySem.W.set_plain X J p (PySem.W.osa_open X J q l fun b=>?_);obtain⟨r,k,g⟩:=kH o;refine ah (au (ah (ah (wpAny_loadPart I.obj (ah (PySem.W.Looks.here (PySem.W.looks_clsIn X k) ?_))))));rw[g];refine au (ah (au (ah (wpAny_nsSet1 I.ns fun h' c a=>?_))));obtain⟨u,n,j,e,i,d⟩:=c.count (PySem.Within.cons _ v m);exact ah (wpAny_lookBehind e (by rw[i];exact pastItsLine_dict (bV d (by simp_all))) (au (h _ ⟨(a.2 _ (aJ I.ne)).trans I.obj,c,I.ne⟩ a)))
theorem Qx(X:K.In s.heap)(c:PySem.W.makesIn K C=true) (hi:PySem.W.findIn K (.ref C) "__init__"=some (some (.ref f)))(d:PySem.W.typeIn K (.ref f)=some (.type "function")) (h:codeAny (model prog w) (A.under (.builtin "type.__call__" ⟨.ref C::vs,b⟩)) (.call (.ref f) ⟨.ref (s.heap.objs.size+1)::vs,b⟩) (PySem.W.InitBack (s.heap.objs.size+1) R) {s with heap:=(s.heap.push PySem.W.emptyDict).push (PySem.W.instObj C s.heap.objs.size)}): codeAny (model prog w) A (.call (.ref C) ⟨vs,b⟩) R s:=PySem.W.make_core (PySem.W.makes_of X c) (pz X hi) (fun a=>PySem.W.bind_fn X _ d) (.inl rfl) h
end
def hI(f:Str)(v:V):List (Str×V)->List (Str×V) |[]=>[(f,v)] |(g,x)::r=>if g=f then(g,v)::r else(g,x)::hI f v r
theorem IY(f g:Str)(v:V):∀fs:List (Str×V),(hI f v fs).lookup g=if g=f then some v else fs.lookup g
  |[]=>by
    show List.lookup g [(f,v)]=_;by_cases h:g=f;.simp_all
    .simp_all |(k,x)::r=>by
    have c:=IY f g v r;rw[show hI f v _=(if k=f then(k,v)::r else(k,x)::hI f v r) from rfl];by_cases b:k=f
    . rw[ak b];by_cases h:g=k;.simp_all
      .simp[List.lookup,(iD.mpr h),ao (fun e:g=f=>h (e.trans b.symm))]
    .grind
theorem DA(f:Str)(v:V):∀fs:List (Str×V),f∈(hI f v fs).map (·.1)/\∀g,g∈fs.map (·.1)->g∈(hI f v fs).map (·.1)
  |[]=>⟨by simp[hI],fun g h=>by simp at h⟩ |(k,x)::r=>by
    obtain⟨d,c⟩:=DA f v r;rw[show hI f v _=(if k=f then(k,v)::r else(k,x)::hI f v r) from rfl];by_cases b:k=f;.subst b;simp
    . rw[ao b];refine⟨?_,fun g h=>?_⟩;.rw[b7];simp_all
      . rcases aR.mp h with e|e;.grind
        .grind
theorem IZ(f:Str)(v:V):∀fs:List (Str×V),(hI f v fs).length<=fs.length+1
 |[]=>by simp[hI] |(k,x)::r=>by
  have c:=IZ f v r;rw[show hI f v _=(if k=f then(k,v)::r else(k,x)::hI f v r) from rfl];by_cases b:k=f;.rw[ak b,ef,ef];lia
  .rw[ao b,ef,ef];lia
theorem gH.some_of(r:gH (some v) o):∃u,o=some u/\RelV v u:=by cases o with |none=>exact r.elim |some u=>exact⟨u,rfl,r⟩
theorem gH.none_of(r:gH none o):o=none:=by cases o with |none=>rfl |some u=>exact r.elim
theorem Qy(r:RelV v u):PySem.W.handedIn u=true:=by cases v with |non=>cases r;rfl |bl b=>cases r;rfl |int i=>obtain⟨t,e⟩:=r;cases e;rfl |str x=>obtain⟨t,e⟩:=r;cases e;rfl |rO b=>obtain⟨t,e⟩:=r;cases e;rfl |wb b=>obtain⟨t,e⟩:=r;cases e;rfl |ref a=>cases r;rfl |ty n=>cases r;rfl
section
variable{P:Program}{w:World}{H H':Hp}{h h':Heap}{a C dx:Addr}{fs Df:List (Str×V)}
theorem A9(c:gI P w H h)(e:H a=some (.ins C dx fs)):∃b,pV h a dx C b/\(∀f,gH (fs.lookup f) (b f))/\PySem.Within b (fs.map (·.1))/\fs.length<=1000/\H dx=some (.own a):=let⟨d,z,g,i,_,n,r,q⟩:=(c a _ e);⟨_,⟨i,n,g⟩,r,q,z,d⟩
end
structure lX(K:PySem.W.Frag)(C:Addr):Prop where
 pg:PySem.W.plainGet K C Str.empty=true
 hd:PySem.W.hasDictIn K C=true
 po:PySem.W.plainOver K C=true
 sa:PySem.W.findIn K (.ref C) "__setattr__"=some (some (.builtin "object.__setattr__"))
theorem lX.get{K:PySem.W.Frag}(c:lX K C)(f:Str):PySem.W.plainGet K C f=true:=c.pg
def cH(K:PySem.W.Frag)(C:Addr)(f:Str):Prop:=PySem.W.findIn K (.ref C) f=some none
theorem cH.za{K:PySem.W.Frag}(n:cH K C f):PySem.W.takerIn K C f=some none:=by unfold PySem.W.takerIn;rw[n];rfl
structure jX(K:PySem.W.Frag)(C:Addr)(f:Str)(v:V)(u:Value):Prop where
 at_:PySem.W.findIn K (.ref C) f=some (some u)rel:RelV v u
 get:PySem.W.specialIn K u "__get__"=some none
 cp:PySem.W.copiedNames.contains f=false
structure Meth(K:PySem.W.Frag)(C:Addr)(m:Str)(f:Addr):Prop where
 at_:PySem.W.findIn K (.ref C) m=some (some (.ref f))fn:PySem.W.isFn K (.ref f)=true
 kp:PySem.W.keepIn K (.ref f)=true
section
variable{X:Cx}{pins:List (Addr×Obj)}{σ:St}{H:Hp}{s:Shared}{a C dx:Addr}{fs:List (Str×V)}{f:Str}{v:V}{A:Around}{E:Value->Shared->Prop}
theorem Qz(I:Inv X pins σ H s)(e:H a=some (.ins C dx fs))(c:lX X.K C)(n:cH X.K C f)(l:fs.lookup f=some v) (h:∀u s',Inv X pins σ H s'->RelV v u->Q u s'):wpAny (model X.prog X.w) A (getAttr (.ref a) f b) Q E s:=by obtain⟨g,O,r,_,_,_⟩:=A9 I.bF e;obtain⟨u,i,d⟩:=gH.some_of (v:=v) (o:=g f) (by grind);exact get_map I.iQ O (c.get f) c.hd n i (Qy d) (h u _ (I.tok _) d)
theorem QA(I:Inv X pins σ H s)(e:H a=some (.ins C dx fs))(c:lX X.K C)(k:Meth X.K C m g)(l:fs.lookup m=none) (h:Q (.ref g,[.ref a]) s):wpAny (model X.prog X.w) A (getMethod (.ref a) m pl) Q E s:=by obtain⟨b,O,r,_,_,_⟩:=A9 I.bF e;have d:b m=none:=gH.none_of (by grind);exact Qv I.iQ O (c.get m) k.at_ k.fn d h
theorem QB(I:Inv X pins σ H s)(e:H a=some (.ins C dx fs))(c:lX X.K C)(n:cH X.K C f)(G:fs.length<1000)(B:RelV y u) (h:∀s',Inv X pins σ (upd H a (.ins C dx (hI f y fs))) s'->Q () s'):wpAny (model X.prog X.w) A (setAttr (.ref a) f u) Q E s:=by
  obtain⟨D,O,r,i,_,t⟩:=A9 I.bF e;have m:(fs.map (·.1)).length<=sizeLine:=by rw[aI,fu];lia
  refine Qw I.iQ O c.sa c.po n.za c.hd i m fun p d j=>h _ ?_;have k:∃o,p.get? _=some o:=let⟨o,_,_,x,_⟩:=d.ns;⟨o,x⟩;refine I.write (by rw[e];exact True.intro) (.inr t) (fun b q l z=>(j.2 b l).trans z) k (⟨by rwa[a9 O.ne],?_,O.ne,d.obj,_,d.ns,fun g=>?_,fun g w=>?_⟩);.have:=IZ f y fs;lia
  . rw[IY];by_cases q:g=f;.rwa[ak q,ak q]
    simp_all
  . by_cases q:g=f;.rw[q];exact(DA f y _).1
    .refine(DA f y _).2 g (i g fun z=>w ?_);simp_all
theorem Inv.made(I:Inv X pins σ H s):Inv X pins σ (upd (upd H s.heap.objs.size (.own (s.heap.objs.size+1))) (s.heap.objs.size+1) (.ins C s.heap.objs.size [])) {s with heap:=(s.heap.push PySem.W.emptyDict).push (PySem.W.instObj C s.heap.objs.size)}:=by
 have d:(s.heap.push PySem.W.emptyDict).get? _=some _:=cu _ rfl;have i:((s.heap.push PySem.W.emptyDict).push (PySem.W.instObj C s.heap.objs.size)).get? (s.heap.objs.size+1)=some (PySem.W.instObj C s.heap.objs.size):=by have:=cu (s.heap.push PySem.W.emptyDict) (o:=PySem.W.instObj C s.heap.objs.size) rfl;simp_all
 have j:(s.heap.push _).Ns _ _:=⟨_,_,_,d,rfl,(fun e g=>absurd g (by simp)),fun _=>rfl⟩;refine(I.laid (o:=.own _) (t':=s.toks) (fun b u q=>bu _ q) (aB _) ⟨_,d⟩).laid (fun b u q=>bu _ q) (Nat.le_of_eq (lN _ _)) ?_;have c:s.heap.objs.size≠s.heap.objs.size+1:=bC (fq _);refine⟨by rw[a9 c,b9],cG _,c,i,_,(Heap.Ns1.of_empty j).at fun o q=>bu _ q,fun _=>True.intro,fun y h=>absurd rfl h⟩
theorem QC{f:Str}{s:Shared}(c:attributeBase e f env (eval e env)=eval e env) (h:wpAny (model prog w) A (eval e env) (fun o b=>wpAny (model prog w) A (getAttr o f true) Q E b) E s):wpAny (model prog w) A (eval (.Attribute e f pos) env) Q E s:= Attribute_any_ h (by rw[arm_eval_Attribute,c])
end
def pX(K:PySem.W.Frag)(g:TE)(f:Str):TE:=fun e H Q=>g e H fun x c=>∃a C d b v,x=.ref a/\c a=some (.ins C d b)/\lX K C/\cH K C f/\b.lookup f=some v/\Q v c
def wt(K:PySem.W.Frag)(h g:TE)(f:Str):TS:=fun D b H=>g b H fun y i=>h b i fun x d=>∃a C e c,x=.ref a/\d a=some (.ins C e c)/\lX K C/\cH K C f/\c.length<1000/\ D.nx b (upd d a (.ins C e (hI f y c)))
section
variable{X:Cx}{o e value:Expr}{f:Str}{pos pos' zb:Pos}{ta tv:TE}
theorem xK(k:PE X e ta)(r:attributeBase e f X.env (eval e X.env)=eval e X.env):PE X (.Attribute e f pos) (pX X.K ta f):=by intro b s w H Q I h;refine QC r (bW (k _ s _ H _ I h) fun u t ⟨x,_,d,p,a,C,_,_,v,g,j,c,n,l,q⟩=>?_);subst g;obtain rfl:u=Value.ref a:=p;exact Qz d j c n l fun y z i m=>⟨v,_,i,m,q⟩
theorem I0(k:PE X o ta)(i:PE X value tv)(j:swapsWith value (some (.Attribute o f pos')) pos.line X.env=pure false):PS X (.Assign [.Attribute o f pos'] value pos) (wt X.K ta tv f):=by intro b s B H D I h;refine plainObj_wpAny_Assign_Attribute (bW (i _ s _ H _ I h) fun u A ⟨y,_,z,t,q⟩=>bW (k _ _ _ _ _ z q) fun r G ⟨x,_,g,m,a,C,_,_,p,w,c,n,l,d⟩=>?_) j;subst p;obtain rfl:r=Value.ref a:=m;exact QB g w c n l t fun E v=>⟨_,_,v,d⟩
end
section
variable{X:Cx}{pins:List (Addr×Obj)}{σ:St}{H:Hp}{s:Shared}{A:Around}{E:Value->Shared->Prop}{Q:Value->Shared->Prop}{c:Value}{b:Bool}
inductive jc(K:PySem.W.Frag)(H:Hp):V->Value->Prop where |non:jc K H .non (.type "NoneType") |bl(x:Bool):jc K H (.bl x) (.type "bool") |int(i:Int):jc K H (.int i) (.type "int") |str(x:Str):jc K H (.str x) (.type "str") |wb(x:UInt64):jc K H (.wb x) (.type "float") |lst{a:Addr}{xs:List V}(e:H a=some (.lst xs)):jc K H (.ref a) (.type "list") |fB{a:Addr}{o:Obj}{xs:List V}(e:H a=some (.fB o (.lst xs))):jc K H (.ref a) (.type "list") |tup{a:Addr}{xs:List V}(e:H a=some (.tup xs)):jc K H (.ref a) (.type "tuple") |dK{a:Addr}{kvs:List (Key×V)}(e:H a=some (.dK kvs)):jc K H (.ref a) (.type "dict") |dT{a:Addr}{kvs:List (List Key×V)}(e:H a=some (.dT kvs)):jc K H (.ref a) (.type "dict") |ins{a C dx:Addr}{fs:List (Str×V)}(e:H a=some (.ins C dx fs))(cl:lX K C)(ha:PySem.W.findIn K (.ref C) "__class__"=some (some (.builtin "object.__class__"))) (hn:PySem.W.specialIn K (.builtin "object.__class__") "__get__"=some (some (.builtin "getset_descriptor.__get__")))(I_:PySem.W.takesIn K (.builtin "object.__class__")=some true) (hm:PySem.W.mroIn K C (.type "object")=some true):jc K H (.ref a) (.ref C)
theorem QD(I:Inv X pins σ H s)(d:RelV x u)(L:jc X.K H x t)(e:PySem.W.kitOne X.K t c=some b)(h:∀tk,Q (.bool b) {s with toks:=tk}): wpAny (model X.prog X.w) A (call (.builtin "isinstance") [u,c]) Q E s:=by cases L with |non=>cases d;exact dR PySem.W.kitx_none I.iQ True.intro e (fun z=>nomatch z) h |bl y=>cases d;exact dR PySem.W.kitx_bool I.iQ True.intro e (fun z=>nomatch z) h |int i=>obtain⟨t,q⟩:=d;cases q;exact dR PySem.W.kitx_int I.iQ True.intro e (fun z=>nomatch z) h |str y=>obtain⟨t,q⟩:=d;cases q;exact dR PySem.W.kitx_str I.iQ True.intro e (fun z=>nomatch z) h |wb y=>obtain⟨t,q⟩:=d;cases q;exact dR PySem.W.kitx_float I.iQ True.intro e (fun z=>nomatch z) h |@lst a k f=> cases d;obtain⟨_,_,n,_,g⟩:=(I.bF a _ f);exact dR PySem.W.kitx_list I.iQ ⟨_,g,rfl⟩ e (fun z=>nomatch z) h |@fB a ob k f=> cases(d);obtain⟨_,_,_,n,_,g⟩:=(I.bF a _ f);exact dR PySem.W.kitx_list I.iQ ⟨_,g,rfl⟩ e (fun z=>nomatch z) h |@tup a k f=> cases d;obtain⟨_,_,_,p⟩:=(I.bF a _ f);obtain⟨o,g,j,_⟩:=p;exact dR PySem.W.kitx_tuple I.iQ ⟨o,g,j⟩ e (fun z=>nomatch z) h |@dK a l f=> cases d;obtain⟨_,_,vs,_,p⟩:=(I.bF a _ f);obtain⟨o,B,R,g,j,_⟩:=p;exact dR PySem.W.kitx_dict I.iQ ⟨o,g,j.1⟩ e (fun z=>nomatch z) h |@dT a l f=> cases d;obtain⟨_,_,k,_,o,B,R,g,j,_⟩:=(I.bF a _ f);exact dR PySem.W.kitx_dict I.iQ ⟨o,g,j.1⟩ e (fun z=>nomatch z) h |@ins a C dx fs f r D M m G=> cases d;obtain⟨mA,O,_⟩:=A9 I.bF f;obtain⟨od,J,_⟩:=O.look;exact dR (PySem.W.kitx_own (r.get _) r.hd D M m G) I.iQ J e (fun z=>nomatch z) h
end
structure cN(k:Nat)(A:Around):Prop where
 hd:A.handled=none
 dp:A.depth+3*k+5<recursionLimit
 un:A.units+16*k+200<cLine
theorem cN.mono(r:cN k A)(h:j<=k):cN j A:=⟨r.hd,by have:=r.dp;lia,by have:=r.un;lia⟩
theorem cN.deeper(r:cN (k+1) A)(env:Env):cN k (A.deeper env):= ⟨r.hd,by have:=r.dp;show A.depth+1+3*k+5<_;lia,by have:=r.un;show A.units+3+16*k+200<_;lia⟩
theorem QE{A:Around}{us:List Value}{a:List (Str×Value)}:(A.under (.builtin "type.__call__" ⟨.ref C::us,a⟩)).depth=A.depth+1:=by rfl
theorem QF{A:Around}:(A.under (.builtin "type.__call__" ⟨.ref C::us,a⟩)).units=A.units+1:=rfl
theorem cN.make(r:cN (k+1) A)(C:Addr)(us:List Value)(a:List (Str×Value)):cN k (A.under (.builtin "type.__call__" ⟨.ref C::us,a⟩)):= ⟨r.hd,by have:=r.dp;rw[QE];lia,by have:=r.un;rw[QF];lia⟩
theorem cN.depth(r:cN k A):A.depth<recursionLimit:=by have:=r.dp;lia
theorem cN.units(r:cN k A):A.units+64<cLine:=by have:=r.un;lia
def bZ:TA:=fun _ H Q=>Q [] H
def dE(f:TE)(e:TA):TA:=fun a H Q=>f a H fun x c=>e a c fun d b=>Q (x::d) b
section
variable{X:Cx}{e:Expr}{es:List Expr}{te:TE}{t:TA}{pos:Pos}
theorem dM:PA X [] bZ:=fun _ _ _ _ H Q I h=>Calls.spliced_nil ⟨_,H,I,.nil,h⟩
theorem bY(k:PE X e te)(l:PA X es t)(g:starEach (e::es) X.env=(false,eval e X.env)::starEach es X.env:=by rfl):PA X (e::es) (dE te t):=by intro pos a s o H Q I h;rw[g];exact so (bW (k _ s _ H _ I h) fun u n ⟨x,_,i,f,j⟩=>bW (l _ _ _ _ _ _ i j) fun p m ⟨_,_,d,c,b⟩=>⟨_,_,d,.cons f c,b⟩)
def lF(t:TA):TE:=fun c H Q=>t c H fun a b=>a.length<=sizeLine/\∀p,b p=none->Q (.ref p) (upd b p (.tup a))
def zc(t:TA):TE:=fun c H Q=>t c H fun a b=>a.length<=sizeLine/\∀p,b p=none->Q (.ref p) (upd b p (.lst a))
theorem js(h:PA X es t):PE X (.Tuple es f pos) (lF t):=by intro a s i H Q I d;refine wpAny_Tuple_spliced (bW (h _ _ s _ H _ I d) fun g j ⟨_,_,c,r,z,q⟩=>⟨by rwa[<-r.length],(⟨.ref _,_,c.laid (fun b u e=>bu _ e) (aB _) ?_,rfl,q _ (c.bF.fresh (aB _))⟩)⟩);exact⟨z,_,r,⟨_,cu _ rfl,rfl,_,rfl⟩⟩
theorem hV(h:PA X es t):PE X (.List es pos) (zc t):=by intro a s i H Q I d;refine wpAny_List_spliced (bW (h _ _ s _ H _ I d) fun g f ⟨_,_,c,r,z,q⟩=>⟨by rwa[<-r.length],(⟨.ref _,_,c.laid (fun b u e=>bu _ e) (aB _) ?_,rfl,q _ (c.bF.fresh (aB _))⟩)⟩);exact⟨z,_,0,r,cu _ rfl⟩
end
abbrev Sp:=List V->Hp->VK->XK->Prop
abbrev jt:=List Env->Hp->Shared->XK->Value->Shared->Prop
structure pY(P:Program)(w:World)(K:PySem.W.Frag)(mg:Str->Option Value)(base:Heap)(A:Around)(outer:List Env)(s:Shared)(H:Hp):Prop where
 frames:A.frames=some outer
 mod:Mod K mg base
 bs:∀b o,base.get? b=some o->s.heap.get? b=some o/\H b=none
 rP:base.objs.size<=s.heap.objs.size
 ja:s.heap.FunFrames base outer
 sQ:∀b∈lC outer,H b=none
 bF:gI P w H s.heap
 bare:AllBare s.gens
 tb:pO K H
def CE(a:List Env)(P:Program)(w:World)(H:Hp)(s:Shared)(Q:VK)(u:Value)(s':Shared):Prop:= ∃v b,s'.os=s.os/\AllBare s'.gens/\Un (lC a) [] H b s.heap s'.heap/\gI P w b s'.heap/\RelV v u/\Q v b
def CR(CX:jt)(a:List Env)(P:Program)(w:World)(H:Hp)(s:Shared)(Q:VK)(E:XK)(r:Result)(s':Shared):Prop:= match r with |.ok (.ret u)=>CE a P w H s Q u s' |.ok _=>False |.error e=>CX a H s E e s'
structure b_(P:Program)(w:World)(K:PySem.W.Frag)(mg:Str->Option Value)(base:Heap)(CX:jt)(k:Nat)(f:Addr)(fd:FuncData)(ps:List Str)(sp:Sp):Prop where
 len:∀vs H Q E,sp vs H Q E->vs.length=ps.length
 run:∀(A:Around)(outer:List Env)(s:Shared)(H:Hp)(args:Args)(us:List Value)(vs:List V)(Q:VK)(E:XK),cN k A->pY P w K mg base A outer s H->BindsTo s fd args (ps.zip us)->Vals vs us->sp vs H Q E-> codeAny (model P w) A (.call (.ref f) args) (CR CX outer P w H s Q E) s
theorem b_.mono{K:PySem.W.Frag}(F:b_ P w K mg a CX j f fd ps sp)(h:j<=k): b_ P w K mg a CX k f fd ps sp:=⟨F.len,fun A b s H c e g Q E d=>F.run A _ s H _ _ _ Q E (d.mono h)⟩
theorem b_.imp{K:PySem.W.Frag}(F:b_ P w K mg a CX k f fd ps sp) (h:∀vs H Q E,sp' vs H Q E->sp vs H Q E):b_ P w K mg a CX k f fd ps sp':= ⟨fun vs H Q E q=>F.len _ H Q E (h _ _ _ _ q),fun A b s H c l vs Q E g i d e j=>F.run A _ s H _ _ _ Q E g i d e (h _ _ _ _ j)⟩
theorem pY.make{K:PySem.W.Frag}(e:pY P w K mg b A a s H)(C:Addr)(us:List Value)(c:List (Str×Value)): pY P w K mg b (A.under (.builtin "type.__call__" ⟨.ref C::us,c⟩)) a s H:=⟨by first|rfl|(simpa[Around.under,Code.envs,Code.isFrame,pushEnvs] using e.frames),e.mod,e.bs,e.rP,e.ja,e.sQ,e.bF,e.bare,e.tb⟩
section
variable{X:Cx}{pins:List (Addr×Obj)}{σ:St}{H:Hp}{s s':Shared}
theorem Inv.wu(I:Inv X pins σ H s):pY X.prog X.w X.K X.mg X.base X.A X.stack s H:= ⟨I.ok.frames,I.ok.mod,I.bs,bV I.ok.rP I.sz,I.stack,I.jb,I.bF,I.bare,I.ok.tb.grown I.base.g9⟩
theorem Inv.after(I:Inv X pins σ H s)(h:CE X.stack X.prog X.w H s Q u s'):EP X pins σ Q u s':=by obtain⟨v,j,os,a,f,c,r,q⟩:=h;obtain⟨i,g,d,t,e⟩:=s';obtain rfl:e=s.os:=os;exact⟨v,_,I.call f c a (fun b z=>absurd z (by simp)),r,q⟩
end
def wx(sp:Sp)(nT:List V)(E:XK)(t:TA):TE:=fun c H Q=>t c H fun a b=>sp (a++nT) b Q E
def xM(C:Addr)(m:Str)(sp:Sp)(nT:List V)(E:XK)(g:TE)(t:TA):TE:=fun d H Q=>g d H fun x c=>∃a f b,x=.ref a/\c a=some (.ins C f b)/\b.lookup m=none/\ t d c fun h e=>sp (x::(h++nT)) e Q E
def DB(C:Addr)(sp:Sp)(nT:List V)(E:XK)(t:TA):TE:=fun d H Q=>t d H fun c b=>∀x a,b x=none->b a=none->a≠x-> sp (.ref x::(c++nT)) (upd (upd b a (.own x)) x (.ins C a [])) (fun v e=>v=.non/\Q (.ref x) e) E
def Binds(K:PySem.W.Frag)(fd:FuncData)(ps:List Str)(ds:List Value):Prop:= ∀(s:Shared)(a:List Value),K.In s.heap->(a++ds).length=ps.length->BindsTo s fd ⟨a,[]⟩ (ps.zip (a++ds))
theorem Binds.all{K:PySem.W.Frag}(h:∀us:List Value,us.length=ps.length->bindArgs fd ⟨us,[]⟩=pure (ps.zip us)):Binds K fd ps []:=fun s us _ a=>by rw[f_] at a⊢;exact .of_eq (h _ a)
def rS(CX:jt)(X:Cx)(E:XK):Prop:=∀(a:List (Addr×Obj))(c:St)(H:Hp)(s:Shared)(e:Value)(b:Shared),Inv X a c H s->CX X.stack H s E e b->X.xe e b
section
variable{X:Cx}{CX:jt}{k:Nat}{f C:Addr}{fd:FuncData}{ps:List Str}{sp:Sp}{nT:List V}{ds:List Value}{E:XK}{x m:Str}{p pos apos:Pos}{e o:Expr}{es:List Expr}{ta:TE}{t:TA}
theorem Ja(F:b_ X.prog X.w X.K X.mg X.base CX k f fd ps sp)(j:cN k X.A)(q:Binds X.K fd ps ds)(hd:Vals nT ds)(n:rS CX X E) (I:Inv X pins σ H s)(r:Vals vs us)(h:sp (vs++nT) H Q E):wpAny (model X.prog X.w) X.A (call (.ref f) us) (EP X pins σ Q) X.xe s:=by
 have c:=r.append hd;have l:(us++ds).length=ps.length:=by rw[<-c.length];exact F.len _ _ _ _ h
 refine wpAny_call (kI (F.run _ _ s H _ _ _ Q E j I.wu (q s _ I.iQ l) c h) fun r y a=>?_);cases r with |error e=>exact n _ _ H s e _ I a |ok v=> cases v with |ret u=>exact I.after a |next=>exact False.elim a |brk=>exact False.elim a |cont=>exact False.elim a
theorem QG(F:b_ X.prog X.w X.K X.mg X.base CX k f fd ps sp)(n:cN k X.A)(w:Gl X x)(u:X.mg x=some (.ref f))(l:PySem.W.keepIn X.K (.ref f)=true)(g:Binds X.K fd ps ds)(hd:Vals nT ds)(i:rS CX X E) (j:PA X (e::es) t)(b:(x==("__debug__":Str))=false:=by decide)(v:starEach (e::es) X.env=(false,eval e X.env)::starEach es X.env:=by rfl)(a:(backTo pos (starEach es X.env)).any (·.1)=false:=by rfl): PE X (.Call (.Name x p) (e::es) [] pos) (wx sp nT E t):=fun c s z H Q I h=>kL (wh I w u (mw I.ok.mod.we l (bW (j _ _ s _ H _ I h) fun A y ⟨_,_,d,r,q⟩=>⟨d.iQ,Ja F n g hd i d r q⟩) v a) b)
theorem QH(M:PE X o ta)(c:lX X.K C)(n:Meth X.K C m f)(F:b_ X.prog X.w X.K X.mg X.base CX k f fd ps sp)(G:cN k X.A)(w:Binds X.K fd ps ds)(hd:Vals nT ds)(D:rS CX X E)(y:PA X (e::es) t) (d:starEach (e::es) X.env=(false,eval e X.env)::starEach es X.env:=by rfl)(b:(backTo pos (starEach es X.env)).any (·.1)=false:=by rfl) (B:eval (.Call (.Attribute o m apos) (e::es) [] pos) X.env=(do
 let g<-eval o X.env
 standAt apos.atName let(f,first)<-holding [g] (getMethod g m pl)callWith pos f first (backTo pos (starEach (e::es) X.env)) (backToKw pos (keywordEach [] X.env))):=by rfl): PE X (.Call (.Attribute o m apos) (e::es) [] pos) (xM C m sp nT E ta t):=by intro v s T H Q I h;refine PySem.W.methodCall_KW (bW (M _ s _ H _ I h) fun u R ⟨x,_,j,z,a,_,_,J,L,l,q⟩=>?_) B;subst J;obtain rfl:u=Value.ref a:=z;exact QA j L c n l (mw I.ok.mod.we n.kp (bW (y _ _ _ _ _ _ j q) fun O S ⟨N,_,i,r,A⟩=>⟨i.iQ,Ja (vs:=.ref a::N) F G w hd D i (.cons rfl r) A⟩) d b)
structure Mk(K:PySem.W.Frag)(C f:Addr):Prop where
 makes:PySem.W.makesIn K C=true
 init:PySem.W.findIn K (.ref C) "__init__"=some (some (.ref f))fn:PySem.W.isFn K (.ref f)=true
 kp:PySem.W.keepIn K (.ref C)=true
theorem QI(M:Mk X.K C f)(F:b_ X.prog X.w X.K X.mg X.base CX k f fd ps sp)(z:cN (k+1) X.A)(n:Binds X.K fd ps ds)(hd:Vals nT ds) (y:rS CX X E)(I:Inv X pins σ H s)(r:Vals vs us) (h:∀x c,H x=none->H c=none->c≠x->sp (.ref x::(vs++nT)) (upd (upd H c (.own x)) x (.ins C c [])) (fun v L=>v=.non/\Q (.ref x) L) E): wpAny (model X.prog X.w) X.A (call (.ref C) us) (EP X pins σ Q) X.xe s:=by
 have l:=h _ _ (I.bF.fresh (fo _)) (I.bF.fresh (aB _)) (bC (fq _));have b:=Inv.made (C:=C) I;have i:Vals (V.ref (s.heap.objs.size+1)::(vs++nT)) _:=.cons rfl (r.append hd);have G:(Value.ref (s.heap.objs.size+1)::us++ds).length=ps.length:=by have e:=i.length;rw[F.len _ _ _ _ l] at e;grind
 refine wpAny_call (Qx I.iQ M.makes M.init (mz.mp M.fn) (kI (F.run _ _ _ _ _ _ _ _ E (z.make C _ _) (b.wu.make C _ _) (n _ _ b.iQ G) i l) fun r O a=>?_));cases r with |error e=>exact y _ _ _ _ e _ b a |ok D=> cases D with |ret u=> obtain⟨v,R,q,w,B,J⟩:=b.after a;subst B;exact⟨w,⟨V.ref _,_,q,rfl,J⟩⟩ |next=>exact False.elim a |brk=>exact False.elim a |cont=>exact False.elim a
theorem QJ(M:Mk X.K C f)(F:b_ X.prog X.w X.K X.mg X.base CX k f fd ps sp)(j:cN (k+1) X.A)(v:Gl X x)(l:X.mg x=some (.ref C))(g:Binds X.K fd ps ds)(hd:Vals nT ds)(n:rS CX X E) (i:PA X (e::es) t)(b:(x==("__debug__":Str))=false:=by decide)(u:starEach (e::es) X.env=(false,eval e X.env)::starEach es X.env:=by rfl)(a:(backTo pos (starEach es X.env)).any (·.1)=false:=by rfl): PE X (.Call (.Name x p) (e::es) [] pos) (DB C sp nT E t):=fun c s z H Q I h=>kL (wh I v l (mw I.ok.mod.we M.kp (bW (i _ _ s _ H _ I h) fun y w ⟨_,_,d,r,q⟩=>⟨d.iQ,QI M F j g hd n d r q⟩) u a) b)
end
section
variable{X:Cx}{CX:jt}{k:Nat}{f C:Addr}{fd:FuncData}{ps ks:List Str}{sp:Sp}{E:XK}{x m:Str}{p pos apos QK:Pos}{e o:Expr}{es:List Expr}{ZO:List Keyword}{te ta:TE}{t tk:TA}{nm:Option Str}
variable{g:List Value->List Value->List Value}{gV:List V->List V->List V}
end
structure cb(N P:List Str)(sc:Scope):Prop where
 kind:sc.kind=.function
 co:sc.isCoroutine=false
 gen:sc.isGenerator=false
 nd:N.Nodup
 pre:N.take P.length=P
 par:∀x∈P,sc.names.lookup x=some .local\/sc.names.lookup x=some .cell
 wy:∀y∈sc.names,y.2≠.free
theorem Jb{kindOf:Str->Option NameKind}:∀{a:List (Str×Value)}{m:Str->Option Value},(∀v,(x,v)∉a)->bindL kindOf a m x=m x
  |[],_,_=>rfl |(n,v)::r,m,h=>by
    unfold bindL;rw[Jb fun w c=>h w (bz _ c)];split
    . have:x≠n:=by grind
      simp_all
    .rfl
theorem Jc{kindOf:Str->Option NameKind}:∀{a:List (Str×Value)}{m:Str->Option Value},(∀v,(x,v)∉a)->bindC kindOf a m x=m x
  |[],_,_=>rfl |(n,v)::r,m,h=>by
    unfold bindC;rw[Jc fun w c=>h w (bz _ c)];split;.rfl
    . have:x≠n:=by grind
      simp_all
theorem Jd{kindOf:Str->Option NameKind}:∀{P:List Str}{vs:List Value}{i:Nat}{m:Str->Option Value},P.Nodup->P[i]?=some x->vs[i]?=some v->kindOf x=some .local-> bindL kindOf (P.zip vs) m x=some v |[],_,_,_,_,h,_,_=>by simp at h |_::_,[],_,_,_,_,h,_=>by simp at h |p::P,w::vs,0,m,c,d,b,e=>by simp at d b;subst d;subst b;show bindL _ ((p,w)::P.zip _) m p=_;unfold bindL;rw[Jb fun v f=>(fQ.mp c).1 (oR f).1,ak e];simp |p::P,w::vs,i+1,m,c,d,b,e=>by show bindL _ ((p,w)::P.zip _) m x=_;exact Jd (i:=i) (fQ.mp c).2 (by simp_all) (by simp_all) e
theorem Je{kindOf:Str->Option NameKind}:∀{P:List Str}{vs:List Value}{i:Nat}{m:Str->Option Value},P.Nodup->P[i]?=some x->vs[i]?=some v->kindOf x≠some .local-> bindC kindOf (P.zip vs) m x=some v |[],_,_,_,_,h,_,_=>by simp at h |_::_,[],_,_,_,_,h,_=>by simp at h |p::P,w::vs,0,m,c,e,b,d=>by simp at e b;subst e;subst b;show bindC _ ((p,w)::P.zip _) m p=_;unfold bindC;rw[Jc fun v f=>(fQ.mp c).1 (oR f).1,ao d];simp |p::P,w::vs,i+1,m,c,e,b,d=>by show bindC _ ((p,w)::P.zip _) m x=_;exact Je (i:=i) (fQ.mp c).2 (by simp_all) (by simp_all) d
def start(N:List Str)(vs:List V):St:=vs.map some++List.replicate (N.length-vs.length) none
noncomputable def mP(CX:jt)(P:Program)(w:World)(K:PySem.W.Frag)(mg:Str->Option Value)(d:Heap)(N:List Str)(b:Str)(scope:Scope)(f:Addr)(g:Value)(A:Around)(a:List Env)(s:Shared)(H:Hp)(E:XK):Cx where prog:=P;w:=w;K:=K;mg:=mg;base:=d;A:=A.deeper (envOfC b scope s.heap.objs.size f g);N:=N;fJ:=s;qV:=H;env:=envOfC b scope s.heap.objs.size f g;outer:=a;stack:=envOfC b scope s.heap.objs.size f g::a;ex:=[];calm:=true;fn:=fun _=>true;pn:=[];xe:=fun e h=>wpAny (model P w) (A.deeper (envOfC b scope s.heap.objs.size f g)) (leaving (envOfC b scope s.heap.objs.size f g) e) (fun _ c=>CX a H s E e c) (fun i c=>CX a H s E i c) h
theorem Jf{a:Scope}(h:a.names.lookup x=some .cell):∃c,(cellsFrom n a.names []).lookup x=some c:=mu.mp (px _ n [] (.inl h))
theorem QL{K:PySem.W.Frag}(S:cb N ps scope)(hd:A.handled=none)(d:pY P w K mg l A j s H)(U:vs.length=ps.length)(r:Vals vs us) (x:InCallC s s.heap.objs.size (bindL (envOfC g scope s.heap.objs.size f C).kindOf (ps.zip us) fun _=>none) (cellsFrom (s.heap.objs.size+1) scope.names []) (bindC (envOfC g scope s.heap.objs.size f C).kindOf (ps.zip us) fun _=>none) L): Inv (mP CX P w K mg l N g scope f C A j s H E) [] (start N vs) H L:=by
  have Q:ps.length<=N.length:=by have:=bT List.length S.pre;grind
  obtain⟨G,R,rfl,I⟩:=x.done;have n:∀b,b∉(mP CX P w K mg l N g scope f C A j s H E).ex:=fun b z=>absurd (show b∈[] from z) (by simp);refine⟨⟨d.mod,S.kind,rfl,rfl,aB _,fun y z c G m=>?_,fun y o=>?_,fun y c _ h=>?_,fun _=>hd,Around.frames_deeper d.frames,.inr ⟨rfl,rfl⟩,fun b z=>absurd z (n b),d.bs,d.rP,fun b _ _=>n b,fun b z=>absurd z (n b),d.ja,d.sQ,d.tb⟩, rfl,d.bare,Un.kept I,⟨_,x.toInCall.ns,fun i y v G m T=>?_⟩,fun y c h=>⟨_,x.cell y c h⟩,d.bF.fresh (aB _),fun y c h=>?_,fun p t=>absurd (show p∈[] from t) (by simp),d.bF.kept I,?_⟩;.exact name_of_addr x.apart (fS G) (fS m)
  . rcases o with o|o;.exact Jf o
    .exact absurd rfl (S.wy _ (fS o))
  .exact kG (x.above y c (fS h))
  . have D:i<vs.length:=by
      unfold start at m;by_cases D:i<vs.length;.exact D
      .rw[jT (by simp_all),lQ] at m;simp_all
    have M:vs[i]?=some v:=by unfold start at m;rw[iu (by simpa using D),bB] at m;cases e:vs[i]? with |none=>simp_all |some a=>rw[e] at m;cases m;rfl
    obtain⟨u,J,O⟩:=r.get M;have t:ps[i]?=some y:=by rwa[<-S.pre,List.getElem?_take_of_lt (by lia)]
    have B:ps.Nodup:=by rw[<-S.pre];exact S.nd.sublist (List.take_sublist _ _)
    refine⟨u,O,?_⟩;rcases S.par y (eg t) with k|k;.exact .inl ⟨k,Jd B t J k⟩
    .obtain⟨c,e⟩:=Jf k;refine .inr ⟨.inl k,c,e,?_⟩;have q:=x.cell y c e;rwa[Je B t J (by show scope.names.lookup y≠_;rw[k];decide)] at q
  .exact d.bF.fresh (kG (x.above y c (fS h)))
  .unfold start;show _=N.length;rw[bO,aI,List.length_replicate];lia
theorem DC{K:PySem.W.Frag}{X kV C Y d ct oc:Value}(lk:K.lookup f=some ⟨oc,od,.func (PySem.W.fnOf name a g j scope X kV C Y an d ct),zd⟩)(L:PySem.W.codeIn K d a=true)(S:cb N ps scope) (z:∀vs H Q E,sp vs H Q E->vs.length=ps.length) (m:∀(A:Around)(c:List Env)(s:Shared)(H:Hp)(vs:List V)(Q:VK)(E:XK),cN k (A.deeper (envOfC a scope s.heap.objs.size f d))->sp vs H Q E-> ∃t,km (mP CX P w K mg i N a scope f d A c s H E) j t/\t {nx:=fun _ H'=>Q .non H',rt:=Q} (start N vs) H): b_ P w K mg i CX (k+1) f (PySem.W.fnOf name a g j scope X kV C Y an d ct) ps sp:=by
 refine⟨z,fun A c s H args us vs Q E M G hb r B=>?_⟩;have T:=G.mod.we.keeps fun b o e=>(G.bs b o e).1;have l:∀y∈ps.zip us,scope.names.lookup y.1=some .local\/(scope.names.lookup y.1=some _/\((cellsFrom (s.heap.objs.size+1) _ []).lookup y.1).isSome=true):=fun⟨n,v⟩ hy=>by
  rcases S.par n (oR hy).1 with q|q;.simp_all
  .exact .inr ⟨q,px _ _ _ (.inl q)⟩
 refine codeAny_call_function M.depth (T _ _ lk) rfl S.co S.gen rfl (PySem.W.codeRec_of T L) (hb _ _ _ _ (wpAny_newFunctionEnv_cells S.kind l fun env he s1 x=>?_));subst he;refine⟨(G.mod.nolimit.keeps fun b o e=>(G.bs b o e).1).keeps x.toInCall.keep,codeAny_func ?_⟩;obtain⟨t,ht,hq⟩:=m A _ s H _ Q E (M.deeper _) B;have I:Inv (mP CX P w K _ _ N _ _ f _ A _ s H E) _ _ H _:=QL S M.hd G (z _ _ _ _ B) r x;refine cw (ht _ _ _ H _ I hq) (fun fl R p=>?_) fun e R p=>p;have D:∀{h:St}{H':Hp}{v:V}{u:Value},Inv (mP CX P w K mg i N a scope f d A c s H E) [] h _ R->RelV v u->Q v _->CE _ P w H s Q u _:= fun{h H' v u} J O q=>⟨v,H',J.os,J.bare,J.base,J.bF,O,q⟩;cases fl with |ret u=> obtain⟨v,h,H',J,O,q⟩:=p;exact D J O q |next=> obtain⟨h,H',J,q⟩:=p;exact D (v:=V.non) J rfl q |brk=> obtain⟨_,_,_,q⟩:=p;exact False.elim q |cont=> obtain⟨_,_,_,q⟩:=p;exact False.elim q
section
variable{X:Cx}{x:Str}{p pos:Pos}{e:Expr}{es:List Expr}{t:TA}{id T:String}{r:List V->Hp->VK->Prop}
def k9(r:List V->Hp->VK->Prop)(t:TA):TE:=fun c H Q=>t c H fun a b=>r a b Q
theorem xN(m:cj X (.builtin id) r)(n:Gl X x)(q:X.mg x=none)(g:bootBuiltins x=some (.builtin id))(k:PA X (e::es) t)(o:x≠"__name__":=by decide)(b:(x==("__debug__":Str))=false:=by decide) (d:starEach (e::es) X.env=(false,eval e X.env)::starEach es X.env:=by rfl)(a:(backTo pos (starEach es X.env)).any (·.1)=false:=by rfl):PE X (.Call (.Name x p) (e::es) [] pos) (k9 r t):=fun c s l H Q I h=>kL (vy I n q g (PyProof.Rows.callWith_builtin1 (bW (k _ _ s l H _ I h) fun u v ⟨_,_,i,f,j⟩=>m _ _ _ _ _ _ Q i f j) d a) o b)
theorem k_(l:cj X (.type T) r)(m:Gl X x)(o:X.mg x=none)(g:bootBuiltins x=some (.type T))(j:PA X (e::es) t)(n:x≠"__name__":=by decide)(b:(x==("__debug__":Str))=false:=by decide) (d:starEach (e::es) X.env=(false,eval e X.env)::starEach es X.env:=by rfl)(a:(backTo pos (starEach es X.env)).any (·.1)=false:=by rfl):PE X (.Call (.Name x p) (e::es) [] pos) (k9 r t):=fun c s u H Q I h=>kL (vy I m o g (jx (bW (j _ _ s _ H _ I h) fun v q ⟨_,_,i,f,k⟩=>l _ _ _ _ _ _ Q i f k) d a) n b)
end
end L2
namespace HT
open PySem PyProof.Rows
def lexLt:List Int->List Int->Bool |[],[]=>false |[],_::_=>true |_::_,[]=>false |x::b,y::a=>if x=y then lexLt b a else decide (x<y)
section
variable {prog : Program} {w : World} {A : Around} {E : Value → Shared → Prop} {s : Shared}
theorem uI(p:IsTup s.heap t vs.toArray)(o:IsTup s.heap b ws.toArray)(r:vs≠[]) (h1:ws=[]->Q (.ref t) s)(h2:ws≠[]->Q (.ref s.heap.objs.size) {s with heap:=s.heap.push {cls:=.type "tuple",data:=.seq (vs++ws).toArray}}) (hsz:vs.length+ws.length<=sizeLine):wpAny (model prog w) A (binaryOp .Add (.ref t) (.ref b)) Q E s:=by
 obtain⟨⟨i,q,g,v⟩,c,j,n,k⟩:=id p;obtain⟨⟨h,m,data2,l⟩,a,e,u,d⟩:=id o;subst j k e d;by_cases f:ws=[];.exact concat_meets ⟨_,c,rfl⟩ ⟨_,a,rfl⟩ noFill_tuple_add seq_tuple_add pk ph (pf _ _) (tuple_addW1 t b _ _ n _ _ _ _ _ (by simp_all) (by simp[f])) ⟨c,a,h1 f⟩
 .refine concat_meets ⟨_,c,rfl⟩ ⟨_,a,rfl⟩ noFill_tuple_add seq_tuple_add pk ph (pf _ _) (tuple_addW2 t b _ _ n _ _ _ _ _ (by simp_all) (by grind) (by trivial)) ⟨c,a,?_⟩;simp_all
noncomputable def eY(n d:Nat):Option Int->Nat |none=>d |some v=>if v<0 then(v+(n:Int)).toNat else min v.toNat n
theorem Jg(v:Int)(n d:Nat):(if v<0 then max (v+(n:Int)) 0 else min v (n:Int))=((eY n d (some v):Nat):Int):=by show(if v<0 then max _ 0 else min v n)=((if v<0 then(v+n).toNat else min _ n):Nat);grind
theorem QM(lo hi:Option Int)(n:Nat):Builtin.Slice.sliceAdjust lo hi 1 (n:Int)=(((eY n 0 lo:Nat):Int),((eY n n hi:Nat):Int)):=by
 refine Prod.ext ?_ ?_;.cases lo with |none=>rfl |some v=>exact Jg v n 0
 .cases hi with |none=>rfl |some v=>exact Jg v n n
theorem QN(i j:Nat):Builtin.Slice.slicePlaces (i:Int) (j:Int) 1=j-i:=by unfold Builtin.Slice.slicePlaces;lia
theorem Jh(p:IsPart v o)(h:Q o s):wpAny (model prog w) A (Builtin.Slice.slicePartIndex v) Q E s:=by cases p with |none=>exact slicePart_none h |int i t=>exact slicePart_int h
theorem QO{lo hi:Option Int}{n:Nat}(i:s.heap.IsSliceOf c g d .none)(pl:IsPart g lo)(e:IsPart d hi) (h:Q (((eY n 0 lo:Nat):Int),1,eY n n hi-eY n 0 lo) s):wpAny (model prog w) A (Builtin.Slice.sliceApplied (.ref c) (pure (n:Int))) Q E s:=by obtain⟨os,a,f,b⟩:=id i;refine ah (ah (eV a b rfl (ah (eV a b rfl (ah (eV a b rfl (au (ah (slicePart_none (ah (Jh pl (ah (Jh e (ah (au ?_)))))))))))))));show wpAny _ _ (match Builtin.Slice.sliceAdjust _ _ 1 _ with|(lo,hi)=>pure (lo,(1:Int),Builtin.Slice.slicePlaces lo hi 1)) _ _ s;rw[QM _ _ n];show wpAny _ _ (pure _) _ _ s;rw[QN];exact au h
theorem QP(xs:Array Value)(i k:Nat):((List.range k).filterMap fun(m:Nat)=>xs[((i:Int)+(m:Int)*1).toNat]?).toArray=((xs.toList.drop i).take k).toArray:=by
 have e:(fun(m:Nat)=>xs[((i:Int)+m*1).toNat]?)=fun m=>xs[i+m]?:=by
  funext m;have:((i:Int)+m*1).toNat=i+m:=by lia
  rw[this]
 have:=pick_run xs i k;have b:((fun x=>xs[x]?)∘fun x=>i+x)=fun m=>xs[i+m]?:=rfl;grind
theorem jd{lo hi:Option Int}(b:IsTup s.heap t items)(g:s.heap.IsSliceOf k i l .none)(pl:IsPart i lo)(j:IsPart l hi) (o:¬(eY items.size 0 lo=0/\eY items.size items.size hi=items.size)) (h:Q (.ref s.heap.objs.size) {s with heap:=s.heap.push {cls:=.type "tuple",data:=.seq ((items.toList.drop (eY items.size 0 lo)).take (eY items.size items.size hi-eY items.size 0 lo)).toArray}}) (hsz:items.size<=sizeLine):wpAny (model prog w) A (getItem (.ref t) (.ref k)) Q E s:=by
 have a:sizeOk (.seq ((items.toList.drop (eY items.size 0 lo)).take (eY items.size items.size hi-eY items.size 0 lo)).toArray):=by show((items.toList.drop _).take _).toArray.size<=sizeLine;rw[bI,gB,iv,si];omega
 obtain⟨os,d,e,m⟩:=id g;have f:s.TypeIs (.ref _) _:=⟨_,d,e⟩;unfold getItem;try with_reducible refine fv ?_
 refine ah (wpAny_sequenceKey b.typeIs rfl (ah (pG b.typeIs pd (iH pd b.typeIs entry_tuple_getitem ?_ (args_tuple_getitem _ _)))));show wpAny _ _ (Builtin.Tuple.tupleItemsOf _>>=_) _ _ s;refine ah (tupleItemsOf_ b (ah (mL f (ah (QO g pl j ?_)))));have c:¬(((eY items.size 0 lo:Int)==0&&(1:Int)==1&&(eY items.size items.size hi-eY items.size 0 lo)==items.size)=true):=by intro q;rw[iY,iY] at q;have n:=eq_of_beq q.1.1;simp_all
 show wpAny _ _ (if((eY _ 0 _:Int)==0&&1==1&&(eY _ _ _-eY _ 0 _)==items.size)=true then _ else _) _ _ s;rw[ao c,QP];first |exact ah (gF (au ⟨_,rfl,au h⟩) a) |rfl |rfl |rfl
end
end HT
namespace L2
open PySem PySem.Spec PyProof.Rows
abbrev TO:=St->Hp->(Option Int->Hp->Prop)->Prop
def PO(X:Cx)(e:Option Expr)(t:TO):Prop:= ∀(a:List (Addr×Obj))(s:Shared)(b:St)(H:Hp)(Q:Option Int->Hp->Prop),Inv X a b H s->t b H Q-> wpAny (model X.prog X.w) X.A (evalPart e X.env) (fun u d=>∃o c,Inv X a b c d/\IsPart u o/\Q o c) X.xe s
def A_:TO:=fun _ H Q=>Q none H
def vD(t:TE):TO:=fun a H Q=>t a H fun x b=>∃i,x=.int i/\Q (some i) b
theorem QQ:∀{us:List Value},Vals (ns.map V.int) us->IntsAre us ns:=by induction ns with |nil=>intro us r;cases r;exact .nil |cons n ns f=> intro us r;cases r with |cons c b=> obtain⟨t,e⟩:=c;subst e;exact .cons n t (f b)
section
variable{X:Cx}{e:Expr}{te:TE}{lo hi:Option Expr}{tl th:TO}{pos p2:Pos}
theorem gU:PO X none A_:=fun a s b H Q I h=>au ⟨_,H,I,.none,h⟩
theorem fN(h:PE X e te):PO X (some e) (vD te):=by intro a s j H Q I b;refine bW (h _ s _ H _ I b) fun u g ⟨x,_,f,d,c⟩=>?_;obtain⟨i,rfl,q⟩:=c;obtain⟨t,rfl⟩:=d;exact⟨_,_,f,.int i t,q⟩
def wz(X:Cx)(r:V->Option Int->Option Int->Hp->VK->Prop):Prop:= ∀(a:List (Addr×Obj))(s:Shared)(f:St)(H:Hp)(x:V)(v d c:Value)(lo hi:Option Int)(b:Addr)(Q:VK),Inv X a f H s->RelV x v->s.heap.IsSliceOf b d c .none->IsPart d lo->IsPart c hi->r x lo hi H Q-> ∃T id,typeLookup (.type T) "__getitem__"=pure (some (.builtin id))/\s.TypeIs v T/\wpAny (model X.prog X.w) X.A (getItem v (.ref b)) (EP X a f Q) X.xe s
theorem wz.or(h:wz X r)(h':wz X g):wz X (fun x lo hi H Q=>r x lo hi H Q\/g x lo hi H Q):=by
 intro f s j H x v k l lo hi i Q I d a c b q;rcases q with q|q;.exact h _ s _ H x v _ _ _ _ _ Q I d a c b q
 .exact h' _ s _ H x v _ _ _ _ _ Q I d a c b q
def wA(r:V->Option Int->Option Int->Hp->VK->Prop)(te:TE)(tl th:TO):TE:=fun a H Q=>te a H fun x d=>tl a d fun l b=>th a b fun u c=>r x l u c Q
theorem gi(f:wz X r)(D:PE X e te)(z:PO X lo tl)(C:PO X hi th):PE X (.Subscript e (.Slice lo hi none p2) pos) (wA r te tl th):=by intro c s G H Q I h;refine Subscript_ (bW (D _ s _ H _ I h) fun v J ⟨x,_,j,t,g⟩=>(wpAny_Slice (bW (z _ _ _ _ _ j g) fun y L ⟨l,_,m,i,k⟩=>bW (C _ _ _ _ _ m k) fun p a ⟨u,_,w,n,B⟩=>(au ?_))));have o:Inv X _ _ _ {a with heap:=a.heap.push {cls:=.type "slice",data:=.fields #[y,p,.none]}}:=w.kept fun b M q=>bu _ q;obtain⟨T,id,A,d,E⟩:=f _ _ _ _ x v _ _ l u _ Q o t (Heap.IsSliceOf.new ..) i n B;exact tail_any d A E rfl
def nU(xs:List V)(lo hi:Option Int):List V:=(xs.drop (HT.eY xs.length 0 lo)).take (HT.eY xs.length xs.length hi-HT.eY xs.length 0 lo)
theorem Ji(xs:List V)(lo hi:Option Int):(nU xs lo hi).length<=xs.length:=by unfold nU;rw[gB,iv];lia
def rf(K:PySem.W.Frag):V->Option Int->Option Int->Hp->VK->Prop:=fun x lo hi H Q=>∃a b,x=.ref a/\jo K H a b/\ ¬(HT.eY b.length 0 lo=0/\HT.eY b.length b.length hi=b.length)/\∀p,H p=none->Q (.ref p) (upd H p (.tup (nU b lo hi)))
theorem Ba:wz X (rf X.K):=by rintro f s t H x v u y lo hi w Q I m l n j ⟨a,i,rfl,h,o,q⟩;cases m;obtain⟨d,r,g,k⟩:=I.tuple h;have c:d.toArray.size=i.length:=r.length.symm;refine⟨_,_,pd.lookup,g.typeIs,(HT.jd g l n j (by simp_all) ?_ (by lia))⟩;rw[c];refine⟨.ref _,_,I.laid (fun b p q=>bu _ q) (aB _) ?_,rfl,q _ (I.bF.fresh (aB _))⟩;exact⟨bV (Ji _ _ _) k,_,(r.drop _).take _,IsTup.new _ _⟩
def QR(K:PySem.W.Frag):R2:=fun x y H Q=>∃a b d c,x=.ref a/\y=.ref b/\jo K H a d/\jo K H b c/\d≠[]/\d.length+c.length<=sizeLine/\ (c=[]->Q (.ref a) H)/\(c≠[]->∀p,H p=none->Q (.ref p) (upd H p (.tup (d++c))))
theorem Vals.kn(r:Vals xs us):us=[]↔xs=[]:=by cases r with |nil=>simp |cons _ _=>simp
theorem QS:gT X (binaryOp .Add) (QR X.K):=by rintro g s t H x y v u Q I n h ⟨a,b,C,A,rfl,rfl,k,o,i,B,j,l⟩;cases n;cases h;obtain⟨m,d,p,_⟩:=I.tuple k;obtain⟨f,c,p2,_⟩:=I.tuple o;refine HT.uI p p2 (fun z=>i (d.kn.mp z)) (fun z=>⟨.ref a,H,I,rfl,j (c.kn.mp z)⟩) (fun z=>(⟨.ref _,_,I.laid (fun b r q=>bu _ q) (aB _) ?_,rfl,l (fun w=>z (c.kn.mpr w)) _ (I.bF.fresh (aB _))⟩)) (by rwa[<-d.length,<-c.length]);exact⟨by simp_all,_,d.append c,IsTup.new _ _⟩
end
noncomputable def gm(n:Nat)(i:Int):Option Nat:=if 0<=i then(if i<n then some i.toNat else none) else if-(n:Int)<=i then some (i+n).toNat else none
def jY{α:Type}(xs:List α)(i:Int):Option α:=(gm xs.length i).bind fun j=>xs[j]?
theorem Jj(h:gm n i=some j):seqIndex? i n=some j/\j<n/\-(n:Int)<=i/\i<n:=by
  unfold gm at h;by_cases b:0<=i
  . rw[ak b] at h;by_cases a:i<n;.rw[ak a] at h;have e:=eU h;exact⟨by rw[seqIndex_of b a,e],by lia,by lia,a⟩
    simp_all
  . rw[ao b] at h;by_cases a:-n<=i;.rw[ak a] at h;have e:=eU h;exact⟨by rw[seqIndex_neg (by lia) a,e],by lia,a,by lia⟩
    simp_all
theorem Jk(h:jY xs i=some v):∃j,seqIndex? i xs.length=some j/\xs[j]?=some v/\j<xs.length/\-(xs.length:Int)<=i/\i<xs.length:=by unfold jY at h;cases e:gm xs.length i with |none=>simp_all |some j=> obtain⟨a,d,b,c⟩:=Jj e;simp_all
theorem eL{xs:List α}{j:Nat}{v:α}(h:xs[j]?=some v):jY xs (j:Int)=some v:=by
 have a:=(cI.mp h).1;have e:gm xs.length j=some j:=by unfold gm;rw[ak (by lia),ak (by lia)];simp
 unfold jY;simp_all
def DE(b:Expr):Prop:=∀o i,subscripted b false o i=operate [o,i] (getItem o i)
def wB(X:Cx)(r:R2):Prop:= ∀(c a:Expr)(b:List (Addr×Obj))(s:Shared)(d:St)(H:Hp)(x y:V)(v u:Value)(Q:VK),Inv X b d H s->RelV x v->RelV y u->r x y H Q-> subscripted a false v u=operate [v,u] (getItem v u)->wpAny (model X.prog X.w) X.A (subscriptTail c a v u) (EP X b d Q) X.xe s
def wC(X:Cx)(id:String)(r:V->List V->Hp->VK->Prop):Prop:= ∀(a:List (Addr×Obj))(s:Shared)(d:St)(H:Hp)(x:V)(b:List V)(v:Value)(c:List Value)(Q:VK),Inv X a d H s->RelV x v->Vals b c->r x b H Q-> wpAny (model X.prog X.w) X.A (call (.builtin id) (v::c)) (EP X a d Q) X.xe s
section
variable{X:Cx}{a b:Expr}{ta tb:TE}{pos:Pos}
theorem wB.or(h:wB X r)(h':wB X j):wB X (fun x y H Q=>r x y H Q\/j x y H Q):=by
 intro d c g s k H x y v u Q I f e q i;rcases q with q|q;.exact h _ _ _ s _ H x y v u Q I f e q i
 .exact h' _ _ _ s _ H x y v u Q I f e q i
theorem wC.or{id:String}(h:wC X id r)(h':wC X id f):wC X id (fun x xs H Q=>r x xs H Q\/f x xs H Q):=by
 intro e s i H x xs v g Q I c d q;rcases q with q|q;.exact h _ s _ H x _ v _ Q I c d q
 .exact h' _ s _ H x _ v _ Q I c d q
theorem lY{r:R2}(f:wB X r)(i:PE X a ta)(j:PE X b tb)(g:DE b):PE X (.Subscript a b pos) (iN r ta tb):=fun c s n H Q I h=>Subscript_ (wo i j I h fun v u l x y m k e d q=>f a b _ _ _ _ x y v u Q k e d q (g _ _))
def nV(K:PySem.W.Frag):R2:=fun x y H Q=>∃p c i v,x=.ref p/\y=.int i/\gh K H p c/\jY c i=some v/\Q v H
def ka(K:PySem.W.Frag):R2:=fun x y H Q=>∃p c i v,x=.ref p/\y=.int i/\jo K H p c/\jY c i=some v/\Q v H
theorem uJ:wB X (nV X.K):=by
  rintro h g n s T H x y v u Q I A J ⟨p,L,i,z,rfl,rfl,D,E,q⟩ m;cases A;obtain⟨t,rfl⟩:=J;obtain⟨f,r,d,O⟩:=I.list D;obtain⟨j,l,o,R,C,G⟩:=Jk E;obtain⟨w,S,e⟩:=r.get o;have N:=r.length;have M:=A8;have c:EP X _ _ Q w s:=⟨z,H,I,e,q⟩;by_cases k:0<=i
  . have B:i.toNat=j:=by rw[seqIndex_of k G] at l;simp_all
    exact item_listR d.isList k (by lia) (by simp_all) c m
  . have B:(i+f.toArray.size).toNat=j:=by rw[seqIndex_neg (by lia) C] at l;simp_all
    exact subscriptTail_builtinR d.isList.typeIs slot_list_getitem.lookup (wpAny_getItem_list_neg d.isList (by lia) (by simp_all) (by lia) (by simp_all) ⟨rfl,c⟩) m
theorem sV:wB X (ka X.K):=by rintro f e h s O H x y v u Q I m n ⟨p,E,i,z,rfl,rfl,o,C,q⟩ B;cases m;obtain⟨t,rfl⟩:=n;obtain⟨A,r,g,J⟩:=I.tuple o;obtain⟨j,G,k,M,N,D⟩:=Jk C;obtain⟨w,l,d⟩:=r.get k;have L:=A8;have c:EP X _ _ Q w s:=⟨z,H,I,d,q⟩;exact subscriptTail_builtinR g.typeIs slot_tuple_getitem.lookup (getItem_tuple g (by lia) (by lia) (by rwa[bI,<-r.length]) (by simpa using l) ⟨rfl,c⟩) B
theorem QT(its:List Value)(n j:Nat)(u:Value):Obj.mapSeq (·.setIfInBounds j u) {cls:=.type "list",data:=.seq its.toArray n}={cls:=.type "list",data:=.seq (its.set j u).toArray n}:=by simp[Obj.mapSeq]
theorem Inv.lst{pins:List (Addr×Obj)}{σ:St}{H:Hp}{s:Shared}{p:Addr}{xs:List V}(I:Inv X pins σ H s)(h:H p=some (.lst xs)): ∃(its:List Value) (n:Nat),Vals xs its/\s.heap.get? p=some {cls:=.type "list",data:=.seq its.toArray n}/\xs.length<=sizeLine:=by obtain⟨z,its,n,r,e⟩:=I.bF p _ h;simp_all
theorem Inv.wD{its its':List Value}(I:Inv X pins σ H s)(h:H p=some (.lst xs)) (i:s.heap.get? p=some {cls:=.type "list",data:=.seq its.toArray n})(c:f {cls:=.type "list",data:=.seq its.toArray n}={cls:=.type "list",data:=.seq its'.toArray g})(r:Vals ys its')(hz:ys.length<=sizeLine)(t:Nat): Inv X pins σ (upd H p (.lst ys)) {s with heap:=s.heap.update p f,toks:=t}:=by
 have e:(s.heap.update p f).get? p=some {cls:=.type "list",data:=.seq its'.toArray g}:=by rw[jS f i (by rw[c]<;>rfl),c]
 refine I.write (by rw[h];trivial) (.inl rfl) (fun b u d q=>(dZ _ _ (aJ d)).trans q) ⟨_,e⟩ ?_;exact⟨hz,_,_,r,e⟩
def ze:V->V->V->Hp->(Hp->Prop)->Prop:=fun o i v H Q=>∃p c k j,o=.ref p/\i=.int k/\H p=some (.lst c)/\gm c.length k=some j/\Q (upd H p (.lst (c.set j v)))
theorem vE:yV X ze:=by
  rintro w s G H o i v M L u Q I C x z ⟨p,E,k,j,rfl,rfl,f,A,q⟩;cases C;obtain⟨t,rfl⟩:=x;obtain⟨c,n,r,d,D⟩:=I.lst f;obtain⟨g,N,B,y⟩:=Jj A;have m:=r.length;have J:=A8;have h:Inv X _ _ _ {s with heap:=s.heap.update p _}:= I.wD f d (QT _ n j u) (r.set z j) (by simp_all) _;by_cases l:0<=k
  . have e:k.toNat=j:=by rw[seqIndex_of l y] at g;simp_all
    exact PySem.W.ki_setAt d l (by lia) (by rwa[bI,<-m]) (by rw[e];exact⟨_,h,q⟩)
  . have e:(k+c.toArray.size).toNat=j:=by rw[seqIndex_neg (by lia) B] at g;simp_all
    exact PySem.W.ki_setBack d (by lia) (by rwa[bI,<-m]) (by lia) (by rw[e];exact⟨_,h,q⟩)
theorem QU(lo hi:Option Int)(n:Nat):(sliceBounds lo hi none n).1=((HT.eY n 0 lo:Nat):Int)/\(sliceBounds lo hi none n).2.1=((HT.eY n n hi:Nat):Int)/\(sliceBounds lo hi none n).2.2=1:=by
 refine⟨?_,?_,rfl⟩;.cases lo with |none=>rfl |some i=> simp[sliceBounds,HT.eY];grind
 .cases hi with |none=>rfl |some i=> simp[sliceBounds,HT.eY,show 1>0 by decide];grind
theorem QV(its:List Value)(lo hi:Option Int):slicePick its.toArray lo hi none=((its.drop (HT.eY its.length 0 lo)).take (HT.eY its.length its.length hi-HT.eY its.length 0 lo)).toArray:=by obtain⟨c,e,d⟩:=QU _ _ _;unfold slicePick;rw[c,e,d];simp only[sliceRange_one,pick_run]<;>rfl
def zf(K:PySem.W.Frag):V->Option Int->Option Int->Hp->VK->Prop:=fun x lo d H Q=>∃a c,x=.ref a/\gh K H a c/\∀p,H p=none->Q (.ref p) (upd H p (.lst (nU c lo d)))
theorem hZ:wz X (zf X.K):=by rintro d s p H x v u t lo n m Q I k j g l ⟨a,w,rfl,h,q⟩;cases k;obtain⟨f,r,e,i⟩:=I.list h;have c:=r.length;refine⟨_,_,slot_list_getitem.lookup,e.isList.typeIs,(wpAny_getItem_list_slice e.isList j g l .none (by simp) ?_ (by simp_all))⟩;rw[QV,<-c];refine⟨.ref _,_,I.laid (fun b o q=>bu _ q) (aB _) ?_,rfl,q _ (I.bF.fresh (aB _))⟩;exact⟨bV (Ji _ _ _) i,_,0,(r.drop _).take _,cu _ rfl⟩
def uK:V->Bool |.non=>true |.bl _=>true |.int _=>true |.str _=>true |_=>false
noncomputable def ue:V->V->Bool |.non,.non=>true |.bl a,.bl b=>a==b |.bl a,.int b=>(if a then 1 else 0)==b |.int a,.bl b=>a==(if b then 1 else 0) |.int a,.int b=>a==b |.str a,.str b=>a==b |_,_=>false
theorem QW(j:RelV y u)(c:RelV x v)(k:uK y=true)(i:uK x=true):SeqAt.EqAt A s u v (ue y x):=by cases y with
 |non=> cases j;cases x with |non=>cases c;exact SeqAt.EqAt.same _ |bl b=>cases c;exact SeqAt.EqAt.none_bool b |int b=>obtain⟨t,rfl⟩:=c;exact SeqAt.EqAt.none_int b t |str b=>obtain⟨t,rfl⟩:=c;exact SeqAt.EqAt.none_str b t |_=>exact absurd (show false=true from i) cW
 |bl a=> cases j;cases x with |non=>cases c;exact SeqAt.EqAt.bool_none a |bl b=>cases c;exact SeqAt.EqAt.bool_bool a b |int b=>obtain⟨t,rfl⟩:=c;exact SeqAt.EqAt.bool_int a b t |str b=>obtain⟨t,rfl⟩:=c;exact SeqAt.EqAt.bool_str a b t |_=>exact absurd (show false=true from i) cW
 |int a=> obtain⟨g,rfl⟩:=j;cases x with |non=>cases c;exact SeqAt.EqAt.int_none a g |bl b=>cases c;exact SeqAt.EqAt.int_bool a g b |int b=>obtain⟨t,rfl⟩:=c;exact SeqAt.EqAt.int_int a g b t |str b=>obtain⟨t,rfl⟩:=c;exact SeqAt.EqAt.int_str a g b t |_=>exact absurd (show false=true from i) cW
 |str a=> obtain⟨g,rfl⟩:=j;cases x with |non=>cases c;exact SeqAt.EqAt.str_none a g |bl b=>cases c;exact SeqAt.EqAt.str_bool a g b |int b=>obtain⟨t,rfl⟩:=c;exact SeqAt.EqAt.str_int a g b t |str b=>obtain⟨t,rfl⟩:=c;exact SeqAt.EqAt.str_str a g b t |_=>exact absurd (show false=true from i) cW
 |_=>exact absurd (show false=true from k) cW
def zg(x:V)(u:Value):Bool:=match u with |.none=>ue .non x |.bool b=>ue (.bl b) x |.int i _=>ue (.int i) x |.str z _=>ue (.str z) x |_=>false
theorem Jl(r:RelV y u)(f:uK y=true):zg x u=ue y x:=by cases y with |non=>cases r;rfl |bl b=>cases r;rfl |int i=>obtain⟨t,rfl⟩:=r;rfl |str z=>obtain⟨t,rfl⟩:=r;rfl |_=>exact absurd f cW
theorem DF:∀{xs:List V}{us:List Value},Vals xs us->xs.all uK=true->us.any (zg x)=xs.any fun y=>ue y x |_,_,.nil,_=>rfl |y::xs,u::us,.cons r t,f=>by rw[il,iY] at f;rw[nG,nG,Jl r f.1,DF t f.2]
theorem DG(e:RelV x v)(g:uK x=true):∀{xs:List V}{us:List Value},Vals xs us->xs.all uK=true->∀u∈us,SeqAt.EqAt A s u v (zg x u)
 |_,_,.nil,_=>fun u d=>by cases d |y::xs,u::us,.cons r t,f=>fun h d=>by
  rw[il,iY] at f;rcases aR.mp d with rfl|d;.rw[Jl r f.1];exact QW r e f.1 g
  .exact DG e g t f.2 _ d
def Bb(x:V)(xs:List V):Bool:=xs.any fun y=>ue y x
def Jm(K:PySem.W.Frag)(d:Bool):R2:=fun x y H Q=>∃p c,y=.ref p/\(gh K H p c\/jo K H p c)/\uK x=true/\c.all uK=true/\Q (.bl (if d then !Bb x c else Bb x c)) H
theorem QX:gT X (compareOp .In) (Jm X.K false):=by
 rintro i s m H x y v u Q I h j ⟨p,n,rfl,d,g,e,q⟩;cases j;rcases d with d|d;.obtain⟨c,r,f,k⟩:=I.list d;refine SeqAt.in_listAt _ f.isList (fun w l=>DG h g r e w (by simp_all)) ⟨.bl _,H,I,rfl,?_⟩;rwa[show c.toArray.any _=c.any (zg x) by simp,DF r e]
 .obtain⟨c,r,f,k⟩:=I.tuple d;refine SeqAt.in_tupleAt _ f (fun w l=>DG h g r e w (by simp_all)) ⟨.bl _,H,I,rfl,?_⟩;rwa[show c.toArray.any _=c.any (zg x) by simp,DF r e]
theorem jG:cj X (.builtin "len") (fun xs H Q=>∃p ys,xs=[.ref p]/\(gh X.K H p ys\/jo X.K H p ys)/\Q (.int ys.length) H):=by
 rintro h s m H xs l Q I r ⟨p,ys,rfl,d,q⟩;obtain⟨u,rfl,j⟩:=lW r;cases j;have k:=A8;rcases d with d|d;.obtain⟨e,f,g,i⟩:=I.list d;have c:=f.length;exact Calls.call_len_list g.isList (by simp<;>lia) ⟨.int _,H,I.tok _,⟨s.toks+1,by simp_all⟩,q⟩
 .obtain⟨e,f,g,i⟩:=I.tuple d;have c:=f.length;exact len_tuple g (by simp<;>lia) ⟨.int _,H,I.tok _,⟨s.toks+1,by simp_all⟩,q⟩
theorem cj.or(h:cj X f r)(h':cj X f e):cj X f (fun xs H Q=>r xs H Q\/e xs H Q):=by
 intro c s g H xs i Q I d q;rcases q with q|q;.exact h _ s _ H _ _ Q I d q
 .exact h' _ s _ H _ _ Q I d q
theorem uf:cj X (.type "list") (fun xs H Q=>∃p ys,xs=[.ref p]/\(gh X.K H p ys\/jo X.K H p ys)/\∀l,H l=none->Q (.ref l) (upd H l (.lst ys))):=by
 rintro y s A H xs B Q I r ⟨p,ys,rfl,h,q⟩;obtain⟨u,rfl,z⟩:=lW r;cases z;have k:∀(c:List _),Vals _ c->ys.length<=sizeLine->∀(f:Heap)(m:Nat),(∀b C,s.heap.get? b=some _->f.get? b=some _)-> f.get? _=some {cls:=.type _,dict:=none,data:=.seq _ m,slots:=#[]}->EP X _ _ Q _ {s with heap:=f}:=fun c d j f m i e=> ⟨.ref _,_,I.laid i (aB _) (show dD _ _ _ _ _ (.lst _) from⟨j,_,_,d,e⟩),rfl,q _ (I.bF.fresh (aB _))⟩;rcases h with h|h;.obtain⟨c,d,t,j⟩:=I.list h;have g:=d.length;obtain⟨o,x,w,n,v⟩:=t.isList;exact call_list_seq p (.inl rfl) x w v (fun f m i e=>k _ d j _ _ i e) (by simp<;>lia)
 .obtain⟨c,d,t,j⟩:=I.tuple h;have g:=d.length;obtain⟨o,x,w,n,v⟩:=t;exact call_list_seq p (.inr rfl) x w v (fun f m i e=>k _ d j _ _ i e) (by simp<;>lia)
theorem Jn:cj X (.type "tuple") (fun xs H Q=>∃p ys,xs=[.ref p]/\((gh X.K H p ys/\∀l,H l=none->Q (.ref l) (upd H l (.tup ys)))\/(jo X.K H p ys/\Q (.ref p) H))):=by
 intro n s y H xs x Q I r h;obtain⟨p,ys,rfl,h⟩:=h;obtain⟨u,rfl,v⟩:=lW r;cases v;rcases h with⟨g,q⟩|⟨g,q⟩;.obtain⟨c,d,f,j⟩:=I.list g;have i:=d.length;refine call_tuple_list f.isList (fun m t=>?_) (by simp[bI]<;>omega);have k:Inv X _ _ H {s with heap:=m}:=I.kept t;have w:Inv X _ _ (upd H _ (.tup _)) {s with heap:=m.push _}:= k.laid (fun b o e=>bu _ e) (aB _) (⟨j,c,d,IsTup.new _ _⟩);exact⟨.ref _,_,w,rfl,q _ (k.bF.fresh (aB _))⟩
 .obtain⟨c,d,f,j⟩:=I.tuple g;exact call_tuple_same f ⟨.ref p,H,I,rfl,q⟩
def DH(K:PySem.W.Frag)(T:String)(x:V)(H:Hp):Prop:=match x with |.str _=>T="str" |.int _=>T="int" |.ref p=>(T="list"/\∃d,gh K H p d)\/(T="tuple"/\∃o,K.lookup p=some o/\o.cls=.type "tuple"/\o.dict=none)\/ (T="dict"/\((∃c,H p=some (.dK c))\/∃c,H p=some (.dT c)))\/(T="set"/\∃S n,H p=some (.set S n)) |_=>False
theorem Jo(I:Inv X pins σ H s)(r:RelV x v)(g:DH X.K T x H): s.TypeIs v T/\∀a,v=.ref a->∃l,s.heap.get? a=some l/\l.dict=none:=by
  cases x with |str z=> obtain⟨t,rfl⟩:=r;cases(g);exact⟨rfl,fun _ e=>nomatch e⟩ |int i=> obtain⟨t,rfl⟩:=r;cases g;exact⟨rfl,fun _ e=>nomatch e⟩ |ref p=>
    cases r;rcases g with⟨rfl,C,B⟩|⟨rfl,o,d,A,j⟩|⟨rfl,d⟩|⟨rfl,S,n,d⟩;.obtain⟨y,_,m,_⟩:=I.list B;refine⟨m.isList.typeIs,fun a e=>?_⟩;cases e;obtain⟨o,n,e,c,j,_⟩:=m;exact⟨o,e,j⟩
    .refine⟨⟨o,I.iQ p o d,A⟩,fun a e=>?_⟩;cases e;exact⟨o,I.iQ _ o d,j⟩
    . have z:∃o,s.heap.get? p=some o/\o.ExactDict:=by
        rcases d with⟨h,d⟩|⟨h,d⟩;.obtain⟨_,_,_,_,o,_,_,e,f,_⟩:=I.bF p _ d;grind
        .obtain⟨_,_,_,_,o,_,_,e,f,_⟩:=I.bF p _ d;exact⟨o,e,f⟩
      obtain⟨o,e,f⟩:=z;refine⟨⟨o,e,f.1⟩,fun a k=>?_⟩;cases k;exact⟨o,e,f.2.1⟩
    .obtain⟨o,_,_,_,e,f,_⟩:=I.bF p _ d;refine⟨⟨o,e,f.1⟩,fun a k=>?_⟩;cases k;exact⟨o,e,f.2.1⟩ |_=>exact False.elim g
def zh(K:PySem.W.Frag)(T:String)(r:V->List V->Hp->VK->Prop)(d:TE):TE:=fun e H Q=>d e H fun x c=>DH K T x c/\r x [] c Q
def vF(K:PySem.W.Frag)(T:String)(r:V->List V->Hp->VK->Prop)(f:TE)(t:TA):TE:=fun c H Q=>f c H fun x d=>DH K T x d/\t c d fun e g=>r x e g Q
variable{o e:Expr}{es:List Expr}{to:TE}{t:TA}{name:Str}{apos e_:Pos}{T id:String}{r:V->List V->Hp->VK->Prop}
theorem QY(q:PlainAttrs T)(f:Slot T name id)(g:typeOf (.builtin id)=pure (.type "method_descriptor"))(n:wC X id r)(m:PE X o to) (c:attributeBase o name X.env (eval o X.env)=eval o X.env:=by rfl)(d:(apos.endLine==e_.line)=true:=by rfl):PE X (.Call (.Attribute o name apos) [] [] e_) (zh X.K T r to):=by intro k s z H Q I h;refine wpAny_Call_method0_late c d (bW (m _ s _ H _ I h) fun v y ⟨x,_,j,i,p,u⟩=>?_);obtain⟨w,l⟩:=Jo j i p;exact⟨T,_,q,f,g,w,l,qz rfl (PySem.evalArgs_none (n _ _ _ _ x _ v _ Q j i .nil u))⟩
theorem zi(u:PlainAttrs T)(g:Slot T name id)(j:typeOf (.builtin id)=pure (.type "method_descriptor"))(z:wC X id r)(C:PE X o to)(A:PA X (e::es) t) (c:attributeBase o name X.env (eval o X.env)=eval o X.env:=by rfl) (f:((backTo e_ (starEach (e::es) X.env)).all (fun x=>!x.1)&&(backToKw e_ (keywordEach [] X.env)).all (fun x=>x.1.isSome) &&decide ((e::es).length+([]:List Keyword).length+(if([]:List Keyword).isEmpty then 0 else 1)<30))=true:=by rfl) (d:(apos.endLine==e_.line)=true:=by rfl)(q:starEach (e::es) X.env=(false,eval e X.env)::starEach es X.env:=by rfl)(i:(backTo e_ (starEach es X.env)).any (·.1)=false:=by rfl): PE X (.Call (.Attribute o name apos) (e::es) [] e_) (vF X.K T r to t):=by intro n s N H Q I h;refine wpAny_Call_method_late c f d rfl (bW (C _ s _ H _ I h) fun v J ⟨x,_,l,k,B,E⟩=>?_);obtain⟨D,p⟩:=Jo l k B;refine⟨T,_,u,g,j,D,p,?_⟩;have m:=A e_ _ _ _ _ _ l E;rw[q] at m⊢;exact qz (by grind) (sk (bW m fun M L ⟨_,_,G,w,y⟩=>z _ _ _ _ x _ v _ Q G k w y))
end
def xO(X:Cx)(id:String)(r:V->List V->Hp->VK->Prop):Prop:= ∀(a:List (Addr×Obj))(s:Shared)(d:St)(H:Hp)(x:V)(b:List V)(v:Value)(c:List Value)(Q:VK),Inv X a d H s->RelV x v->Vals b c->r x b H Q-> wpAny (model X.prog X.w) X.A (call (.builtin id) (v::c)) (EP X a d Q) X.xe s
theorem Vals.one:∀{x:V}{us:List Value},Vals [x] us->∃u,us=[u]/\RelV x u |_,_,.cons r .nil=>⟨_,rfl,r⟩
theorem Vals.zero:∀{us:List Value},Vals [] us->us=[] |_,.nil=>rfl
theorem Vals.dropLast(h:Vals xs us):Vals xs.dropLast us.dropLast:=by induction h with |nil=>exact .nil |cons r t c=> cases t with |nil=>simp_all |cons q d=>exact .cons r c
theorem Vals.eraseIdx : ∀ {xs : List V} {us : List Value} (i : Nat), Vals xs us → Vals (xs.eraseIdx i) (us.eraseIdx i)
  | _, _, _, .nil => .nil
  | _, _, 0, .cons _ t => t
  | _, _, i + 1, .cons r t => .cons r (Vals.eraseIdx i t)
section
variable{X:Cx}{pins:List (Addr×Obj)}{σ:St}{H:Hp}{s:Shared}{l b:Addr}{xs ys zs:List V}
theorem Inv.rh{its its':List Value}(I:Inv X pins σ H s)(c:H l=some (.lst xs)) (e:s.heap.get? l=some {cls:=.type "list",data:=.seq its.toArray n})(g:f its.toArray=its'.toArray)(d:Vals ys its')(hz:ys.length<=sizeLine): Inv X pins σ (upd H l (.lst ys)) {s with heap:=s.heap.update l (Obj.mapSeq f),toks:=t'}:=by have q:=PySem.IsL.update e f;rw[g] at q;refine I.write (by rw[c];exact trivial) (.inl rfl) (fun i u a h=>(dZ _ _ (aJ a)).trans h) ⟨_,q⟩ ?_;exact⟨hz,_,_,d,q⟩
theorem Inv.DI(I:Inv X pins σ H s)(a:Vals ys its)(hz:ys.length<=sizeLine): Inv X pins σ (upd H s.heap.objs.size (.lst ys)) {s with heap:=s.heap.push {cls:=.type "list",data:=.seq its.toArray},toks:=t'}:= I.laid (fun _ _ q=>bu _ q) (aB _) ⟨hz,_,0,a,cu _ rfl⟩
theorem Inv.fresh(I:Inv X pins σ H s):H s.heap.objs.size=none:=I.bF.fresh (aB _)
theorem Inv.pZ(I:Inv X pins σ H s)(a:H l=some (.lst xs)):xs.length<=sizeLine/\∃(its:List Value) (n:Nat),Vals xs its/\xs.length=its.length/\s.heap.get? l=some {cls:=.type "list",data:=.seq its.toArray n}:=let⟨z,_,n,r,e⟩:=I.bF l _ a;⟨z,_,n,r,r.length,e⟩
theorem Jp(h:n<=sizeLine):Builtin.List.listTooLong n=false:=by unfold Builtin.List.listTooLong;simp_all
end
section
variable {X : Cx}
def Bc:V->List V->Hp->VK->Prop:=fun x b H Q=>∃l a y,x=.ref l/\b=[y]/\H l=some (.lst a)/\a.length<sizeLine/\Q .non (upd H l (.lst (a++[y])))
theorem Jq:xO X "list.append" Bc:=by rintro a s m H x i v k Q I c d ⟨l,j,y,rfl,rfl,b,o,q⟩;cases c;obtain⟨u,rfl,f⟩:=d.one;obtain⟨z,g,n,r,h,e⟩:=I.pZ b;refine jA F.slot_list_append ⟨_,e,rfl⟩ F.entry_list_append (F.args_list_append_2 _ _) (PySem.list_append l _ n u (by simp_all)) ⟨e,(⟨.non,_,I.rh b e (by simp) (r.append (.cons f .nil)) ?_,rfl,q⟩)⟩;rw[bO,iw];lia
def QZ:V->List V->Hp->VK->Prop:=fun x d H Q=>∃l b c a,x=.ref l/\d=[.ref b]/\H l=some (.lst c)/\H b=some (.lst a)/\c.length+a.length<=sizeLine/\Q .non (upd H l (.lst (c++a)))
theorem Q0:xO X "list.extend" QZ:=by
 rintro h s G H x E v w Q I i o ⟨l,b,A,B,rfl,rfl,g,m,y,q⟩;cases i;obtain⟨u,rfl,k⟩:=o.one;cases k;obtain⟨z,c,n,r,C,e⟩:=I.pZ g;obtain⟨J,a,D,j,p,t⟩:=I.pZ m;have f:c.toArray.size+a.toArray.size<=sizeLine:=by rw[bI,bI];lia
 have d:¬(!c.toArray.isEmpty&&Builtin.List.listTooLong (c.toArray.size+a.toArray.size))=true:=by rw[Jp f];simp
 refine jA F.slot_list_extend ⟨_,e,rfl⟩ F.entry_list_extend (F.args_list_extend_2 _ _) (AutoSeq1.list_extend_list_list_0 l _ n b _ _ d (by lia) (by lia)) ⟨e,t,(⟨.non,_,I.rh g e (by simp) (r.append j) ?_,rfl,q⟩)⟩;simp_all
def zj:V->List V->Hp->VK->Prop:=fun x b H Q=>∃l a y,x=.ref l/\b=[]/\H l=some (.lst a)/\a[a.length-1]?=some y/\Q y (upd H l (.lst a.dropLast))
theorem Q1:xO X "list.pop" zj:=by
 rintro f s t H x o v p Q I g h ⟨l,m,y,rfl,rfl,d,i,q⟩;cases g;have b:=h.zero;subst b;obtain⟨z,a,n,r,j,e⟩:=I.pZ d;obtain⟨u,w,k⟩:=r.get i;have c:=by show a.toArray[a.length-1]?=some u;rwa[<-wa,<-j]
 refine jA F.slot_list_pop ⟨_,e,rfl⟩ F.entry_list_pop (F.args_list_pop_1 _) (MeetsSeq.list_pop_last l _ n u c (by simp_all)) ⟨e,(⟨y,_,I.rh d e ?_ r.dropLast ?_,k,q⟩)⟩;.simp
 .rw[List.length_dropLast];lia
def Jr : V → List V → Hp → VK → Prop := fun x vs H Q => ∃ l xs i k y, x = .ref l ∧ vs = [.int i] ∧ H l = some (.lst xs) ∧ -(2 ^ 63) ≤ i ∧ i < 2 ^ 63 ∧ seqIndex? i xs.length = some k ∧ xs[k]? = some y ∧ Q y (upd H l (.lst (xs.eraseIdx k)))
theorem Q2 : xO X "list.pop" Jr := by
  rintro pins s σ H x vs v us Q I rx rv ⟨l, xs, i, k, y, rfl, rfl, hH, h1, h2, hk, hy, q⟩
  cases rx
  obtain ⟨u, rfl, ru⟩ := rv.one
  obtain ⟨t, rfl⟩ := ru
  obtain ⟨z, its, n, r, hl, e⟩ := I.pZ hH
  obtain ⟨w, hw, DJ⟩ := r.get hy
  refine jA F.slot_list_pop ⟨_, e, rfl⟩ F.entry_list_pop (F.args_list_pop_2 _ _)
    (MeetsSeq.list_pop_at l _ n i t k w (fitsIndex_both h1 h2) (by rwa [bI, ← hl]) (by rwa [← wa]) (by rw [bI]; lia)) ⟨e, ?_⟩
  refine ⟨y, _, I.rh hH e ?_ (r.eraseIdx k) ?_, DJ, q⟩
  · simp
  grind
end
section
variable {κ : Type} [DecidableEq κ]
def di(kvs:List (κ×V))(k:κ):Option V:=(kvs.find? fun a=>decide (a.1=k)).map (·.2)
def putK(kvs:List (κ×V))(k:κ)(v:V):List (κ×V):= if(kvs.any fun a=>decide (a.1=k))=true then kvs.map (fun a=>if a.1=k then(a.1,v) else a) else kvs++[(k,v)]
def Js(kvs:List (κ×V))(k:κ):List (κ×V):=kvs.filter fun a=>decide (a.1≠k)
theorem sW{p:κ×V}(e:p.1=k):di (p::r) k=some p.2:=by simp[di,e]
theorem sX{p:κ×V}(e:¬p.1=k):di (p::r) k=di r k:=by simp[di,e]
theorem Be(k:κ):∀kvs:List (κ×V),(kvs.any fun b=>decide (b.1=k))=(di kvs k).isSome
 |[]=>rfl |p::r=>by
  rw[nG];by_cases e:p.1=k;.simp[sW e,bg e,Bool.true_or]
  .rw[sX e,bf e];exact Be k r
theorem Jt(k j:κ)(y:V):∀kvs:List (κ×V),di (kvs.map fun b=>if b.1=k then(b.1,y) else b) j=(di kvs j).map fun x=>if j=k then y else x
  |[]=>rfl |p::r=>by
    have c:=Jt k j y r;rw[b7];by_cases h:p.1=k
    . rw[ak h];by_cases e:p.1=j;.rw[sW (p:=(p.1,y)) e,sW e,o_,ak (e.symm.trans h)]
      .rw[sX (p:=(p.1,y)) e,sX e,c]
    . rw[ao h];by_cases e:p.1=j;.rw[sW e,sW e,o_,ao (fun z=>h (e.trans z))]
      .rw[sX e,sX e,c]
theorem Ju(k j:κ)(y:V):∀kvs:List (κ×V),di kvs k=none->di (kvs++[(k,y)]) j=if j=k then some y else di kvs j
 |[],_=>by
  by_cases e:k=j;.rw[ak e.symm];exact sW e
  .rw[ao (fun z=>e z.symm)];exact sX e |p::r,b=>by
  rw[sx];have c:¬p.1=k:=fun z=>by rw[sW z] at b;cases b
  rw[sX c] at b;have d:=Ju k j y r b;by_cases e:p.1=j;.rw[sW e,sW e,ao (fun z=>c (e.trans z))]
  .rw[sX e,sX e,d]
theorem Jv(kvs:List (κ×V))(k j:κ)(y:V):di (putK kvs k y) j=if j=k then some y else di kvs j:=by
  unfold putK;by_cases a:(kvs.any fun b=>decide (b.1=k))=true
  . rw[ak a,Jt];rw[Be] at a;by_cases e:j=k;.obtain⟨x,c⟩:=mu.mp a;simp_all
    simp_all
  .rw[ao a];refine Ju k j y _ ?_;rw[Be] at a;simp_all
theorem DK(kvs:List (κ×V))(k:κ)(v:V):(putK kvs k v).length<=kvs.length+1:=by
 unfold putK;split;.simp
 simp
theorem gH.jH(r:gH o u):o.isSome=u.isSome:=by cases o with
 |none=>cases u with |none=>rfl |some _=>exact r.elim
 |some _=>cases u with |none=>exact r.elim |some _=>rfl
theorem gH.getD(r:gH o u)(a:RelV d d'):RelV (o.getD d) (u.getD d'):=by cases o with
 |none=>cases u with |none=>exact a |some _=>exact r.elim
 |some _=>cases u with |none=>exact r.elim |some _=>exact r
theorem KV.val(r:KV kvs vs)(k:κ):gH (di kvs k) (valueAt vs k):=by induction r with |nil=>exact True.intro |@cons p q i a h t l=>
    obtain⟨c,j⟩:=h;by_cases e:p.1=k
    . have b:valueAt (q::a) k=some q.2:=by simp[valueAt,(c.symm.trans e)]
      rwa[sW e,b]
    . have f:¬q.1=k:=fun z=>e (c.trans z);have b:valueAt (q::a) k=valueAt a k:=by simp[valueAt,f]
      rwa[sX e,b]
theorem KV.any(r:KV kvs vs)(k:κ):(kvs.any fun a=>decide (a.1=k))=vs.any fun a=>decide (a.1=k):=by induction r with |nil=>rfl |cons h t c=>rw[nG,nG,c,h.1]
theorem KV.wF(r:KV kvs vs)(k:κ)(f:RelV y u): KV (kvs.map fun a=>if a.1=k then(a.1,y) else a) (vs.map fun a=>if a.1=k then(a.1,u) else a):=by induction r with |nil=>exact .nil |@cons p q g i h t c=>
 refine .cons ?_ c;by_cases e:p.1=k;.simp_all
 simp_all
theorem KV.put(r:KV kvs vs)(k:κ)(a:RelV y u):KV (putK kvs k y) (stored vs k u):=by
 unfold putK stored;rw[r.any k];by_cases e:(vs.any fun b=>decide (b.1=k))=true;.rw[ak e,ak e];exact r.wF k a
 .rw[ao e,ao e];exact Paired.snoc r ⟨rfl,a⟩
theorem KV.drop(r:KV kvs vs)(k:κ):KV (Js kvs k) (without vs k):=by unfold Js without;induction r with |nil=>exact .nil |@cons p q l m h t i=>
    obtain⟨d,g⟩:=h;rw[sE,sE];by_cases e:p.1=k;.simp_all
    . have f:¬q.1=k:=fun z=>e (d.trans z);have a:decide (p.1≠k)=true:=by simp[e]
      have b:decide (q.1≠k)=true:=by simp[f]
      rw[ak a,ak b];exact .cons ⟨d,g⟩ i
theorem KV.length{kvs:List (κ×V)}(r:KV kvs vs):kvs.length=vs.length:=Paired.length r
end
theorem zk(r:RelV (kV k) u):(oE P w).is k u=true:=by cases k with |inl i=>obtain⟨t,e⟩:=r;subst e;exact P4 P w i t |inr x=>obtain⟨t,e⟩:=r;subst e;exact P5 P w x t
theorem Jw:∀{ks:List Key}{us:List Value},Vals (ks.map kV) us->ItemsAre (oE P w) ks us |[],_,r=>by cases r;exact .nil |k::ks,_,r=>by cases r with |cons h t=>exact .cons (zk h) (Jw t)
abbrev KT(H:Hp):List (List Key×V)->List (List Key×Addr×Value)->Prop:=Paired fun p q=>p.1=q.1/\H q.2.1=some (.tup (p.1.map kV))/\RelV p.2 q.2.2
theorem KT.val(r:KT H kvs xs)(k:List Key):gH (di kvs k) ((atKey xs k).map (·.2)):=by induction r with |nil=>exact True.intro |@cons p q i a h t l=>
    obtain⟨c,_,j⟩:=h;by_cases e:p.1=k
    . have b:atKey (q::a) k=some q.2:=by simp[atKey,(c.symm.trans e)]
      rwa[sW e,b]
    . have f:¬q.1=k:=fun z=>e (c.trans z);have b:atKey (q::a) k=atKey a k:=by simp[atKey,f]
      rwa[sX e,b]
theorem KT.wF(r:KT H kvs xs)(k:List Key)(i:RelV y u): KT H (kvs.map fun a=>if a.1=k then(a.1,y) else a) (xs.map (putAt k u)):=by induction r with |nil=>exact .nil |@cons p q g f h t d=>
 refine .cons ?_ d;unfold putAt;by_cases e:p.1=k;.simp_all
 simp_all
theorem KT.put(r:KT H kvs xs)(k:List Key)(d:H b=some (.tup (k.map kV)))(a:RelV y u): KT H (putK kvs k y) (storedH xs k b u):=by
 have e:(kvs.any fun c=>decide (c.1=k))=(atKey xs k).isSome:=by rw[Be,(r.val k).jH,Option.isSome_map]
 unfold putK storedH;rw[e];by_cases q:(atKey xs k).isSome=true;.rw[ak q,ak q];exact r.wF k a
 .rw[ao q,ao q];exact Paired.snoc r ⟨rfl,d,a⟩
theorem KT.keeps(r:KT H kvs xs)(a:∀b ys,H b=some (.tup ys)->H' b=some (.tup ys)):KT H' kvs xs:= Paired.wc r fun _ _ z=>⟨z.1,a _ _ z.2.1,z.2.2⟩
section
variable{P:Program}{w:World}{H:Hp}{h:Heap}{a:Addr}
theorem Jx(b:gI P w H h)(e:Rd H a u):dD P w H h a u:=e.ok b
theorem wG(b:gI P w H h)(e:Rd H a (.dK kvs)):kvs.length<=sizeLine/\(a==sysModules)=false/\∃vs,KV kvs vs/\h.DictOf (oE P w) a vs:= Jx b e
theorem Q3(b:gI P w H h)(e:H a=some (.dK kvs)):kvs.length<=sizeLine/\(a==sysModules)=false/\∃vs,KV kvs vs/\h.DictOf (oE P w) a vs:=wG b (.inl e)
theorem xP(f:gI P w H h)(e:H a=some (.tup (ks.map kV))):(tupleKind (oE P w)).is h ks a:=let⟨_,_,r,o,b,d,n,c⟩:=(f a _ e);⟨o,_,n,b,d,c,by simpa using Jw r⟩
theorem xQ(f:gI P w H h)(e:Rd H a (.dT kvs)):kvs.length<=sizeLine/\(a==sysModules)=false/\ ∃xs,KT H kvs xs/\h.DictOfH (tupleKind (oE P w)) a xs:=by
 obtain⟨z,y,xs,r,o,D,A,k,i,n,s,g⟩:=(Jx f e);refine⟨z,y,_,r,o,_,_,k,i,n,s,fun x b=>?_,g⟩;have c:∀{l:List _}{m:List _},KT H l m->∀x∈m,(tupleKind (oE P w)).is h x.1 x.2.1:=by intro l m q;induction q with |nil=>simp |@cons p q C v B t u=>
  intro x b;rcases aR.mp b with e|b;.exact xP f (by simp_all)
  .exact u x b
 exact c r x b
theorem Jy(b:gI P w H h)(e:H a=some (.dT kvs)):kvs.length<=sizeLine/\(a==sysModules)=false/\ ∃xs,KT H kvs xs/\h.DictOfH (tupleKind (oE P w)) a xs:=xQ b (.inl e)
end
def gp(H:Hp)(a:Addr)(y:V)(r:Option V):Prop:= (∃c k,Rd H a (.dK c)/\y=kV k/\r=di c k)\/∃c k b,Rd H a (.dT c)/\y=.ref b/\H b=some (.tup (k.map kV))/\r=di c k
def mQ(H:Hp)(a:Addr)(y v:V)(H':Hp):Prop:= (∃c k,H a=some (.dK c)/\y=kV k/\c.length<sizeLine/\H'=upd H a (.dK (putK c k v)))\/ ∃c k b,H a=some (.dT c)/\y=.ref b/\H b=some (.tup (k.map kV))/\c.length<sizeLine/\H'=upd H a (.dT (putK c k v))
theorem gp.k{k:Key}(e:H a=some (.dK kvs)):gp H a (kV k) (di kvs k):=.inl ⟨_,k,.inl e,rfl,rfl⟩
theorem gp.t{k:List Key}(e:H a=some (.dT kvs))(c:H b=some (.tup (k.map kV))):gp H a (.ref b) (di kvs k):=.inr ⟨_,k,b,.inl e,rfl,c,rfl⟩
theorem mQ.k{k:Key}(e:H a=some (.dK kvs))(b:kvs.length<sizeLine):mQ H a (kV k) v (upd H a (.dK (putK kvs k v))):=.inl ⟨_,k,e,rfl,b,rfl⟩
theorem mQ.t{k:List Key}(e:H a=some (.dT kvs))(d:H b=some (.tup (k.map kV)))(c:kvs.length<sizeLine): mQ H a (.ref b) v (upd H a (.dT (putK kvs k v))):=.inr ⟨_,k,b,e,rfl,d,c,rfl⟩
section
variable{X:Cx}{pins:List (Addr×Obj)}{σ:St}{H:Hp}{s:Shared}{a:Addr}{y v:V}{u r:Value}{o:Option V}{A:Around}{E:Value->Shared->Prop}
theorem Inv.big(I:Inv X pins σ H s):sysModules<s.heap.objs.size:=fR (by decide) ((I.mod.glob.keeps I.bk).lt)
theorem Q4{Q:Value->Shared->Prop}(x:A.units+1<cLine)(I:Inv X pins σ H s)(g:gp H a y (some v))(q:RelV y u)(h:∀w' s',Inv X pins σ H s'->RelV v w'->Q w' s'): wpAny (model X.prog X.w) A (getItem (.ref a) u) Q E s:=by
 rcases g with⟨n,k,e,i,l⟩|⟨n,k,b,e,i,B,l⟩;.subst i;obtain⟨z,w,C,d,j⟩:=wG I.bF e;obtain⟨w',f,c⟩:=gH.some_of (by rw[l];exact d.val k);exact wpAny_getItem_of (zk q) j.mapOf f (h _ _ (I.tok _) c)
 .subst i;cases(q);obtain⟨z,w,D,d,j⟩:=xQ I.bF e;obtain⟨w',f,c⟩:=gH.some_of (by rw[l];exact d.val k);obtain⟨p,t,m⟩:=mv.mp f;refine wpAny_getItem_heap (mD x) (xP I.bF B) j t ?_;rw[m];exact h _ _ (I.tok _) c
theorem Q5(p:A.units+1<cLine)(I:Inv X pins σ H s)(g:gp H a y o)(m:RelV y u)(h:∀s',Inv X pins σ H s'->Q (.bool (!o.isSome)) s'): wpAny (model X.prog X.w) A (compareOp .NotIn u (.ref a)) Q E s:=by
 rcases g with⟨i,k,e,d,l⟩|⟨i,k,b,e,d,n,l⟩;.subst d;obtain⟨z,f,t,c,j⟩:=wG I.bF e;refine wpAny_notIn_of (zk m) f j.mapOf ?_;rw[<-(c.val k).jH,<-l];exact h _ (I.tok _)
 .subst d;cases(m);obtain⟨z,f,w,c,j⟩:=xQ I.bF e;refine wpAny_notIn_heap (mD p) (xP I.bF n) f j ?_;have q:=(c.val k).jH;rw[Option.isSome_map] at q;rw[<-q,<-l];exact h _ (I.tok _)
theorem DM(I:Inv X pins σ H s)(h:yM (H a))(f:Heap.SameBut a s.heap h')(g:∃q,h'.get? a=some q)(c:dD X.prog X.w (upd H a d) h' a d): Inv X pins σ (upd H a d) {s with heap:=h',toks:=t'}:= I.write h (.inl rfl) (fun b q e z=>(f.2 b e).trans z) g c
theorem Q6(z:kvs.length<=sizeLine)(hd:(a==sysModules)=false)(b:KV kvs vs)(dd:h'.DictOf (oE P w) a vs): dD P w H' h' a (.dK kvs):=⟨z,hd,_,b,dd⟩
theorem Q7{Q:Unit->Shared->Prop}(Y:A.units+1<cLine)(I:Inv X pins σ H s)(g:mQ H a y v H')(B:RelV y u)(G:RelV v r)(h:∀s',Inv X pins σ H' s'->Q () s'): wpAny (model X.prog X.w) A (setItem (.ref a) u r) Q E s:=by
  rcases g with⟨d,k,e,n,l,m⟩|⟨d,k,b,e,n,J,l,m⟩
  . subst n m;obtain⟨z,p,T,f,w⟩:=Q3 I.bF e;have C:T.length<=sizeLine:=by rwa[<-f.length]
    have x:(putK d k v).length<=sizeLine:=by have:=DK d k v;lia
    refine wpAny_setItem_pairs (zk B) w fun D i t=>h _ ?_;have U:∃q,D.get? a=some q:=let⟨q,_,_,j,_⟩:=i;⟨q,j⟩;exact DM I (by rw[e];exact True.intro) t U (Q6 x p (f.put k G) i)
  . subst n m;cases B;obtain⟨z,p,L,f,w⟩:=Jy I.bF e;have C:L.length<=sizeLine:=by rwa[<-Paired.length f]
    have x:(putK d k v).length<=sizeLine:=by have:=DK d k v;lia
    refine wpAny_setItem_heap (hsz:=C) (mD Y) (xP I.bF J) w fun D i t=>h _ ?_;obtain⟨q,es,ep,j,M,S,O,_,R⟩:=i;refine DM I (by rw[e];exact True.intro) t ⟨q,j⟩ ⟨x,p,_,(f.put k J G).keeps fun c Z N=>?_,q,_,_,j,M,S,O,R⟩;rwa[a9 (AV N e (fun z=>nomatch z))]
end
section
variable{X:Cx}{pins:List (Addr×Obj)}{σ:St}{H:Hp}{s:Shared}{a:Addr}{kvs:List (Key×V)}{k:Key}{u:Value}{A:Around}{E:Value->Shared->Prop}
end
def zl(i:Expr):Prop:=∀a b,subscripted i false a b=operate [a,b] (getItem a b)
theorem Q8{T id:String}(n:typeLookup (.type T) "__getitem__"=pure (some (.builtin id)))(l:zl a) (h:wpAny (model prog w) A (eval c env) (fun o e=>wpAny (model prog w) A (eval a env) (fun i b=>b.TypeIs o T/\wpAny (model prog w) A (getItem o i) Q E b) E e) E s): wpAny (model prog w) A (eval (.Subscript c a pos) env) Q E s:=by
 refine Subscript_ (cw h (fun o e j=>cw j (fun i b d=>?_) fun _ _ x=>x) fun _ _ x=>x);obtain⟨m,d⟩:=d;refine ah ?_;refine ah (wpAny_specialOf m n ?_);have k:wpAny (model prog w) A (subscripted a false o i) (fun r f=>wpAny (model prog w) A (letTemporaryGo c o r>>=fun _=>pure r) Q E f) E b:=by rw[l o i];exact wpAny_operating (cw d (fun r f g=>ah (wpAny_letTemporaryGo (au g))) fun _ _ x=>x)
 first |exact au (ah k) |rfl |rfl
theorem Q9(I:Inv X pins i H s)(g:gp H a y o):s.TypeIs (.ref a) "dict":=by
 rcases g with⟨c,k,e,_,_⟩|⟨c,k,b,e,_,_,_⟩;.obtain⟨_,_,f,_,d⟩:=wG I.bF e;exact d.typeIs
 .obtain⟨_,_,h,_,d⟩:=xQ I.bF e;exact d.typeIs
def zm(f e:TE):TE:=fun b H Q=>f b H fun x d=>e b d fun y c=>∃a v,x=.ref a/\gp c a y (some v)/\Q v c
def Bf(f e:TE):TE:=fun b H Q=>f b H fun y d=>e b d fun x c=>∃a o,x=.ref a/\gp c a y o/\Q (.bl (!o.isSome)) c
def Bg(h e d:TE):TS:=fun D b H=>d b H fun v g=>h b g fun x i=>e b i fun y f=>∃a c,x=.ref a/\mQ f a y v c/\D.nx b c
section
variable{X:Cx}{o i e value:Expr}{pos pos' zb:Pos}{td ty tv:TE}
theorem Bh(r:X.A.units+1<cLine)(k:PE X o td)(hi:PE X i ty)(m:zl i):PE X (.Subscript o i pos) (zm td ty):=by intro c s D H Q I h;refine Q8 PySem.F.slot_dict_getitem.lookup m (bW (k _ s _ H _ I h) fun u z ⟨x,_,t,p,l⟩=>bW (hi _ _ _ _ _ t l) fun w C ⟨y,_,d,j,a,v,n,g,f⟩=>?_);subst n;obtain rfl:u=Value.ref a:=p;exact⟨Q9 d g,Q4 r d g j fun B A q b=>⟨v,_,q,b,f⟩⟩
theorem DN(n:X.A.units+1<cLine)(hi:PE X i ty)(p:PE X o td):PC X .NotIn i o (Bf ty td):=by intro b s w H Q I h;refine bW (hi _ s _ H _ I h) fun t v ⟨y,_,m,c,f⟩=>bW (p _ _ _ _ _ m f) fun u r ⟨x,_,j,l,a,_,d,g,q⟩=>?_;subst d;obtain rfl:u=Value.ref a:=l;exact Q5 n j g c fun z k=>⟨.bl _,_,k,rfl,q⟩
theorem Bi(B:X.A.units+1<cLine)(k:PE X o td)(hi:PE X i ty)(j:PE X value tv)(m:swapsWith value (some (.Subscript o i pos')) pos.line X.env=pure false): PS X (.Assign [.Subscript o i pos'] value pos) (Bg td ty tv):=by intro b s E H D I h;refine wpAny_Assign_Subscript (bW (j _ s _ H _ I h) fun r L ⟨v,_,A,t,l⟩=>bW (k _ _ _ _ _ A l) fun u J ⟨x,_,f,n,c⟩=>bW (hi _ _ _ _ _ f c) fun C M ⟨y,_,q,p,a,_,d,g,z⟩=>?_) m;subst d;obtain rfl:u=Value.ref a:=n;exact Q7 B q g p t fun G w=>⟨_,_,w,z⟩
end
theorem Q_(h:Heap)(a:sysModules<h.objs.size):dD P w H (h.push {cls:=.type "dict",data:=.dict #[]}) h.objs.size (.dK []):= ⟨cG _,iD.mpr (aJ (bC a)),_,.nil,Heap.DictOf.new h⟩
theorem Jz(h:Heap)(a:sysModules<h.objs.size):dD P w H (h.push {cls:=.type "dict",data:=.dict #[]}) h.objs.size (.dT []):= ⟨cG _,iD.mpr (aJ (bC a)),_,.nil,_,_,0,cu _ rfl,⟨rfl,rfl,rfl⟩,rfl,rfl,List.nodup_nil⟩
def JA:TE:=fun _ H Q=>∀p,H p=none->Q (.ref p) (upd H p (.dK []))
def JB:TE:=fun _ H Q=>∀p,H p=none->Q (.ref p) (upd H p (.dT []))
section
variable {X : Cx} {pos : Pos}
theorem JC:PE X (.Dict [] [] pos) JA:=fun a s b H Q I h=> wpAny_Dict_empty ⟨.ref _,_,I.laid (fun _ _ q=>bu _ q) (aB _) (Q_ _ I.big),rfl,h _ (I.bF.fresh (aB _))⟩
theorem Ra:PE X (.Dict [] [] pos) JB:=fun a s b H Q I h=> wpAny_Dict_empty ⟨.ref _,_,I.laid (fun _ _ q=>bu _ q) (aB _) (Jz _ I.big),rfl,h _ (I.bF.fresh (aB _))⟩
end
def DO:List (TE×TE)->St->Hp->(List (V×V)->Hp->Prop)->Prop |[],_,H,Q=>Q [] H |(h,g)::r,b,H,Q=>h b H fun x e=>g b e fun y f=>DO r b f fun c d=>Q ((x,y)::c) d
abbrev VV:List (V×V)->List (Value×Value)->Prop:=Paired fun p q=>RelV p.1 q.1/\RelV p.2 q.2
def DP(X:Cx)(pos:Pos)(c:List (Option Expr))(a:List Expr)(d:List (TE×TE)):Prop:= ∀(b:List (Addr×Obj))(s:Shared)(e:St)(H:Hp)(Q:List (V×V)->Hp->Prop),Inv X b e H s->DO d e H Q-> wpAny (model X.prog X.w) X.A (evalPairs (pairTrees c a X.env pos)) (fun i h=>∃f g,Inv X b e g h/\VV f i/\Q f g) X.xe s
theorem Rb:DP X pos [] [] []:=fun a s b H Q I h=>pairTrees_nil_walk ⟨_,H,I,.nil,h⟩
theorem Rc(j:PE X k tk)(e:PE X v i)(m:DP X pos ks vs a): DP X pos (some k::ks) (v::vs) ((tk,i)::a):=fun c s w H Q I h=> pairTrees_cons_walk (bW (j _ s _ H _ I h) fun u t ⟨x,_,g,l,o⟩=>bW (e _ _ _ _ _ g o) fun A r ⟨y,_,n,d,q⟩=> bW (m _ _ _ _ _ n q) fun B z ⟨_,_,f,b,p⟩=>⟨_,_,f,.cons ⟨l,d⟩ b,p⟩)
structure M2(X:Cx)(o:Expr)(m:Str)(apos:Pos)(e f:Expr)(e_:Pos):Prop where
 base:attributeBase o m X.env (eval o X.env)=eval o X.env
 Rf:((backTo e_ (starEach [e,f] X.env)).all (fun x=>!x.1)&&(backToKw e_ (keywordEach [] X.env)).all (fun x=>x.1.isSome) &&decide (([e,f]:List Expr).length+([]:List Keyword).length+(if([]:List Keyword).isEmpty then 0 else 1)<30))=true
 line:(apos.endLine==e_.line)=true
 trees:backTo e_ (starEach [e,f] X.env)=[(false,eval e X.env),(false,eval f X.env)]
def JD(H:Hp)(a:Addr):Prop:=(∃b,Rd H a (.dK b))\/∃b,Rd H a (.dT b)
theorem DQ(I:Inv X pins σ H s)(d:JD H a): s.TypeIs (.ref a) "dict"/\(∀b,Value.ref a=.ref b->∃f,s.heap.get? b=some f/\f.dict=none)/\(a==sysModules)=false:=by
 rcases d with⟨g,e⟩|⟨g,e⟩;.obtain⟨_,j,l,_,c⟩:=wG I.bF e;refine⟨c.typeIs,fun b q=>?_,j⟩;cases q;obtain⟨f,_,_,h,i,_⟩:=c;exact⟨_,h,i.2.1⟩
 .obtain⟨_,j,k,_,c⟩:=xQ I.bF e;refine⟨c.typeIs,fun b q=>?_,j⟩;cases q;obtain⟨f,_,_,h,i,_⟩:=c;exact⟨_,h,i.2.1⟩
section
variable{X:Cx}{pins:List (Addr×Obj)}{σ:St}{H:Hp}{s:Shared}{a:Addr}{y d:V}{u r:Value}{o:Option V}{A:Around}{E:Value->Shared->Prop}
theorem Rg(t:A.units+1<cLine)(I:Inv X pins σ H s)(g:gp H a y o)(q:RelV y u)(p:RelV d r)(h:∀n s',Inv X pins σ H s'->RelV (o.getD d) n->Q n s'): wpAny (model X.prog X.w) A (call (.builtin "dict.get") [.ref a,u,r]) Q E s:=by
 rcases g with⟨i,k,e,m,l⟩|⟨i,k,b,e,m,v,l⟩;.subst m;obtain⟨z,j,w,c,f⟩:=wG I.bF e;refine call_meetsIn pj f.typeIs PySem.F.entry_dict_get (PySem.F.args_dict_get_3 _ _ _) (meets_dict_get_default _ a (zk q) j r) ⟨_,f.mapOf,h _ _ (I.tok _) ?_⟩;rw[l];exact(c.val k).getD p
 .subst m;cases q;obtain⟨z,j,x,c,f⟩:=xQ I.bF e;refine call_meetsIn pj f.typeIs PySem.F.entry_dict_get (PySem.F.args_dict_get_3 _ _ _) (meetsH_dict_get_default _ a b j r) ⟨mD t,k,_,xP I.bF v,f,h _ _ (I.tok _) ?_⟩;rw[l];exact(c.val k).getD p
end
def DR(e h g:TE):TE:=fun b H Q=>e b H fun x d=>∃a,x=.ref a/\JD d a/\h b d fun y f=>g b f fun z c=>∃o,gp c a y o/\Q (o.getD z) c
section
variable{X:Cx}{o e f:Expr}{apos e_:Pos}{td ty tx:TE}
theorem JE(G:X.A.units+1<cLine)(k:PE X o td)(C:PE X e ty)(E:PE X f tx)(m:M2 X o "get" apos e f e_):PE X (.Call (.Attribute o "get" apos) [e,f] [] e_) (DR td ty tx):=by intro c s L H Q I h;refine wpAny_Call_method m.base m.Rf m.line PySem.F.plainAttrs_dict pj PySem.F.type_dict_get (bW (k _ s _ H _ I h) fun u J ⟨x,_,i,q,a,w,d,l⟩=>?_);subst w;obtain rfl:u=Value.ref a:=q;obtain⟨p,n,_⟩:=DQ i d;refine⟨p,n,?_⟩;rw[m.trees];exact qz rfl (sk (so (bW (C _ _ _ _ _ i l) fun O N ⟨y,_,t,v,r⟩=> so (bW (E _ _ _ _ _ t r) fun S T ⟨z,_,B,j,_,g,D⟩=>Calls.spliced_nil (Rg G B g v j fun M R A b=>⟨_,_,A,b,D⟩)))))
end
section
variable{X:Cx}{pins:List (Addr×Obj)}{σ:St}{H:Hp}{s:Shared}{a:Addr}{kvs:List (Key×V)}{A:Around}{E:Value->Shared->Prop}
end
section
variable{X:Cx}{pins:List (Addr×Obj)}{σ:St}{H:Hp}{s:Shared}{a:Addr}{y:V}{u:Value}{A:Around}{E:Value->Shared->Prop}
end
end L2
namespace JF
open PySem PySem.W PySem.Calls PyProof.Rows
theorem Rh:∀(ns:List Int)(vs:List Value),WellAll P h vs (ns.map WData.int)->IntsAre vs ns:=by intro ns;induction ns with |nil=> intro vs w;cases w;exact .nil |cons n ns d=> intro vs w;cases w with |cons a b=> cases a;exact .cons _ _ (d _ b)
theorem Ri{l:OpenLaw}(w:l.most=some n)(c:l.row.toRowW.claim.pre b=true)(i:WellAll P h g b): ∃a vs ns,g=[Value.ref a]/\b=[WData.list (ns.map WData.int)]/\h.get? a=some {cls:=.type "list",data:=.seq vs.toArray}/\IntsAre vs ns/\ns.length<=n:=by
 have t:l.pre.holds [] _=true:=(pre_splitW c).2;obtain⟨d,r,rfl,q,p⟩:=hasAllW_cons ((pre_splitW c).1);obtain rfl:=hasAllW_nil p;obtain⟨y,rfl,s⟩:=hasW_list q;obtain⟨ns,rfl⟩:=items_int s;have f:ns.length<=n:=by
  have j:(WTm.not (.lt (.lit (.int n)) (.len (.arg 0)))).holds [] {args:=[.list (ns.map .int)]}=true:=by have j:=(holds_andW t).1;simp_all
  have x:=condW_of j rfl;simp_all
 cases i with |cons v u=> cases u;cases v with |list o e=>exact⟨_,_,_,rfl,rfl,o,Rh _ _ e,f⟩
theorem Rj(l:OpenLaw)(a:List WData):l.row.toRowW.claim.post a (.bool true) a=true:= postW_of rfl (w_eq_bool rfl w_lit) rfl
theorem nW{l:OpenLaw}{x:World->Heap->Prop}(hn:l.most=some n)(s:d.params.defaults=[]) (call:∀(w:World)(c b:Shared)(mg A:Str->Option Value)(m:Addr)(o:Obj)(D p j:Value)(a:Addr)(vs:List Value)(ns:List Int), Ground q e [] E w c mg A b.heap->x w b.heap-> b.heap.get? m=some o->o.data=.func (docDef d.name d.params d.body d.scope D p j)->b.heap.CodeRec p d.name->mg d.name=some (.ref m)-> b.heap.get? a=some {cls:=.type "list",data:=.seq vs.toArray}->IntsAre vs ns->ns.length<=n->b.gens=#[]-> codeAny (model l.prog w) callerA (.call (.ref m) ⟨[.ref a],[]⟩) (fun r s'=>r=.ok (.ret (.bool true))/\OldK b.heap s'.heap/\s'.os=b.os/\AllBare s'.gens) b): WalkO q e E x l.row.toRowW d [] (fun f vs=>PySem.call f vs):=by intro w c b mg A G Y m o D p j O L T hd u z v N B C as k y V t U;obtain rfl:O=.none:=Dflts.none z s;obtain rfl:L=.none:=Dflts.noKw z;obtain⟨a,vs,ns,rfl,rfl,h,g,i⟩:=Ri hn k t;refine enter_call (kI (call w _ _ _ _ _ o _ _ _ a _ _ G Y T (fd_plain hd) u v h g i N) fun r s' J=>?_);obtain⟨rfl,Q,M,I⟩:=J;exact⟨.inl ⟨_,_,_,rfl,fun _=>rfl,.bool _,Rj l _,fun _=>⟨List.Pairwise.nil,fun _ H=>(nomatch H)⟩⟩,Q,M,I⟩
section
variable{prog:Program}{w:World}{A:Around}{E:Value->Shared->Prop}{s:Shared}{K:Frag}
end
end JF
namespace L2
open PySem PySem.Spec PyProof.Rows
theorem JG:∀{vs:List Value}{ns:List Int},IntsAre vs ns->Vals (ns.map V.int) vs |_,_,.nil=>.nil |_,_,.cons n t h=>.cons ⟨t,rfl⟩ (JG h)
def wH(H:Hp):Prop:=∀b,H b=none\/∃o a,H b=some (.fB o (.lst a))
theorem Rk{P:Program}{K:PySem.W.Frag}{mg M:Str->Option Value}{X a:Addr}{vs:List Value}(KX:K.In c.heap)(Q:tabOf K=none)(C:c.heap.Ns mainGlobals mg)(g:c.heap.Ns builtinsNs M)(N:∀x:Str,x≠"__name__"->M x=bootBuiltins x)(A:c.heap.NoLimit)(hg:c.gens=#[]) (L:c.heap.get? a=some {cls:=.type "list",data:=.seq vs.toArray})(hi:IntsAre vs ns)(hl:ns.length<=sizeLine)(hr:cN k callerA) (F:∀i:Heap,K.In i->i.Ns mainGlobals mg->b_ P w K mg i CX k X fd [x] sp)(p:∀(s:Shared)(u:Value),BindsTo s fd ⟨[u],[]⟩ [(x,u)]) (O:∀H:Hp,wH H->gh K H a (ns.map V.int)->sp [.ref a] H (fun v _=>v=.bl true) fun _ _ _=>False) (T:∀H e s',CX [] H c (fun _ _ _=>False) e s'->False): codeAny (model P w) callerA (.call (.ref X) ⟨[.ref a],[]⟩) (fun r s'=>r=.ok (.ret (.bool true))/\OldK c.heap s'.heap/\s'.os=c.os/\AllBare s'.gens) c:=by
  have rv:=JG hi;have y:=hi.length;have l:∀H:Hp,wH H->gh K H a (ns.map V.int)->gI P w H c.heap->(∀b,H b≠none->b=a)->(H a≠none->K.lookup a=none)-> codeAny (model P w) callerA (.call (.ref X) ⟨[.ref a],[]⟩) (fun r s'=>r=.ok (.ret (.bool true))/\OldK c.heap s'.heap/\s'.os=c.os/\AllBare s'.gens) c:=by
    intro H hO hS G hA hK;have f:∀{b:Addr}{o:Obj},c.heap.get? b=some o->H b=none->(mM c.heap H).get? b=some o:=fun e n=>P9 e n;have S:∀{b:Addr}{o:Obj}{E:Array DictEntry}{B:Nat},c.heap.get? b=some o->o.data=.dict E B->H b=none:=fun{b o E B} e d=>by cases q:H b with |none=>rfl |some u=> have Y:b=a:=hA b (by grind);subst Y;rw[L] at e;cases e;have d':Data.seq vs.toArray _=Data.dict E B:=d;cases d'
    have j:∀{b:Addr}{m:Str->Option Value},c.heap.Ns b m->(mM c.heap H).Ns b m:=fun{b m} ⟨o,E,B,e,d,r⟩=>⟨o,E,B,f e (S e d),d,r⟩;have t:K.In (mM c.heap H):=fun b o e=>f (KX b o e) (by cases q:H b with |none=>rfl |some u=> have Y:b=a:=hA b (by rw[q];simp);subst Y;rw[hK (by rw[q];simp)] at e;cases e);have hM:Mod K mg (mM c.heap H):=⟨t,j C,⟨M,j g,N⟩,let⟨mc,h1,h2⟩:=A;⟨mc,j h1,h2⟩⟩;have e0:pY P w K mg (mM c.heap H) callerA [] c H:=⟨rfl,hM,fun b o e=>P_ e,Nat.le_of_eq (P8 _ _),trivial,fun b g=>absurd (show b∈([]:List Addr) from g) (by simp),G,.of_eq hg,.none Q⟩;refine kI ((F _ t (j C)).run callerA [] c H ⟨[.ref a],[]⟩ [.ref a] [.ref a] _ _ hr e0 (p c (.ref a)) (.cons rfl .nil) (O H hO hS)) fun r s' h=>?_;cases r with |error e=>exact(T H e s' h).elim |ok fl=> cases fl with |next=>exact False.elim h |brk=>exact False.elim h |cont=>exact False.elim h |ret u=> obtain⟨v,H',os,I,un,D,r',q⟩:=h;have q':v=.bl true:=q;subst q';obtain rfl:u=Value.bool true:=r';refine⟨rfl,OldK.of_keep fun b o e=>?_,os,I⟩;cases q:H b with |none=>exact un.keep b o e q (by intro z;exact absurd (show b∈([]:List Addr) from z) (by simp)) (by simp) |some u=>
          rcases hO b with z|⟨ob,xs,z⟩;.grind
          .have z2:=un.iK b ob _ z;obtain⟨e1,_⟩:=G b _ z;obtain⟨e2,_⟩:=D b _ z2;rw[e] at e1;cases e1;exact e2
  cases U:K.lookup a with |some o=> have e:=KX a o U;rw[L] at e;cases e;refine l (fun _=>none) (fun _=>.inl rfl) (.inr ⟨_,vs.toArray,_,U,rfl,rfl,rfl,by rw[bI,y];exact hl,by omega⟩) (fun b u z=>by have J:(none:Option HO)=some u:=z;cases J) (fun b z=>absurd rfl z) fun z=>absurd rfl z |none=>
    refine l (fun b=>if b=a then some (.fB {cls:=.type "list",data:=.seq vs.toArray} (.lst (ns.map V.int))) else none) (fun b=>?_) (.inl (.inr ⟨{cls:=.type "list",data:=.seq vs.toArray},ak rfl⟩)) (fun b u z=>?_) (fun b z=>?_) fun _=>U
    . by_cases g:b=a;.exact .inr ⟨_,_,ak g⟩
      .exact .inl (ao g)
    . by_cases g:b=a;.have J:=(ak g).symm.trans z;cases J;subst g;exact⟨L,by rw[aI];exact hl,vs,_,rv,L⟩
      .have J:=(ao g).symm.trans z;cases J
    . by_cases g:b=a;.exact g
      .exact absurd (ao g) z
theorem uL{l:PySem.W.OpenLaw}{n k:Nat}{q:Program}{K:Params->PySem.W.Frag}{CX:World->jt}{sp:World->Sp}(L:l.most=some n)(A:n<=sizeLine)(t:d.params.defaults=[])(E:cN k callerA) (I:∀(w:World)(h:Heap),O w h->(K w.params).In h)(y:∀w:World,tabOf (K w.params)=none) (F:∀(w:World)(mg:Str->Option Value)(j:Addr)(h:Heap),(K w.params).In h->h.Ns mainGlobals mg->mg d.name=some (.ref j)-> ∃fd:FuncData,(∀(s:Shared)(u:Value),BindsTo s fd ⟨[u],[]⟩ [(x,u)])/\ ∀b:Heap,(K w.params).In b->b.Ns mainGlobals mg->b_ l.prog w (K w.params) mg b (CX w) k j fd [x] (sp w)) (p:∀(w:World)(H:Hp)(a:Addr)(ns:List Int),ns.length<=n->wH H->gh (K w.params) H a (ns.map V.int)->sp w [.ref a] H (fun v _=>v=.bl true) fun _ _ _=>False) (m:∀(w:World)(H:Hp)(s:Shared)(e:Value)(s':Shared),CX w [] H s (fun _ _ _=>False) e s'->False): PySem.W.WalkO q z X O l.row.toRowW d [] (fun f vs=>PySem.call f vs):=by refine JF.nW L t fun w B D mg mb j o pm U M a vs ns G Y ho Z R r i g c J=>?_;have C:=I w _ Y;obtain⟨fd,T,N⟩:=F w _ _ _ C G.T.g r;exact Rk C (y w) G.T.g G.T.b G.T.builtins G.T.nolimit J i g (bV c A) E N T (fun H S Q=>p w H a _ c S Q) fun H e s'=>m w H _ e _
def DS(s:Stmt)(j:Nat):Stmt:=match s with |.ClassDef _ _ _ a _ _ _ _ _ _ _=>a.getD j (.Pass ⟨0,0,0,0⟩) |_=>.Pass ⟨0,0,0,0⟩
def rT(s:Stmt):Arguments:=match s with |.FunctionDef _ a _ _ _ _ _ _ _ _=>a |_=>{posonlyargs:=[],args:=[],vararg:=none,kwonlyargs:=[],kw_defaults:=[],kwarg:=none,defaults:=[]}
def nX(s:Stmt):List Stmt:=match s with |.FunctionDef _ _ b _ _ _ _ _ _ _=>b |_=>[]
noncomputable def dJ(s:Stmt):Scope:=match s with |.FunctionDef _ _ _ _ _ _ a _ _ _=>a |_=>{kind:=.function,names:=[],isGenerator:=false,isCoroutine:=false}
abbrev iR:jt:=fun _ _ _ _ _ _=>False
abbrev E0:XK:=fun _ _ _=>False
theorem dN:rS iR X E0:=fun _ _ _ _ _ _ _ h=>h.elim
structure ju(K:PySem.W.Frag)(x qual:Str)(st:Stmt)(f:Addr)(fd:FuncData):Prop where
 ex:∃(oc:Value) (od:Option Addr) (kV doc pm:Value) (an:Option Addr) (p4 ct:Value) (zd:Array (Option Value)), fd=PySem.W.fnOf x qual (rT st) (nX st) (dJ st) .none kV doc pm an p4 ct/\K.lookup f=some ⟨oc,od,.func fd,zd⟩/\PySem.W.codeIn K p4 qual=true
 kp:PySem.W.keepIn K (.ref f)=true
section
variable{P:Program}{w:World}{K:PySem.W.Frag}{mg:Str->Option Value}{base:Heap}
theorem ju.ok{st:Stmt}(F:ju K x b st f fd)(S:cb N ps (dJ st))(g:∀vs H Q E,sp vs H Q E->vs.length=ps.length) (c:∀(d:Value)(A:Around)(a:List Env)(s:Shared)(H:Hp)(vs:List V)(Q:VK)(E:XK),cN k (A.deeper (envOfC b (dJ st) s.heap.objs.size f d))->sp vs H Q E-> ∃t,km (mP iR P w K mg base N b (dJ st) f d A a s H E).wk (nX st) t/\t {nx:=fun _ H'=>Q .non H',rt:=Q} (start N vs) H):b_ P w K mg base iR (k+1) f fd ps sp:=by obtain⟨v,p,kV,l,o,u,d,r,m,rfl,j,i⟩:=F.ex;refine DC j i S g fun A a s H vs Q E n e=>?_;obtain⟨t,h,q⟩:=c _ A _ s H _ Q E n e;exact⟨t,h.wk,q⟩
theorem ju.binds{st:Stmt}(F:ju K x b st f fd) (h:∀(kV a d:Value)(an:Option Addr)(c e:Value)(us:List Value),us.length=ps.length->bindArgs (PySem.W.fnOf x b (rT st) (nX st) (dJ st) .none kV a d an c e) ⟨us,[]⟩=pure (ps.zip us)):Binds K fd ps []:=by obtain⟨l,k,kV,a,d,an,c,e,g,rfl,j,i⟩:=F.ex;exact .all (h _ _ _ _ _ _)
theorem JH{st:Stmt}{kV d e b g:Value}(l:K.lookup f=some ⟨i,od,.func (PySem.W.fnOf x a (rT st) (nX st) (dJ st) .none kV d e an b g),h⟩) (c:PySem.W.codeIn K b a=true)(k:PySem.W.keepIn K (.ref f)=true):ju K x a st f (PySem.W.fnOf x a (rT st) (nX st) (dJ st) .none kV d e an b g):=⟨⟨_,_,_,_,_,_,_,_,_,rfl,l,c⟩,k⟩
end
theorem sY(a:cN k A):A.units+1<cLine:=iB (Nat.add_le_add_left (by decide) _) a.units
section
variable {X : Cx}
theorem pv(i:Nat)(b:X.N[i]?=some x:=by rfl)(c:AW X.env.scope x:=by first|exact Or.inl rfl|exact Or.inr (Or.inl rfl)|exact Or.inr (Or.inr rfl))(hd:(x==("__debug__":Str))=false:=by decide) (a:(x==("__classdict__":Str))=false:=by decide):PE X (.Name x pos) (bh i):=Qg b c hd a
end
def aD(H H':Hp):Prop:=∀b o,H b=some o->H' b=some o
theorem aD.refl(H:Hp):aD H H:=fun _ _ h=>h
theorem aD.trans(a:aD H d)(b:aD d e):aD H e:=fun c o h=>b c o (a c o h)
theorem aD.free(e:aD H H')(h:H' l=Option.none):H l=Option.none:=by cases q:H l with |none=>rfl |some o=> rw[e l o q] at h;cases h
theorem aD.seq{K:PySem.W.Frag}(e:aD H H')(h:gh K H a xs):gh K H' a xs:=by
 rcases h with(h|⟨o,h⟩)|h;.exact .inl (.inl (e _ _ h))
 .exact .inl (.inr ⟨o,e _ _ h⟩)
 .exact .inr h
def fc(i:Int):Prop:=i.natAbs<2^8000
theorem log2_lt{n k:Nat}(b:0<k)(h:n<2^k):n.log2<k:=by
 by_cases a:n=0;.simp_all
 .exact(Nat.log2_lt a).mpr h
theorem fc.log(h:fc i):i.natAbs.log2<8000:=log2_lt (by decide) h
theorem fc.bits(h:fc i):Builtin.Int.intBits i<=2^20:=by have a:=h.log;unfold Builtin.Int.intBits;grind
section
variable {X : Cx}
theorem sZ:gT X (binaryOp .Mult) (rI (fun i j=>fc i/\fc j) fun i j=>.int (i*j)):=A5 fun _ _ _ _ _ _ _ a q=>mul_int q (.of_bits a.1.bits a.2.bits)
theorem la:gT X (binaryOp .FloorDiv) (rI (fun _ j=>j≠0/\fc j) fun i j=>.int (i.fdiv j)):=A5 fun _ _ _ _ _ _ _ a q=> floordiv_int a.1 q (.inl (PyProof.noPylong_of_log2 (fR a.2.log (by decide))))
end
def uM:V->Option Value |.ty n=>some (.type n) |.ref a=>some (.ref a) |_=>none
section
variable {X : Cx}
theorem JI(h:uM c=some cv)(r:RelV c u):u=cv:=by cases c with |ty n=>cases h;exact r |ref a=>cases h;exact r |_=>cases h
def JJ(K:PySem.W.Frag):List V->Hp->VK->Prop:=fun d H Q=>∃x c a t b,d=[x,c]/\uM c=some a/\jc K H x t/\PySem.W.kitOne K t a=some b/\Q (.bl b) H
theorem Rl:cj X (.builtin "isinstance") (JJ X.K):=by rintro a s j H i k Q I r ⟨x,c,l,t,b,rfl,g,h,f,q⟩;obtain⟨u,v,rfl,e,d⟩:=y_ r;cases JI g d;exact QD I e h f fun m=>⟨.bl b,H,I.tok _,rfl,q⟩
end
def DT(K:PySem.W.Frag)(a:Addr):It:= ⟨fun i H=>∃b x,gh K H a b/\b[i]?=some x,fun i H x c=>∃p y,x=.ref p/\H p=none/\c=upd H p (.tup [.int i,y])/\∀b,gh K H a b->b[i]?=some y,fun i H=>∃b,gh K H a b/\b.length<=i⟩
theorem Rm{K:PySem.W.Frag}(a e g:Addr)(M:e≠g): Turn P w K (.Tuple es k pos) (DT K a) [e,g] e (fun i h=>(∃l,IsEnum h e g i l)/\h.IsListIter g a i) where
  mem:=by simp
  obj:=fun i h st b f=>by
    obtain⟨⟨l,h1⟩,o,h2,c,d⟩:=st;rcases aR.mp f with rfl|f;.exact⟨_,h1,fun v z=>by cases(show Data.fields _=Data.cell v from z)⟩
    . have e':b=g:=by simp_all
      subst e';exact⟨o,h2,fun v z=>by rw[d] at z;cases z⟩
  keep:=fun i h h' st k=>let⟨⟨l,h1⟩,h2⟩:=st;⟨⟨l,k e (by simp) _ h1⟩,h2.at fun o q=>k g (by simp) o q⟩;item:=by
    intro X hP U hK hc i B s σ H E I S st hg;subst hP U hK;obtain⟨xs,x,R,hx⟩:=hg;obtain⟨Y,rv,p,hz⟩:=I.list R;obtain⟨u,hu,ru⟩:=rv.get hx;obtain⟨⟨l,D⟩,y⟩:=st;obtain⟨f0,f1,f2,f3,f4,f5⟩:=S e (by simp);obtain⟨g0,T,g2,g3,g4,g5⟩:=S g (by simp);have J:H s.heap.objs.size=none:=I.bF.fresh (aB _);have eT:e≠s.heap.objs.size:=bC (aQ D);have iT:g≠s.heap.objs.size:=let⟨_,z,_⟩:=y;bC (aQ z);refine wpAny_pyNext_enum_item D y p.isList (x:=u) (by simpa using hu) M fun h' ho L ht hsz hk=>⟨_,rfl,(wpAny_letOwnedTupleGo_enum ho fun t N O=>?_)⟩;have C:Heap.SameBut e h' t:=O;have Rn:t.get? s.heap.objs.size=some {cls:=.type "tuple",data:=.seq #[.int i s.toks,u]}:=(C.2 _ eT.symm).trans ht;have j:∀b o,b≠e->b≠g->s.heap.get? b=some o->t.get? b=some o:=fun b o z1 z2 q=>(C.2 b z1).trans (hk b o z1 z2 q);have Q:∀b o,H b=some o->b≠e/\b≠g:=fun b o q=>⟨(fun z=>by rw[z,f0] at q;cases q),(fun z=>by rw[z,g0] at q;cases q)⟩;refine⟨.ref s.heap.objs.size,upd H s.heap.objs.size (.tup [.int i,x]),?_,rfl,⟨_,x,rfl,J,rfl,fun Z hy=>by rwa[I.nQ hy R]⟩,⟨⟨_,by simpa using N⟩,L.at fun o q=>(C.2 g M.symm).trans q⟩,fun b f=>?_⟩
    . show Inv X B σ (upd H s.heap.objs.size (.tup [.int i,x])) {s with heap:=t,toks:=s.toks+1};refine I.step (h':=t) (g':=s.gens) (d':=s.drawn) (t':=s.toks+1) (ch:=[e,g]) (fun b f=>?_) (fun b o _ _ f q _=>?_) (fun b o _ _ f q _=>⟨o.slots,?_⟩) (fun b o f q n=>?_) (fun b o f q=>⟨o,?_⟩) (fun b Z q=>?_) (fun b o Z q=>?_) (fun b ps q=>⟨#[],?_⟩) (fun m hm=>?_) ?_ I.bare
      . rcases aR.mp f with rfl|f;.exact⟨f3,f1,f4,f5⟩
        . have z:b=g:=by simpa using f
          subst z;exact⟨g3,T,g4,g5⟩
      .exact j b o (fun z=>f (by simp[z])) (fun z=>f (by simp[z])) q
      .exact j b o (fun z=>f (by simp[z])) (fun z=>f (by simp[z])) q
      .rwa[a9 (bC (aQ q))]
      .exact j b o (fun z=>f (by simp[z])) (fun z=>f (by simp[z])) q
      .rwa[a9 (eF q J)]
      .rwa[a9 (eF q J)]
      .rw[a9 (eF q J),q];simp
      .obtain⟨o,Ro,ep,xR,r⟩:=hm;exact⟨o,Ro,ep,j _ o (aJ f1) (aJ T) xR,r⟩
      . intro b o q;by_cases f:b=s.heap.objs.size;.subst f;rw[b9] at q;cases q;exact⟨by show 2<=sizeLine;decide,[.int i s.toks,u],.cons ⟨_,rfl⟩ (.cons ru .nil),⟨_,Rn,rfl,_,rfl⟩⟩
        . rw[a9 f] at q;refine(I.bF b o q).i_ (fun c v A G=>?_) (fun c G=>by rwa[a9 (eF G J)]) fun c Z G=>by rwa[a9 (eF G J)]
          rcases A with rfl|A;.exact j _ v (Q _ _ q).1 (Q _ _ q).2 G
          .exact j _ v (Q _ _ A).1 (Q _ _ A).2 G
    . rcases aR.mp f with rfl|f;.rwa[a9 eT]
      . have z:=by simpa using f
        subst z;rwa[a9 iT]
  done:=by intro X hP U hK hc i B s σ H E I S st hg;subst hP U hK;obtain⟨xs,R,hx⟩:=hg;obtain⟨Y,rv,p,hz⟩:=I.list R;obtain⟨⟨l,D⟩,y⟩:=st;obtain⟨g0,T,g2,g3,g4,g5⟩:=S g (by simp);have hl:=rv.length;exact wpAny_pyNext_enum_end (I.ok.hd hc) D y p.isList (by simp;omega) fun h' eb=>⟨rfl,I.turned (fun b o f q=>eb b o f q) g0 T g3 g4 g5⟩
  self:=fun _ _ _ _ _ st h=>let⟨⟨_,D⟩,_⟩:=st;wpAny_pyIter_enum D h
section
variable {X : Cx}
def DU(K:PySem.W.Frag)(d:TA):TI:=fun e H R=>d e H fun c b=>∃a,c=[.ref a]/\(∃f,gh K b a f)/\R (DT K a) b
theorem JK(J:Gl X "enumerate")(z:X.mg "enumerate"=none)(w:PA X [l] y)(E:starEach [l] X.env=[(false,eval l X.env)]:=by rfl): PI X (.Tuple es k M) (.Call (.Name "enumerate" p) [l] [] pos) (DU X.K y):=by
 intro j s O H R I h;refine Call_ (vy I J z boot_enumerate (jx (bW (w _ _ s _ H _ I h) fun L d ⟨_,_,f,A,o⟩=>?_) E rfl));obtain⟨a,e,⟨N,t⟩,q⟩:=o;subst e;obtain⟨u,rfl,x⟩:=lW A;cases x;obtain⟨r,Q,C,S⟩:=f.list t;refine call_enumerate_list C.isList fun B m i D G=>?_;have v:Inv X _ _ _ {d with heap:=B}:=f.kept G;have g:d.heap.objs.size+1≠d.heap.objs.size:=by lia
 refine wpAny_pyIter_enum m ⟨_,_,_,_,_,rfl,v,Rm a _ _ g,⟨⟨_,m⟩,i⟩,fun b n=>?_,q⟩;have c:d.heap.objs.size<=b:=by
  rcases aR.mp n with rfl|n;.lia
  simp_all
 exact f.lE c (f.bF.fresh c)
end
theorem DV:∀(b:List (Str×NameKind))(f:List (Str×Addr)),(∀y∈b,y.2=.free->∃c,env.cells.lookup y.1=some c)-> ∃cl,(forIn (m:=Sem) b f fun(x:Str×NameKind) (cs:List (Str×Addr))=>if(x.2==NameKind.free)=true then do let c<-cellOf env x.1;pure (ForInStep.yield ((x.1,c)::cs)) else pure (ForInStep.yield cs))=pure cl/\ (∀p∈cl,p∈f\/env.cells.lookup p.1=some p.2)/\(∀p∈f,p∈cl)/\∀y∈b,y.2=.free->∃c,(y.1,c)∈cl
  |[],f,_=>⟨_,rfl,fun p g=>.inl g,fun p g=>g,fun y d=>by cases d⟩ |(n,k)::r,f,h=>by
    by_cases s:k=.free
    . subst s;obtain⟨c,t⟩:=h _ lS rfl;obtain⟨cl,e,l,j,q⟩:=DV r ((n,c)::f) fun y d=>h y (bz _ d);refine⟨_,?_,fun p g=>?_,fun p g=>j p (bz _ g),fun y d i=>?_⟩
      . have o:cellOf env n=pure c:=by unfold cellOf;rw[t]
        rw[sJ];simp only[o];exact e
      . rcases l p g with z|z
        . rcases aR.mp z with rfl|z;.simp_all
          grind
        .exact .inr z
      . rcases aR.mp d with rfl|d;.exact⟨c,j _ lS⟩
        .exact q y d i
    . obtain⟨cl,e,l,j,q⟩:=DV r _ fun y d=>h y (bz _ d);refine⟨_,?_,l,j,fun y d i=>?_⟩
      . have u:(k==NameKind.free)=false:=by simpa using s
        rw[sJ];simp only[u,gE];exact e
      . rcases aR.mp d with rfl|d;.exact absurd i s
        .exact q y d i
theorem JL{f:Str->Option Addr}:∀{cl:List (Str×Addr)}{x:Str}{c:Addr},(∀p∈cl,f p.1=some p.2)->(x,c)∈cl->cl.lookup x=some c |[],_,_,_,h=>by cases h |(n,d)::r,x,c,h,b=>by rw[fI];cases e:x==n with |true=> have i:=h _ b;simp_all |false=>
 rcases aR.mp b with z|z;.cases z;simp at e
 .exact JL (fun p g=>h p (bz _ g)) z
theorem JM(h:∀y∈scope.names,y.2=.free->∃c,env.cells.lookup y.1=some c): ∃cl,closureFor scope env=pure cl/\(∀x c,cl.lookup x=some c->env.cells.lookup x=some c)/\∀y∈scope.names,y.2=.free->cl.lookup y.1=env.cells.lookup y.1:=by
 obtain⟨cl,e,k,_,i⟩:=DV _ [] h;have a:=fun p d=>(k p d).elim (fun z=>by cases z) id;refine⟨_,?_,fun x c z=>a _ (fS z),fun y g j=>?_⟩;.simp only[closureFor];grind
 .obtain⟨c,b⟩:=i y g j;rw[a _ b];exact JL (f:=fun x=>env.cells.lookup x) a b
section
variable{prog:Program}{w:World}{A:Around}{R:Result->Shared->Prop}{s:Shared}
theorem Rp(I:Nat->Shared->Prop) (y:∀n s,I n s->wpAny (model prog w) A (pyNext E) (fun r d=>match r with |none=>R (.ok .next) d |some v=>wpAny (model prog w) A (letOwnedTupleGo a E v) (fun _ b=>wpAny (model prog w) A (assign a env v) (fun _ g=> wpAny (model prog w) A (forIn C true fun c r=>if r=true then do let u<-isTrue c env (eval c env);pure (ForInStep.yield u) else pure (ForInStep.yield r)) (fun u f=> if u=true then wpAny (model prog w) A (eval z env) (fun x i=> wpAny (model prog w) A (call (.builtin "list.append") [B,x]) (fun _ j=>∃m,m<n/\I m j) (fun _ _=>False) i) (fun _ _=>False) f else∃m,m<n/\I m f) (fun _ _=>False) g) (fun _ _=>False) b) (fun _ _=>False) d) (fun _ _=>False) s) (n:Nat)(h:I n s): codeAny (model prog w) A (.compLoop (.ListComp z [⟨a,D,C,0⟩] scope pos) 0 E B env) R s:=by refine codeAny_loop rfl I (fun n s G=>(wpAny_noted ?_)) n h;rw[compTurn_list];refine ah (wpAny_standAt (ah (cw (y n s G) (fun r d l=>?_) fun _ _ e=>e.elim)));cases r with |none=>exact au l |some v=> refine ah (cw l (fun _ b o=>(ah (cw o (fun _ g p=>ah (cw p (fun u f k=>?_) fun _ _ e=>e.elim)) fun _ _ e=>e.elim))) fun _ _ e=>e.elim);cases u with |false=>exact au ⟨rfl,k⟩ |true=> exact ah (ah (cw k (fun x i q=>ah (cw q (fun _ j t=>au (au ⟨rfl,t⟩)) fun _ _ e=>e.elim)) fun _ _ e=>e.elim))
end
noncomputable def Cx.comp(X:Cx)(scope:Scope)(cl:List (Str×Addr))(C:Addr)(a:List Str)(s:Shared)(H:Hp)(fp:List Addr)(pins:List (Addr×Obj)):Cx:= {X with N:=a,fJ:=s,qV:=H,env:=compEnvC scope cl C X.env,outer:=X.stack,stack:=X.stack,ex:=fp,fn:=fun x=>scope.names.lookup x==some .cell,pn:=X.pn++pins,xe:=fun _ _=>False}
def qK(σ:St)(a:List Nat)(n:Nat):St:=a.map (fun i=>(σ[i]?).getD none)++List.replicate n none
def DW:Option TT->TT |none=>fun _ H Q=>Q true H |some t=>t
def JN(D:Addr)(J:It)(g:TG)(r:Option TT)(q:TE)(Q:VK)(k:St)(p:Hp):Prop:= ∃W:Nat->Nat->List V->St->Hp->Prop,(∃m,W 0 m [] k p)/\∀i m c e d,W i m c e d->d D=some (.lst c)/\ ((J.stop i d/\Q (.ref D) d)\/(J.go i d/\∃N:List V->St->Hp->Prop,(∀h f j,N h f j->∃o,o<m/\W (i+1) o h f j)/\ ∀x j,J.yW i d x j->g x e j fun a s=>DW r a s fun b n=>if b=true then q a n fun y l=>l D=some (.lst c)/\c.length<sizeLine/\N (c++[y]) a (upd l D (.lst (c++[y]))) else N c a n))
def vG(c:TI)(d:List Nat)(n:Nat)(g:TG)(e:Option TT)(f:TE):TE:=fun a H Q=>c a H fun J b=>∀D,b D=none->JN D J g e f Q (qK a d n) (upd b D (.lst []))
structure gN(X:Cx)(scope:Scope)(N':List Str)(ix:List Nat)(n:Nat)(tg elt:Expr)(ifs:List Expr)(g:TG)(tc:Option TT)(te:TE):Prop where
 kind:scope.kind=.function
 wI:∀y∈scope.names,y.2=.free->(y.1,NameKind.cell)∉scope.names
 names:∀y∈scope.names,y.2=.local->scope.names.lookup y.1=some .local
 free:∀y∈scope.names,y.2=.free->X.env.kindOf y.1=some .cell\/X.env.kindOf y.1=some .free
 len:ix.length+n=N'.length
 take:∀(j i:Nat),ix[j]?=some i->∃x,N'[j]?=some x/\X.N[i]?=some x/\scope.names.lookup x=some .free
 tgt:∀(cl:List (Str×Addr))(C:Addr)(s:Shared)(H:Hp)(fp:List Addr)(pins:List (Addr×Obj)),PG (X.comp scope cl C N' s H fp pins) tg g
 elt:∀(cl:List (Str×Addr))(C:Addr)(s:Shared)(H:Hp)(fp:List Addr)(pins:List (Addr×Obj)),PE (X.comp scope cl C N' s H fp pins) elt te
 test:(ifs=[]/\tc=none)\/∃c t,ifs=[c]/\tc=some t/\∀(cl:List (Str×Addr))(C:Addr)(s:Shared)(H:Hp)(fp:List Addr)(pins:List (Addr×Obj)),PT (X.comp scope cl C N' s H fp pins) c t
theorem JO{env:Env}:∀{b:List (Str×NameKind)}{x:Str},b.lookup x=some .free-> (b.map fun(n,k)=>if(k==NameKind.free&&env.scope.kind==.function&&env.kindOf n==some .cell) then(n,NameKind.cell) else(n,k)).lookup x=some .cell\/ (b.map fun(n,k)=>if(k==NameKind.free&&env.scope.kind==.function&&env.kindOf n==some .cell) then(n,NameKind.cell) else(n,k)).lookup x=some .free |[],_,h=>by simp at h |(n,k)::r,x,h=>by have e:=@JO env r x;show List.lookup x ((if(k==NameKind.free&&env.scope.kind==.function&&env.kindOf n==some .cell)=true then(n,NameKind.cell) else(n,k))::_)=_\/List.lookup x ((if(k==NameKind.free&&env.scope.kind==.function&&env.kindOf n==some _)=true then(n,NameKind.cell) else(n,k))::_)=_;cases c:x==n with
 |true=>
  simp[fI,c] at h;cases h;by_cases d:(NameKind.free==NameKind.free&&env.scope.kind==.function&&env.kindOf n==some .cell)=true;.grind
  .grind |false=>
  simp[fI,c] at h;by_cases d:(k==NameKind.free&&env.scope.kind==.function&&env.kindOf n==some .cell)=true;.rw[ak d];simp only[fI,c];exact e h
  .rw[ao d];simp only[fI,c];exact e h
theorem JP{env:Env}:∀{a:List (Str×NameKind)}{x:Str}, ((a.map fun(n,k)=>if(k==NameKind.free&&env.scope.kind==.function&&env.kindOf n==some .cell) then(n,NameKind.cell) else(n,k)).lookup x=some .cell\/ (a.map fun(n,k)=>if(k==NameKind.free&&env.scope.kind==.function&&env.kindOf n==some .cell) then(n,NameKind.cell) else(n,k)).lookup x=some .free)->(x,NameKind.free)∈a\/(a.lookup x=some .cell/\(x,NameKind.cell)∈a) |[],_,h=>by simp at h |(n,k)::r,x,h=>by cases f:x==n with
    |true=>
      have e:=by simpa using f
      subst e;by_cases d:(k==NameKind.free&&env.scope.kind==.function&&env.kindOf x==some .cell)=true
      . have i:=by
          have:(k==NameKind.free)=true:=by simp_all
          simpa using this
        subst i;exact .inl lS
      . rw[b7] at h;have c:(match(x,k) with|(n,k)=>if(k==NameKind.free&&env.scope.kind==.function&&env.kindOf n==some _)=true then(n,NameKind.cell) else(n,k))=(x,k):=ao d;rw[c] at h;simp[fI,pE] at h;rcases h with h|h;.cases h;(simp)
        .cases h;simp |false=>
      refine((@JP env r x) ?_).imp (bz _) fun z=>⟨by simp[fI,f];exact z.1,bz _ z.2⟩;rw[b7] at h;by_cases d:(k==NameKind.free&&env.scope.kind==.function&&env.kindOf n==some .cell)=true;.have c:(match(n,k) with|(n,k)=>if(k==NameKind.free&&env.scope.kind==.function&&env.kindOf n==some _)=true then(n,NameKind.cell) else(n,k))=(n,NameKind.cell):=ak d;rw[c] at h;simpa[fI,f] using h
      .have c:(match(n,k) with|(n,k)=>if(k==NameKind.free&&env.scope.kind==.function&&env.kindOf n==some _)=true then(n,NameKind.cell) else(n,k))=(n,k):=ao d;rw[c] at h;simpa[fI,f] using h
theorem DX:∀(d:List (Str×NameKind))(n:Nat)(b:List (Str×Addr)),(x,NameKind.cell)∈d->(cellsFrom n d b).lookup x=some c->(∀y,b.lookup x=some y->n<=y\/True)->n<=c
  |[],_,_,h,_,_=>by cases h |(y,k)::r,n,b,h,e,_=>by
    unfold cellsFrom at e;by_cases f:(x,NameKind.cell)∈r
    . split at e;.exact Nat.le_of_succ_le (DX r _ _ f e fun _ _=>.inr trivial)
      .exact DX r n _ f e fun _ _=>.inr trivial
    . rcases aR.mp h with z|z
      . have o:∀(r:List _)(g:Nat)(b:List _),(x,NameKind.cell)∉r->(cellsFrom g r b).lookup x=b.lookup x:=by intro r;induction r with |nil=>intro _ _ _;rfl |cons p r m=>
            intro g b q;obtain⟨j,s⟩:=p;unfold cellsFrom;split;.rw[m _ _ fun z=>q (bz _ z),fI,show(x==j)=false by simp_all]
            simp_all
        simp_all
      .exact absurd z f
theorem Bj:∀(b:List (Str×NameKind))(n:Nat)(c:List (Str×Addr)),(x,NameKind.cell)∉b->(cellsFrom n b c).lookup x=c.lookup x
 |[],_,_,_=>rfl |(y,k)::r,n,c,h=>by
  unfold cellsFrom;split;.rw[Bj r _ _ fun z=>h (bz _ z),fI,show(x==y)=false by simp_all]
  .exact Bj r _ _ fun z=>h (bz _ z)
theorem DY:∀(g:List (Str×NameKind))(n:Nat)(e:List (Str×Addr)),(∀x c,e.lookup x=some c->c<n)->(∀x y c,e.lookup x=some c->e.lookup y=some c->x=y)-> ∀x y c,(cellsFrom n g e).lookup x=some c->(cellsFrom n g e).lookup y=some c->x=y
  |[],_,_,_,h=>h |(z,k)::r,n,e,i,l=>by
    unfold cellsFrom;split
    . have j:∀x c,((z,n)::e).lookup x=some c->(x=z/\c=n)\/e.lookup x=some c:=fun x c h=>by rw[fI] at h;cases u:x==z with |true=>simp_all |false=>simp_all
      refine DY r _ _ (fun x c h=>?_) fun x y c q p=>?_
      . rcases j x c h with⟨_,z⟩|z;.rw[z];simp
        .exact oY (i x c z)
      . rcases j x c q with⟨t,o⟩|a<;>rcases j y c p with⟨s,m⟩|b;.grind
        .have:=i y c b;rw[o] at this;exact absurd this (cY _)
        .have:=i x c a;rw[m] at this;exact absurd this (cY _)
        .exact l x y c a b
    .exact DY r n _ i l
theorem Rq(f:Q (newEnv scope s.heap.objs.size a (cellsFrom (s.heap.objs.size+1) scope.names cl) b none .none (some env) builtinsNs) {s with heap:=pushCells (s.heap.push {cls:=.type "dict",data:=.dict #[]}) scope.names}): wpAny M A (newFunctionEnv scope a cl [] b none .none (some env)) Q E s:=by refine ah (wpAny_alloc (ah (wpAny_layCells _ (fun e d c=>rfl) _ _ _ _ ?_)));rw[lN _];exact ah (au (au f))
section
variable{X:Cx}{scope:Scope}{N':List Str}{ix:List Nat}{n:Nat}{tg elt iter:Expr}{ifs:List Expr}{g:TG}{tc:Option TT}{te:TE}{pos:Pos}
theorem Rr(B:gN X scope N' ix n tg elt ifs g tc te)(I:Inv X pins σ H s) (N:∀b∈fp,jF X pins H b)(T:∀b∈fp,∃o,s.heap.get? b=some o)(t:∀x c,cl.lookup x=some c->X.env.cells.lookup x=some c\/(s.heap.objs.size+1<c/\∃v,h1.IsCell c v))(J:∀y∈scope.names,y.2=.free->cl.lookup y.1=X.env.cells.lookup y.1) (L:∀x y c,cl.lookup x=some c->cl.lookup y=some c->x=y)(M:∀x,scope.names.lookup x=some .cell->∃c,cl.lookup x=some c)(G:∀x c,scope.names.lookup x=some .cell->cl.lookup x=some c->s.heap.objs.size+1<c) (D:∀b o,s.heap.get? b=some o->h1.get? b=some o)(hD:h1.get? s.heap.objs.size=some {cls:=.type "list",data:=.seq #[] 0})(hC:h1.Ns (s.heap.objs.size+1) m): Inv (X.comp scope cl (s.heap.objs.size+1) N' s H fp pins) [] (qK σ ix n) (upd H s.heap.objs.size (.lst [])) {s with heap:=h1,toks:=tk}:=by
  have hn:H s.heap.objs.size=none:=I.bF.fresh (aB _);have lt:∀{b:Addr}{o:Obj},s.heap.get? b=some o->b≠s.heap.objs.size/\b≠s.heap.objs.size+1:=fun e=>⟨bC (aQ e),bC (oY (aQ e))⟩;have d:∀x c,X.env.cells.lookup x=some c->c<s.heap.objs.size:=fun x c e=>let⟨v,o,k,_⟩:=I.cell x c e;aQ k;have E:∀b∈fp,b≠s.heap.objs.size+1:=fun b f=>by grind
  . have A:Un (lC X.stack) fp H (upd H s.heap.objs.size (.lst [])) s.heap h1:=Un.laid D (aB _) hn;refine⟨⟨I.ok.mod,?_,I.ok.glob,I.ok.blt,fo _,L,fun x hx=>?_,fun x c z e=>kG (fR (fq _) (G x c (by simpa using(show(scope.names.lookup x==some NameKind.cell)=true from z)) e)),I.ok.hd,I.ok.frames,.inl rfl,fun b f=>⟨E b f,fun x c e=>(t x c e).elim (fun z=>(N b f).2.2.2.2.1 x c z) fun z w=>by obtain⟨o,k⟩:=T b f;have:=aQ k;rw[<-w] at this;exact cY _ (fR (fR (fq _) z.1) this)⟩, I.bs,bV I.ok.rP I.sz,fun b o e f=>?_,fun b f z=>?_,I.stack,I.jb,I.ok.tb.grown I.base.g9⟩, rfl,I.bare,A,⟨m,hC,fun i x v e1 r e3=>?_⟩,fun x c e=>?_,?_,fun x c e=>?_,fun p Z=>?_,?_,?_⟩;.exact B.kind
    . show∃c,cl.lookup x=some c;rcases JP hx with a|a;case inr=>exact M x a.1
      have z:=J _ a rfl;rw[z];exact I.ok.has x (B.free _ a rfl)
    . obtain⟨_,_,_,f3,_⟩:=N b f;rcases f3 with z|z;.exact I.ok.pP b o e z
      .exact absurd (cA (aQ e) (bV I.ok.rP z)) (cY _)
    . rcases aR.mp (I.gJ b z) with e|e;.exact(N b f).2.1 e
      .exact(N b f).2.2.1 e
    . have O:i<ix.length:=by
        unfold qK at r;by_cases O:i<ix.length;.exact O
        .rw[jT (by simpa using O),lQ] at r;split at r<;>cases r
      obtain⟨j,C⟩:∃j,ix[i]?=some j:=⟨ix[i],by simp⟩;obtain⟨y,y1,y2,y3⟩:=B.take i j C;have Q:x=y:=by have z:N'[i]?=some x:=e1;rw[y1] at z;exact(eU z).symm
      subst Q;have ev:σ[j]?=some (some v):=by unfold qK at r;rw[iu (by simpa using O),bB,C] at r;have z:(σ[j]?).getD none=some v:=eU r;cases q:σ[j]? with |none=>rw[q] at z;cases z |some w=>rw[q] at z;exact bT some z
      obtain⟨m0,wJ,hl⟩:=I.loc;have Y:(x,NameKind.free)∈scope.names:=fS y3;have kx:=B.free _ Y rfl;have R:AW X.env.scope x:=kx.elim (fun z=>.inr (.inl z)) fun z=>.inr (.inr z);obtain⟨u,ru,lu⟩:=hl j x v y2 ev R;refine⟨u,ru,.inr ⟨?_,?_⟩⟩;.exact JO y3
      . rcases lu with⟨z,_⟩|⟨_,c,hc,l⟩;.rcases kx with w|w<;>(rw[w] at z;cases z)
        . refine⟨c,?_,?_⟩;.show cl.lookup x=some c;rwa[J _ Y rfl]
          .obtain⟨o,k,S⟩:=l;exact⟨o,D c o k,S⟩
    . rcases t x c e with z|⟨_,z⟩;.obtain⟨v,o,k,S⟩:=I.cell x c z;exact⟨v,o,D c o k,S⟩
      omega
    .show upd H _ _ (s.heap.objs.size+1)=none;rw[a9 (Nat.succ_ne_self _)];exact I.bF.fresh (fo _)
    . rcases t x c e with z|⟨z,_⟩;.have:=d x c z;rw[a9 (bC this)];exact I.ej x c z
      .rw[a9 (mr (fR (fq _) z))];exact I.bF.fresh (kG (fR (fq _) z))
    . rw[f_] at Z;obtain⟨U,q2,q3,q4,q5⟩:=I.pin p Z;refine⟨D _ _ U,by rwa[a9 (lt U).1],(lt U).2,fun z=>?_,q5⟩;rcases aR.mp (I.gJ _ z) with e|e;.exact q3 e
      .exact q4 e
    .exact I.bF.laid D (aB _) ⟨cG _,_,0,.nil,hD⟩
    .unfold qK;rw[bO,aI,List.length_replicate];exact B.len
theorem Rt(I:Inv X pins σ H s)(c:∀b∈fp,jF X pins H b) (J:Inv (X.comp scope cl C N' s H fp pins) [] f H' s'):Inv X pins σ H' s':=by obtain⟨h,g,d,t,e⟩:=s';obtain rfl:e=s.os:=J.os;exact I.call J.base J.bF J.bare fun b a=>⟨(c b a).2.2.2.1,(c b a).2.1,(c b a).2.2.2.2.1,(c b a).2.2.2.2.2⟩
theorem JQ{it:Addr}{RR:Value->Addr->Result->Shared->Prop}(B:gN X scope N' ix n tg elt ifs g tc te)(hc:X.calm=true)(I:Inv X pins σ H s)(T:Turn X.prog X.w X.K tg J fp it tn)(st:tn 0 s.heap)(hf:∀b∈fp,jF X pins H b) (Bk:∀x c,cl.lookup x=some c->X.env.cells.lookup x=some c)(Ru:∀y∈scope.names,y.2=.free->cl.lookup y.1=X.env.cells.lookup y.1) (body:∀D,H D=none->JN D J g tc te Q (qK σ ix n) (upd H D (.lst []))) (Rv:∀D C H' s' m,Inv X pins σ H' s'->s'.heap.Ns C m->jF X pins H' C->Q (.ref D) H'->RR (.ref D) C (.ok .next) s'): wpAny (model X.prog X.w) X.A (newList []) (fun A O=>wpAny (model X.prog X.w) X.A (newFunctionEnv scope X.env.globals cl [] X.env.qual none .none (some X.env)) (fun zo wK=> codeAny (model X.prog X.w) X.A (.compStart (.ListComp elt [⟨tg,iter,ifs,0⟩] scope pos) 0 (.ref it) A {zo with scope:=relabel scope X.env}) (RR A zo.locals) wK) E O) E s:=by
  refine gF (Rq ?_);dsimp only;generalize DZ:s.heap.push {cls:=.type "list",dict:=none,data:=.seq ([]:List Value).toArray}=j;have hC:j.objs.size=s.heap.objs.size+1:=by rw[<-DZ,lN]
  obtain⟨l,U⟩:∃l,l=cellsFrom (j.objs.size+1) scope.names cl:=⟨_,rfl⟩;rw[<-U];obtain⟨f,eh⟩:∃f,f=pushCells (j.push {cls:=.type "dict",data:=.dict #[]}) scope.names:=⟨_,rfl⟩;rw[<-eh];have kp:∀b o,j.get? b=some o->f.get? b=some o:=fun b o e=>by rw[eh];exact pushCells_keeps _ _ b o (bu _ e)
  have Z:f.Ns j.objs.size fun _=>none:=by rw[eh];exact(Heap.Ns.new j (.type "dict")).keeps (pushCells_keeps _ _)
  have below:∀b,b<s.heap.objs.size->b≠j.objs.size:=fun b M=>by lia
  have old:∀b o,s.heap.get? b=some o->f.get? b=some o:=fun b o e=>kp b o (DZ▸bu _ e);have D0:f.get? s.heap.objs.size=some {cls:=.type "list",data:=.seq #[] 0}:=kp _ _ (DZ▸cu _ rfl);have Rx:∀x c,cl.lookup x=some c->c<s.heap.objs.size:=fun x c e=>let⟨v,o,ho,_⟩:=I.cell x c (Bk x c e);aQ ho;have own:∀x c,(x,NameKind.cell)∈scope.names->l.lookup x=some c->s.heap.objs.size+1<c:=fun x c h e=>by rw[U] at e;have:=DX scope.names _ cl h e fun _ _=>.inr trivial;lia
  have zp:∀x c,l.lookup x=some c->X.env.cells.lookup x=some c\/(s.heap.objs.size+1<c/\∃v,f.IsCell c v):=fun x c e=>by
    by_cases hx:(x,NameKind.cell)∈scope.names
    . refine .inr ⟨own x c hx e,none,?_⟩;have JR:=cellsFrom_ok scope.names (j.push {cls:=.type "dict",data:=.dict #[]}) 0 [] ⟨fun _ _ hm=>(nomatch hm),List.Pairwise.nil⟩ (cG _);have e2:(cellsFrom (j.objs.size+1) scope.names []).lookup x=some c:=by
        have gen:∀(a:List (Str×NameKind))(n:Nat)(A:List (Str×Addr)),(x,NameKind.cell)∈a->(cellsFrom n a A).lookup x=(cellsFrom n a []).lookup x:=by
          have D1:∀(a:List (Str×NameKind))(n:Nat)(A Y:List (Str×Addr)),(x,NameKind.cell)∈a\/A.lookup x=Y.lookup x->(cellsFrom n a A).lookup x=(cellsFrom n a Y).lookup x:=by intro a;induction a with |nil=>intro n A Y h;exact h.elim (fun z=>by cases z) id |cons p r ih=>
              intro n A Y h;obtain⟨y,k⟩:=p;unfold cellsFrom;split
              . rename_i hk;have Ry:k=.cell:=by simp_all
                subst Ry;refine ih _ _ _ ?_;by_cases ZP:x=y;.simp_all
                . rcases h with z|z;.simp_all
                  .exact .inr (by simp only[fI,show(x==y)=false by simp_all];exact z)
              . rename_i hk;refine ih _ _ _ ?_;rcases h with z|z
                . rcases aR.mp z with w|w;.cases w;exact absurd rfl hk
                  .exact .inl w
                .exact .inr z
          exact fun a n A h=>D1 a n A [] (.inl h)
        rwa[<-gen scope.names _ cl hx,<-U]
      rw[lN] at JR;rw[eh];exact(JR.empty x c (fS e2)).1
    .rw[U,Bj _ _ _ hx] at e;exact .inl (Bk x c e)
  have D2:∀y∈scope.names,y.2=.free->l.lookup y.1=X.env.cells.lookup y.1:=fun y hy hf=>by rw[U,Bj _ _ _ (B.wI y hy hf)];exact Ru y hy hf
  have D3:∀x y c,l.lookup x=some c->l.lookup y=some c->x=y:=by rw[U];exact DY scope.names _ cl (fun x c e=>cA (Rx x c e) (by rw[hC];lia)) fun x y c e1 e2=>I.ok.inj x y c (Bk x c e1) (Bk y c e2)
  have s_:∀x,scope.names.lookup x=some .cell->∃c,l.lookup x=some c:=fun x h=>by rw[U];exact mu.mp (px scope.names _ cl (.inl h))
  have D4:∀x c,scope.names.lookup x=some .cell->l.lookup x=some c->s.heap.objs.size+1<c:=fun x c h e=>own x c (fS h) e;have ud:∀b,b<s.heap.objs.size->(∀x c,X.env.cells.lookup x=some c->c≠b)->∀x c,l.lookup x=some c->c≠b:=fun b M hold x c e z=>by
    rcases zp x c e with w|⟨w,_⟩;.exact hold x c w z
    .rw[z] at w;exact cY _ (fR (fR (fq _) w) M)
  have D5:∀b∈fp,∃o,s.heap.get? b=some o:=fun b M=>let⟨o,e,_⟩:=T.obj 0 _ st b M;⟨o,e⟩;have JS:tn 0 f:=T.keep 0 _ _ st fun b _ o e=>old b o e;have Rz:H s.heap.objs.size=none:=I.bF.fresh (aB _);obtain⟨W,⟨m0,w0⟩,turn⟩:=body _ Rz;have J0:Inv (X.comp scope l j.objs.size N' s H fp pins) [] (qK σ ix n) (upd H s.heap.objs.size (.lst [])) {s with heap:=f}:=by rw[hC] at Z⊢;exact Rr (tk:=s.toks) B I hf D5 zp D2 D3 s_ D4 old D0 Z
  have lE:∀{H':Hp},(∀b∈fp,H' b=none)->∀b∈fp,jF (X.comp scope l j.objs.size N' s H fp pins) [] H' b:=fun hn b M=>by
    obtain⟨f0,f1,f2,f3,f4,f5⟩:=hf b M;obtain⟨o,e⟩:=D5 b M;refine⟨hn b M,below b (aQ e),fun z=>?_,.inl M,ud b (aQ e) f4,fun p hp=>f5 p ?_⟩
    . rcases aR.mp (I.gJ b z) with q|q;.exact f1 q
      .exact f2 q
    .rwa[f_] at hp
  have RA:∀b∈fp,upd H s.heap.objs.size (.lst []) b=none:=fun b M=>by obtain⟨o,e⟩:=D5 b M;rw[a9 (bC (aQ e))];exact(hf b M).1
  have loop:∀O:Shared,O={s with heap:=f}-> codeAny (model X.prog X.w) X.A (.compLoop (.ListComp elt [⟨tg,iter,ifs,0⟩] scope pos) 0 (.ref it) (.ref s.heap.objs.size) (compEnvC scope l j.objs.size X.env)) (RR (.ref s.heap.objs.size) j.objs.size) O:=by
    rintro O rfl;refine Rp (fun k s'=>∃i S G L,Inv (X.comp scope l j.objs.size N' s H fp pins) [] G L s'/\tn i s'.heap/\(∀b∈fp,L b=none)/\W i k S G L) ?_ m0 ⟨0,[],_,_,J0,JS,RA,w0⟩;rintro k s3 ⟨i,S,xS,L,I3,JT,JU,w3⟩;obtain⟨JV,alt⟩:=turn i k S xS L w3;rcases alt with⟨stop,q⟩|⟨go,N,hN,step⟩
    . refine bW (T.done (X.comp scope l j.objs.size N' s H fp pins) rfl rfl rfl hc i [] s3 xS L _ I3 (lE JU) JT stop) fun r s4 ⟨hr,I4⟩=>?_;subst hr;obtain⟨m4,RB,_⟩:=I4.loc;refine Rv _ _ L s4 m4 (Rt I hf I4) RB ⟨I4.free,fun z=>?_,fun z=>?_,.inr (bV I.sz (by omega)),fun x c e z=>?_,fun p hp z=>?_⟩ q;.have lt:=I.lt;rw[<-z,hC] at lt;exact absurd lt (Nat.not_lt.mpr (fo _))
      .exact I.yN (show s.heap.objs.size<=j.objs.size by omega) z
      .obtain⟨v,o,ho,_⟩:=I.cell x c e;have lt:=aQ ho;rw[z,hC] at lt;exact absurd lt (Nat.not_lt.mpr (fo _))
      .have lt:=aQ (I.pin p hp).1;rw[z,hC] at lt;exact absurd lt (Nat.not_lt.mpr (fo _))
    . refine bW (T.item (X.comp scope l j.objs.size N' s H fp pins) rfl rfl rfl hc i [] s3 xS L _ I3 (lE JU) JT go) fun r s4 ⟨u,hr,h4⟩=>?_;subst hr;refine bW h4 fun _ s5 ⟨x,H5,I5,r5,y5,D6,RC⟩=>?_;have back:∀{zq:St}{H7:Hp}{s7:Shared}{Bl:List V},Inv (X.comp scope l j.objs.size N' s H fp pins) ([]++xH fp s5.heap) zq H7 s7->N Bl zq H7-> ∃m,m<k/\∃i S G L,Inv (X.comp scope l j.objs.size N' s H fp pins) [] G L s7/\tn i s7.heap/\(∀b∈fp,L b=none)/\W i m S G L:=fun{zq H7 s7 Bl} I7 n7=>by obtain⟨m',hm,w7⟩:=hN Bl zq H7 n7;refine⟨m',hm,i+1,Bl,zq,H7,I7.gM,T.keep _ _ _ D6 fun b M o e=>(I7.pin (b,o) (c7 _ (c7 _ (yZ M e)))).1,fun b M=>?_,w7⟩;obtain⟨o,e,d⟩:=T.obj _ _ D6 b M;exact(I7.pin (b,o) (c7 _ (c7 _ (yZ M e)))).2.1
      refine bW (B.tgt l j.objs.size s H fp pins _ s5 xS H5 x u _ (I5.pinned (lE RC) (T.obj _ _ D6)) r5 (step x H5 y5)) fun _ s6 ⟨R,H6,I6,q6⟩=>?_;have fin:∀(b:Bool)(s7:Shared),TP (X.comp scope l j.objs.size N' s H fp pins) ([]++xH fp s5.heap) R (fun b H4=>if b=true then te R H4 fun y H5=>H5 s.heap.objs.size=some (.lst S)/\S.length<sizeLine/\N (S++[y]) R (upd H5 s.heap.objs.size (.lst (S++[y]))) else N S R H4) b s7-> if b=true then wpAny (model X.prog X.w) X.A (eval elt (compEnvC scope l j.objs.size X.env)) (fun x wK=> wpAny (model X.prog X.w) X.A (call (.builtin "list.append") [.ref s.heap.objs.size,x]) (fun _ zr=>∃m,m<k/\∃i S G L,Inv (X.comp scope l j.objs.size N' s H fp pins) [] G L zr/\tn i zr.heap/\(∀b∈fp,L b=none)/\W i m S G L) (fun _ _=>False) wK) (fun _ _=>False) s7 else∃m,m<k/\∃i S G L,Inv (X.comp scope l j.objs.size N' s H fp pins) [] G L s7/\tn i s7.heap/\(∀b∈fp,L b=none)/\W i m S G L:=by rintro b s7 ⟨H7,I7,q7⟩;cases b with |false=> rw[ao cW] at q7⊢;exact back I7 q7 |true=> rw[ak rfl] at q7⊢;refine bW (B.elt l j.objs.size s H fp pins _ s7 R H7 _ I7 q7) fun y s8 ⟨yv,H8,I8,r8,RD,hz,n8⟩=>?_;exact bW (Jq _ s8 R H8 (.ref s.heap.objs.size) [yv] (.ref s.heap.objs.size) [y] (fun _ H9=>N (S++[yv]) R H9) I8 rfl (.cons r8 .nil) ⟨_,S,yv,rfl,rfl,RD,hz,n8⟩) fun _ s9 ⟨_,H9,I9,_,n9⟩=>back I9 n9
      rcases B.test with⟨e1,e2⟩|⟨c,t,e1,e2,ht⟩;.subst e1;subst e2;exact wpAny_tests_nil (fin true s6 ⟨H6,I6,q6⟩)
      .subst e1;subst e2;exact wpAny_tests_one (bW (ht l j.objs.size s H fp pins _ s6 R H6 _ I6 q6) fun b s7 z=>fin b s7 z)
  exact codeAny_compStart_list (loop _ rfl) (T.self X.A 0 _ _ _ JS (loop _ rfl))
theorem oF(E:X.calm=true)(hi:PI X tg iter l)(B:gN X scope N' ix n tg elt ifs g tc te)(z:∀x,foldedSetIterable iter X.env x=pure x:=by intro _;rfl): PE X (.ListComp elt [⟨tg,iter,ifs,0⟩] scope pos) (vG l ix n g tc te):=by intro k s σ H Q I h;obtain⟨cl,a,f,i⟩:=JM fun y t S=>I.ok.has _ (B.free y t S);refine wpAny_comprehension_free rfl z a B.kind B.names (bW (hi _ s _ H _ I h) fun v s1 w=>bW w fun R s2 h2=>?_);obtain⟨it,fp,tn,J,H2,rfl,N,T,j,A,c⟩:=h2;refine JQ B E N T j A f i c fun D C H' s' m Z O r q=>⟨m,O,fun h' d=>?_⟩;obtain⟨M,p,U,u,Y,G⟩:=r;exact⟨.ref D,_,Z.turned (fun b o L e=>(d.2 b L).trans e) M p u Y G,rfl,q⟩
theorem JW(hN:X.N.Nodup)(w:X.N[i]?=some y)(p:Loc X.env.scope y)(hc:X.calm=true)(hi:PI X tg iter Y)(B:gN X scope N' ix n tg elt ifs g tc te) (E:swapsWith (.ListComp elt [⟨tg,iter,ifs,0⟩] scope pos) (some (.Name y py)) j.line X.env=pure true)(L:X.fn y=true\/X.env.scope.names.lookup y=some .local:=by first|exact .inl rfl|exact .inr rfl|assumption) (hs:∀x,foldedSetIterable iter X.env x=pure x:=by intro _;rfl): PS X (.Assign [.Name y py] (.ListComp elt [⟨tg,iter,ifs,0⟩] scope pos) j) (fD (vG Y ix n g tc te) (jE i)):=by
  intro N s σ H D I h;rw[exec_Assign_Name_used _ _ _ _ E];refine ah (wpAny_standAt (ah ?_));obtain⟨cl,c,u,M⟩:=JM fun y p L=>I.ok.has _ (B.free y p L);refine ah (cw (wpAny_comprehension_free rfl hs c B.kind B.names (bW (hi _ s _ H _ I h) fun v s1 h1=>bW h1 fun Qo s2 h2=>?_)) (fun _ s' hq=>au (au hq)) fun _ _ e=>e);obtain⟨it,fp,tn,J,H2,rfl,I2,T,t,f2,f⟩:=h2;refine JQ B hc I2 T t f2 u M f fun D' C H' s' m I' R hC q=>?_;obtain⟨Z,S,l,O,Q,U⟩:=hC
  have Ip := I'.pinned (fp := [C]) (fun b hb => by have e:b=C:=by simp_all
                                                   subst e;exact⟨Z,S,l,O,Q,U⟩) (fun b hb=>by
    have e:=by simpa using hb
    subst e;obtain⟨o,es,ep,A,r,_⟩:=R;exact⟨o,A,fun v z=>by rw[r] at z;cases z⟩);refine wpAny_assign_Name (yO Ip hN w p (v:=.ref _) rfl (fun ZQ d=>?_) L);obtain⟨o,es,ep,A,r,hr⟩:=R;have a:=d.pin _ (c7 _ (c7 _ (yZ (by simp) A)));exact⟨m,⟨o,_,_,a.1,r,hr⟩,fun h' G=>⟨_,_,d.gM.turned (fun b o hb e=>(G.2 b hb).trans e) a.2.1 S O Q U,q⟩⟩
end
section
variable{X:Cx}{scope:Scope}{tg elt:Expr}{ifs:List Expr}{g:TG}{tc:Option TT}{te:TE}
theorem Bm(b:Scope)(u d:List Str)(l:List Nat)(n:Nat)(B:X.env.scope=b)(q:X.N=u)(h:scope.kind=.function)(o:(scope.names.all fun y=>y.2 !=.free||scope.names.all fun z=>!(z.1==y.1)||z.2 !=.cell)=true)(a:∀y∈scope.names,y.2=.local->scope.names.lookup y.1=some .local) (v:(scope.names.all fun y=>y.2 !=.free||(b.names.lookup y.1==some .cell||b.names.lookup y.1==some .free))=true)(r:l.length+n=d.length) (f:((List.range l.length).all fun j=>match d[j]?,u[l.getD j 0]? with|some x,some y=>x==y&&scope.names.lookup x==some .free|_,_=>false)=true) (p:∀(cl:List (Str×Addr))(C:Addr)(s:Shared)(H:Hp)(fp:List Addr)(pins:List (Addr×Obj)),PG (X.comp scope cl C d s H fp pins) tg g) (m:∀(cl:List (Str×Addr))(C:Addr)(s:Shared)(H:Hp)(fp:List Addr)(pins:List (Addr×Obj)),PE (X.comp scope cl C d s H fp pins) elt te) (k:(ifs=[]/\tc=none)\/∃c t,ifs=[c]/\tc=some t/\∀(cl:List (Str×Addr))(C:Addr)(s:Shared)(H:Hp)(fp:List Addr)(pins:List (Addr×Obj)),PT (X.comp scope cl C d s H fp pins) c t): gN X scope d l n tg elt ifs g tc te:= ⟨h,fun y D e L=>by grind,a,fun y D e=>by show X.env.scope.names.lookup _=_\/X.env.scope.names.lookup _=_;grind,r,fun j i e=>by
 obtain⟨J,_⟩:=cI.mp e;have E:l.getD j 0=i:=by rw[bN,e];rfl
 have z:=d_.mp f j (cF.mpr J);rw[E] at z;cases w:d[j]? with |none=>grind |some x=> cases A:u[i]? with |none=>rw[w,A] at z;cases z |some y=>
  rw[w,A] at z;have I:=by simpa using z
  obtain⟨rfl,G⟩:=I;exact⟨x,rfl,by rwa[q],G⟩,p,m,k⟩
end
structure tf(P:Program)(w:World)(K:PySem.W.Frag)(mg:Str->Option Value)(base:Heap)(CX:jt)(k:Nat)(x:Str)(ps:List Str)(sp:Sp):Prop where ex:∃(f:Addr) (fd:FuncData),b_ P w K mg base CX k f fd ps sp/\mg x=some (.ref f)/\PySem.W.keepIn K (.ref f)=true/\Binds K fd ps []
section
variable{X:Cx}{CX:jt}{k:Nat}{x:Str}{ps:List Str}{sp:Sp}{E:XK}{p pos:Pos}{e:Expr}{es:List Expr}{t:TA}
theorem JX(G:tf X.prog X.w X.K X.mg X.base CX k x ps sp)(g:cN k X.A)(i:Gl X x)(d:rS CX X E) (j:PA X (e::es) t)(a:(x==("__debug__":Str))=false:=by decide)(h:starEach (e::es) X.env=(false,eval e X.env)::starEach es X.env:=by rfl)(b:(backTo pos (starEach es X.env)).any (·.1)=false:=by rfl): PE X (.Call (.Name x p) (e::es) [] pos) (wx sp [] E t):=let⟨f,_,F,m,c,l⟩:=G.ex;QG F g i m c l .nil d j a h b
end
structure qL(K:PySem.W.Frag)(x:Str)(st:Stmt)(f:Addr)(fd:FuncData):Prop where ns:PySem.W.nsIn K mainGlobals x=some (some (.ref f))fn:ju K x x st f fd
theorem tm{K:PySem.W.Frag}{st:Stmt}{kV d e b g:Value}(a:PySem.W.nsIn K mainGlobals x=some (some (.ref f))) (l:K.lookup f=some ⟨i,od,.func (PySem.W.fnOf x x (rT st) (nX st) (dJ st) .none kV d e an b g),h⟩)(c:PySem.W.codeIn K b x=true)(k:PySem.W.keepIn K (.ref f)=true):∃f fd,qL K x st f fd:= ⟨f,_,a,JH l c k⟩
theorem qL.has{K:PySem.W.Frag}{st:Stmt}(D:qL K x st f fd)(X:K.In h)(G:h.Ns mainGlobals mg) (c:b_ P w K mg a CX k f fd ps sp)(b:Binds K fd ps []):tf P w K mg a CX k x ps sp:=⟨f,_,c,eE X G D.ns,D.fn.kp,b⟩
theorem RE(c:H b=none)(h:H a=some o):upd H b u a=some o:=(a9 (eF h c)).trans h
theorem aD.upd(a:H b=none):aD H (upd H b u):=fun _ _ h=>RE a h
theorem fc.of {i : Int} {n : Nat} (h1 : i.natAbs ≤ n) (h2 : n < 2 ^ 8000) : fc i := iB h1 h2
section
variable{X:Cx}{pos:Pos}
end
theorem jI{K:PySem.W.Frag}(h1:((Value.type S)==(Value.type T))=false)(h2:PySem.W.kitMeta T=true)(h3:(PySem.fastBuiltinMro S).map (·.contains (.type T))=some false):PySem.W.kitOne K (.type S) (.type T)=some false:=by unfold PySem.W.kitOne;rw[h1];show(if PySem.W.kitMeta T=true then PySem.W.subIn K _ _ else none)=some false;rwa[ak h2]
structure Tr(h:Heap)(e T:Addr)(cls:Value)(c9:Option Addr)(fl:Value):Prop where
 ex:∃(oe:Obj) (vs:Array Value) (oT:Obj) (ts:Array Value),h.get? e=some oe/\oe.cls=cls/\oe.dict=c9/\oe.data=.fields vs/\vs[1]?=some (.ref T)/\h.get? T=some oT/\oT.data=.fields ts/\ts[3]?=some fl
 ne:T≠e
structure kb(B:Heap)(l:List Env)(e:Addr)(cls:Value)(c9:Option Addr)(fl:Value)(h:Heap):Prop where
 stays:B.StaysIn h
 out:B.get? e=none
 p5:h.FunFrames B l
 tr:∃T,B.get? T=none/\Tr h e T cls c9 fl
theorem Obj.kN(o:Obj)(f):(o.mapFields f).dict=o.dict:=by obtain⟨c,d,a,b⟩:=o;cases a<;>rfl
theorem wL{h:Heap}(e:h.get? a=some o)(hd:o.data=.fields vs)(c:h.get? b=some u)(d:∀ws,u.data≠.fields ws):b≠a:=by intro z;simp_all
section
variable{M:Model}{A:Around}{E:Value->Shared->Prop}{s:Shared}{B:Heap}{env:Env}{outer l:List Env}{L e:Addr}{cls:Value}{c9:Option Addr}{Q:Unit->Shared->Prop}
theorem JY(u:A.frames=some (env::outer))(k:s.heap.FunFrames B (env::outer))(U:env.frame=some L)(C:s.heap.get? e=some y)(hd:y.data=.fields vs)(hsz:1<vs.size) (n:B.StaysIn s.heap)(p:B.get? e=none)(h:∀h',kb B (env::outer) e y.cls y.dict (rawInt L) h'->s.heap.UpToSlots h'->Q () {s with heap:=h'}): wpAny M A (do let a<-frameOf env;let pl<-entryPlaceOf L Y;let b<-EntryCells.newEntry N a .none (rawInt L) .none pl;setField (.ref e) 1 b) Q E s:=by
  have r:e∉(env::outer).filterMap _:=fun w=>by obtain⟨_,o,Z,m⟩:=k.mem w;simp_all
  refine ah (wpAny_frameOf_fun u k U fun f c=>ah (wpAny_entryPlaceOf fun pl D=>?_));have H:=(c.2.1 e r).trans C;have j:B.StaysIn _:=fun b o q=>(c.2.1 b fun w=>by rw[(k.mem w).1] at q;cases q).trans (n b o q);refine ah (gF ?_ (D.sizeOk5 _ _ _ _ _));generalize v:({cls:=.type _,dict:=none,data:=.fields _}:Obj)=G;have O:∃x,G.data=.fields x/\x[3]?=some (rawInt L):=by subst v;simp
  have t:=let⟨_,d,_⟩:=O;o7 d;have R:(f.push G).get? e=some _:=bu _ H;refine mH R hd hsz (h _ ?_ ?_)
  . have i:=mr (aQ H);have J:∀b o,b≠e->f.get? b=some o->((f.push G).update e (Obj.mapFields (·.setIfInBounds 1 (Value.ref f.objs.size)))).get? b=some o:=fun b o g q=>by rw[dZ _ _ (aJ g)];exact bu _ q
    have I:=o3 hd (·.setIfInBounds 1 (Value.ref f.objs.size));refine⟨fun b o q=>J b o (fun z=>by simp_all) (j b o q),p,k.of_keeps fun b o g m=>?_,_,j.fresh,⟨?_,i⟩⟩;.obtain⟨S,q⟩:=c.2.2 b o g;exact⟨_,J b _ (wL C hd g m) q,rfl⟩
    .obtain⟨x,X,T⟩:=O;refine⟨_,_,_,_,jS _ R (o7 I),Obj.cls_mapFields _ _,Obj.kN _ _,I,by simp_all,?_,X,T⟩;rw[dZ _ _ (aJ i)];exact cu _ t
  .intro b o g m;obtain⟨S,q⟩:=c.2.2 b o g;refine⟨S,?_⟩;rw[dZ _ _ (aJ (wL C hd g m))];exact bu _ q
theorem xT(F:kb B l e cls c9 fl s.heap)(h:∀h',kb B l e cls c9 .none h'->s.heap.UpToSlots h'->Q () {s with heap:=h'}):wpAny M A (setFlight (.ref e) none) Q E s:=by
 obtain⟨T,m,⟨w,x,y,v,j,t,i,r,p,f,a,u⟩,k⟩:=F.tr;have n:=(v_.mp u).1;have c:∀b o,b≠T->s.heap.get? b=some o->(s.heap.update T (Obj.mapFields (·.setIfInBounds 3 Value.none))).get? b=some o:=fun b o d q=>by rwa[dZ _ _ (aJ d)]
 exact ah (eV j r p (mH f a n (h _ ⟨fun b o q=>c b o (fun z=>by rw[z,m] at q;cases q) (F.stays b o q),F.out,F.p5.of_keeps fun b o d g=>⟨o,c b o (wL f a d g) d,rfl⟩,T,m,⟨⟨_,_,_,_,c e _ (aJ k) j,t,i,r,p,jS _ f (o7 (o3 a _)),o3 a _,by simp[n]⟩,k⟩⟩ fun b o d g=>⟨_,c b o (wL f a d g) d⟩)))
theorem RF(d:A.frames=some (env::outer))(g:env.frame=some L)(a:B.StaysIn h)(m:h.FunFrames B (env::outer))(c:Heap.MadeExcOf h s.heap e cls i) (k:∀h',kb B (env::outer) e cls none (rawInt L) h'->s.heap.UpToSlots h'->Q () {s with heap:=h'}):wpAny M A (noteFrame (.ref e) env) Q E s:=by
 obtain⟨t,f,_,_⟩:=c.there;have j:B.get? e=none:=by cases q:B.get? e with |none=>rfl |some o=>have z:=a e o q;rw[c.new] at z;cases z
 unfold noteFrame;simp[g];exact ah (eV f rfl rfl (JY d (m.of_keeps fun b o n _=>⟨o,c.keeps b o n,rfl⟩) g f rfl (by simp) (fun b o q=>c.keeps b o (a b o q)) j k))
theorem D7(h:A.frames=some (env::outer))(p:env.frame=some L)(F:kb B (env::outer) e cls c9 .none s.heap) (k:∀h',kb B (env::outer) e cls c9 (rawInt L) h'->s.heap.UpToSlots h'->Q () {s with heap:=h'}):wpAny M A (noteFrame (.ref e) env) Q E s:=by
 obtain⟨T,v,⟨D,G,C,H,r,u,i,m,j,g,c,n⟩,x⟩:=F.tr;have w:=(v_.mp n).1;have a:∀b o,b≠T->s.heap.get? b=some o->(s.heap.update T (Obj.mapFields (·.setIfInBounds 3 Value.none))).get? b=some o:=fun b o d q=>by rwa[dZ _ _ (aJ d)]
 subst u;subst i;unfold noteFrame;simp[p];refine ah (eV r m j (ah (eV g c n (ah (mH g c w (JY h (F.p5.of_keeps fun b o d f=>⟨o,a b o (wL g c d f) d,rfl⟩) p (a e _ (aJ x) r) m (v_.mp j).1 (fun b o q=>a b o (fun z=>by rw[z,v] at q;cases q) (F.stays b o q)) F.out fun h' y t=>?_))))));exact k _ y fun b o d f=>t b o (a b o (wL g c d f) d) f
theorem kb.pop(F:kb B (env::outer) e cls c9 fl h):kb B outer e cls c9 fl h:=⟨F.stays,F.out,F.p5.2.2,F.tr⟩
end
structure D8(P:Program)(w:World)(outer:List Env)(H:Hp)(s:Shared)(e:Addr)(cls:Value)(c9:Option Addr)(H':Hp)(s':Shared):Prop where
 os:s'.os=s.os
 bare:AllBare s'.gens
 un:Un (lC outer) [] H H' s.heap s'.heap
 lay:∃B,kb B outer e cls c9 .none s'.heap/\gI P w H' B/\∀b o,s.heap.get? b=some o->b∉lC outer->∃o',B.get? b=some o'/\(H b=none->o'=o)
def rV(P:Program)(w:World):jt:=fun a H s E e f=>∃(d C:Addr) (b:Option Addr) (c:Hp),e=.ref d/\D8 P w a H s d (.ref C) b c f/\E (.ref C) b c
theorem gI.JZ {P : Program} {w : World} {H : Hp} {B h : Heap} (x : gI P w H B) (st : B.StaysIn h) : gI P w H h := x.kept fun b u q => st b u q
theorem gI.none_of(x:gI P w H B)(n:B.get? a=none):H a=none:=by cases q:H a with |none=>rfl |some o=> have b:=(x a o q);cases o with |lst i=>obtain⟨_,_,_,_,e⟩:=b;simp_all |tup i=>obtain⟨_,_,_,o,e,_⟩:=b;simp_all |dK c=>obtain⟨_,_,_,_,o,_,_,e,_⟩:=b;simp_all |dT c=>obtain⟨_,_,_,_,o,_,_,e,_⟩:=b;simp_all |set S J=>obtain⟨o,_,_,_,e,_⟩:=b;simp_all |ins C G r=>obtain⟨_,_,_,e,_⟩:=b;simp_all |own y=>obtain⟨_,e⟩:=b;simp_all |xd r=>obtain⟨_,⟨_,_,_,e,_⟩,_⟩:=b;simp_all |nq lo z=>obtain⟨_,_,_,e⟩:=b;simp_all |fB A u=>obtain⟨e,_⟩:=b;simp_all |sP v=>obtain⟨_,_,_,_,_,_,_,e,_⟩:=b;simp_all |met f y=>have e:B.get? a=some _:=b;simp_all |ext t=>obtain⟨_,⟨_,e⟩,_⟩:=b;simp_all
theorem Bo{h0 h1 h2 h3 B:Heap}(U:Un fs [] k t h0 h1)(V:Un fr [] t y h1 h2)(A:h0.objs.size<=L)(sub:∀b∈fr,b∈L::fs)(m:∀b∈fs,b∈fr)(p:∀b∈fs,k b=none) (j:∀b∈fs,∀o,h2.get? b=some o->∀vs,o.data≠.fields vs)(D:h2.UpToSlots h3)(st:B.StaysIn h3)(r:∀b o,h1.get? b=some o->b∉fr->∃f,B.get? b=some f/\(t b=none->f=o)): Un fs [] k y h0 h3/\∀b o,h0.get? b=some o->b∉fs->∃f,B.get? b=some f/\(k b=none->f=o):=by
  have s:∀b o,h0.get? b=some o->b∉fs->b∉fr:=fun b o e a x=>by
    rcases aR.mp (sub b x) with z|z;.exact absurd (cA (aQ e) A) (by simp_all)
    .grind
  have c:∀b o,h0.get? b=some o->b∉fs->∃f,B.get? b=some f/\(k b=none->f=o):=fun b o e a=>by obtain⟨w,g⟩:=U.there b o e (by simp);obtain⟨H,h,z⟩:=r b _ g (s b o e a);refine⟨_,h,fun n=>?_⟩;have i:=U.keep b o e n a (by simp);rw[g] at i;cases i;exact z (U.free b o e n (by simp))
  have d:∀b o,h0.get? b=some o->b∈fs->∃v,h3.get? b=some {o with slots:=v}:=fun b o e a=>by have n:=p b a;obtain⟨N,g⟩:=U.slot b o e n a (by simp);obtain⟨J,h⟩:=V.slot b _ g (U.free b o e n (by simp)) (m b a) (by simp);obtain⟨G,C⟩:=D b _ h (j b a _ h);exact⟨_,C⟩
  refine⟨⟨fun b o e n a _=>?_,fun b o e n a _=>d b o e a,fun b o e n _=>?_,fun b o e _=>?_,fun b E e=>V.i' b _ (U.i' b _ e),fun b o u e=>V.iK b o u (U.iK b o u e),fun b I e=>?_⟩,c⟩;.obtain⟨f,l,z⟩:=c b o e a;rw[z n] at l;exact st b o l
  .obtain⟨w,g⟩:=U.there b o e (by simp);exact V.free b _ g (U.free b o e n (by simp)) (by simp)
  . by_cases a:b∈fs;.obtain⟨v,q⟩:=d b o e a;exact⟨_,q⟩
    .obtain⟨f,l,_⟩:=c b o e a;exact⟨_,st b _ l⟩
  .obtain⟨O,g⟩:=U.g9 b _ e;obtain⟨M,h⟩:=V.g9 b _ g;exact⟨_,by rw[h,Array.append_assoc]⟩
section
variable{P:Program}{w:World}{K:PySem.W.Frag}{mg:Str->Option Value}{base:Heap}{N:List Str}{qual:Str}{scope:Scope}{f:Addr}{cd:Value}{A:Around}{outer:List Env}{s0:Shared}{H0:Hp}{E:XK}
abbrev tq(P:Program)(w:World)(K:PySem.W.Frag)(mg:Str->Option Value)(base:Heap)(N:List Str)(qual:Str)(scope:Scope)(f:Addr)(cd:Value)(A:Around)(outer:List Env)(s0:Shared)(H0:Hp)(E:XK):Cx:=mP (rV P w) P w K mg base N qual scope f cd A outer s0 H0 E
theorem RG(I:Inv (tq P w K mg base N qual scope f cd A outer s0 H0 E) pins σ H s)(r:Heap.MadeExcOf s.heap s'.heap ea (.ref C) m) (os:s'.os=s.os)(j:AllBare s'.gens)(q:E (.ref C) none H):(tq P w K mg base N qual scope f cd A outer s0 H0 E).xe (.ref ea) s':=by have l:∀i∈(tq P w K mg base N qual scope f cd A outer s0 H0 E).stack,∀a,i.frame=some a->a∈lC _:=fun i y a x=>lU.mpr ⟨_,y,x⟩;have d:=I.stack;refine ah (RF I.ok.frames rfl (fun b o e=>PySem.W.of_hideAll _ e) (PySem.W.funFrames_hide d l) r fun G B up1=>(xT B fun J p k=>?_));have c:∀b o,s.heap.get? b=some o->b∉lC (tq P w K mg base N qual scope f cd A outer s0 H0 E).stack->(PySem.W.hideAll _ _).get? b=some o:=fun b o e g=>PySem.W.hideAll_get _ e g;obtain⟨u,h⟩:=Bo I.base Un.refl I.ok.above I.gJ (fun b g=>bz _ g) I.ok.sQ (fun b g o e=>by obtain⟨_,D,t,L⟩:=d.mem (bz _ g);simp_all) ((Heap.UpToSlots.of_keeps r.keeps).trans (up1.trans k)) p.stays (fun b o e g=>⟨o,c b o e g,fun _=>rfl⟩);refine⟨_,C,_,H,rfl,⟨os.trans I.os,j,u,_,p.pop,?_,h⟩,q⟩;intro a o e;refine(I.bF a o e).i_ (fun b v g q=>c b v q fun z=>?_) (fun _ q=>q) fun _ _ q=>q;have n:=I.jb b z;simp_all
theorem RH(I:Inv (tq P w K mg base N qual scope f cd A outer s0 H0 E) pins σ H s)(h:rV P w (tq P w K mg base N qual scope f cd A outer s0 H0 E).stack H s E e s'): (tq P w K mg base N qual scope f cd A outer s0 H0 E).xe e s':=by obtain⟨x,C,n,p,rfl,F,q⟩:=h;obtain⟨B,k,d,c⟩:=F.lay;refine ah (D7 I.ok.frames rfl k fun v m up1=>(xT m fun y j g=>?_));obtain⟨u,a⟩:=Bo I.base F.un I.ok.above I.gJ (fun b i=>bz _ i) I.ok.sQ (fun b i o e=>by obtain⟨_,t,l,r⟩:=k.p5.mem (bz _ i);simp_all) (up1.trans g) j.stays c;exact⟨_,C,_,_,rfl,⟨F.os.trans I.os,F.bare,u,B,j.pop,d,a⟩,q⟩
end
theorem RI{K:PySem.W.Frag}(X:K.In h)(q:PySem.W.excIn K C d newId=true): ∃bm N nm e bs hdct sn sub ab col dd k0 k1 k2 k3 k5 mN,h.get? C=some (excClassObj nm e C N bs bm hdct sn sub ab col dd k0 k1 k2 k3 k5 newId)/\h.Ns N mN/\mN "__init__"=none/\OwnTail h d bm:=by
  unfold PySem.W.excIn at q;split at q
  . rename_i dd f g l;split at q;.rename_i s bm k0 k1 k2 k3 n k5 k m;simp[mz] at q;obtain⟨⟨⟨⟨⟨rfl,rfl⟩,a⟩,o⟩,b⟩,c⟩:=q;obtain⟨nm,bs,p,t,e,r,sn,sub,ab,col,i⟩:=f;subst k a;obtain⟨j⟩:=g;subst m;exact⟨_,_,_,_,_,_,_,_,_,_,_,_,_,_,_,_,_,X _ _ l,.of_isNs (PySem.W.isNs_of_in X b),PySem.W.nsMap_none_of_in X b c,PySem.W.tail_of_in X o⟩
    simp_all
  simp_all
def Made(X:Cx)(E:St->XK):Prop:=∀(a:List (Addr×Obj))(e:St)(H:Hp)(s c:Shared)(d C:Addr)(b:List Value),Inv X a e H s->Heap.MadeExcOf s.heap c.heap d (.ref C) b->c.os=s.os->AllBare c.gens->E e (.ref C) none H->X.xe (.ref d) c
def zt(CX:jt)(X:Cx)(E:St->XK):Prop:=∀(a:List (Addr×Obj))(c:St)(H:Hp)(s:Shared)(e:Value)(b:Shared),Inv X a c H s->CX X.stack H s (E c) e b->X.xe e b
def J5(C:Addr)(E:St->XK)(t:TA):TS:=fun _ a H=>t a H fun b c=>b.length<=sizeLine/\E a (.ref C) none c
section
variable{X:Cx}{x:Str}{np e_ pos:Pos}{ri:Expr}{rest:List Expr}{C:Addr}{xU Bp:List Value}{newId Bn B Bq Br mR:String}{E:St->XK}{t:TA}
theorem D9(hc:X.calm=true)(S:Gl X x)(d:X.mg x=some (.ref C))(u:PySem.W.excIn X.K C xU newId=true)(G:ExcBaseFacts Bn newId Br Bp)(c:xU.contains (.type Bn)=true)(o:ExcBaseFacts B Bq mR xU)(hE:Made X E) (r:PA X (ri::rest) t)(n:starEach (ri::rest) X.env=(false,eval ri X.env)::starEach rest X.env:=by rfl)(b:(backTo e_ (starEach rest X.env)).any (·.1)=false:=by rfl)(i:(x==("__debug__":Str))=false:=by decide): PS X (.Raise (some (.Call (.Name x np) (ri::rest) [] e_)) none pos) (J5 C E t):=by intro m s σ H D I h;obtain⟨tl,N,U,y,bs,a,M,e,Z,g,Q,w,v,J,R,L,mN,Y,p,f,T⟩:=RI I.ok.mod.we u;refine wpAny_Raise_call_subU (nm:=U) (q:=y) (N:=N) (bs:=bs) (hdct:=a) (sn:=M) (sub:=e) (ab:=Z) (col:=g) (dd:=Q) (k0:=w) (k1:=v) (k2:=J) (k3:=R) (k5:=L) G c o (T.hasType o.hasBase) (I.ok.hd hc) (by rw[n];show(false||(backTo _ _).any _)=false;simp_all) f (wh I S d ⟨rfl,?_⟩ i);have l:=r e_ _ s _ H _ I h;rw[n] at l⊢;refine sk (bW l fun us s1 ⟨_,_,j,O,z,q⟩=>?_);have k:=j.bk;exact⟨rfl,by rwa[<-O.length],k _ _ Y,p.keeps k,T.keeps k,fun h' ea A=>hE _ _ _ _ _ _ C _ j A rfl j.bare q⟩
end
def Bs(sp:Sp)(E:St->XK)(t:TA):TE:=fun a H Q=>t a H fun b c=>sp b c Q (E a)
section
variable{X:Cx}{CX:jt}{k:Nat}{x:Str}{ps:List Str}{sp:Sp}{E:St->XK}{p pos:Pos}{e:Expr}{es:List Expr}{t:TA}
theorem RJ(G:tf X.prog X.w X.K X.mg X.base CX k x ps sp)(D:cN k X.A)(N:Gl X x)(M:zt CX X E) (w:PA X (e::es) t)(i:(x==("__debug__":Str))=false:=by decide)(A:starEach (e::es) X.env=(false,eval e X.env)::starEach es X.env:=by rfl)(d:(backTo pos (starEach es X.env)).any (·.1)=false:=by rfl): PE X (.Call (.Name x p) (e::es) [] pos) (Bs sp E t):=by
 obtain⟨f,O,F,C,L,o⟩:=G.ex;intro n s y H Q I h;refine kL (wh I N C (mw I.ok.mod.we L (bW (w _ _ s _ H _ I h) fun c m ⟨_,Z,a,r,q⟩=>⟨a.iQ,?_⟩) A d) i);have U:c.length=ps.length:=by rw[<-r.length];exact F.len _ _ _ _ q
 have v:BindsTo m O ⟨c,[]⟩ (ps.zip c):=by have z:=o _ c a.iQ (by simp_all);simp_all
 refine wpAny_call (kI (F.run X.A _ m _ _ _ _ Q _ D a.wu v r q) fun R T b=>?_);cases R with |error S=>exact M _ y _ _ _ _ a b |ok B=> cases B with |ret u=>exact a.after b |next=>exact False.elim b |brk=>exact False.elim b |cont=>exact False.elim b
end
theorem J6 {K : PySem.W.Frag} {M : Model} {A : Around} {E : Value → Shared → Prop} {s : Shared} {Q : Bool → Shared → Prop} {e C D : Addr} {oe : Obj} (X : K.In s.heap) (he : s.heap.get? e = some oe) (hc : oe.cls = .ref C)
    (h1 : PySem.W.kitCls K (.ref C) (.ref D) = some true) (h2 : PySem.W.mroIn K D (.type "BaseException") = some true) (q : Q true s) : wpAny M A (excMatches (.ref e) (.ref D)) Q E s := by
  obtain ⟨hp, g, d, tk, os⟩ := s
  obtain ⟨l1, l2, l3⟩ := PySem.W.kit_cls (M := M) X h1
  have l4 := PySem.W.looks_mroIn (M := M) X h2
  have l5 : PySem.W.Looks M hp (isInstance (.ref D) (.type "tuple")) false := l1.andThen (PySem.W.Looks.of_pure tc_notTuple)
  have l6 : PySem.W.Looks M hp (typeOf (.ref e)) (.ref C) := by
    rw [← hc]
    exact (PySem.W.Looks.ld he).andThen .now
  have l7 : PySem.W.Looks M hp (isExcClass _) true := l2.andThen (by simp_all)
  repeat (first | with_reducible refine ft l5 ?_ | with_reducible refine ft l6 ?_ | with_reducible refine ft l7 ?_ | with_reducible refine ft l3 ?_ | wp_step)
  exact q
def tu(C:Addr)(b:Option Addr)(ea:Addr):HO:=.ext fun h=>∃a,h.get? ea=some a/\a.cls=.ref C/\a.dict=b/\∃c,a.data=.fields c
theorem Inv.zu(I:Inv X pins σ H s)(A:H ea=none)(h0:X.fJ.heap.get? ea=none)(h:ea≠X.env.locals)(l:∀x c,X.env.cells.lookup x=some c->c≠ea) (f:∀p∈X.pn++pins,p.1≠ea)(d:dD X.prog X.w (upd H ea o) s.heap ea o):Inv X pins σ (upd H ea o) s:=by
  have a:∀{b:Addr}{u:HO},H b=some u->b≠ea:=fun q z=>by simp_all
  refine⟨I.ok,I.os,I.bare,⟨I.base.keep,I.base.slot,fun b r q n g=>?_,I.base.there,fun b i q=>?_,fun b r u q=>?_,fun b B q=>?_⟩,I.loc,I.cell,?_,fun x c q=>?_,fun p q=>?_,fun b u q=>?_,I.len⟩;.rw[a9 (fun z=>by rw[z,h0] at q;cases q)];exact I.base.free b _ q n g
  .have z:=I.base.i' b _ q;rwa[a9 (a z)]
  .have z:=I.base.iK b _ u q;rwa[a9 (a z)]
  .obtain⟨m,z⟩:=I.base.g9 b _ q;exact⟨m,by rwa[a9 (a z)]⟩
  .rw[a9 (aJ h)];exact I.free
  .rw[a9 (l x c q)];exact I.ej x c q
  .obtain⟨t,y,k,w,j⟩:=I.pin p q;exact⟨t,by rwa[a9 (f p q)],k,w,j⟩
  . by_cases e:b=ea;.subst e;rw[b9] at q;grind
    .rw[a9 e] at q;exact(I.bF b u q).i_ (fun c v _ z=>z) (fun c z=>by rwa[a9 (a z)]) fun c i z=>by rwa[a9 (a z)]
def Cx.c_ (X : Cx) (ea : Addr) : Cx := { X with A := X.A.mark (some (.ref ea)), calm := false, xe := fun _ _ => False }
theorem Inv.c_ {X : Cx} {pins : List (Addr × Obj)} {σ : St} {H : Hp} {s : Shared} (I : Inv X pins σ H s) (ea : Addr) : Inv (X.c_ ea) pins σ H s :=
  ⟨⟨I.ok.mod, I.ok.kind, I.ok.glob, I.ok.blt, I.ok.above, I.ok.inj, I.ok.has, I.ok.wg, fun z => (by cases z), I.ok.frames, I.ok.xE, I.ok.AX, I.ok.bs, I.ok.rP, I.ok.pP, I.ok.qW, I.ok.ja, I.ok.sQ, I.ok.tb⟩, I.os, I.bare, I.base, I.loc, I.cell, I.free, I.ej, I.pin, I.bF, I.len⟩
theorem Inv.fj {X : Cx} {pins : List (Addr × Obj)} {σ : St} {H : Hp} {s : Shared} {ea : Addr} (ok : X.Ok) (I : Inv (X.c_ ea) pins σ H s) : Inv X pins σ H s :=
  ⟨ok, I.os, I.bare, I.base, I.loc, I.cell, I.free, I.ej, I.pin, I.bF, I.len⟩
def zv (K : PySem.W.Frag) (D' : Addr) (tb : (St → XK) → TS) (i : Nat) (th : TS) : TS := fun D σ H =>
  tb (fun lV cls c9 H' => ∃ C, cls = .ref C ∧ PySem.W.kitCls K (.ref C) (.ref D') = some true ∧ ∀ ea, H' ea = none → th { nx := fun ug H2 => D.nx (ug.set i none) H2, rt := D.rt, bk := fun ug H2 => D.bk (ug.set i none) H2, ct := fun ug H2 => D.ct (ug.set i none) H2 } (lV.set i (some (.ref ea))) (upd H' ea (tu C c9 ea))) D σ H
section
variable{P:Program}{w:World}{X:Cx}{x n:Str}{np rj pos:Pos}{body:List Stmt}{p9:Stmt}{c_:List Stmt}{D':Addr}{tb:(St->XK)->TS}{th:TS}{i:Nat}
theorem Bt {pins : List (Addr × Obj)} {σ : St} {H : Hp} {s : Shared} {Q : Unit → Shared → Prop} (I : Inv X pins σ H s) (hN : X.N.Nodup) (hi : X.N[i]? = some n) (hn : X.env.kindOf n = some .local)
    (k : ∀ s', Inv X pins (σ.set i none) H s' → Q () s') : wpAny (model X.prog X.w) X.A (do bindName X.env n .none; unbindBehindTheSuite X.env n rj) Q X.xe s := by
  have hk  := hn
  refine ah (wpAny_bindName (yO I hN hi (.inl hk) (v := .non) rfl (fun s1 I1 => ?_) (.inr hk)))
  obtain ⟨m, hm, hl⟩ := I1.loc
  have li : i < σ.length := by
    rw [I.len]
    grind
  obtain ⟨u, ru, lu⟩ := hl i n .non hi (by simp_all) (.inl hk)
  have hv : m n = some u := by
    rcases lu with ⟨_, z⟩ | ⟨z, _⟩
    · exact z
    · rcases z with z | z <;> (rw [hn] at z; cases z)
  refine wpAny_onRaise (wpAny_unbindName_local hn hm hv (by rw [I.ok.kind]; rfl) fun h' u' RK RL => k _ ?_)
  have I2 : Inv X _ (σ.set i none) H _ := I1.weak (by simp) fun j v e => by
    by_cases hj : j = i
    · subst hj
      rw [bH li] at e
      cases e
    · rwa [aO (aJ hj)] at e ⊢
  have kp : ∀ b o, b ≠ X.env.locals → s1.heap.get? b = some o → h'.get? b = some o := fun b o hb e => (RL.2 b hb).trans e
  have e0 : ∀ b o, X.fJ.heap.get? b = some o → b ≠ X.env.locals := fun b o e => bC (cA (aQ e) I.ok.above)
  refine ⟨I2.ok, I2.os, I2.bare, ⟨fun b o e n' hb hx => kp b o (e0 b o e) (I2.base.keep b o e n' hb hx), fun b o e n' hb hx => ?_, I2.base.free, fun b o e hx => ?_, I2.base.i', I2.base.iK, I2.base.g9⟩, ⟨_, RK, fun j y v e1 e2 e3 => ?_⟩, fun y c e => ?_, I2.free, I2.ej, fun p hp => ?_, ?_, I2.len⟩
  · obtain ⟨sl, q⟩ := I2.base.slot b o e n' hb hx
    exact ⟨_, kp b _ (e0 b o e) q⟩
  · obtain ⟨o', q⟩ := I2.base.there b o e hx
    exact ⟨_, kp b _ (e0 b o e) q⟩
  · by_cases hj : j = i
    · subst hj
      rw [bH li] at e2
      cases e2
    · rw [aO (aJ hj)] at e2
      have ny : y ≠ n := fun z => by
        subst z
        exact hj (Dh hN e1 hi)
      obtain ⟨u2, r2, l2⟩ := hl j y v e1 (by rwa [aO (aJ hj)]) e3
      refine ⟨_, r2, ?_⟩
      rcases l2 with ⟨k1, k2⟩ | ⟨k1, c, k2, ob, k3, k4⟩
      · exact .inl ⟨k1, by show (if y = n then u' else m y) = _; rwa [ao ny]⟩
      · exact .inr ⟨k1, c, k2, _, kp c _ (I1.ud y c k2) k3, k4⟩
  · obtain ⟨v, ob, k3, k4⟩ := I2.cell y c e
    exact ⟨v, _, kp c _ (I2.ud y c e) k3, k4⟩
  · obtain ⟨a1, a2, a3, a4, a5⟩ := I2.pin p hp
    exact ⟨kp _ _ a3 a1, a2, a3, a4, a5⟩
  · intro a o e
    refine (I2.bF a o e).i_ (fun b v hb q => kp b v (fun z => ?_) q) (fun _ q => q) fun _ _ q => q
    have fr := I2.free
    rcases hb with rfl | hb
    · rw [z, fr] at e; cases e
    · rw [z, fr] at hb; cases hb
def Cx.guard (X : Cx) (pl : List (Addr × Obj)) (xe : Value → Shared → Prop) : Cx := { X with pn := pl, xe := xe }
theorem Inv.guard {pins : List (Addr × Obj)} {σ : St} {H : Hp} {s : Shared} (I : Inv X pins σ H s) (xe : Value → Shared → Prop) : Inv (X.guard (X.pn ++ pins) xe) [] σ H s :=
  ⟨⟨I.ok.mod, I.ok.kind, I.ok.glob, I.ok.blt, I.ok.above, I.ok.inj, I.ok.has, I.ok.wg, I.ok.hd, I.ok.frames, I.ok.xE, I.ok.AX, I.ok.bs, I.ok.rP, I.ok.pP, I.ok.qW, I.ok.ja, I.ok.sQ, I.ok.tb⟩, I.os, I.bare, I.base, I.loc, I.cell, I.free, I.ej,
    fun p hp => I.pin p (by rwa [f_] at hp), I.bF, I.len⟩
theorem Inv.dW {pins vH : List (Addr × Obj)} {σ : St} {H : Hp} {s : Shared} {xe : Value → Shared → Prop} (ok : X.Ok) (I : Inv (X.guard (X.pn ++ pins) xe) vH σ H s) : Inv X pins σ H s :=
  ⟨ok, I.os, I.bare, I.base, I.loc, I.cell, I.free, I.ej, fun p hp => I.pin p (dq _ hp), I.bF, I.len⟩
theorem RM (hex : X.ex = []) (Bu : X.stack = X.env :: X.outer) (Bv : X.env.frame = some X.env.locals) (hN : X.N.Nodup) (hi : X.N[i]? = some n) (hn : X.env.kindOf n = some .local) (hg : Gl X x) (D_ : X.mg x = some (.ref D')) (hD : PySem.W.mroIn X.K D' (.type "BaseException") = some true)
    (hb : ∀ (E : St → XK) (pl : List (Addr × Obj)) (xe : Value → Shared → Prop), zt (rV X.prog X.w) (X.guard pl xe) E → km (X.guard pl xe) body (tb E)) (hh : ∀ ea, km (X.c_ ea) (p9 :: c_) th) (Ea : (x == ("__debug__" : Str)) = false := by decide) :
    PS X (.Try body [.ExceptHandler (some (.Name x np)) (some n) (p9 :: c_) rj] [] [] pos) (zv X.K D' tb i th) := by
  intro pins s σ H D I h
  have ok := I.ok
  refine wpAny_Try_except (cw (hb _ (X.pn ++ pins) (fun e zw => wpAny (model X.prog X.w) X.A (noteFrame e X.env) (fun _ Eb => wpAny (model X.prog X.w) X.A (setFlight e none) (fun _ Ec => wpAny (model X.prog X.w) X.A (handleBy e X.env [.ExceptHandler (some (.Name x np)) (some n) (p9 :: c_) rj]) (SP X pins D) X.xe Ec) X.xe Eb) X.xe zw) ?_ [] s σ H D (I.guard _) h) (fun f s1 q => ?_) fun _ _ q => q)
  · -- an exception of the body
    rintro vH lV H1 s1 e s2 I1 ⟨ea, C, c9, H', rfl, F, C', Ee, hm, Ef⟩
    cases Ee
    have J1 : Inv X pins lV H1 s1 := I1.dW ok
    have F' : D8 X.prog X.w (X.env :: X.outer) H1 s1 ea (.ref C) c9 H' s2 := by
      rwa [← Bu]
    obtain ⟨Eg, zx, ju, B, fl, bF, vI⟩ := F'
    have Eh : X.A.frames = some (X.env :: X.outer) := by rw [← Bu]; exact ok.frames
    -- zy the heap behind
    have land : ∀ h' , kb B (X.env :: X.outer) ea (.ref C) c9 .none h' → s2.heap.UpToSlots h' → Inv X pins lV H' { s2 with heap := h' } := fun h' F' up => by
      obtain ⟨u, _⟩ := Bo (fs := lC (X.env :: X.outer)) (fr := lC (X.env :: X.outer)) (h0 := s1.heap) (h1 := s1.heap) (h3 := h') (B := B) (L := s1.heap.objs.size) Un.refl ju (aB _) (fun b hb => bz _ hb) (fun b hb => hb)
        (fun b hb => J1.jb b (by simp_all)) (fun b hb o e => by
          obtain ⟨_, o', xR, Bw⟩ := fl.p5.mem hb
          simp_all) up F'.stays vI
      obtain ⟨RN, g2, d2, t2, Ei⟩ := s2
      obtain rfl : Ei = s1.os := Eg
      show Inv X pins lV H' { s1 with heap := h', gens := g2, drawn := d2, toks := t2 }
      exact J1.call (h' := h') (g' := g2) (d' := d2) (t' := t2) (ch := []) (by simp_all) (bF.JZ F'.stays) zx fun b z => absurd z (by simp)
    refine D7 Eh Bv fl fun h1 F1 up1 => (xT F1 fun h2 F2 J7 => ?_)
    have J2 := land h2 F2 (up1.trans J7)
    obtain ⟨T, _, ⟨oe, vs, _, _, he, hc, RO, hd, _⟩, _⟩ := F2.tr
    refine wpAny_handleBy_cons (codeAny_handlers_test (wh (X := X.c_ ea) (J2.c_ ea) hg D_ (J6 (K := X.K) J2.iQ he hc hm hD ?_) Ea)) (by intro z; cases z)
    refine codeAny_handlers_suite_as (xT F2 fun h3 F3 Ej => ?_)
    have J3 := land h3 F3 ((up1.trans J7).trans Ej)
    obtain ⟨T3, _, ⟨J8, RP, _, _, Bx, By, Ek, El, _⟩, _⟩ := F3.tr
    have nH : H' ea = none := bF.none_of F3.out
    have J9 : ea ∉ lC X.stack := fun z => by
      rw [Bu] at z
      obtain ⟨_, o', xR, Bw⟩ := F3.p5.mem z
      exact wL Bx El xR Bw rfl
    have nB : ∀ b o, s1.heap.get? b = some o → b ∉ lC X.stack → b ≠ ea := fun b o e hb z => by
      obtain ⟨o', e', _⟩ := vI b o e (by simp_all)
      rw [z, F3.out] at e'
      cases e'
    have nL : ea ≠ X.env.locals := fun z => J9 (by
      rw [Bu, z]
      exact lU.mpr ⟨X.env, lS, Bv⟩)
    have J4 : Inv (X.c_ ea) pins lV (upd H' ea (tu C c9 ea)) { s2 with heap := h3 } := (J3.c_ ea).zu nH (by
        cases z : X.fJ.heap.get? ea with
        | none => exact z
        | some o =>
          obtain ⟨o1, e1⟩ := J1.base.there ea o z (by rw [hex]; simp)
          exact absurd rfl (nB ea o1 e1 J9)) nL (fun y c e z => by
        obtain ⟨v, ob, k3, k4⟩ := J3.cell y c e
        rw [z] at k3
        have J_ : h3.get? ea = some ob := k3
        rw [Bx] at J_
        cases J_
        rw [El] at k4
        cases k4) (fun p hp => let ⟨a1, _, a3, a4, _⟩ := J1.pin p hp;nB p.1 p.2 a1 fun z => (aR.mp (J1.gJ p.1 z)).elim a3 a4)
      ⟨⟨J8, Bx, By, Ek, RP, El⟩, ⟨J8, Bx⟩, fun g1 g2 z k => let ⟨ob, z1, z2⟩ := z;⟨ob, k ob z1, z2⟩⟩
    refine yO (X := X.c_ ea) J4 hN hi (.inl hn) (v := .ref ea) rfl (fun s5 I5 => (cw (hh ea pins s5 _ _ _ I5 (Ef ea nH)) (fun f s6 q6 => ?_) fun _ _ z => z.elim)) (.inr hn)
    cases f with
    | next =>
      obtain ⟨tw, H6, I6, q6⟩ := q6
      exact Bt (I6.fj ok) hN hi hn fun s7 I7 => ⟨_, _, I7, q6⟩
    | brk =>
      obtain ⟨tw, H6, I6, q6⟩ := q6
      exact Bt (I6.fj ok) hN hi hn fun s7 I7 => ⟨_, _, I7, q6⟩
    | cont =>
      obtain ⟨tw, H6, I6, q6⟩ := q6
      exact Bt (I6.fj ok) hN hi hn fun s7 I7 => ⟨_, _, I7, q6⟩
    | ret v =>
      obtain ⟨v6, tw, H6, I6, r6, q6⟩ := q6
      exact Bt (I6.fj ok) hN hi hn fun s7 I7 => ⟨v6, _, _, I7, r6, q6⟩
  · cases f with
    | next =>
      obtain ⟨tw, H6, I6, q6⟩ := q
      exact jB ⟨tw, H6, I6.dW ok, q6⟩
    | brk =>
      obtain ⟨tw, H6, I6, q6⟩ := q
      exact ⟨tw, H6, I6.dW ok, q6⟩
    | cont =>
      obtain ⟨tw, H6, I6, q6⟩ := q
      exact ⟨tw, H6, I6.dW ok, q6⟩
    | ret v =>
      obtain ⟨v6, tw, H6, I6, r6, q6⟩ := q
      exact ⟨v6, tw, H6, I6.dW ok, r6, q6⟩
end
structure cO(K:PySem.W.Frag)(C:Addr):Prop where
 ga:PySem.W.findIn K (.ref C) "__getattribute__"=some (some (.builtin "BaseException.__getattribute__"))gn:PySem.W.findIn K (.ref C) "__getattr__"=some none
 hd:PySem.W.hasDictIn K C=true
 ha:PySem.W.findIn K (.ref C) "__class__"=some (some (.builtin "object.__class__"))hn:PySem.W.specialIn K (.builtin "object.__class__") "__get__"=some (some (.builtin "getset_descriptor.__get__"))I_:PySem.W.takesIn K (.builtin "object.__class__")=some true
 hm:PySem.W.mroIn K C (.type "object")=some true
 hb:PySem.W.mroIn K C (.type "BaseException")=some true
theorem RQ {K : PySem.W.Frag} {C : Addr} {od : Option Obj} {name : Str} {a g : Value} (hc : (PySem.W.clsIn K C).isSome = true) (ha : PySem.W.findIn K (.ref C) name = some (some a)) (hg : PySem.W.specialIn K a "__get__" = some (some g)) (ht : PySem.W.takesIn K a = some true) :
    PySem.W.findObj K C od name = some (.bind g a) := by
  obtain ⟨cd, hc⟩ := mu.mp hc
  unfold PySem.W.findObj
  rw [hc, o8, ha, o8]
  simp_all
set_option maxHeartbeats 4000000 in
theorem RS {K : PySem.W.Frag} {x C : Addr} {ox : Obj} {od : Option Obj} {prog : Program} {w : World} {A : Around} {E : Value → Shared → Prop} {Q : Option Value → Shared → Prop} {s : Shared} (Z : cO K C) (X : K.In s.heap) (I : PySem.W.InstAt s.heap x ox C od)
    (k : Q (some (.ref C)) { s with toks := s.toks + 1 }) : wpAny (model prog w) A (getAttr? (.ref x) "__class__") Q E s := by
  have hf : PySem.W.findObj K C od "__class__" = some (.bind (.builtin "getset_descriptor.__get__") (.builtin "object.__class__")) := RQ (by obtain ⟨cd, hc, _⟩ := kH Z.hd; simp_all) Z.ha Z.hn Z.I_
  have X' := X
  have I' := I
  have Z' := Z
  obtain ⟨hh, g, d, t, os⟩ := s
  have L0 := I.type (M := model prog w)
  have L1 := pz (M := model prog w) X Z.ga
  have L4 : PySem.W.Looks (model prog w) hh (isInstance (.ref x) (.type "BaseException")) true := L0.andThen (PySem.W.looks_mroIn X Z.hb)
  have f3 := F.attr_ValueError.ga.bind (.ref x)
  have ZR : ((false : Bool) && onTheHeap (Value.builtin "BaseException.__getattribute__")) = false := rfl
  have RT : (Value.builtin "BaseException.__getattribute__" == Value.builtin "object.__getattribute__") = false := by decide +kernel
  have ZS : (onTheHeap (Value.ref C) && Value.builtin "BaseException.__getattribute__" == Value.builtin "object.__getattribute__") = false := by rw [RT]; rfl
  unfold getAttr? getAttrBy?
  refine ah (wpAny_mkText (ah (wpAny_attempt ?_)))
  repeat (any_goals (first | assumption | with_reducible refine ft L0 ?_ | with_reducible refine ft L1 ?_ | with_reducible refine ft (pz (M := model prog w) X Z.gn) ?_ | wp_step))
  have hk : builtinKind "BaseException.__getattribute__" = some .slot := by decide +kernel
  have wM : splitId "BaseException.__getattribute__" = some ("BaseException", "__getattribute__") := by decide +kernel
  have ZT := F.args_bexc_ga (.ref x) (.str "__class__" t)
  refine codeAny_call_builtin F.attr_ValueError.ga.plain F.entry_bexc_ga ?_
  simp only [checkBuiltinCall, hk, wM]
  repeat (any_goals (first | assumption | with_reducible refine ft L4 ?_ | with_reducible refine ft L0 ?_ | with_reducible refine ft (PySem.W.looks_find (M := model prog w) X I hf) ?_ | wp_step))
  exact PySem.W.class_get (s := ⟨hh, g, d, t + 1, os⟩) (ox := ox) (od := od) X I Z.hm (au (PySem.W.handed_on rfl (au k)))
theorem J' {K : PySem.W.Frag} {x C : Addr} (Z : cO K C) : PySem.W.KitX K (.ref x) (.ref C) (fun h => ∃ ox od, PySem.W.InstAt h x ox C od) where
  ty := fun _ _ _ I => let ⟨_, _, I⟩ := I;I.type
  it := fun _ _ X _ => by
    obtain ⟨cd, hc, _⟩ := kH Z.hd
    unfold PySem.W.clsIn at hc
    split at hc
    · rename_i ho
      intro A' Q' E' s' k q
      exact ah (wpAny_loadPart (k _ _ (X _ _ ho)) (au q))
    simp_all
  ne := fun h tp dd its n sl X RU => by
    obtain ⟨cd, hc, _⟩ := kH Z.hd
    refine sj.mpr fun q => ?_
    have e  := Value.ref.inj (mz.mp q)
    subst e
    unfold PySem.W.clsIn at hc
    split at hc
    · rename_i ho
      cases ((X _ _ ho).symm.trans RU)
    simp_all
  ca := fun {prog w A E Q s} X I k => let ⟨_, _, I⟩ := I;RS Z X I k
theorem mS {K : PySem.W.Frag} {C D : Addr} {b : Bool} (h1 : PySem.W.hasDictIn K D = true) (h2 : PySem.W.typeIn K (.ref D) = some (.type "type")) (h3 : PySem.W.mroIn K C (.ref D) = some b) : PySem.W.kitCls K (.ref C) (.ref D) = some b := by
  obtain ⟨cd, hc, _⟩ := kH h1
  show (if ((PySem.W.clsIn K D).isSome && PySem.W.typeIn K _ == some _) = true then PySem.W.subIn K _ _ else none) = some b
  rwa [hc, h2]
theorem je {K : PySem.W.Frag} {C D : Addr} {b : Bool} (h1 : PySem.W.hasDictIn K D = true) (h2 : PySem.W.typeIn K (.ref D) = some (.type "type")) (h3 : PySem.W.mroIn K C (.ref D) = some b) (h4 : PySem.W.mroIn K C (.ref C) = some true) : PySem.W.kitOne K (.ref C) (.ref D) = some b := by
  unfold PySem.W.kitOne
  by_cases e : C = D
  · simp_all
  · rw [ao (by simp_all)]
    exact mS h1 h2 h3
theorem tD {K : PySem.W.Frag} {C : Addr} {S : String} {b : Bool} (h1 : PySem.W.kitMeta S = true) (h2 : PySem.W.mroIn K C (.type S) = some b) : PySem.W.kitOne K (.ref C) (.type S) = some b := by
  show (if PySem.W.kitMeta S = true then PySem.W.subIn K _ _ else none) = some b
  rwa [ak h1]
theorem ke : PySem.W.kitMeta "ValueError" = true := rfl
section
variable{X:Cx}
def zA (K : PySem.W.Frag) : List V → Hp → VK → Prop := fun xs H Q => ∃ a C c9 c cv b, xs = [.ref a, c] ∧ uM c = some cv ∧ H a = some (tu C c9 a) ∧ (∀ dx, c9 = some dx → ∃ fs, H dx = some (.xd fs)) ∧ cO K C ∧ PySem.W.kitOne K (.ref C) cv = some b ∧ Q (.bl b) H
theorem xV : cj X (.builtin "isinstance") (zA X.K) := by
  rintro pins s σ H xs us Q I r ⟨a, C, c9, c, cv, b, rfl, hc, hH, RV, Z, hk, q⟩
  obtain ⟨u, v, rfl, rx, ry⟩ := y_ r
  cases JI hc ry
  cases (rx)
  obtain ⟨⟨ob, h1, h2, h3, vs, h4⟩, _⟩ := I.bF a _ hH
  cases c9 with
  | none => exact dR (J' Z) I.iQ ⟨_, none, h1, h2, by unfold PySem.W.notCls; rw [h4], by rw [h3]; trivial⟩ hk (fun z => nomatch z) fun tk => ⟨.bl b, H, I.tok _, rfl, q⟩
  | some dx =>
    obtain ⟨fs, RW⟩ := RV _ rfl
    obtain ⟨_, ⟨od, _, _, ZU, _⟩, _⟩ := (I.bF dx _ RW)
    exact dR (J' Z) I.iQ ⟨_, some od, h1, h2, by unfold PySem.W.notCls; rw [h4], by simp_all⟩ hk (fun z => nomatch z) fun tk => ⟨.bl b, H, I.tok _, rfl, q⟩
end
section
variable{P:Program}{w:World}{K:PySem.W.Frag}{mg:Str->Option Value}{base:Heap}{N:List Str}{qual:Str}{scope:Scope}{f:Addr}{cd:Value}{A:Around}{outer:List Env}{s0:Shared}{H0:Hp}{E:XK}
theorem Em:Made (tq P w K mg base N qual scope f cd A outer s0 H0 E) (fun _=>E):=fun _ _ _ _ _ _ _ _ I b os a q=>RG I b os a q
theorem xW:zt (rV P w) (tq P w K mg base N qual scope f cd A outer s0 H0 E) (fun _=>E):=fun _ _ _ _ _ _ I h=>RH I h
theorem Bz:rS (rV P w) X E0:=fun _ _ _ _ _ _ _ h=>by obtain⟨_,_,_,_,_,_,z⟩:=h;grind
theorem ju.Ka{x qual:Str}{st:Stmt}{f:Addr}{N ps:List Str}(F:ju K x qual st f fd)(S:cb N ps (dJ st))(c:∀vs H Q E,sp vs H Q E->vs.length=ps.length) (b:∀(a:Value)(A:Around)(outer:List Env)(s:Shared)(H:Hp)(vs:List V)(Q:VK)(E:XK),cN k (A.deeper (envOfC qual (dJ st) s.heap.objs.size f a))->sp vs H Q E-> ∃t,km (tq P w K mg base N qual (dJ st) f a A outer s H E) (nX st) t/\t {nx:=fun _ H'=>Q .non H',rt:=Q} (start N vs) H):b_ P w K mg base (rV P w) (k+1) f fd ps sp:=by obtain⟨p,n,kV,h,l,m,a,o,j,rfl,g,d⟩:=F.ex;exact DC g d S c fun A outer s H vs Q E i e=>b _ A _ s H _ Q E i e
end
end L2
namespace PM
open PySem L2
inductive D where |non|bl(b:Bool)|int(i:Int)|str(x:Str)|tup(l:List D)|lst(l:List D)|c9(ks:List Key)(l:List D)|du(l:List Int)|exc(c:Nat)|fd(ks:List Key)(l:List D)|obj(c:Nat)(ks:List Str)(l:List D)
structure Kx where
 f:W.Frag
 ca:Nat->Addr
 an:Nat->Str
def XA(K:Kx)(F:Hp)(c:Nat)(a:Option Addr):Prop:=if c<16 then a=none else∃b,a=some b/\F b=some (.xd [(K.an c,.int (((c/16:Nat):Int)-1))])
section
variable (K : Kx)
mutual
def Rep (F : Hp) : D -> V -> Prop
 | .non, v => v = .non
 | .bl b, v => v = .bl b
 | .int i, v => v = .int i
 | .str x, v => v = .str x
 | .du l, v => ∃ a, v = .ref a /\ gh K.f F a (l.map V.int)
 | .exc c, v => ∃ a h, v = .ref a /\ F a = some (tu (K.ca c) h a) /\ XA K F c h
 | .tup l, v => ∃ a g, v = .ref a /\ F a = some (.tup g) /\ aF F l g
 | .fd j l, v => ∃ a o f, v = .ref a /\ F a = some (.fB o (.dK f)) /\ f.map (·.1) = j /\ aF F l (f.map (·.2))
 | .obj c j l, v => ∃ a m k, v = .ref a /\ F a = some (.ins (K.ca c) m k) /\ k.map (·.1) = j /\ aF F l (k.map (·.2))
 | .lst l, v => ∃ a g, v = .ref a /\ F a = some (.lst g) /\ aF F l g
 | .c9 j l, v => ∃ a f, v = .ref a /\ F a = some (.dK f) /\ f.map (·.1) = j /\ aF F l (f.map (·.2))
def aF (F : Hp) : List D -> List V -> Prop
 | [], g => g = []
 | d :: l, g => ∃ v r, g = v :: r /\ Rep F d v /\ aF F l r
end
end
def dt{α:Type}(p:Prop)(a b:α):α:=@ite α p (Classical.propDecidable p) a b
@[simp] theorem gq(h:p):dt p a b=a:=ak h
theorem Kb(h:¬p):dt p a b=b:=ao h
structure Xc where c:Nat
inductive R(α:Type) where |no|ok(a:α)|ex(x:Xc)
namespace R
noncomputable def bind{α b:Type}:R α->(α->R b)->R b |.no,_=>.no |.ok a,f=>f a |.ex x,_=>.ex x
@[simp] theorem aC(a:α)(f:α->R b):(R.ok a).bind f=f a:=rfl
@[simp] theorem ZV {α β : Type} (f : α → R β) : (R.no : R α).bind f = .no := rfl
@[simp] theorem ZW {α β : Type} (x : Xc) (f : α → R β) : (R.ex x : R α).bind f = .ex x := rfl
end R
inductive Tr where |d(x:D)|l(ts:List Tr)|t(ts:List Tr)
mutual
def rW : Tr -> D
 | .d x => x
 | .l b => .lst (kO b)
 | .t b => .tup (kO b)
def kO : List Tr -> List D
 | [] => []
 | t :: b => rW t :: kO b
end
inductive Sl where |no|v(d:D)|o(d:D)|l(d:D)|p(T:Tr)
abbrev En:=List Sl
inductive O where |no|nx(δ:En)|rt(d:D)|ro(d:D)|bk(δ:En)|ct(δ:En)|ex(δ:En)(x:Xc)
structure Ext(F H F' H':Hp):Prop where
 ff:aD F F'
 hh:aD H H'
 fh:aD F' H'
 nw:∀p o,F p=none->H p=some o->F' p=none
theorem Ext.refl(s:aD F H):Ext F H F H:=⟨.refl _,.refl _,s,fun _ _ h _=>h⟩
theorem Ext.trans(a:Ext F H e g)(b:Ext e g h f):Ext F H h f:= ⟨a.ff.trans b.ff,a.hh.trans b.hh,b.fh,fun p o d c=>b.nw p o (a.nw p o d c) (a.hh p o c)⟩
theorem Ext.new(s:aD F H)(h:H p=none):Ext F H (upd F p o) (upd H p o):=by
  refine⟨aD.upd (s.free h),aD.upd h,fun b u q=>?_,fun q u c a=>?_⟩
  . by_cases e:b=p;.subst e;rwa[b9] at q⊢
    .rw[a9 e] at q⊢;exact s _ _ q
  .rwa[a9 (eF a h)]
theorem Ext.eM(s:aD F H)(h:H p=none):Ext F H F (upd H p o):=by refine⟨.refl _,aD.upd h,s.trans (aD.upd h),fun q u a b=>a⟩
theorem aD.rd(e:aD H H')(h:Rd H a u):Rd H' a u:=h.elim (fun h=>.inl (e _ _ h)) fun⟨o,h⟩=>.inr ⟨o,e _ _ h⟩
theorem aD.xX(e:aD H H')(h:H a=some u):Rd H' a u:=.inl (e _ _ h)
section
variable{K:Kx}{F F' H H':Hp}
theorem XA.mono(h:XA K F c a)(e:aD F F'):XA K F' c a:=by
 unfold XA at h⊢;split;.simp_all
 .rename_i d;rw[ao d] at h;obtain⟨g,f,b⟩:=h;exact⟨_,f,e _ _ b⟩
mutual
theorem Rep.mono (e : aD F F') : ∀ (d : D) {v : V}, Rep K F d v -> Rep K F' d v
 | .non, v, h => by simpa [Rep] using h
 | .bl b, v, h => by simpa [Rep] using h
 | .int b, v, h => by simpa [Rep] using h
 | .str b, v, h => by simpa [Rep] using h
 | .exc c, v, h => let ⟨a, _, f, g, i⟩ := h;⟨a, _, f, e _ _ g, i.mono e⟩
 | .fd _ l, v, h => let ⟨a, o, _, f, g, j, i⟩ := h;⟨a, o, _, f, e _ _ g, j, aF.mono e l i⟩
 | .obj c _ l, v, h => let ⟨a, o, _, f, g, j, i⟩ := h;⟨a, o, _, f, e _ _ g, j, aF.mono e l i⟩
 | .du l, v, h => let ⟨a, f, g⟩ := h;⟨a, f, e.seq g⟩
 | .tup l, v, h => let ⟨a, _, f, g, i⟩ := h;⟨a, _, f, e _ _ g, aF.mono e l i⟩
 | .lst l, v, h => let ⟨a, _, f, g, i⟩ := h;⟨a, _, f, e _ _ g, aF.mono e l i⟩
 | .c9 _ l, v, h => let ⟨a, _, f, g, j, i⟩ := h;⟨a, _, f, e _ _ g, j, aF.mono e l i⟩
theorem aF.mono (e : aD F F') : ∀ (l : List D) {k : List V}, aF K F l k -> aF K F' l k
 | [], k, h => by simpa only [aF] using h
 | d :: l, k, h => by
  simp only [aF] at h ⊢
  obtain ⟨v, r, f, g, i⟩ := h
  exact ⟨v, r, f, Rep.mono e d g, aF.mono e l i⟩
end
theorem aF.length:∀{l:List D}{vs:List V},aF K F l vs->vs.length=l.length |[],vs,h=>by simp[aF] at h;simp_all |d::l,vs,h=>by obtain⟨v,r,rfl,_,a⟩:=h;simp[aF.length a]
theorem aF.get:∀{l:List D}{vs:List V}{i:Nat}{d:D},aF K F l vs->l[i]?=some d->∃v,vs[i]?=some v/\Rep K F d v |[],vs,i,d,h,e=>by simp at e |x::l,vs,0,d,h,e=>by obtain⟨v,r,rfl,b,a⟩:=h;simp_all |x::l,vs,i+1,d,h,e=>by obtain⟨v,r,rfl,b,a⟩:=h;obtain⟨u,f,c⟩:=aF.get a (i:=i) (d:=d) (by simp_all);simp_all
theorem aF.nil:aF K F [] []:=rfl
theorem aF.cons{d:D}{l:List D}{v:V}{vs:List V}(h1:Rep K F d v)(h2:aF K F l vs):aF K F (d::l) (v::vs):=by simp[aF];grind
theorem aF.append:∀{l:List D}{vs:List V}{b:List D}{a:List V},aF K F l vs->aF K F b a->aF K F (l++b) (vs++a) |[],vs,b,a,h,c=>by simp[aF] at h;simp_all |d::l,vs,b,a,h,c=>by obtain⟨v,r,rfl,f,e⟩:=h;exact .cons f (aF.append e c)
theorem aF.drop:∀{l:List D}{vs:List V}(n:Nat),aF K F l vs->aF K F (l.drop n) (vs.drop n) |l,vs,0,h=>h |[],vs,n+1,h=>by subst h;rfl |d::l,vs,n+1,h=>by obtain⟨v,r,rfl,b,a⟩:=h;exact aF.drop n a
theorem aF.take:∀{l:List D}{vs:List V}(n:Nat),aF K F l vs->aF K F (l.take n) (vs.take n) |l,vs,0,h=>rfl |[],vs,n+1,h=>by subst h;rfl |d::l,vs,n+1,h=>by obtain⟨v,r,rfl,a,b⟩:=h;exact .cons a (aF.take n b)
theorem aF.set:∀{l:List D}{vs:List V}{d:D}{v:V}(i:Nat),aF K F l vs->Rep K F d v->aF K F (l.set i d) (vs.set i v) |[],vs,d,v,i,h,_=>by subst h;rfl |x::l,vs,d,v,0,h,a=>by obtain⟨u,r,rfl,c,b⟩:=h;exact .cons a b |x::l,vs,d,v,i+1,h,a=>by obtain⟨u,r,rfl,c,b⟩:=h;exact .cons c (aF.set i b a)
theorem aF.ints{ns:List Int}:aF K F (ns.map .int) (ns.map .int):=by induction ns with |nil=>rfl |cons a l d=>exact .cons rfl d
end
section
variable (K : Kx)
def Top(F H:Hp):D->V->Prop |.lst l,v=>∃a g,v=.ref a/\Rd H a (.lst g)/\aF K F l g |.c9 f l,v=>∃a b,v=.ref a/\H a=some (.dK b)/\b.map (·.1)=f/\aF K F l (b.map (·.2)) |.obj c f l,v=>∃a h e,v=.ref a/\H a=some (.ins (K.ca c) h e)/\e.map (·.1)=f/\aF K F l (e.map (·.2)) |d,v=>Rep K F d v
def Own(F H:Hp):D->Addr->Prop |.lst l,a=>∃f,H a=some (.lst f)/\aF K F l f |.c9 e l,a=>∃b,H a=some (.dK b)/\b.map (·.1)=e/\aF K F l (b.map (·.2)) |.obj c e l,a=>∃g d,H a=some (.ins (K.ca c) g d)/\d.map (·.1)=e/\aF K F l (d.map (·.2)) |_,_=>False
mutual
def eB (F H : Hp) : Tr -> V -> List Addr -> Prop
 | .d x, v, e => e = [] /\ Rep K F x v
 | .l f, v, e => ∃ a c h, v = .ref a /\ e = a :: h /\ H a = some (.lst c) /\ bE F H f c h
 | .t f, v, e => ∃ a c, v = .ref a /\ F a = some (.tup c) /\ bE F H f c e
def bE (F H : Hp) : List Tr -> List V -> List Addr -> Prop
 | [], c, e => c = [] /\ e = []
 | t :: f, c, e => ∃ v r j g, c = v :: r /\ e = j ++ g /\ eB F H t v j /\ bE F H f r g
end
structure Tab(F H:Hp)(a:Addr)(bs:List Addr)(T:Tr):Prop where ok:eB K F H T (.ref a) (a::bs)nd:(a::bs).Nodup
def uN(c F H:Hp):Option Sl->Option (Option V)->Prop |some (.v d),s=>∃u,s=some (some u)/\Rep K F d u |some (.o d),s=>∃a,s=some (some (.ref a))/\c a=none/\F a=none/\Own K F H d a |some (.l d),s=>∃a,s=some (some (.ref a))/\c a=none/\F a=none/\Own K F H d a |some (.p T),s=>∃a e,s=some (some (.ref a))/\Tab K F H a e T/\∀b∈a::e,c b=none/\F b=none |_,_=>True
end
def Sl.own:Option Sl->Bool |some (.o _)=>true |some (.l _)=>true |some (.p _)=>true |_=>false
structure aA(K:Kx)(Λ:List (Nat×Addr×HO))(F0 H0 F H:Hp)(σ:St)(δ:En):Prop where
 ext:Ext F0 H0 F H
 len:σ.length=δ.length
 slot:∀i:Nat,uN K H0 F H δ[i]? σ[i]?dist:∀(i j:Nat)(a:Addr),i≠j->Sl.own δ[i]?=true->Sl.own δ[j]?=true->σ[i]?=some (some (.ref a))->σ[j]?=some (some (.ref a))->False
 gO:∀x∈Λ,(∃d,δ[x.1]?=some (.l d))/\σ[x.1]?=some (some (.ref x.2.1))/\H x.2.1=some x.2.2tabs:∀(i:Nat)(T:Tr),δ[i]?=some (.p T)->∃a bs,σ[i]?=some (some (.ref a))/\Tab K F H a bs T/\(∀b∈a::bs,H0 b=none/\F b=none)/\(∀(j:Nat)(b:Addr),j≠i->Sl.own δ[j]?=true->σ[j]?=some (some (.ref b))->b∉a::bs)/\∀(j:Nat)(T':Tr),j≠i->δ[j]?=some (.p T')->∃a' mT,σ[j]?=some (some (.ref a'))/\Tab K F H a' mT T'/\∀b∈a'::mT,b∉a::bs
section
variable{K:Kx}{Λ:List (Nat×Addr×HO)}{F0 H0 F H F' H' F1 H1:Hp}{σ:St}{δ:En}
theorem Own.mono(g:aD F F')(f:aD H H'):∀{d:D}{a:Addr},Own K F H d a->Own K F' H' d a |.lst l,a,h=>let⟨_,e,b⟩:=h;⟨_,f _ _ e,b.mono g⟩ |.c9 _ l,a,h=>let⟨_,e,i,b⟩:=h;⟨_,f _ _ e,i,b.mono g⟩ |.non,_,h=>h.elim |.bl _,_,h=>h.elim |.int _,_,h=>h.elim |.str _,_,h=>h.elim |.tup _,_,h=>h.elim |.du _,_,h=>h.elim |.exc _,_,h=>h.elim |.fd _ _,_,h=>h.elim |.obj c _ l,a,h=>let⟨_,_,e,i,b⟩:=h;⟨_,_,f _ _ e,i,b.mono g⟩
theorem Own.obj:∀{d:D}{a:Addr},Own K F H d a->∃o,H a=some o |.lst l,a,h=>let⟨_,b,_⟩:=h;⟨_,b⟩ |.c9 _ l,a,h=>let⟨_,b,_⟩:=h;⟨_,b⟩ |.non,_,h=>h.elim |.bl _,_,h=>h.elim |.int _,_,h=>h.elim |.str _,_,h=>h.elim |.tup _,_,h=>h.elim |.du _,_,h=>h.elim |.exc _,_,h=>h.elim |.fd _ _,_,h=>h.elim |.obj c _ l,a,h=>let⟨_,_,b,_⟩:=h;⟨_,b⟩
theorem Own.at(e:H' a=H a):∀{d:D},Own K F H d a->Own K F H' d a |.lst l,h=>let⟨_,b,f⟩:=h;⟨_,e.trans b,f⟩ |.c9 _ l,h=>let⟨_,b,g,f⟩:=h;⟨_,e.trans b,g,f⟩ |.non,h=>h.elim |.bl _,h=>h.elim |.int _,h=>h.elim |.str _,h=>h.elim |.tup _,h=>h.elim |.du _,h=>h.elim |.exc _,h=>h.elim |.fd _ _,h=>h.elim |.obj c _ l,h=>let⟨_,_,b,g,f⟩:=h;⟨_,_,e.trans b,g,f⟩
theorem Rep.top(s:aD F H):∀{d:D}{v:V},Rep K F d v->Top K F H d v |.lst l,v,h=>let⟨a,_,b,f,e⟩:=h;⟨a,_,b,PM.aD.xX s f,e⟩ |.c9 _ l,v,h=>let⟨a,_,b,f,e⟩:=h;⟨a,_,b,s _ _ f,e⟩ |.non,_,h=>h |.bl _,_,h=>h |.int _,_,h=>h |.str _,_,h=>h |.tup _,_,h=>h |.du _,_,h=>h |.exc _,_,h=>h |.fd _ _,_,h=>h |.obj c _ l,v,h=>let⟨a,_,_,b,f,e⟩:=h;⟨a,_,_,b,s _ _ f,e⟩
theorem Own.top:∀{d:D}{a:Addr},Own K F H d a->Top K F H d (.ref a) |.lst l,a,h=>let⟨_,b,e⟩:=h;⟨a,_,rfl,.inl b,e⟩ |.c9 _ l,a,h=>let⟨_,b,e⟩:=h;⟨a,_,rfl,b,e⟩ |.non,_,h=>h.elim |.bl _,_,h=>h.elim |.int _,_,h=>h.elim |.str _,_,h=>h.elim |.tup _,_,h=>h.elim |.du _,_,h=>h.elim |.exc _,_,h=>h.elim |.fd _ _,_,h=>h.elim |.obj c _ l,a,h=>let⟨_,_,b,e⟩:=h;⟨a,_,_,rfl,b,e⟩
theorem Top.mono(b:aD F F')(i:aD H H'):∀{d:D}{v:V},Top K F H d v->Top K F' H' d v |.lst l,v,h=>let⟨a,_,e,f,g⟩:=h;⟨a,_,e,PM.aD.rd i f,g.mono b⟩ |.c9 _ l,v,h=>let⟨a,_,e,f,j,g⟩:=h;⟨a,_,e,i _ _ f,j,g.mono b⟩ |.non,_,h=>h |.bl _,_,h=>h |.int _,_,h=>h |.str _,_,h=>h |.tup l,v,h=>Rep.mono b _ h |.du l,v,h=>Rep.mono b _ h |.exc l,v,h=>Rep.mono b _ h |.fd _ l,v,h=>Rep.mono b _ h |.obj c _ l,v,h=>let⟨a,_,_,e,f,j,g⟩:=h;⟨a,_,_,e,i _ _ f,j,g.mono b⟩
theorem Own.freeze(x:Ext F H F' H')(h0:F' p=none)(h1:H p=none)(o:Own K F' H' d p):∃g,Ext F H g H'/\aD F' g/\Rep K g d (.ref p):=by
  obtain⟨u,i⟩:=o.obj;have h:aD _ (upd _ p u):=aD.upd h0;refine⟨_,⟨x.ff.trans h,x.hh,fun b w q=>?_,fun q w a f=>?_⟩,h,?_⟩
  . by_cases e:b=p;.subst e;rw[b9] at q;simp_all
    .rw[a9 e] at q;exact x.fh _ _ q
  .rw[a9 (eF f h1)];exact x.nw q w a f
  .cases d with |lst l=> obtain⟨k,a,f⟩:=o;rw[i] at a;cases a;exact⟨p,_,rfl,b9,f.mono h⟩ |c9 n l=> obtain⟨k,a,f,j⟩:=o;rw[i] at a;cases a;exact⟨p,_,rfl,b9,f,j.mono h⟩ |obj c n l=> obtain⟨t,k,a,f,j⟩:=o;rw[i] at a;cases a;exact⟨p,_,_,rfl,b9,f,j.mono h⟩ |_=>exact o.elim
mutual
theorem eB.mono (e : aD F F') (b : aD H H') : ∀ (T : Tr) {v : V} {fp : List Addr}, eB K F H T v fp -> eB K F' H' T v fp
 | .d x, v, fp, h => ⟨h.1, Rep.mono e x h.2⟩
 | .l _, v, fp, h => let ⟨a, _, _, f, k, c, g⟩ := h;⟨a, _, _, f, k, b _ _ c, bE.mono e b _ g⟩
 | .t _, v, fp, h => let ⟨a, _, f, c, g⟩ := h;⟨a, _, f, e _ _ c, bE.mono e b _ g⟩
theorem bE.mono (e : aD F F') (b : aD H H') : ∀ (j : List Tr) {i : List V} {fp : List Addr}, bE K F H j i fp -> bE K F' H' j i fp
 | [], i, fp, h => by simpa only [bE] using h
 | t :: j, i, fp, h => by
  simp only [bE] at h ⊢
  obtain ⟨v, r, n, m, f, k, c, g⟩ := h
  exact ⟨v, r, n, m, f, k, eB.mono e b t c, bE.mono e b j g⟩
end
mutual
theorem eB.obj : ∀ (T : Tr) {v : V} {fp : List Addr}, eB K F H T v fp -> ∀ b ∈ fp, ∃ o, H b = some o
 | .d x, v, fp, h, b, c => by
  simp [eB] at h
  simp_all
 | .l _, v, fp, h, b, c => by
  obtain ⟨a, g, n, m, i, k, f⟩ := h
  rw [i] at c
  rcases aR.mp c with e | c
  . simp_all
  . exact bE.obj _ f b c
 | .t _, v, fp, h, b, c => let ⟨a, _, _, _, f⟩ := h;bE.obj _ f b c
theorem bE.obj : ∀ (j : List Tr) {g : List V} {fp : List Addr}, bE K F H j g fp -> ∀ b ∈ fp, ∃ o, H b = some o
 | [], g, fp, h, b, c => by
  simp only [bE] at h
  rw [h.2] at c; cases c
 | t :: j, g, fp, h, b, c => by
  simp only [bE] at h
  obtain ⟨v, r, p, q, m, i, k, f⟩ := h
  rw [i] at c
  rcases cD.mp c with c | c
  . exact eB.obj t k b c
  . exact bE.obj j f b c
end
mutual
theorem eB.at' : ∀ (T : Tr) {v : V} {fp : List Addr}, eB K F H T v fp -> (∀ b ∈ fp, H' b = H b) -> eB K F H' T v fp
 | .d x, v, fp, h, _ => by simpa [eB] using h
 | .l _, v, fp, h, e => by
  obtain ⟨a, g, p, c, m, j, i⟩ := h
  subst m
  exact ⟨a, _, _, c, rfl, (e a (by simp)).trans j, bE.at' _ i fun b f => e b (bz _ f)⟩
 | .t _, v, fp, h, e => let ⟨a, _, c, j, i⟩ := h;⟨a, _, c, j, bE.at' _ i e⟩
theorem bE.at' : ∀ (k : List Tr) {g : List V} {fp : List Addr}, bE K F H k g fp -> (∀ b ∈ fp, H' b = H b) -> bE K F H' k g fp
 | [], g, fp, h, _ => by simpa only [bE] using h
 | t :: k, g, fp, h, e => by
  simp only [bE] at h ⊢
  obtain ⟨v, r, n, o, c, m, j, i⟩ := h
  subst m
  exact ⟨v, r, n, o, c, rfl, eB.at' t j fun b f => e b (dq _ f), bE.at' k i fun b f => e b (c7 _ f)⟩
end
theorem Tab.mono(b:aD F F')(e:aD H H')(t:Tab K F H a bs T):Tab K F' H' a bs T:=⟨eB.mono b e T t.ok,t.nd⟩
theorem Tab.obj(t:Tab K F H a bs T):∀b∈a::bs,∃o,H b=some o:=eB.obj T t.ok
theorem Tab.at'(t:Tab K F H a bs T)(e:∀b∈a::bs,H' b=H b):Tab K F H' a bs T:=⟨eB.at' T t.ok e,t.nd⟩
theorem uN.mono(e:Ext F H F' H'):∀{x:Option Sl}{s:Option (Option V)},uN K H0 F H x s->uN K H0 F' H' x s |some (.v d),s,h=>let⟨u,f,c⟩:=h;⟨u,f,Rep.mono e.ff d c⟩ |some (.o d),s,h=>let⟨a,f,c,g,j⟩:=h;let⟨o,i⟩:=j.obj;⟨a,f,c,e.nw a o g i,j.mono e.ff e.hh⟩ |some (.l d),s,h=>let⟨a,f,c,g,j⟩:=h;let⟨o,i⟩:=j.obj;⟨a,f,c,e.nw a o g i,j.mono e.ff e.hh⟩ |some (.p T),s,h=>let⟨a,_,f,c,g⟩:=h;⟨a,_,f,c.mono e.ff e.hh,fun b k=>let⟨o,i⟩:=c.obj b k;⟨(g b k).1,e.nw b o (g b k).2 i⟩⟩ |some .no,_,_=>trivial |none,_,_=>trivial
mutual
theorem Kc : ∀ (T : Tr) {v : V} {f f' : List Addr}, eB K F H T v f -> eB K F H T v f' -> f = f'
 | .d x, v, f, f', c, g => by
  simp [eB] at c g
  simp_all
 | .l _, v, f, f', c, g => by
  obtain ⟨a, h, C, rfl, rfl, p, j⟩ := c
  obtain ⟨q, o, u, e, rfl, k, i⟩ := g
  cases e
  rw [p] at k
  cases k
  rw [Eo _ j i]
 | .t _, v, f, f', c, g => by
  obtain ⟨a, h, rfl, p, j⟩ := c
  obtain ⟨q, o, e, k, i⟩ := g
  cases e
  rw [p] at k
  cases k
  exact Eo _ j i
theorem Eo : ∀ (m : List Tr) {h : List V} {f f' : List Addr}, bE K F H m h f -> bE K F H m h f' -> f = f'
 | [], h, f, f', c, g => by
  simp only [bE] at c g
  rw [c.2, g.2]
 | t :: m, h, f, f', c, g => by
  simp only [bE] at c g
  obtain ⟨v, r, A, G, rfl, rfl, j, i⟩ := c
  obtain ⟨y, B, E, z, e, rfl, w, s⟩ := g
  cases e
  rw [Kc t j w, Eo m i s]
end
theorem BA(t:Tab K F H a bs T)(t':Tab K F H a mT T):bs=mT:=(List.cons.inj (Kc T t.ok t'.ok)).2
theorem aA.tab(I:aA K Λ F0 H0 F H σ δ)(e:δ[i]?=some (.p T)):∃a bs,σ[i]?=some (some (.ref a))/\Tab K F H a bs T/\(∀b∈a::bs,H0 b=none/\F b=none)/\(∀(j:Nat)(b:Addr),j≠i->Sl.own δ[j]?=true->σ[j]?=some (some (.ref b))->b∉a::bs)/\∀(j:Nat)(d:Tr),j≠i->δ[j]?=some (.p d)->∃c mT,σ[j]?=some (some (.ref c))/\Tab K F H c mT d/\∀b∈c::mT,b∉a::bs:=I.tabs i T e
theorem aA.gP{d:En}{c:St}(I:aA K Λ F0 H0 F H σ δ)(h1:∀(i:Nat)(T:Tr),d[i]?=some (.p T)->δ[i]?=some (.p T)/\c[i]?=σ[i]?) (h2:∀(i:Nat)(a:Addr)(bs:List Addr)(T:Tr),δ[i]?=some (.p T)->σ[i]?=some (some (.ref a))->Tab K F H a bs T->(∀b∈a::bs,H0 b=none/\F b=none)->(∀(j:Nat)(b:Addr),j≠i->Sl.own δ[j]?=true->σ[j]?=some (some (.ref b))->b∉a::bs)->Tab K F' H' a bs T/\∀b∈a::bs,F' b=none) (h3:∀(i j:Nat)(T:Tr)(a b:Addr)(bs:List Addr),δ[i]?=some (.p T)->σ[i]?=some (some (.ref a))->Tab K F H a bs T->j≠i->Sl.own d[j]?=true->c[j]?=some (some (.ref b))->(Sl.own δ[j]?=true/\σ[j]?=some (some (.ref b)))\/b∉a::bs): ∀(i:Nat)(T:Tr),d[i]?=some (.p T)->∃a bs,c[i]?=some (some (.ref a))/\Tab K F' H' a bs T/\(∀b∈a::bs,H0 b=none/\F' b=none)/\(∀(j:Nat)(b:Addr),j≠i->Sl.own d[j]?=true->c[j]?=some (some (.ref b))->b∉a::bs)/\∀(j:Nat)(q:Tr),j≠i->d[j]?=some (.p q)->∃h mT,c[j]?=some (some (.ref h))/\Tab K F' H' h mT q/\∀b∈h::mT,b∉a::bs:=by
  intro i T Q;obtain⟨n,N⟩:=h1 i T Q;obtain⟨a,bs,m,v,s,u,E⟩:=I.tab n;obtain⟨f,l⟩:=h2 i a _ T n m v s u;refine⟨a,_,N.trans m,f,fun b e=>⟨(s b e).1,l b e⟩,fun j b g y B e=>?_,fun j q g L=>?_⟩
  . rcases h3 i j T a b _ n m v g y B with⟨w,z⟩|o;.exact u j b g w z e
    .exact o e
  .obtain⟨r,C⟩:=h1 j _ L;obtain⟨h,mT,k,t,G⟩:=E j _ g r;obtain⟨S,J,f,l,x,A,_⟩:=I.tab r;rw[k] at f;cases f;have M:=BA l t;subst M;exact⟨_,_,C.trans k,(h2 j _ _ _ r k t x A).1,G⟩
theorem Kd(e:Ext F H F' H')(t:Tab K F H a bs T)(f:∀b∈a::bs,H0 b=none/\F b=none):Tab K F' H' a bs T/\∀b∈a::bs,F' b=none:= ⟨t.mono e.ff e.hh,fun b c=>let⟨o,d⟩:=t.obj b c;e.nw b o (f b c).2 d⟩
theorem aA.grow(I:aA K Λ F0 H0 F H σ δ)(e:Ext F H F' H'):aA K Λ F0 H0 F' H' σ δ:= ⟨I.ext.trans e,I.len,fun i=>(I.slot i).mono e,I.dist,fun x k=>let⟨d,c,l⟩:=I.gO x k;⟨d,c,e.hh _ _ l⟩,I.gP (fun i T h=>⟨h,rfl⟩) (fun i a n T _ _ t f _=>Kd e t f) fun i j T a b n _ _ _ _ g m=>.inl ⟨g,m⟩⟩
theorem aA.same(I:aA K Λ F0 H0 F H σ δ):aD F H:=I.ext.fh
theorem Ext.base(a:Ext F0 H0 F1 H1)(b:Ext F1 H0 F' H'):Ext F0 H0 F' H':= ⟨a.ff.trans b.ff,b.hh,b.fh,fun p o d c=>b.nw p o (a.nw p o d c) c⟩
theorem aA.up(I:aA K Λ F0 H0 F H σ δ):aA K Λ F H0 F H σ δ:= ⟨⟨.refl _,I.ext.hh,I.ext.fh,fun p o a b=>a⟩,I.len,I.slot,I.dist,I.gO,I.tabs⟩
theorem aA.down(a:Ext F0 H0 F1 H1)(I:aA K Λ F1 H0 F H σ δ):aA K Λ F0 H0 F H σ δ:= ⟨a.base I.ext,I.len,I.slot,I.dist,I.gO,I.tabs⟩
theorem aA.put(I:aA K Λ F0 H0 F H σ δ)(A:∃x,δ[i]?=some x/\∀d,x≠.l d)(r:Rep K F d v):aA K Λ F0 H0 F H (σ.set i (some v)) (δ.set i (.v d)):=by
  obtain⟨x,z,J⟩:=A;have o:=(cI.mp z).1;have p:i<σ.length:=by rwa[I.len]
  refine⟨I.ext,by simp[I.len],fun j=>?_,fun j k a q c m g w=>?_,fun y L=>?_,I.gP (fun k C h=>by
      by_cases e:i=k;.simp_all
      .rw[aO e] at h;exact⟨h,aO e⟩) (fun _ _ _ _ _ _ t f _=>⟨t,fun b B=>(f b B).2⟩) fun k j C a b Q _ _ _ _ s N=>.inl (by
      by_cases e:i=j;.subst e;rw[bH o] at s;cases s
      .simp_all)⟩
  . by_cases e:i=j;.subst e;rw[bH o,bH p];exact⟨v,rfl,r⟩
    .rw[aO e,aO e];exact I.slot j
  . have u:∀k,Sl.own (δ.set i (.v d))[k]?=true->i≠k:=by rintro k h rfl;rw[bH o] at h;cases h
    have G:=u j c;have E:=u k m;rw[aO G] at c g;rw[aO E] at m w;exact I.dist j k a q c m g w
  . obtain⟨⟨M,c⟩,m,g⟩:=I.gO y L;have n:i≠y.1:=by intro e;rw[<-e,z] at c;exact J _ (eU c)
    exact⟨⟨M,by simp_all⟩,by rwa[aO n],g⟩
theorem aA.Ep(I:aA K Λ F0 H0 F H σ δ)(Y:∃x,δ[i]?=some x/\∀d,x≠.l d)(e:Ext F H F' H')(h0:F' p=none)(h1:H p=none)(o:Own K F' H' d p): aA K Λ F0 H0 F' H' (σ.set i (some (.ref p))) (δ.set i (.o d)):=by
  obtain⟨x,M,X⟩:=Y;have hi:=(cI.mp M).1;have c:i<σ.length:=by rwa[I.len]
  have fresh:∀k,Sl.own δ[k]?=true->σ[k]?≠some (some (V.ref p)):=fun k w e=>by have z:=I.slot k;cases q:δ[k]? with |none=>rw[q] at w;cases w |some y=> rw[q] at w z;cases y with |no=>cases w |v d=>cases w |o d=> obtain⟨a,s,_,_,G⟩:=z;rw[e] at s;obtain⟨u,C⟩:=G.obj;simp_all |l d=> obtain⟨a,s,_,_,G⟩:=z;obtain⟨u,C⟩:=G.obj;simp_all |p Q=> obtain⟨a,U,s,z2,_⟩:=z;rw[e] at s;cases s;obtain⟨u,C⟩:=z2.obj p (by simp);simp_all
  have J:=I.grow e;refine⟨J.ext,by simp[I.len],fun j=>?_,fun j k a A m B g r=>?_,fun y Z=>?_,I.gP (fun k Q h=>by
      by_cases e:i=k;.simp_all
      .simp_all) (fun k a U T _ _ t f _=>Kd e t f) fun k j Q a b U _ _ t _ N E=>by
      by_cases e:i=j;.subst e;rw[bH c] at E;cases E;refine .inr fun hb=>?_;obtain⟨u,C⟩:=t.obj p hb;rw[h1] at C;cases C
      .rw[aO e] at N E;exact .inl ⟨N,E⟩⟩
  . by_cases e:i=j;.subst e;rw[bH hi,bH c];exact⟨p,rfl,I.ext.hh.free h1,h0,o⟩
    .rw[aO e,aO e];exact J.slot j
  . by_cases L:i=j;.subst L;rw[bH c] at g;cases g;rw[aO A] at B r;exact fresh k B r
    . by_cases S:i=k;.subst S;rw[bH c] at r;cases r;rw[aO L] at m g;exact fresh j m g
      .rw[aO L] at m g;rw[aO S] at B r;exact I.dist j k a A m B g r
  . obtain⟨⟨d',m⟩,B,g⟩:=J.gO y Z;have n:i≠y.1:=by intro e;rw[<-e,M] at m;exact X _ (eU m)
    exact⟨⟨_,by rwa[aO n]⟩,by rwa[aO n],g⟩
theorem aA.chg(I:aA K Λ F0 H0 F H σ δ)(c:δ[i]?=some (.o d))(B:σ[i]?=some (some (.ref a)))(o:Own K F (upd H a u) d' a): aA K Λ F0 H0 F (upd H a u) σ (δ.set i (.o d')):=by
  have X:=(cI.mp c).1;have z:=I.slot i;rw[c] at z;obtain⟨a',Q,Y,N,z4⟩:=z;rw[B] at Q;cases Q;have g:∀(k:Nat)(b:Addr),i≠k->Sl.own _=true->σ[k]?=some (some _)->b≠a:=fun k b hk h1 h2 e=>by subst e;exact I.dist i k b hk (by rw[c];rfl) h1 B h2
  refine⟨⟨I.ext.ff,fun b w q=>?_,fun b w q=>?_,I.ext.nw⟩,by simp[I.len],fun j=>?_,fun j k b G m A g3 g4=>?_,fun y hy=>?_,I.gP (fun k U h=>by
      by_cases e:i=k;.subst e;rw[bH X] at h;cases h
      .rw[aO e] at h;grind) (fun k r Z T m A t f dj=>by
      have e:i≠k:=fun e=>by simp_all
      exact⟨t.at' fun b s=>a9 fun J=>dj i a e (by rw[c];rfl) B (J▸s),fun b s=>(f b s).2⟩) fun k j U r b Z _ _ _ _ S hs=>.inl (by
      by_cases e:i=j;.subst e;exact⟨by rw[c];rfl,hs⟩
      .rw[aO e] at S;exact⟨S,hs⟩)⟩;.rw[a9 (eF q Y)];exact I.ext.hh b w q
  .rw[a9 (eF q N)];exact I.ext.fh b w q
  . by_cases e:i=j;.subst e;rw[bH X];exact⟨a,B,Y,N,o⟩
    .rw[aO e];have w:=I.slot j;cases q:δ[j]? with |none=>trivial |some y=> rw[q] at w;cases y with |no=>trivial |v d=>exact w |o d=> obtain⟨b,x,L,E,C⟩:=w;exact⟨b,x,L,E,C.at (a9 (g j b e (by rw[q];rfl) x))⟩ |l d=> obtain⟨b,x,L,E,C⟩:=w;exact⟨b,x,L,E,C.at (a9 (g j b e (by rw[q];rfl) x))⟩ |p U=> obtain⟨r,Z,t1,t2,t3,t4,t5⟩:=I.tab q;exact⟨r,_,t1,t2.at' fun b s=>a9 fun J=>t4 i a e (by rw[c];rfl) B (J▸s),t3⟩
  . have M:∀k:Nat,Sl.own (δ.set i (.o d'))[k]?=true->Sl.own δ[k]?=true:=by
      intro k h;by_cases e:i=k;.subst e;rw[c];rfl
      .rwa[aO e] at h
    exact I.dist j k b G (M j m) (M k A) g3 g4
  . obtain⟨⟨d2,m⟩,A,g3⟩:=I.gO y hy;have n:i≠y.1:=by intro e;rw[<-e,c] at m;cases m
    exact⟨⟨_,by rwa[aO n]⟩,A,by rwa[a9 (g _ _ n (by rw[m];rfl) A)]⟩
end
abbrev cX:=Xc->Hp->Hp->Value->Option Addr->Prop
def fH{α:Type}(E:St->XK)(XO:cX)(σ:St)(F H:Hp)(P:α->Hp->Hp->Prop):R α->Prop |.no=>False |.ok a=>∀d b,Ext F H d b->P a d b |.ex x=>∀C c d b,Ext F H d b->XO x d b C c->E σ C c b
section
variable{E:St->XK}{XO:cX}{σ:St}{F H F1 H1:Hp}{α β:Type}{P P':α->Hp->Hp->Prop}
theorem fH.mono(e:Ext F H F1 H1):∀{r:R α},fH E XO σ F H P r->fH E XO σ F1 H1 P r |.no,h=>h |.ok _,h=>fun d c a=>h _ _ (e.trans a) |.ex _,h=>fun C b d c a x=>h C _ _ _ (e.trans a) x
theorem fH.imp(i:∀a F1 H1,Ext F H F1 H1->P a F1 H1->P' a F1 H1):∀{r:R α},fH E XO σ F H P r->fH E XO σ F H P' r |.no,h=>h |.ok _,h=>fun c d b=>i _ _ _ b (h _ _ b) |.ex _,h=>h
theorem fH.bind{P:β->Hp->Hp->Prop}:∀{r:R α},fH E XO σ F H P (r.bind f)->fH E XO σ F H (fun a F1 H1=>fH E XO σ F1 H1 P (f a)) r |.no,h=>h |.ok _,h=>fun c d b=>fH.mono b h |.ex _,h=>h
end
inductive tE(T:D->V->Prop):List D->List V->Prop where |nil:tE T [] [] |cons{d:D}{v:V}{ds:List D}{vs:List V}:T d v->tE T ds vs->tE T (d::ds) (v::vs)
section
variable(K:Kx)(XO:cX)(E:St->XK)
def SE(t:TE)(m:En->R D):Prop:=∀e g h F H a b Q,aA K e g h F H a b->fH E XO a F H (fun d f c=>∀v,Rep K f d v->Q v c) (m b)->t a H Q
def kP(t:TE)(m:En->R D):Prop:=∀h g e F H a c Q,aA K h g e F H a c->fH E XO a F H (fun d f b=>∀v,Top K f b d v->Q v b) (m c)->t a H Q
def nY(t:TE)(m:En->R D):Prop:=∀h g f F H a c Q,aA K h g f F H a c->fH E XO a F H (fun d e b=>∀p,e p=none->H p=none->Own K e b d p->Q (.ref p) b) (m c)->t a H Q
def ST(t:TT)(m:En->R Bool):Prop:=∀g e d F H a c Q,aA K g e d F H a c->fH E XO a F H (fun b _ f=>Q b f) (m c)->t a H Q
def SA(t:TA)(m:En->R (List D)):Prop:=∀e g i F H a c Q,aA K e g i F H a c->fH E XO a F H (fun h f d=>∀b,aF K f h b->Q b d) (m c)->t a H Q
def uO(t:TA)(m:En->R (List D)):Prop:=∀i g h F H a c Q,aA K i g h F H a c->fH E XO a F H (fun e f b=>∀d,tE (Top K f b) e d->Q d b) (m c)->t a H Q
end
section
variable{K:Kx}{XO:cX}{E:St->XK}{t ta tb te:TE}{m ma mb me:En->R D}
theorem SE.r(h:SE K XO E t m):kP K XO E t m:=fun g i f F H b c Q I a=>h _ _ _ F H _ _ Q I (a.imp fun d k j e p v r=>p v (r.top e.fh))
theorem nY.e(h:nY K XO E t m):SE K XO E t m:=fun i k v F H w j Q I a=>h _ _ _ F H _ _ Q I (by cases q:m _ with |no=>rwa[q] at a |ex x=>rwa[q] at a |ok d=> rw[q] at a;intro s n e p f c o;obtain⟨g,b,l,r⟩:=o.freeze e f c;exact a _ _ b _ r)
def af(i:Nat)(δ:En):R D:=match δ[i]? with|some (.v d)=>.ok d|_=>.no
noncomputable def ag(i:Nat)(δ:En):R D:=match δ[i]? with|some (.v d)=>.ok d|some (.o d)=>.ok d|some (.l d)=>.ok d|_=>.no
theorem aN:SE K XO E (bh i) (af i):=by
 intro h e j F H f g Q I a;unfold af at a;have z:=I.slot i;split at a;.rename_i d q;rw[q] at z;obtain⟨u,b,c⟩:=z;exact⟨u,b,a F H (.refl I.same) u c⟩
 .exact a.elim
theorem ar:kP K XO E (bh i) (ag i):=by
 intro h e j F H f g Q I a;unfold ag at a;have z:=I.slot i;split at a;.rename_i d q;rw[q] at z;obtain⟨u,b,c⟩:=z;exact⟨u,b,a F H (.refl I.same) u (c.top I.same)⟩
 .rename_i d q;rw[q] at z;obtain⟨u,b,_,_,c⟩:=z;exact⟨_,b,a F H (.refl I.same) _ c.top⟩
 .rename_i d q;rw[q] at z;obtain⟨u,b,_,_,c⟩:=z;exact⟨_,b,a F H (.refl I.same) _ c.top⟩
 .exact a.elim
def mC(d:D)(_:En):R D:=.ok d
theorem aS:SE K XO E (tC (.int i)) (mC (.int i)):=fun f b d F H e c Q I a=>a F H (.refl I.same) _ rfl
theorem qM:SE K XO E (tC (.bl i)) (mC (.bl i)):=fun f b d F H e c Q I a=>a F H (.refl I.same) _ rfl
theorem eG:SE K XO E (tC .non) (mC .non):=fun f b d F H e c Q I a=>a F H (.refl I.same) _ rfl
theorem p_:SE K XO E (tC (.str i)) (mC (.str i)):=fun f b d F H e c Q I a=>a F H (.refl I.same) _ rfl
def R.of{α:Type}:Option α->R α |some a=>.ok a |none=>.no
@[simp] theorem R.bj(a:α):R.of (some a)=.ok a:=rfl
@[simp] theorem R.of_none:R.of (none:Option α)=.no:=rfl
def m2(f:D->D->Option D)(ma mb:En->R D)(δ:En):R D:=(ma δ).bind fun x=>(mb δ).bind fun y=>R.of (f x y)
def m1(f:D->Option D)(ma:En->R D)(δ:En):R D:=(ma δ).bind fun x=>R.of (f x)
@[simp] theorem oG{ma mb:En->R D}:m2 f ma mb δ=(ma δ).bind fun x=>(mb δ).bind fun y=>R.of (f x y):=rfl
@[simp] theorem RX{ma:En->R D}:m1 f ma δ=(ma δ).bind fun x=>R.of (f x):=rfl
variable(K) in
def SR(r:R2)(f:D->D->Option D):Prop:=∀F H x y b a d Q,aD F H->Top K F H b x->Top K F H a y->f b a=some d->(∀v e c,Ext F H e c->Rep K e d v->Q v c)->r x y H Q
variable(K) in
def Ke(r:R2)(f:D->D->Option D):Prop:=∀F H x y e c d Q,aD F H->Top K F H e x->Top K F H c y->f e c=some d->(∀p a b,Ext F H a b->a p=none->H p=none->Own K a b d p->Q (.ref p) b)->r x y H Q
theorem az(j:SR K r f)(l:kP K XO E ta ma)(i:kP K XO E tb mb):SE K XO E (iN r ta tb) (m2 f ma mb):=by intro o G B F H z s Q I a;refine l _ _ _ F H _ _ _ I (a.bind.imp fun A p w h g x k=>(i _ _ _ _ _ _ _ _ (I.grow h) (g.bind.imp fun J M L c b y n=>?_)));cases q:f _ _ with |none=>rw[q] at b;exact b.elim |some d=> rw[q] at b;exact j _ _ x y _ _ d Q c.fh (k.mono c.ff c.hh) n q fun v C u e r=>b _ _ e v r
theorem iS(j:Ke K r f)(n:kP K XO E ta ma)(i:kP K XO E tb mb):nY K XO E (iN r ta tb) (m2 f ma mb):=by intro v M G F H J w Q I a;refine n _ _ _ F H _ _ _ I (a.bind.imp fun C B A g h x l=>(i _ _ _ _ _ _ _ _ (I.grow g) (h.bind.imp fun N T S c b y k=>?_)));cases q:f _ _ with |none=>rw[q] at b;exact b.elim |some d=> rw[q] at b;exact j _ _ x y _ _ d Q c.fh (l.mono c.ff c.hh) k q fun p L z e s u o=>b _ _ e p s (g.hh.free (c.hh.free u)) o
variable(K) in
def SU(r:V->Hp->VK->Prop)(f:D->Option D):Prop:=∀F H x b d Q,aD F H->Top K F H b x->f b=some d->(∀v a c,Ext F H a c->Rep K a d v->Q v c)->r x H Q
theorem BB(c:SU K r f)(h:kP K XO E ta ma):SE K XO E (II r ta) (m1 f ma):=by intro w l p F H u j Q I a;refine h _ _ _ F H _ _ _ I (a.bind.imp fun s o n g b x i=>?_);cases q:f _ with |none=>rw[q] at b;exact b.elim |some d=> rw[q] at b;exact c _ _ x _ d Q g.fh i q fun v k y e r=>b _ _ e v r
def ae(_:En):R (List D):=.ok []
def ai(ma:En->R D)(a:En->R (List D))(δ:En):R (List D):=(ma δ).bind fun x=>(a δ).bind fun l=>.ok (x::l)
theorem gf:SA K XO E bZ ae:=fun f b d F H e c Q I a=>a F H (.refl I.same) _ .nil
theorem cJ(d:SE K XO E ta ma)(e:SA K XO E g k):SA K XO E (dE ta g) (ai ma k):=by intro p q o F H r n Q I a;refine d _ _ _ F H _ _ _ I (a.bind.imp fun l z w f i x j=>(e _ _ _ _ _ _ _ _ (I.grow f) (i.bind.imp fun s v u b h y c=>?_)));exact h _ _ (.refl b.fh) _ (.cons (Rep.mono b.ff _ j) c)
theorem BC:uO K XO E bZ ae:=fun f b d F H e c Q I a=>a F H (.refl I.same) _ .nil
theorem Pair.mono(e:Ext F H b H'):∀{ds:List D}{vs:List V},tE (Top K F H) ds vs->tE (Top K b H') ds vs |_,_,.nil=>.nil |_,_,.cons r t=>.cons (r.mono e.ff e.hh) (Pair.mono e t)
theorem zB(d:kP K XO E ta ma)(e:uO K XO E g k):uO K XO E (dE ta g) (ai ma k):=by intro p q o F H r n Q I a;refine d _ _ _ F H _ _ _ I (a.bind.imp fun l z w f i x j=>(e _ _ _ _ _ _ _ _ (I.grow f) (i.bind.imp fun s v u b h y c=>?_)));exact h _ _ (.refl b.fh) _ (.cons (j.mono b.ff b.hh) c)
def bL(ml:En->R (List D))(δ:En):R D:=(ml δ).bind fun l=>dt (l.length<=sizeLine) (.ok (.tup l)) .no
def aU(ml:En->R (List D))(δ:En):R D:=(ml δ).bind fun l=>dt (l.length<=sizeLine) (.ok (.lst l)) .no
theorem lb(h:SA K XO E e ml):SE K XO E (lF e) (bL ml):=by
 intro g i k F H o f Q I a;refine h _ _ _ F H _ _ _ I (a.bind.imp fun q n l c b j r=>?_);unfold dt at b;split at b;.exact⟨by rwa[r.length],fun p d=>b _ _ (.new c.fh d) _ ⟨p,_,rfl,b9,r.mono (aD.upd (c.fh.free d))⟩⟩
 .exact b.elim
theorem h_(h:SA K XO E e ml):nY K XO E (zc e) (aU ml):=by
 intro g i k F H o f Q I a;refine h _ _ _ F H _ _ _ I (a.bind.imp fun q n l c b j r=>?_);unfold dt at b;split at b;.refine⟨by rwa[r.length],fun p d=>b _ _ (.eM c.fh d) _ (c.fh.free d) (c.hh.free d) ⟨_,b9,r⟩⟩
 .exact b.elim
theorem Kf:nY K XO E JA (mC (.c9 [] [])):=fun f g d F H e c Q I a p b=>a F _ (.eM I.same b) p (I.same.free b) b ⟨_,b9,rfl,rfl⟩
def BD:D->Option Bool |.bl b=>some b |_=>none
def aV(me:En->R D)(δ:En):R Bool:=(me δ).bind fun d=>R.of (BD d)
theorem de(h:SE K XO E te me):ST K XO E (Dz te) (aV me):=by intro i k g F H o f Q I a;refine h _ _ _ F H _ _ _ I (a.bind.imp fun d n l e c v r=>?_);cases d with |bl b=>exact⟨b,r,c _ _ (.refl e.fh)⟩ |_=>exact c.elim
theorem jJ(h:SE K XO E te me):ST K XO E (tB te) (aV me):=de h
variable{tA uA:TT}{nA nB:En->R Bool}
def mU(nA nB:En->R Bool)(δ:En):R Bool:=(nA δ).bind fun b=>if b=true then nB δ else .ok false
def iU(nA nB:En->R Bool)(δ:En):R Bool:=(nA δ).bind fun b=>if b=true then .ok true else nB δ
def iO(nA:En->R Bool)(δ:En):R Bool:=(nA δ).bind fun b=>.ok (!b)
theorem Es(h:ST K XO E tA nA)(h':ST K XO E uA nB):ST K XO E (yR tA uA) (mU nA nB):=by intro g i f F H l e Q I a;refine h _ _ _ F H _ _ _ I (a.bind.imp fun b k j c d=>?_);cases b with |true=>exact h' _ _ _ _ _ _ _ _ (I.grow c) d |false=>exact d _ _ (.refl c.fh)
theorem rm(h:ST K XO E tA nA)(h':ST K XO E uA nB):ST K XO E (Iy tA uA) (iU nA nB):=by intro g i f F H l e Q I a;refine h _ _ _ F H _ _ _ I (a.bind.imp fun b k j c d=>?_);cases b with |false=>exact h' _ _ _ _ _ _ _ _ (I.grow c) d |true=>exact d _ _ (.refl c.fh)
theorem wN(h:ST K XO E tA nA):ST K XO E (yS tA) (iO nA):=fun g i f F H l e Q I a=>h _ _ _ F H _ _ _ I (a.bind.imp fun b k j c d=>d _ _ (.refl c.fh))
def rn(ma mb:En->R D)(δ:En):R D:=(ma δ).bind fun d=>(R.of (BD d)).bind fun b=>if b=true then mb δ else .ok (.bl false)
def vJ (ma : En → R D) (δ : En) : R D := (ma δ).bind fun d => (R.of (BD d)).bind fun b => .ok (.bl (!b))
theorem zC(h:SE K XO E ta ma)(h':SE K XO E tb mb):SE K XO E (Iz ta tb) (rn ma mb):=by intro i k g F H o f Q I a;refine h _ _ _ F H _ _ _ I (a.bind.imp fun d n l e c v r=>?_);cases d with
 |bl b=> refine⟨b,r,?_⟩;cases b with |true=>exact h' _ _ _ _ _ _ _ _ (I.grow e) c |false=>exact c _ _ (.refl e.fh) _ rfl
 |_=>exact c.elim
theorem Et (h : SE K XO E ta ma) : SE K XO E (IA ta) (vJ ma) := by
  intro Λ F0 H0 F H σ δ Q I a
  refine h _ _ _ F H _ _ _ I (a.bind.imp fun d F1 H1 e1 a1 v r => ?_)
  cases d with
  | bl b =>
    exact ⟨b, r, a1 _ _ (.refl e1.fh) _ rfl⟩
  | _ => exact a1.elim
def xY(n:En->R Bool)(ma mb:En->R D)(δ:En):R D:=(n δ).bind fun b=>if b=true then ma δ else mb δ
theorem Kg(h:ST K XO E tA nA)(e:SE K XO E ta ma)(f:SE K XO E tb mb):SE K XO E (IB tA ta tb) (xY nA ma mb):=by intro o i l F H n g Q I a;refine h _ _ _ F H _ _ _ I (a.bind.imp fun b k j d c=>?_);cases b with |true=>exact e _ _ _ _ _ _ _ _ (I.grow d) c |false=>exact f _ _ _ _ _ _ _ _ (I.grow d) c
def qc(K:Kx)(XO:cX)(f:List D->R D):Sp:=fun b H Q E=>∃F a,aD F H/\aF K F a b/\fH (fun _=>E) XO [] F H (fun d e c=>∀v,Rep K e d v->Q v c) (f a)
def iV(f:List D->R D)(ml:En->R (List D))(δ:En):R D:=(ml δ).bind f
def R.nZ{α:Type}:R α->R α |.ex _=>.no |r=>r
@[simp] theorem R.jK(a:α):(R.ok a).nZ=.ok a:=rfl
def bD(f:List D->R D)(ml:En->R (List D))(δ:En):R D:=(ml δ).bind fun l=>(f l).nZ
theorem fH.any{E c:St->XK}(h:fH E XO σ F H P r.nZ):fH c XO b F H P r:=by cases r with |no=>exact h |ok a=>exact h |ex x=>exact h.elim
theorem zD(h:SA K XO E e ml):SE K XO E (Bs (qc K XO f) E e) (iV f ml):=by intro k l i F H u g Q I a;refine h _ _ _ F H _ _ _ I (a.bind.imp fun o s p c b n r=>⟨_,_,c.fh,r,?_⟩);cases q:f _ with |no=>rwa[q] at b |ok d=>rwa[q] at b |ex x=>rwa[q] at b
theorem gz(h:SA K XO E d ml):SE K XO E (wx (qc K XO f) [] k d) (bD f ml):=by intro i j n F H q e Q I a;refine h _ _ _ F H _ _ _ I (a.bind.imp fun g p o b c l r=>⟨_,_,b.fh,by simp_all,c.any⟩)
variable(K) in
def SG(g:TG)(b:D->En->Option En):Prop:=∀i j e F H f h d v c Q,aA K i j e F H f h->Rep K F d v->b d h=some c->(∀a,aA K i j e F H a c->Q a H)->g v f H Q
variable(K) in
def BE(g:xF)(b:List D->En->Option En):Prop:=∀i j e F H f h d v c Q,aA K i j e F H f h->aF K F d v->b d h=some c->(∀a,aA K i j e F H a c->Q a H)->g v f H Q
def aG(i:Nat)(d:D)(δ:En):Option En:=match δ[i]? with|none=>none|some (.l _)=>none|some _=>some (δ.set i (.v d))
def eD(i:Nat)(d:D)(δ:En):Option En:=match δ[i]? with|some .no=>some (δ.set i (.v d))|_=>none
def dG(l:List D)(δ:En):Option En:=match l with|[]=>some δ|_=>none
def dv(b:D->En->Option En)(c:List D->En->Option En)(l:List D)(δ:En):Option En:=match l with|d::r=>(b d δ).bind (c r)|[]=>none
def dn(n:Nat)(c:List D->En->Option En)(d:D)(δ:En):Option En:=match d with|.tup l=>if l.length=n then c l δ else none|_=>none
theorem bR:SG K (jE i) (aG i):=by
 intro l h g F H k f d v c Q I r e q;unfold aG at e;split at e;.cases e
 .cases e
 .rename_i x b a;cases e;exact q _ (I.put ⟨x,a,fun j z=>b _ (by rw[z])⟩ r)
theorem lg:SG K (jE i) (eD i):=by
 intro j c f F H g h d v b Q I r e q;unfold eD at e;split at e;.rename_i a;cases e;exact q _ (I.put ⟨_,a,fun k z=>by cases z⟩ r)
 simp_all
theorem tF:BE K uD dG:=by intro j f h F H i g d v c Q I r e q;cases d with |nil=>cases e;exact⟨r,q _ I⟩ |cons x l=>cases e
theorem ko(A:SG K g b)(f:BE K h c):BE K (xG g h) (dv b c):=by intro J B C F H G i d v y Q I r e q;cases d with |nil=>cases e |cons x l=> obtain⟨u,w,rfl,n,k⟩:=r;change(b x _).bind _=some _ at e;cases z:b x i with |none=>simp_all |some s=> rw[z] at e;exact⟨u,w,rfl,A _ _ _ F H _ _ x u _ _ I n z fun j o=>f _ _ _ F H _ _ l w _ Q o k e q⟩
theorem tG(f:BE K h c):SG K (uE K.f n h) (dn n c):=by intro w p o F H u k d v j Q I r e q;cases d with
 |tup l=>
  obtain⟨a,s,rfl,g,b⟩:=r;simp only[dn] at e;split at e;.exact⟨a,_,rfl,.inl (.inl (I.same _ _ g)),by rwa[b.length],f _ _ _ F H _ _ l _ _ Q I b e q⟩
  simp_all |_=>cases e
def mV(δ a:En):Prop:=δ.length=a.length/\∀i:Nat,δ[i]?=some .no\/δ[i]?=a[i]?
theorem mV.refl(δ:En):mV δ δ:=⟨rfl,fun _=>.inr rfl⟩
theorem mV.trans(h:mV a b)(h':mV b c):mV a c:=⟨h.1.trans h'.1,fun i=>by
  rcases h.2 i with z|z;.simp_all
  . rcases h'.2 i with y|y;.grind
    grind⟩
def BW(b:D->En->Option En):Prop:=∀d c a,b d c=some a->mV c a
def BF(b:List D->En->Option En):Prop:=∀d c a,b d c=some a->mV c a
theorem lh:BW (eD i):=by
  intro d b a e;unfold eD at e;split at e
  . cases e;refine⟨by simp,fun j=>?_⟩;by_cases h:i=j;.simp_all
    simp_all
  simp_all
theorem Eu:BF dG:=by intro d f b e;cases d with |nil=>cases e;exact .refl _ |cons x l=>cases e
theorem xZ(h:BW b)(h':BF c):BF (dv b c):=by intro d f i e;cases d with |nil=>cases e |cons x l=> change(b x _).bind _=some _ at e;cases z:b x f with |none=>simp_all |some g=>rw[z] at e;exact(h _ _ _ z).trans (h' _ _ _ e)
theorem Ew(h:BF c):BW (dn n c):=by intro d f a e;cases d with
 |tup l=>
  simp only[dn] at e;split at e;.exact h _ _ _ e
  simp_all |_=>cases e
variable(K) in
def qf(J:It)(P:Hp->Hp->Prop)(ds:List D):Prop:=∀b a,P b a->∀i:Nat,(∀d,ds[i]?=some d->J.go i a/\∀x e,J.yW i a x e->∃c,Ext b a c e/\Rep K c d x)/\(ds[i]?=none->J.stop i a)
variable(K XO E) in
def SI(d:TI)(m:En->R (List D)):Prop:=∀e f k F H a b R,aA K e f k F H a b->fH E XO a F H (fun i h g=>∀J,qf K J (fun c j=>aD h c/\aD c j) i->R J g) (m b)->d a H R
variable(K XO E) in
def zE(g:TI)(m:En->R (List D)):Prop:=∀e f i F H a c R,aA K e f i F H a c->fH E XO a F H (fun d h b=>∀J,qf K J (fun k j=>Ext h b k j) d->R J b) (m c)->g a H R
theorem SI.c{m:En->R (List D)}(h:SI K XO E wi m):zE K XO E wi m:=fun g i f F H l d R I a=>h _ _ _ F H _ _ R I (a.imp fun o k j e p J b=>p J fun q n x=>b _ _ ⟨x.ff,x.fh⟩)
def zF:D->Option (List D) |.lst l=>some l |.du l=>some (l.map .int) |_=>none
def Ex:D->Option (List D) |.tup l=>some l |_=>none
def cP(ml:En->R D)(δ:En):R (List D):=(ml δ).bind fun d=>R.of (zF d)
def zG(ml:En->R D)(a:En):R (List D):=(ml a).bind fun d=>R.of (Ex d)
theorem BG(r:aF K k ds vs)(h:∀c b,P c b->aD k c/\aD c b/\gh K.f b a vs):qf K (Du K.f a) P ds:=by
 intro c b p i;obtain⟨f,j,q⟩:=h _ _ p;refine⟨fun d l=>?_,fun n=>?_⟩;.obtain⟨v,e,g⟩:=r.get l;refine⟨⟨_,v,q,e⟩,fun x o y=>?_⟩;obtain⟨rfl,y⟩:=y;have z:=y _ q;rw[e] at z;cases z;exact⟨_,.refl j,Rep.mono f _ g⟩
 .exact⟨_,q,by rw[r.length];simp_all⟩
theorem uh(h:SE K XO E te me):SI K XO E (Dv K.f te) (cP me):=by intro w u q F H s n R I a;refine h _ _ _ F H _ _ _ I (a.bind.imp fun d p o c e v r=>?_);cases d with |lst l=> obtain⟨a,y,rfl,b,i⟩:=r;exact⟨a,rfl,⟨_,.inl (PM.aD.xX c.fh b)⟩,e _ _ (.refl c.fh) _ (BG i fun k j x=>⟨x.1,x.2,.inl (PM.aD.rd x.2 (PM.aD.xX x.1 b))⟩)⟩ |du l=> obtain⟨a,rfl,b⟩:=r;exact⟨a,rfl,⟨_,c.fh.seq b⟩,e _ _ (.refl c.fh) _ (BG .ints fun k j x=>⟨x.1,x.2,x.2.seq (x.1.seq b)⟩)⟩ |_=>exact e.elim
theorem rX(h:kP K XO E te me):zE K XO E (Dv K.f te) (cP me):=by intro w u q F H s n R I a;refine h _ _ _ F H _ _ _ I (a.bind.imp fun d p o c e v r=>?_);cases d with |lst l=> obtain⟨a,y,rfl,b,i⟩:=r;exact⟨a,rfl,⟨_,.inl b⟩,e _ _ (.refl c.fh) _ (BG i fun k j x=>⟨x.ff,x.fh,.inl (PM.aD.rd x.hh b)⟩)⟩ |du l=> obtain⟨a,rfl,b⟩:=r;exact⟨a,rfl,⟨_,c.fh.seq b⟩,e _ _ (.refl c.fh) _ (BG .ints fun k j x=>⟨x.ff,x.fh,x.fh.seq (x.ff.seq b)⟩)⟩ |_=>exact e.elim
theorem RY(h:SE K XO E te me):SI K XO E (yY K.f te) (zG me):=by
 intro B C w F H s j R I a;refine h _ _ _ F H _ j _ I (a.bind.imp fun d p M e c v r=>?_)
 cases d with |tup l=>
  obtain⟨a,G,rfl,f,g⟩:=r;refine⟨a,rfl,⟨_,.inl (.inl (e.fh _ _ f))⟩,c _ _ (.refl e.fh) _ fun N L x i=>?_⟩;have q:jo K.f _ a _:=.inl (.inl (x.2 _ _ (x.1 _ _ f)));refine⟨fun d n=>?_,fun A=>?_⟩;.obtain⟨v,b,o⟩:=g.get n;refine⟨⟨_,v,q,b⟩,fun J u y=>?_⟩;obtain⟨rfl,y⟩:=y;have z:=y _ q;rw[b] at z;cases z;exact⟨_,.refl x.2,Rep.mono x.1 _ o⟩
  .exact⟨_,q,by rw[g.length];simp_all⟩ |_=>exact c.elim
def uP(lo:Int)(n:Nat):List D:=(List.range n).map fun(k:Nat)=>D.int (lo+(k:Int))
theorem Kh(h:∀b c,P b c->aD b c):qf K (yX lo n) P (uP lo n):=by
  intro b c p i;unfold uP;rw[bB];have g:(List.range n)[i]?=if i<n then some i else none:=by grind
  rw[g];refine⟨fun d f=>?_,fun e=>?_⟩
  . by_cases a:i<n;.rw[ak a] at f;cases f;refine⟨a,fun x j y=>?_⟩;obtain⟨rfl,rfl⟩:=y;exact⟨_,.refl (h _ _ p),rfl⟩
    grind
  . by_cases a:i<n;.rw[ak a] at e;cases e
    .exact Nat.le_of_not_lt a
def nq(l:List D):Option (List D):=match l with |[.int j]=>dt (-(2^62)<=j/\j<2^62) (some (uP 0 j.toNat)) none |[.int i,.int j]=>dt (-(2^62)<=i/\i<2^62/\-(2^62)<=j/\j<2^62) (some (uP i (j-i).toNat)) none |_=>none
def bM(ml:En->R (List D))(δ:En):R (List D):=(ml δ).bind fun l=>R.of (nq l)
theorem aF.one(r:aF K F [d] vs):∃v,vs=[v]/\Rep K F d v:=by simp[aF] at r;simp_all
theorem aF.two(r:aF K F [d,e] vs):∃v u,vs=[v,u]/\Rep K F d v/\Rep K F e u:=by simp[aF] at r;grind
theorem n5(g:∀δ l,ml δ=.ok l->l.length=1)(h:SA K XO E n ml):SI K XO E (IH n) (bM ml):=by intro w y q F H p δ R I a;unfold bM at a;cases c:ml _ with |no=>rw[c] at a;exact a.elim |ex x=>refine h _ _ _ F H _ _ _ I ?_;rwa[c] at a⊢ |ok l=> refine h _ _ _ F H _ _ _ I ?_;rw[c] at a⊢;intro o u f A r;match l,(g _ l c) with
 |[d],_=>
  obtain⟨v,rfl,i⟩:=r.one;have b:=fH.mono f a
  cases d with |int j=>
   subst i;change fH E _ _ _ _ _ (PM.R.of (dt _ _ _)) at b;by_cases e:-(2^62)<=j/\j<2^62;.rw[gq e] at b;exact⟨j,rfl,e.1,e.2,b _ _ (.refl f.fh) _ (Kh fun G B x=>x.2)⟩
   .rw[Kb e] at b;exact b.elim |_=>exact b.elim
theorem Ki(n:∀δ l,ml δ=.ok l->l.length=2)(h:SA K XO E q ml):SI K XO E (A2 q) (bM ml):=by intro B C y F H s δ R I a;unfold bM at a;cases c:ml _ with |no=>rw[c] at a;exact a.elim |ex x=>refine h _ _ _ F H _ _ _ I ?_;rwa[c] at a⊢ |ok l=> refine h _ _ _ F H _ _ _ I ?_;rw[c] at a⊢;intro A z g J r;match l,(n _ l c) with |[d,o],_=> obtain⟨v,u,rfl,p,k⟩:=r.two;have b:=fH.mono g a;cases d with
 |int i=> cases o with |int j=>
  subst p k;change fH E _ _ _ _ _ (PM.R.of (dt _ _ _)) at b;by_cases f:-(2^62)<=i/\i<2^62/\-(2^62)<=j/\j<2^62;.rw[gq f] at b;exact⟨i,j,rfl,f,b _ _ (.refl g.fh) _ (Kh fun N L x=>x.2)⟩
  .rw[Kb f] at b;exact b.elim |_=>exact b.elim
 |_=>exact b.elim
theorem gQ{ma:En->R D}:∀δ l,ai ma ae δ=.ok l->l.length=1:=by intro δ l h;unfold ai ae at h;cases e:ma _ with |ok d=>rw[e] at h;cases h;rfl |no=>simp_all |ex x=>simp_all
theorem uQ{ma mb:En->R D}:∀δ l,ai ma (ai mb ae) δ=.ok l->l.length=2:=by intro δ l h;unfold ai ae at h;cases e:ma _ with
 |ok d=> rw[e] at h;cases a:mb _ with |ok d=>rw[a] at h;cases h;rfl |no=>simp_all |ex x=>rw[a] at h;cases h
 |no=>simp_all |ex x=>simp_all
def uR(l:List D):List D:=l.mapIdx fun i d=>.tup [.int i,d]
theorem Kj(r:aF K o ds vs)(h:∀b c,P b c->aD o b/\aD b c/\gh K.f c a vs):qf K (DT K.f a) P (uR ds):=by
 intro b c p i;obtain⟨l,g,q⟩:=h _ _ p;unfold uR;rw[List.getElem?_mapIdx];refine⟨fun d f=>?_,fun w=>?_⟩;.cases e:ds[i]? with |none=>simp_all |some x=> rw[e] at f;cases f;obtain⟨v,k,n⟩:=r.get e;refine⟨⟨_,v,q,k⟩,fun u A y=>?_⟩;obtain⟨s,B,rfl,j,rfl,y⟩:=y;have z:=y _ q;rw[k] at z;cases z;exact⟨_,.new g j,⟨_,_,rfl,b9,.cons rfl (.cons (Rep.mono (l.trans (aD.upd (g.free j))) _ n) .nil)⟩⟩
 .cases e:ds[i]? with |none=>exact⟨_,q,by rw[r.length];simp_all⟩ |some x=>simp_all
def Ey:D->Option (List D) |.lst l=>some l |_=>none
def BH:List D->Option (List D) |[d]=>(Ey d).map uR |_=>none
def x5(ml:En->R (List D))(δ:En):R (List D):=(ml δ).bind fun l=>R.of (BH l)
theorem Kk(h:BH l=some r):∃x,l=[.lst x]/\r=uR x:=by cases l with |nil=>cases h |cons d t=> cases t with |cons _ _=>cases h |nil=> cases d with |lst x=>cases h;simp |_=>cases h
theorem RZ(h:SA K XO E e ml):SI K XO E (DU K.f e) (x5 ml):=by intro k y s F H u n R I a;refine h _ _ _ F H _ _ _ I (a.bind.imp fun j p o c b g r=>?_);cases q:BH _ with |none=>rw[q] at b;exact b.elim |some z=> obtain⟨l,rfl,rfl⟩:=Kk q;obtain⟨v,rfl,f⟩:=aF.one r;obtain⟨a,g,rfl,d,i⟩:=f;exact⟨a,rfl,⟨_,.inl (PM.aD.xX c.fh d)⟩,b _ _ (.refl c.fh) _ (Kj i fun A w x=>⟨x.1,x.2,.inl (PM.aD.rd x.2 (PM.aD.xX x.1 d))⟩)⟩
theorem R0(h:uO K XO E e ml):zE K XO E (DU K.f e) (x5 ml):=by intro k s y F H u n R I a;refine h _ _ _ F H _ _ _ I (a.bind.imp fun w p o g b i r=>?_);cases q:BH _ with |none=>rw[q] at b;exact b.elim |some z=> obtain⟨l,rfl,rfl⟩:=Kk q;cases r with |cons r f=> cases f;obtain⟨a,i,rfl,c,j⟩:=r;exact⟨a,rfl,⟨_,.inl c⟩,b _ _ (.refl g.fh) _ (Kj j fun A v x=>⟨x.ff,x.fh,.inl (PM.aD.rd x.hh c)⟩)⟩
end
section
variable(K:Kx)(XO:cX)(E:St->XK)
def cT(g:List (Nat×Addr×HO))(F0 b:Hp)(f:Ends):O->Prop |.no=>False |.nx c=>∀a F H,aA K g F0 b F H a c->f.nx a H |.bk c=>∀a F H,aA K g F0 b F H a c->f.bk a H |.ct c=>∀a F H,aA K g F0 b F H a c->f.ct a H |.rt d=>∀v F H,Ext F0 b F H->Rep K F d v->f.rt v H |.ro d=>∀p F H,Ext F0 b F H->F p=none->b p=none->Own K F H d p->f.rt (.ref p) H |.ex c x=>∀a F H C e,aA K g F0 b F H a c->XO x F H C e->E a C e H
def SS(t:TS)(m:En->O):Prop:=∀f a c F H d b e,aA K f a c F H d b->cT K XO E f a c e (m b)->t e d H
end
noncomputable def R.gW{α:Type}(r:R α)(δ:En)(f:α->O):O:=match r with|.no=>.no|.ok a=>f a|.ex x=>.ex δ x
@[simp] theorem R.fT(a:α)(δ:En)(f:α->O):(R.ok a).gW δ f=f a:=rfl
@[simp] theorem R.Ez {α : Type} (δ : En) (f : α → O) : (R.no : R α).gW δ f = .no := rfl
@[simp] theorem R.EA(x:Xc)(δ:En)(f:α->O):(R.ex x:R α).gW δ f=.ex δ x:=rfl
section
variable{K:Kx}{XO:cX}{E:St->XK}{ta tb te:TE}{ma mb me:En->R D}{t u:TS}{m n:En->O}{Λ:List (Nat×Addr×HO)}{F0 H0 F H F1 H1:Hp}{σ:St}{δ:En}{Dn:Ends}
theorem cT.of(I:aA K Λ F0 H0 F H σ δ)(a:cT K XO E Λ F0 H0 Dn (r.gW δ f)):fH E XO σ F H (fun a _ _=>cT K XO E Λ F0 H0 Dn (f a)) r:=by cases r with |no=>exact a |ok b=>exact fun _ _ _=>a |ex x=>exact fun C c g j e h=>a _ _ _ C _ (I.grow e) h
theorem cT.up(e:Ext F0 H0 F1 H1):∀{o:O},cT K XO E Λ F0 H0 Dn o->cT K XO E Λ F1 H0 Dn o |.no,h=>h |.nx _,h=>fun σ F H I=>h _ F H (I.down e) |.bk _,h=>fun σ F H I=>h _ F H (I.down e) |.ct _,h=>fun σ F H I=>h _ F H (I.down e) |.rt _,h=>fun v F H x=>h v F H (e.base x) |.ro _,h=>fun p F H x=>h p F H (e.base x) |.ex _ _,h=>fun σ F H C d I=>h _ F H C d (I.down e)
def cU(δ:En):O:=.nx δ
def aq(m n:En->O)(δ:En):O:=match m δ with|.nx a=>n a|r=>r
theorem eI:SS K XO E AZ cU:=fun Λ F0 H0 F H σ δ Dn I a=>a _ F H I
theorem bq(h:SS K XO E t m)(h':SS K XO E u n):SS K XO E (iM t u) (aq m n):=by intro Λ F0 H0 F H σ δ Dn I a;refine h _ _ _ F H _ _ _ I ?_;unfold aq at a;cases q:m _ with |no=>rwa[q] at a |nx b=>rw[q] at a;exact fun c l r e=>h' _ _ _ _ _ _ _ _ e a |rt d=>rwa[q] at a |ro d=>rwa[q] at a |bk b=>rwa[q] at a |ct b=>rwa[q] at a |ex b x=>rwa[q] at a
def aT(me:En->R D)(δ:En):O:=(me δ).gW δ .rt
theorem dX(h:SE K XO E te me):SS K XO E (jD te) (aT me):=fun Λ F0 H0 F H σ δ Dn I a=>h _ _ _ F H _ _ _ I ((cT.of I a).imp fun d F1 H1 e p v r=>p v _ _ (I.ext.trans e) r)
def gR(me:En->R D)(δ:En):O:=(me δ).gW δ .ro
theorem lj(h:nY K XO E te me):SS K XO E (jD te) (gR me):=fun Λ F0 H0 F H σ δ Dn I a=>h _ _ _ F H _ _ _ I ((cT.of I a).imp fun d F1 H1 e p v b c o=>p v _ _ (I.ext.trans e) b (I.ext.hh.free c) o)
def vK(i:Nat)(δ:En):O:=match δ[i]? with|some (.o d)=>.ro d|_=>.no
theorem x8:SS K XO E (jD (bh i)) (vK i):=by
 intro Λ F0 H0 F H σ δ Dn I a;unfold vK at a;split at a;.rename_i d q;have z:=I.slot i;rw[q] at z;obtain⟨p,c,b,f,e⟩:=z;exact⟨_,c,a p F H I.ext f b e⟩
 .exact a.elim
def mW (me : En → R D) (δ : En) : O := (me δ).gW δ fun _ => .nx δ
theorem zH (h : SE K XO E te me) : SS K XO E (wm te) (mW me) := fun Λ F0 H0 F H σ δ Dn I a=>h _ _ _ F H _ _ _ I ((cT.of I a).imp fun d F1 H1 e p v r => p _ _ _ (I.grow e))
def a_(n:En->R Bool)(m m':En->O)(δ:En):O:=(n δ).gW δ fun b=>if b=true then m δ else m' δ
theorem dY(h:ST K XO E f c)(d:SS K XO E t m)(g:SS K XO E u n):SS K XO E (uC f t u) (a_ c m n):=by intro Λ F0 H0 F H σ δ Dn I a;refine h _ _ _ F H _ _ _ I ((cT.of I a).imp fun b F1 H1 e p=>?_);cases b with |true=>exact d _ _ _ _ _ _ _ _ (I.grow e) p |false=>exact g _ _ _ _ _ _ _ _ (I.grow e) p
def O.of:Option En->O |some δ=>.nx δ |none=>.no
@[simp] theorem O.bj (δ : En) : O.of (some δ) = .nx δ := rfl
@[simp] theorem O.of_none:O.of none=.no:=rfl
def av(me:En->R D)(b:D->En->Option En)(δ:En):O:=(me δ).gW δ fun d=>O.of (b d δ)
theorem cS(h:SE K XO E te me)(j:SG K g b):SS K XO E (fD te g) (av me b):=by intro Λ F0 H0 F H σ δ Dn I a;refine h _ _ _ F H _ _ _ I ((cT.of I a).imp fun d F1 H1 e p v r=>?_);cases q:b d _ with |none=>rw[q] at p;exact p.elim |some c=>rw[q] at p;exact j _ _ _ _ _ _ _ d v _ _ (I.grow e) r q fun i f=>p _ _ _ f
def dw(i:Nat)(d:D)(δ:En):Option En:=match δ[i]? with|none=>none|some (.l _)=>none|some _=>some (δ.set i (.o d))
theorem qN(h:nY K XO E te me):SS K XO E (fD te (jE i)) (av me (dw i)):=by
 intro Λ F0 H0 F H σ δ Dn I a;refine h _ _ _ F H _ _ _ I ((cT.of I a).imp fun d F1 H1 e p v g c o=>?_);unfold dw at p;split at p;.exact p.elim
 .exact p.elim
 .rename_i x f b;exact p _ _ _ (I.Ep ⟨x,b,fun j z=>f _ (by rw[z])⟩ e g c o)
def gX(b:D->En->Option En)(m:En->O):List D->En->O |[],δ=>.nx δ |d::l,δ=>match b d δ with |none=>.no |some e=>match m e with |.nx a=>gX b m l a |.ct a=>gX b m l a |.bk a=>.nx a |r=>r
def dA(mi:En->R (List D))(b:D->En->Option En)(m:En->O)(δ:En):O:=(mi δ).gW δ fun l=>gX b m l δ
theorem R1(v:qf K J P ds)(Q:∀σ δ F H,aA K Λ F0 H0 F H σ δ->P F H)(U:SG K g b)(C:SS K XO E t m)(I:aA K Λ F0 H0 F H σ δ) (a:cT K XO E Λ F0 H0 Dn (gX b m ds δ)):∃W:Nat->Nat->St->Hp->Prop,(∃k,W 0 k σ H)/\∀i k σ H,W i k σ H-> (J.stop i H/\Dn.nx σ H)\/(J.go i H/\∃N:St->Hp->Prop,(∀c H',N c H'->∃s,s<k/\W (i+1) s c H')/\∀x H',J.yW i H x H'->g x σ H' fun p T=>t {Dn with nx:=N,ct:=N,bk:=Dn.nx} p T):=by
  let W:=fun i k σ H=>∃F δ,aA K Λ F0 H0 F H σ δ/\k=ds.length-i/\i<=ds.length/\cT K XO E Λ F0 H0 Dn (gX b m (ds.drop i) δ);refine⟨W,⟨_,F,_,I,rfl,cG _,a⟩,?_⟩;rintro i k σ H ⟨F,δ,I,rfl,hi,a⟩;have j:=Q _ _ F H I;by_cases f:i<ds.length;.obtain⟨A,X⟩:=(v F H j i).1 ds[i] (by simp);refine .inr ⟨A,W _ (ds.length-(i+1)),fun c H' w=>⟨_,by omega,w⟩,fun x H' y=>?_⟩;obtain⟨F3,M,r⟩:=X x _ y;rw[(sA f)] at a;unfold gX at a;cases q:b _ _ with |none=>rw[q] at a;exact a.elim |some z=> rw[q] at a;refine U _ _ _ _ _ _ _ _ x _ _ (I.grow M) r q fun B S=>C _ _ _ _ _ _ _ _ S ?_;cases h:m _ with |no=>simp[h] at a;exact a |nx l=>simp[h] at a;exact fun c G H' o=>⟨_,_,o,rfl,f,a⟩ |ct l=>simp[h] at a;exact fun c G H' o=>⟨_,_,o,rfl,f,a⟩ |bk l=>simp[h] at a;exact a |rt d=>simp[h] at a;exact a |ro d=>simp[h] at a;exact a |ex L x=>simp[h] at a;exact a
  . have e:i=ds.length:=by lia
    subst e;rw[qD] at a;exact .inl ⟨(v F H j _).2 (by simp),a _ F H I⟩
theorem jZ(hi:SI K XO E d mi)(f:SG K g b)(i:SS K XO E t m):SS K XO E (sT d g t) (dA mi b m):=by intro Λ F0 H0 F H σ δ Dn I a;refine hi _ _ _ F H _ _ _ I ((cT.of I a).imp fun j F1 H1 e p J h=>?_);have c:=I.grow e;exact R1 h (fun σ δ F H I=>⟨I.ext.ff,I.ext.fh⟩) f i c.up (p.up c.ext)
noncomputable def qi(c:En->R Bool)(m:En->O):Nat->En->O |0,_=>.no |n+1,δ=>(c δ).gW δ fun b=>if b=true then(match m δ with|.nx a=>qi c m n a|.ct a=>qi c m n a|.bk a=>.nx a|r=>r) else .nx δ
open Classical in
def x_(c:En->R Bool)(m:En->O)(δ:En):O:=if h:∃n,qi c m n δ≠.no then qi c m (choose h) δ else .no
theorem Kl(r:ST K XO E y o)(v:SS K XO E t m):SS K XO E (Dr y t) (x_ o m):=by
 intro Λ F0 H0 F H σ δ Dn I a;unfold x_ at a;split at a;.refine⟨fun k σ H=>∃F δ,aA K _ _ _ F H σ δ/\cT K _ E _ _ _ _ (qi _ m k δ),⟨_,F,_,I,a⟩,?_⟩;rintro k σ H ⟨F,δ,I,a⟩;cases k with |zero=>exact a.elim |succ k=> refine r _ _ _ F H _ _ _ I ((cT.of I a).imp fun b F1 H1 e p=>?_);cases b with |false=>exact p _ _ _ (I.grow e) |true=> refine⟨_,fun f j w=>⟨k,fq _,w⟩,v _ _ _ _ _ _ _ _ (I.grow e) ?_⟩;cases c:m _ with |no=>simp[c] at p;exact p |nx g=>simp[c] at p;exact fun f q j h=>⟨_,_,h,p⟩ |ct g=>simp[c] at p;exact fun f q j h=>⟨_,_,h,p⟩ |bk g=>simp[c] at p;exact p |rt d=>simp[c] at p;exact p |ro d=>simp[c] at p;exact p |ex s x=>simp[c] at p;exact p
 .exact a.elim
end
def ui:D->Option Key |.int i=>some (.inl i) |.str x=>some (.inr x) |_=>none
def jL(ks:List Key)(l:List D)(k:Key):Option D:=match ks,l with |a::r,d::t=>if a=k then some d else jL r t k |_,_=>none
noncomputable def putL(ks:List Key)(l:List D)(k:Key)(x:D):List D:=match ks,l with |a::r,d::t=>(if a=k then x else d)::putL r t k x |_,t=>t
def putD(ks:List Key)(l:List D)(k:Key)(x:D):D:=if ks.any (fun a=>decide (a=k))=true then .c9 ks (putL ks l k x) else .c9 (ks++[k]) (l++[x])
section
variable{K:Kx}{F H:Hp}
theorem EB(h:ui d=some k)(r:Rep K F d v):v=kV k:=by cases d with |int i=>cases h;exact r |str i=>cases h;exact r |_=>cases h
theorem EC:∀{kvs:List (Key×V)}{ks:List Key}{l:List D},kvs.map (·.1)=ks->aF K F l (kvs.map (·.2))-> (∀d,jL ks l k=some d->∃v,di kvs k=some v/\Rep K F d v)/\(jL ks l k=none->di kvs k=none) |[],ks,l,c,g=>by subst c;refine⟨fun d h=>?_,fun _=>rfl⟩;simp[jL] at h |(a,v)::kvs,ks,l,c,g=>by subst c;cases l with |nil=>simp[aF] at g |cons d t=>
      obtain⟨o,r,e,m,n⟩:=g;cases e;have q:=EC (k:=k) rfl n;simp[jL];by_cases f:a=k;.rw[ak f];refine⟨fun p e=>?_,fun e=>by cases e⟩;cases e;exact⟨v,by simp[di,f],m⟩
      . have e:di ((a,v)::kvs) k=di kvs k:=by simp[di,f]
        simp_all
theorem Km(m:Rep K F x u):∀{kvs:List (Key×V)}{ks:List Key}{l:List D},kvs.map (·.1)=ks->aF K F l (kvs.map (·.2))-> aF K F (putL ks l k x) ((kvs.map (fun g=>if g.1=k then(g.1,u) else g)).map (·.2))
 |[],ks,l,h,f=>by subst h;cases l with |nil=>rfl |cons d t=>simp[aF] at f
 |(a,v)::kvs,ks,l,h,f=>by subst h;cases l with |nil=>simp[aF] at f |cons d t=>
  obtain⟨p,r,e,n,j⟩:=f;cases e;refine .cons ?_ (Km m rfl j);by_cases o:a=k;.simp_all
  simp_all
theorem R3(b:Rep K F x u)(h1:kvs.map (·.1)=ks)(h2:aF K F l (kvs.map (·.2))):Own K F (upd H a (.dK (putK kvs k u))) (putD ks l k x) a:=by
 have e:ks.any (fun a=>decide (a=k))=kvs.any (fun c=>decide (c.1=k)):=by rw[<-h1,List.any_map];rfl
 unfold putD putK;rw[e];split;.refine⟨_,b9,?_,Km b h1 h2⟩;rw[<-h1,bX];refine i9 fun c _=>?_;grind
 .exact⟨_,b9,by rw[dC,h1];rfl,by rw[dC];exact h2.append (.cons b .nil)⟩
end
section
variable{K:Kx}{XO:cX}{E:St->XK}{ta tb te ty td:TE}{ma mb me my md:En->R D}{t u:TS}{m n:En->O}{Λ:List (Nat×Addr×HO)}{F0 H0 F H F1 H1:Hp}{σ:St}{δ:En}{Dn:Ends}
theorem aA.own{i:Nat}(I:aA K Λ F0 H0 F H σ δ)(b:δ[i]?=some (.o d)):∃a,σ[i]?=some (some (.ref a))/\Own K F H d a:=by have z:=I.slot i;rw[b] at z;obtain⟨a,g,c,f,e⟩:=z;simp_all
def oH(i:Nat)(me:En->R D)(δ:En):O:=match δ[i]? with |some (.o (.lst l))=>(me δ).gW δ fun d=>dt (l.length<sizeLine) (.nx (δ.set i (.o (.lst (l++[d]))))) .no |_=>.no
theorem x'(h:SE K XO E te me):SS K XO E (wm (vF K.f "list" Bc (bh i) (dE te bZ))) (oH i me):=by
  intro Λ F0 H0 F H σ δ Dn I a;unfold oH at a;split at a
  . rename_i l q;obtain⟨p,f,j,g,b⟩:=I.own q;refine⟨_,f,.inl ⟨rfl,_,.inl (.inl g)⟩,(h _ _ _ F H _ _ _ I ((cT.of I a).imp fun d F1 H1 e c v r=>?_))⟩;unfold dt at c;split at c;.exact⟨p,_,v,rfl,rfl,e.hh _ _ g,by rwa[b.length],c _ _ _ ((I.grow e).chg q f ⟨_,b9,(b.mono e.ff).append (.cons r .nil)⟩)⟩
    .exact c.elim
  .exact a.elim
def ya(i:Nat)(mi me:En->R D)(δ:En):O:=match δ[i]? with
 |some (.o (.lst l))=>(me δ).gW δ fun d=>(mi δ).gW δ fun k=>match k with |.int k=>(match gm l.length k with|some j=>.nx (δ.set i (.o (.lst (l.set j d))))|none=>.no) |_=>.no
 |_=>.no
theorem Kn {i : Nat} {ti : TE} {mi : En → R D} (hi : SE K XO E ti mi) (h : SE K XO E te me) : SS K XO E (fD te (sS (bh i) ti ze)) (ya i mi me) := by
  intro Λ F0 H0 F H σ δ Dn I a
  unfold ya at a
  split at a
  · rename_i l q
    obtain ⟨p, s1, vs, s2, s3⟩ := I.own q
    refine h _ _ _ F H _ _ _ I ((cT.of I a).imp fun d F1 H1 e c v r => ⟨_, s1, (hi _ _ _ _ _ _ δ _ (I.grow e) ((cT.of (I.grow e) c).imp fun k F2 H2 e2 c2 v2 r2 => ?_))⟩)
    cases k with
    | int k =>
      subst r2
      dsimp at c2
      cases z : gm _ k with
      | none => rw [z] at c2; exact c2.elim
      | some j =>
        rw [z] at c2
        exact ⟨p, _, k, j, rfl, rfl, e2.hh _ _ (e.hh _ _ s2), by rwa [s3.length], (c2 _ _ _ (((I.grow e).grow e2).chg q s1 ⟨_, b9, ((s3.mono e.ff).mono e2.ff).set j (Rep.mono e2.ff _ r)⟩))⟩
    | _ => exact c2.elim
  · exact a.elim
def ZX(f:Int->Int->Int)(i:Nat)(mi me:En->R D)(δ:En):O:=match δ[i]? with |some (.o (.lst l))=>(mi δ).gW δ fun k=>(match k with |.int k=>(match gm l.length k with |some j=>(match l[j]? with |some (.int x)=>(me δ).gW δ fun y=>(match y with|.int y=>.nx (δ.set i (.o (.lst (l.set j (.int (f x y))))))|_=>.no) |_=>.no) |none=>.no) |_=>.no) |_=>.no
def yb(i:Nat)(mk me:En->R D)(δ:En):O:=match δ[i]? with
 |some (.o (.c9 a l))=>(me δ).gW δ fun d=>(mk δ).gW δ fun k=>match ui k with |some k=>dt (a.length<sizeLine) (.nx (δ.set i (.o (putD a l k d)))) .no |none=>.no
 |_=>.no
theorem Ko(o:SE K XO E tk mk)(h:SE K XO E te me):SS K XO E (Bg (bh i) tk te) (yb i mk me):=by
 intro Λ F0 H0 F H σ δ Dn I a;unfold yb at a;split at a;.rename_i y l q;obtain⟨p,g,B,w,j,x⟩:=I.own q;refine h _ _ _ F H _ _ _ I ((cT.of I a).imp fun d F1 H1 e c v r=>⟨_,g,(o _ _ _ _ _ _ _ _ (I.grow e) ((cT.of (I.grow e) c).imp fun k G C f b A s=>?_))⟩);cases z:ui k with |none=>rw[z] at b;exact b.elim |some k=>
  rw[z] at b;dsimp at b;unfold dt at b;split at b;.cases EB z s;exact⟨p,_,rfl,mQ.k (f.hh _ _ (e.hh _ _ w)) (by grind),b _ _ _ (((I.grow e).grow f).chg q g (R3 (Rep.mono f.ff _ r) j ((x.mono e.ff).mono f.ff)))⟩
  .exact b.elim
 .exact a.elim
theorem R4(h:Top K F H (.c9 ks l) x):∃p o,x=.ref p/\gp H p (kV k) o/\(∀d,jL ks l k=some d->∃v,o=some v/\Rep K F d v)/\(jL ks l k=none->o=none):=by obtain⟨a,b,rfl,c,f,e⟩:=h;exact⟨a,_,rfl,.k c,EC f e⟩
noncomputable def i2(f:Int->Int->D)(x y:D):Option D:=match x,y with|.int i,.int j=>some (f i j)|_,_=>none
def wO(C:Int->Int->Prop)(f:Int->Int->D)(x y:D):Option D:=match x,y with|.int i,.int j=>dt (C i j) (some (f i j)) none|_,_=>none
theorem yc(h:∀i j F,Rep K F (f i j) (g i j)):SR K (mO g) (i2 f):=by intro F H x y c k d Q s l b e q;cases c with
 |int i=> cases k with |int j=> cases e;exact⟨i,j,l,b,q _ F H (.refl s) (h i j F)⟩ |_=>cases e
 |_=>cases e
theorem BI(h:∀i j F,Rep K F (f i j) (g i j)):SR K (rI C g) (wO C f):=by intro F H x y c k d Q s l o e q;cases c with
 |int i=> cases k with
  |int j=>
   simp[wO] at e;unfold dt at e;split at e;.rename_i b;cases e;exact⟨i,j,l,o,b,q _ F H (.refl s) (h i j F)⟩
   simp_all |_=>cases e
 |_=>cases e
def bo:D->D->Option D:=i2 fun i j=>.int (i+j)
def jf:D->D->Option D:=i2 fun i j=>.int (i-j)
def fe:D->D->Option D:=wO (fun i j=>fc i/\fc j) fun i j=>.int (i*j)
def oDiv:D->D->Option D:=wO (fun _ j=>j≠0/\fc j) fun i j=>.int (i.fdiv j)
def oMod:D->D->Option D:=wO (fun _ j=>0<j) fun i j=>.int (i%j)
def lG:D->D->Option D:=wO sU fun i j=>.int (i^j.toNat)
def oLt:D->D->Option D:=i2 fun i j=>.bl (decide (i<j))
def oLe:D->D->Option D:=i2 fun i j=>.bl (decide (i<=j))
def n6:D->D->Option D:=i2 fun i j=>.bl (decide (j<i))
def yd:D->D->Option D:=i2 fun i j=>.bl (decide (j<=i))
theorem fO:SR K (mO fun i j=>.int (i+j)) bo:=yc fun _ _ _=>rfl
theorem ye:SR K (mO fun i j=>.int (i-j)) jf:=yc fun _ _ _=>rfl
theorem tH:SR K (rI (fun i j=>fc i/\fc j) fun i j=>.int (i*j)) fe:=BI fun _ _ _=>rfl
theorem lr:SR K (rI (fun _ j=>j≠0/\fc j) fun i j=>.int (i.fdiv j)) oDiv:=BI fun _ _ _=>rfl
theorem fg:SR K (rI (fun _ j=>0<j) fun i j=>.int (i%j)) oMod:=BI fun _ _ _=>rfl
theorem ED:SR K (rI sU fun i j=>.int (i^j.toNat)) lG:=BI fun _ _ _=>rfl
theorem uS:SR K (mO fun i j=>.bl (decide (i<j))) oLt:=yc fun _ _ _=>rfl
theorem R5:SR K (mO fun i j=>.bl (decide (i<=j))) oLe:=yc fun _ _ _=>rfl
theorem vL:SR K (mO fun i j=>.bl (decide (j<i))) n6:=yc fun _ _ _=>rfl
theorem Kp:SR K (mO fun i j=>.bl (decide (j<=i))) yd:=yc fun _ _ _=>rfl
def jM:D->Option D |.int i=>some (.int (-i)) |_=>none
theorem BJ:SU K (rU fun i=>.int (-i)) jM:=by intro F H x c d Q s b e q;cases c with |int i=>cases e;exact⟨i,b,q _ F H (.refl s) rfl⟩ |_=>cases e
noncomputable def fl:D->Option V |.non=>some .non |.bl b=>some (.bl b) |.int i=>some (.int i) |.str x=>some (.str x) |_=>none
theorem BK(h:fl d=some v)(r:Top K F H d x):x=v:=by cases d with |non=>cases h;simpa[Top,Rep] using r |bl _=>cases h;simpa[Top,Rep] using r |int _=>cases h;simpa[Top,Rep] using r |str _=>cases h;simpa[Top,Rep] using r |_=>cases h
def oEq(x y:D):Option D:=match fl x,fl y with|some a,some b=>if pU a b=true then some (.bl (decide (a=b))) else none|_,_=>none
def uj(x y:D):Option D:=match fl x,fl y with|some a,some b=>if pU a b=true then some (.bl (!decide (a=b))) else none|_,_=>none
theorem ic:SR K IJ oEq:=by
  intro F H x y j k d Q s f i e q;unfold oEq at e;split at e
  . rename_i a b g c;split at e;.rename_i h;cases e;cases BK g f;cases BK c i;exact⟨h,q _ F H (.refl s) rfl⟩
    simp_all
  simp_all
theorem BL:SR K IK uj:=by
  intro F H x y j k d Q s f i e q;unfold uj at e;split at e
  . rename_i a b g c;split at e;.rename_i h;cases e;cases BK g f;cases BK c i;exact⟨h,q _ F H (.refl s) rfl⟩
    simp_all
  simp_all
def BM:D->Bool |.non=>true |_=>false
theorem Kq(r:Top K F H d x):decide (x=.non)=BM d:=by cases d with |non=>subst r;rfl |bl _=>subst r;rfl |int _=>subst r;rfl |str _=>subst r;rfl |tup _=>obtain⟨a,_,rfl,_⟩:=r;rfl |lst _=>obtain⟨a,_,rfl,_⟩:=r;rfl |c9 _ _=>obtain⟨a,_,rfl,_⟩:=r;rfl |du _=>obtain⟨a,rfl,_⟩:=r;rfl |exc _=>obtain⟨a,_,rfl,_⟩:=r;rfl |fd _ _=>obtain⟨a,_,_,rfl,_⟩:=r;rfl |obj _ _ _=>obtain⟨a,_,_,rfl,_⟩:=r;rfl
def tI(x y:D):Option D:=match y with|.non=>some (.bl (BM x))|_=>none
def Kr(x y:D):Option D:=match y with|.non=>some (.bl (!BM x))|_=>none
theorem zI:SR K (fun x y H Q=>y=.non/\Q (.bl (decide (x=.non))) H) tI:=by intro F H x y g a d Q s c b e q;cases a with |non=>cases e;exact⟨b,q _ F H (.refl s) (by simp[Rep];rw[Kq c])⟩ |_=>cases e
theorem R6:SR K (fun x y H Q=>y=.non/\Q (.bl (!decide (x=.non))) H) Kr:=by intro F H x y g a d Q s c b e q;cases a with |non=>cases e;exact⟨b,q _ F H (.refl s) (by simp[Rep];rw[Kq c])⟩ |_=>cases e
def aw(x y:D):Option D:=match x,y with|.lst l,.int i=>jY l i|.du l,.int i=>(jY l i).map .int|_,_=>none
def aL(x y:D):Option D:=match x,y with|.tup l,.int i=>jY l i|_,_=>none
theorem EE(r:aF K F l vs)(h:jY l i=some d):∃v,jY vs i=some v/\Rep K F d v:=by unfold jY at h⊢;rw[r.length];cases q:gm _ i with |none=>simp_all |some j=>rw[q] at h;exact r.get h
theorem cE:SR K (nV K.f) aw:=by intro F H x y p k d Q s h o e q;cases p with
 |lst l=> cases k with |int i=> obtain⟨a,B,rfl,b,A⟩:=h;obtain⟨v,c,g⟩:=EE A e;exact⟨a,_,i,v,rfl,o,.inl b,c,q _ F H (.refl s) g⟩ |_=>cases e
 |du l=> cases k with
  |int i=> obtain⟨a,rfl,b⟩:=h;simp only[aw] at e;cases z:jY l i with |none=>simp_all |some n=> rw[z] at e;cases e;obtain⟨v,c,g⟩:=EE (l:=l.map _) (i:=i) (d:=.int n) .ints (by unfold jY at z⊢;cases q:gm l.length i with |none=>rw[q] at z;cases z |some j=> simp_all);exact⟨a,_,i,v,rfl,o,s.seq b,c,q _ F H (.refl s) g⟩
  |_=>cases e
 |_=>cases e
theorem fm:SR K (ka K.f) aL:=by intro F H x y c k d Q s p o e q;cases c with
 |tup l=> cases k with |int i=> obtain⟨a,w,rfl,j,r⟩:=p;obtain⟨v,b,h⟩:=EE r e;exact⟨a,_,i,v,rfl,o,.inl (.inl (s _ _ j)),b,q _ F H (.refl s) h⟩ |_=>cases e
 |_=>cases e
end
section
variable{K:Kx}{XO:cX}{E:St->XK}{ta tb te ty td:TE}{ma mb me my md:En->R D}{t u:TS}{m n:En->O}{Λ:List (Nat×Addr×HO)}{F0 H0 F H F1 H1:Hp}{σ:St}{δ:En}{Dn:Ends}
abbrev EN:St->XK:=fun _ _ _ _=>False
def BN:Sl->Sl |.o d=>.l d |.p _=>.no |s=>s
def eJ(δ:En)(a:List Nat)(n:Nat):En:=a.map (fun i=>BN (δ[i]?.getD .no))++List.replicate n .no
def n_(f:D->R (Option D)):List D->R (List D) |[]=>.ok [] |d::l=>(f d).bind fun o=>(n_ f l).bind fun r=>.ok (o.toList++r)
def jN(b:D->En->Option En)(e:Option (En->R Bool))(me:En->R D)(δ:En)(d:D):R (Option D):=match b d δ with |none=>.no |some a=>(match e with |none=>(me a).nZ.bind fun x=>.ok (some x) |some c=>(c a).nZ.bind fun k=>if k=true then(me a).nZ.bind fun x=>.ok (some x) else .ok none)
def ly(mi:En->R (List D))(d:List Nat)(n:Nat)(b:D->En->Option En)(c:Option (En->R Bool))(me:En->R D)(δ:En):R D:= (mi δ).bind fun a=>dt (a.length<=sizeLine) ((n_ (jN b c me (eJ δ d n)) a).nZ.bind fun l=>.ok (.lst l)) .no
theorem Ks{n:Nat}(I:aA K Λ F0 H0 F H σ δ)(T:b.Nodup): ∃f,aA K f F0 H0 F H (qK σ b n) (eJ δ b n)/\(∀i:Nat,Sl.own (eJ δ b n)[i]?=true->∃x∈f,x.1=i)/\∀x∈f,∃o,H x.2.1=some o:=by
  have J:∀j:Nat,j<b.length->(eJ δ b n)[j]?=some (BN (δ[b.getD j 0]?.getD .no)):=fun j c=>by unfold eJ;rw[iu (by simpa using c),bB,bx c];simp[bN,bx c]
  have Z:∀j:Nat,j<b.length->(qK σ b n)[j]?=some ((σ[b.getD j 0]?).getD none):=fun j c=>by unfold qK;rw[iu (by simpa using c),bB,bx c];simp[bN,bx c]
  have Y:∀j:Nat,¬j<b.length->(eJ δ b n)[j]?=some .no\/(eJ δ b n)[j]?=none:=fun j c=>by
    unfold eJ;rw[jT (by simpa using c),lQ];split;.grind
    simp_all
  have r:∀j:Nat,Sl.own (eJ δ b n)[j]?=true->j<b.length/\∃d a o,δ[b.getD j 0]?=some d/\Sl.own (some d)=true/\(eJ δ b n)[j]?=some (BN d)/\(∃e,BN d=.l e)/\σ[b.getD j 0]?=some (some (.ref a))/\(qK σ b n)[j]?=some (some (.ref a))/\H a=some o/\H0 a=none/\F a=none:=fun j h=>by
    by_cases c:j<b.length;.refine⟨c,?_⟩;rw[J j c] at h;have z:=I.slot (b.getD j 0);cases q:δ[b.getD j 0]? with |none=>rw[q] at h;cases h |some s=> rw[q] at h z;cases s with |no=>cases h |v d=>cases h |o d=> obtain⟨a,g,k,S,Q⟩:=z;obtain⟨o,N⟩:=Q.obj;exact⟨_,a,o,rfl,rfl,by rw[J j c,q];rfl,⟨d,rfl⟩,g,by rw[Z j c,g];rfl,N,k,S⟩ |l d=> obtain⟨a,g,k,S,Q⟩:=z;obtain⟨o,N⟩:=Q.obj;exact⟨_,a,o,rfl,rfl,by grind,⟨d,rfl⟩,g,by rw[Z j c,g];rfl,N,k,S⟩ |p y=>cases h
    .rcases Y j c with z|z<;>(rw[z] at h;cases h)
  let f:List (Nat×Addr×HO):=(List.range b.length).filterMap fun(j:Nat)=>match(qK σ b n)[j]? with |some (some (V.ref a))=>if Sl.own (eJ δ b n)[j]?=true then(H a).map fun o=>(j,a,o) else none |_=>none;have C:∀x∈f,(qK σ b n)[x.1]?=some (some (.ref x.2.1))/\Sl.own (eJ δ b n)[x.1]?=true/\H x.2.1=some x.2.2:=fun x B=>by
    obtain⟨j,_,h⟩:=lU.mp B;split at h
    . rename_i a q;split at h;.rename_i ow;cases X:H a with |none=>rw[X] at h;cases h |some o=>rw[X] at h;cases h;exact⟨q,ow,X⟩
      .cases h
    .cases h
  have w:∀(j:Nat)(y:Tr),(eJ δ b n)[j]?≠some (.p y):=fun j y h=>by
    by_cases c:j<b.length;.rw[J j c] at h;cases q:δ[b.getD j 0]? with |none=>rw[q] at h;cases h |some s=>rw[q] at h;cases s<;>cases h
    .rcases Y j c with z|z<;>(rw[z] at h;cases h)
  refine⟨f,⟨I.ext,?_,fun j=>?_,fun i j a M h1 h2 h3 G=>?_,fun x B=>?_,fun j y h=>absurd h (w j y)⟩,fun j h=>?_,fun x B=>⟨_,(C x B).2.2⟩⟩;.unfold qK eJ;simp
  . by_cases c:j<b.length;.rw[J j c,Z j c];have z:=I.slot (b.getD j 0);cases q:δ[b.getD j 0]? with |none=>trivial |some s=> rw[q] at z;cases s with |no=>trivial |v d=>obtain⟨u,g,k⟩:=z;exact⟨u,by rw[g];rfl,k⟩ |o d=>obtain⟨a,g,k⟩:=z;exact⟨a,by rw[g];rfl,k⟩ |l d=>obtain⟨a,g,k⟩:=z;exact⟨a,by rw[g];rfl,k⟩ |p y=>trivial
    .rcases Y j c with z|z<;>(rw[z];trivial)
  .obtain⟨A,d1,L,o1,i2,i3,i4,i5,i6,U,i8⟩:=r i h1;obtain⟨j1,d2,a2,o2,j2,j3,j4,j5,j6,j7,j8⟩:=r j h2;rw[U] at h3;cases h3;rw[j7] at G;cases G;refine I.dist (b.getD i 0) (b.getD j 0) a (fun e=>M ?_) (by rwa[i2]) (by rwa[j2]) i6 j6;rw[bN,bN,bx A,bx j1] at e;exact((nK A T).mp (by rw[bx A,bx j1];exact bT some e))
  .obtain⟨m1,m2,m3⟩:=C x B;obtain⟨_,d,_,_,_,_,G,⟨e,h5⟩,_⟩:=r x.1 m2;exact⟨⟨e,by rw[G,h5]⟩,m1,m3⟩
  .obtain⟨A,d1,L,o1,i2,i3,i4,i5,i6,U,i8,_⟩:=r j h;refine⟨(j,L,o1),lU.mpr ⟨j,cF.mpr A,?_⟩,rfl⟩;rw[U];show(if Sl.own (eJ δ b n)[j]?=true then(H L).map fun o=>(j,L,o) else none)=_;rw[ak h,i8];rfl
theorem aA.side(I:aA K Λ F0 H0 F H σ δ)(C:∀i:Nat,Sl.own δ[i]?=true->∃x∈Λ,x.1=i)(G:∀x∈Λ,x.2.1≠p)(h0:H0 p=none)(h1:F p=none):aA K Λ F0 H0 F (upd H p w) σ δ:=by
 have B:∀(i:Nat)(a:Addr),Sl.own _=true->σ[i]?=some (some (.ref a))->a≠p:=fun i a h M=>by obtain⟨x,g,e⟩:=C i h;have z:=(I.gO x g).2.1;grind
 have f:∀(j:Nat)(y:Tr),δ[j]?≠some (.p y):=fun j y h=>by obtain⟨x,g,e⟩:=C j (by rw[h];rfl);obtain⟨d,L⟩:=(I.gO x g).1;grind
 refine⟨⟨I.ext.ff,fun b o q=>?_,fun b o q=>?_,I.ext.nw⟩,I.len,fun i=>?_,I.dist,fun x g=>?_,fun j y h=>absurd h (f j _)⟩;.rw[a9 (eF q h0)];exact I.ext.hh b o q
 .rw[a9 (eF q h1)];exact I.ext.fh b o q
 .have z:=I.slot i;cases q:δ[i]? with |none=>trivial |some s=> rw[q] at z;cases s with |no=>trivial |v d=>exact z |o d=>obtain⟨a,c,k,r,A⟩:=z;exact⟨a,c,k,r,A.at (a9 (B i a (by rw[q];rfl) c))⟩ |l d=>obtain⟨a,c,k,r,A⟩:=z;exact⟨a,c,k,r,A.at (a9 (B i a (by rw[q];rfl) c))⟩ |p y=>grind
 .obtain⟨c,k,r⟩:=I.gO x g;exact⟨c,k,by rwa[a9 (G x g)]⟩
theorem aA.tJ(w:mV δ c)(v:∀x∈Λ,∃d,δ[x.1]?=some (.l d))(I:aA K Λ F0 H0 F H σ c):aA K Λ F0 H0 F H σ δ:=by
  refine⟨I.ext,I.len.trans w.1.symm,fun i=>?_,fun i j a e q B y C=>?_,fun x o=>⟨v x o,(I.gO x o).2⟩,I.gP (fun k s h=>⟨(w.2 k).elim (fun z=>by simp_all) fun z=>by grind,rfl⟩) (fun _ _ _ _ _ _ t f _=>⟨t,fun b G=>(f b G).2⟩) fun k j s r b J _ _ _ _ p A=>.inl ⟨(w.2 j).elim (fun z=>by rw[z] at p;cases p) fun z=>by rwa[<-z],A⟩⟩
  . rcases w.2 i with z|z;.rw[z];trivial
    .rw[z];exact I.slot i
  . have g:∀k,Sl.own δ[k]?=true->Sl.own c[k]?=true:=fun k h=>by
      rcases w.2 k with z|z;.rw[z] at h;cases h
      .rwa[<-z]
    exact I.dist i j a e (g i q) (g j B) y C
theorem R7(h:(n_ f (d::l)).nZ=.ok r):∃o a,f d=.ok o/\(n_ f l).nZ=.ok a/\r=o.toList++a:=by unfold n_ at h;cases q:f d with |no=>rw[q] at h;cases h |ex x=>rw[q] at h;cases h |ok o=> rw[q] at h;cases b:n_ f l with |no=>rw[b] at h;cases h |ex x=>rw[b] at h;cases h |ok a=>rw[b] at h;cases h;simp
theorem jK{r:R α}{a:α}(h:r.nZ=.ok a):r=.ok a:=by cases r with |no=>cases h |ok b=>simp_all |ex x=>cases h
theorem nr{n:Nat}(hi:zE K XO E wi mi)(EF:M.Nodup)(hg:SG K g b)(hw:BW b)(hc:(tc=none/\nc=none)\/∃c k,tc=some c/\nc=some k/\ST K XO EN c k)(he:SE K XO EN te me):nY K XO E (vG wi M n g tc te) (ly mi M n b nc me):=by
  intro Λ F0 H0 F H σ δ Q I a;refine hi Λ F0 H0 F H σ δ _ I (a.bind.imp fun B F1 H1 e1 X J hJ p hp=>?_);unfold dt at X;split at X;case isFalse=>exact X.elim
  have I1:=I.grow e1;obtain⟨f,Ic,s_,tK⟩:=Ks (n:=n) I1 EF;cases qg:(n_ (jN b nc me (eJ δ M n)) B).nZ with |no=>rw[qg] at X;exact X.elim |ex x=>cases q2:n_ (jN b nc me (eJ δ M n)) B<;>(rw[q2] at qg;cases qg) |ok l=>
  rw[qg] at X;have C:∀x∈f,∃d,(eJ δ M n)[x.1]?=some (.l d):=fun x hx=>(Ic.gO x hx).1;have EG:∀x∈f,x.2.1≠p:=fun x hx e=>by obtain⟨o,ho⟩:=tK x hx;simp_all
  have p0:H0 p=none:=I1.ext.hh.free hp;have f1:F1 p=none:=e1.fh.free hp;refine⟨fun i k A ug H2=>∃U Z l2,aA K f F0 H0 U H2 ug (eJ δ M n)/\Ext F1 H1 U H2/\H2 p=some (.lst A)/\U p=none/\aF K U Z A/\(n_ (jN b nc me (eJ δ M n)) (B.drop i)).nZ=.ok l2/\l=Z++l2/\k=B.length-i/\i<=B.length/\A.length<=i, ⟨_,F1,[],l,?_,.eM e1.fh hp,b9,f1,.nil,qg,rfl,rfl,cG _,aB _⟩,?_⟩;.exact Ic.grow (.eM e1.fh hp)
  rintro i k A ug H2 ⟨U,Z,l2,I2,x2,hD,hF,r,qd,rfl,rfl,Kt,EH⟩;refine⟨hD,?_⟩;by_cases uk:i<B.length;.have e:B.drop i=B[i]::B.drop (i+1):=sA uk;rw[e] at qd;obtain⟨o,l3,s,q3,rfl⟩:=R7 qd;obtain⟨h1,h2⟩:=(hJ U H2 x2 i).1 B[i] (by simp);refine .inr ⟨h1,fun S lV L=>∃G h,aA K f F0 H0 G L lV (eJ δ M n)/\Ext F1 H1 G L/\L p=some (.lst S)/\G p=none/\aF K G h S/\Z++(o.toList++l3)=h++l3/\S.length<=i+1, fun S lV L ⟨G,h,w1,w2,w3,w4,w5,w6,w7⟩=>⟨_,by omega,G,h,l3,w1,w2,w3,w4,w5,q3,w6,rfl,uk,w7⟩,fun x L y=>?_⟩;obtain⟨F3,e3,rx⟩:=h2 x L y;have Ku:∀{F5 T:Hp},Ext U H2 F5 T->T p=some (.lst A)/\F5 p=none:=fun z=>⟨z.hh _ _ hD,z.nw p _ hF hD⟩;unfold jN at s;cases qb:b B[i] (eJ δ M n) with |none=>rw[qb] at s;cases s |some j=>
      rw[qb] at s;have Kv:=hw _ _ _ qb;refine hg f F0 H0 F3 L ug _ _ x j _ (I2.grow e3) rx qb fun N I3=>?_;have fin:∀F4 H4,Ext F3 L F4 H4->(me j).nZ.bind (fun x=>R.ok (some x))=.ok o->te N H4 fun y T=>T p=some (.lst A)/\A.length<sizeLine/\ ∃G h,aA K f F0 H0 G (upd T p (.lst (A++[y]))) N (eJ δ M n)/\Ext F1 H1 G (upd T p (.lst (A++[y])))/\upd T p (.lst (A++[y])) p=some (.lst (A++[y]))/\G p=none/\aF K G h (A++[y])/\Z++(o.toList++l3)=h++l3/\(A++[y]).length<=i+1:=by intro F4 H4 Y qe;cases qm:me j with |no=>rw[qm] at qe;cases qe |ex x=>rw[qm] at qe;cases qe |ok d=> rw[qm] at qe;cases qe;refine he f F0 H0 F4 H4 N j _ (I3.grow Y) ?_;rw[qm];intro F5 T e5 v rv;have z:=e3.trans (Y.trans e5);obtain⟨z1,z2⟩:=Ku z;refine⟨z1,by lia,F5,Z++[d],(((I3.grow Y).grow e5).tJ Kv C).side s_ EG p0 z2,?_,b9,z2,(r.mono z.ff).append (.cons rv .nil),by simp,by simpa using EH⟩;have w:=x2.trans z;exact⟨w.ff,fun c o q=>by rw[a9 (eF q hp)];exact w.hh c o q,fun c o q=>by rw[a9 (eF q z2)];exact w.fh c o q,w.nw⟩
      rcases hc with⟨rfl,rfl⟩|⟨c,kc,rfl,rfl,R8⟩;.have z:=fin F3 L (.refl e3.fh) s;exact z
      .simp only at s;refine R8 f F0 H0 F3 L N j _ I3 ?_;cases qk:kc j with |no=>rw[qk] at s;cases s |ex x=>rw[qk] at s;cases s |ok bb=> rw[qk] at s;intro F4 H4 Y;cases bb with |true=>exact fin F4 H4 Y s |false=>
            rw[ao cW];have eo:o=none:=by cases s;rfl
            subst eo;have z:=e3.trans Y;obtain⟨z1,z2⟩:=Ku z;exact⟨F4,Z,(I3.grow Y).tJ Kv C,x2.trans z,z1,z2,r.mono z.ff,rfl,by lia⟩
  . have e:i=B.length:=by lia
    subst e;rw[qD] at qd;cases qd;refine .inl ⟨(hJ U H2 x2 _).2 (by simp),X _ _ x2 p hF (e1.hh.free hp) ⟨_,hD,?_⟩⟩;rwa[f_]
noncomputable def rY(n:Nat)(ds:List D):En:=ds.map .v++List.replicate n .no
def cf(np nv:Nat)(m:En->O)(ds:List D):R D:=if ds.length=np then(match m (rY nv ds) with|.rt d=>.ok d|.nx _=>.ok .non|.ex _ x=>.ex x|_=>.no) else .no
theorem Kw(s:aD F H)(r:aF K F ds vs)(h:N.length=np+nv)(k:ds.length=np):aA K [] F H F H (L2.start N vs) (rY nv ds):=by
  have e:=r.length;unfold L2.start rY;have f:N.length-vs.length=nv:=by lia
  rw[f];refine⟨.refl s,by simp[e],fun i=>?_,fun i j a _ b _ _ _=>?_,fun x g=>(by cases g),fun i l b=>by
    by_cases c:i<ds.length;.rw[iu (by simp_all),bB,bx c] at b;cases b
    .rw[jT (by simpa using c),lQ] at b;simp_all⟩
  . by_cases c:i<ds.length;.rw[iu (by grind),iu (by simp_all),bB,bB,bx c];obtain⟨v,b,d⟩:=r.get (bx _);rw[b];exact⟨v,rfl,d⟩
    .rw[jT (by simp_all),lQ];split<;>trivial
  . by_cases c:i<ds.length;.rw[iu (by simpa using c),bB,bx c] at b;cases b
    .rw[jT (by simpa using c),lQ] at b;split at b<;>cases b
theorem BO{E:XK}(h:SS K XO (fun _=>E) t m)(g:N.length=np+nv)(sp:qc K XO (cf np nv m) vs H Q E):t {nx:=fun _ H'=>Q .non H',rt:=Q} (L2.start N vs) H:=by
 obtain⟨F,i,s,r,a⟩:=sp;unfold cf at a;split at a;.rename_i f;refine h _ F H F H _ _ _ (Kw s r g f) ?_;cases q:m _ with |no=>rwa[q] at a |nx δ=>rw[q] at a;exact fun σ b H' I=>a _ _ I.ext _ rfl |rt d=>rw[q] at a;exact fun v b H' e r=>a _ _ e v r |ro d=>rw[q] at a;exact a.elim |bk δ=>rw[q] at a;exact a.elim |ct δ=>rw[q] at a;exact a.elim |ex δ x=>rw[q] at a;exact fun σ b H' C c I w=>a C _ _ _ I.ext w
 .exact a.elim
def fi(np nv:Nat)(m:En->O)(ds:List D):R D:=if ds.length=np then(match m (rY nv ds) with|.ro d=>.ok d|.ex _ x=>.ex x|_=>.no) else .no
def wQ(K:Kx)(XO:cX)(f:List D->R D):Sp:=fun e H Q E=>∃F b,aD F H/\aF K F b e/\fH (fun _=>E) XO [] F H (fun d c a=>∀p,c p=none->H p=none->Own K c a d p->Q (.ref p) a) (f b)
theorem Ky{E:XK}(h:SS K XO (fun _=>E) t m)(g:N.length=np+nv)(sp:wQ K XO (fi np nv m) vs H Q E):t {nx:=fun _ H'=>Q .non H',rt:=Q} (L2.start N vs) H:=by
 obtain⟨F,l,s,r,a⟩:=sp;unfold fi at a;split at a;.rename_i j;refine h _ F H F H _ _ _ (Kw s r g j) ?_;cases q:m _ with |no=>rwa[q] at a |nx δ=>rw[q] at a;exact a.elim |rt d=>rw[q] at a;exact a.elim |ro d=>rw[q] at a;exact fun p b H' e c i o=>a _ _ e p c i o |bk δ=>rw[q] at a;exact a.elim |ct δ=>rw[q] at a;exact a.elim |ex δ x=>rw[q] at a;exact fun σ b H' C f I w=>a C _ _ _ I.ext w
 .exact a.elim
theorem Kz{E:XK}(sp:wQ K XO (fi np nv m) vs H Q E):vs.length=np:=by
 obtain⟨F,b,s,r,a⟩:=sp;unfold fi at a;split at a;.rwa[r.length]
 .exact a.elim
theorem EI{E:XK}(sp:qc K XO (cf np nv m) vs H Q E):vs.length=np:=by
 obtain⟨F,b,s,r,a⟩:=sp;unfold cf at a;split at a;.rwa[r.length]
 .exact a.elim
theorem R9{E:XK}(c:f [.du ns]=.ok (.bl true))(h:gh K.f H a (ns.map V.int))(q:∀H',Q (.bl true) H'):qc K XO f [.ref a] H Q E:=by
  refine⟨fun b=>if b=a then H b else none,[.du ns],fun b o e=>?_,.cons ?_ .nil,?_⟩;.simp_all
  . refine⟨a,rfl,?_⟩;rcases h with(h|⟨o,h⟩)|h;.exact .inl (.inl (by simp_all))
    .exact .inl (.inr ⟨o,by simp_all⟩)
    .exact .inr h
  .rw[c];intro d H' _ v r;simp[Rep] at r;simp_all
theorem og(h:SA K XO E g ml):nY K XO E (wx (wQ K XO f) [] k g) (bD f ml):=fun Λ F0 H0 F H σ δ Q I a=>h _ _ _ F H _ _ _ I (a.bind.imp fun e F1 H1 b c s r=>⟨_,e,b.fh,by simp_all,fH.imp (fun d w v l p q j i o=>p q j (b.hh.free i) o) (fH.any c)⟩)
theorem EJ {f : List D → R D} {tl : TA} {ml : En → R (List D)} (h : SA K XO E tl ml) : nY K XO E (Bs (wQ K XO f) E tl) (iV f ml) := by
  intro Λ F0 H0 F H σ δ Q I a
  refine h _ _ _ F H _ _ _ I (a.bind.imp fun ds F1 H1 e1 a1 vs r => ⟨_, _, e1.fh, r, ?_⟩)
  cases q : f _ with
  | no => rwa [q] at a1
  | ok d => rw [q] at a1; exact fun F2 H2 e2 p h0 h1 o => a1 _ _ e2 p h0 (e1.hh.free h1) o
  | ex x => rwa [q] at a1
mutual
def uT : D -> Bool
 | .tup l => zJ l
 | .lst _ => false
 | .c9 _ _ => false
 | .du _ => false
 | .exc _ => false
 | .fd _ _ => false
 | .obj _ _ _ => false
 | _ => true
def zJ : List D -> Bool
 | [] => true
 | d :: l => uT d && zJ l
end
variable(K) in
def vM(F H:Hp)(d:D)(v:V):Prop:=Rep K F d v\/(∃a,v=.ref a/\Own K F H d a)\/∃T b,d=rW T/\eB K F H T v b
variable(K XO E) in
def yf(t:TA)(m:En->R (List D)):Prop:=∀Λ F0 H0 F H σ δ Q,aA K Λ F0 H0 F H σ δ->fH E XO σ F H (fun c d b=>∀a,tE (vM K d b) c a->Q a b) (m δ)->t σ H Q
theorem vM.mono{F H f H':Hp}(e:Ext F H f H'):vM K F H d v->vM K f H' d v |.inl h=>.inl (Rep.mono e.ff _ h) |.inr (.inl ⟨a,b,c⟩)=>.inr (.inl ⟨a,b,c.mono e.ff e.hh⟩) |.inr (.inr ⟨T,_,b,c⟩)=>.inr (.inr ⟨T,_,b,eB.mono e.ff e.hh T c⟩)
theorem EK:yf K XO E bZ ae:=fun Λ F0 H0 F H σ δ Q I a=>a F H (.refl I.same) _ .nil
theorem zK(j:SE K XO E ta ma)(g:yf K XO E e k):yf K XO E (dE ta e) (ai ma k):=by intro Λ F0 H0 F H σ δ Q I a;refine j _ _ _ F H _ _ _ I (a.bind.imp fun l F1 H1 d h x f=>(g _ _ _ _ _ _ _ _ (I.grow d) (h.bind.imp fun p o q b i y c=>?_)));exact i _ _ (.refl b.fh) _ (.cons (.inl (Rep.mono b.ff _ f)) c)
theorem BQ(x:yf K XO E B j):yf K XO E (dE (bh i) B) (ai (ag i) j):=by
 intro Λ F0 H0 F H σ δ Q I a;have c:∀d v,ag i _=.ok d->σ[i]?=some _->vM K F H d v->dE (bh i) _ _ H Q:=fun d v A r b=>by unfold ai at a;rw[A] at a;refine⟨v,r,x _ _ _ F H _ _ _ I (fH.imp (fun G M J h k y w=>?_) (fH.bind a))⟩;exact k _ _ (.refl h.fh) _ (.cons (b.mono h) w)
 have z:=I.slot i;unfold ai at a
 cases q:δ[i]? with |none=>
  have e:ag i δ=.no:=by unfold ag;rw[q]
  rw[e] at a;exact a.elim |some s=>
  rw[q] at z;cases s with |no=>
   have e:ag i δ=.no:=by unfold ag;rw[q]
   rw[e] at a;exact a.elim |v d=>obtain⟨u,f,g⟩:=z;exact c d u (by unfold ag;rw[q]) f (.inl g) |o d=>obtain⟨u,f,_,_,g⟩:=z;exact c d _ (by unfold ag;rw[q]) f (.inr (.inl ⟨u,rfl,g⟩)) |l d=>obtain⟨u,f,_,_,g⟩:=z;exact c d _ (by unfold ag;rw[q]) f (.inr (.inl ⟨u,rfl,g⟩)) |p L=>
   have e:ag i δ=.no:=by unfold ag;rw[q]
   rw[e] at a;exact a.elim
def j9(F H:Hp):Hp:=fun b=>match F b with |some o=>some o |none=>match H b with |some (.lst c)=>some (.lst c) |some (.dK a)=>some (.dK a) |some (.fB o u)=>some (.fB o u) |some (.ins C e d)=>some (.ins C e d) |_=>none
theorem vN{F H:Hp}:aD F (j9 F H):=fun b o h=>by unfold j9;rw[h]
theorem KA{F H:Hp}(s:aD F H):aD (j9 F H) H:=fun b o h=>by unfold j9 at h;cases q:F b with |some u=>rw[q] at h;cases h;exact s _ _ q |none=> grind
theorem R_(s:aD F H)(h:H a=some (.lst vs)):j9 F H a=some (.lst vs):=by unfold j9;cases q:F a with |some u=>rwa[s _ _ q] at h |none=>simp_all
mutual
theorem EL (s : aD F H) : ∀ (T : Tr) {v : V} {fp : List Addr}, eB K F H T v fp -> Rep K (j9 F H) (rW T) v
 | .d x, v, fp, h => Rep.mono vN x h.2
 | .l _, v, fp, h => by
  obtain ⟨a, c, o, rfl, j, f, g⟩ := h
  exact ⟨a, _, rfl, R_ s f, EM s _ g⟩
 | .t _, v, fp, h => by
  obtain ⟨a, c, rfl, f, g⟩ := h
  exact ⟨a, _, rfl, vN _ _ f, EM s _ g⟩
theorem EM (s : aD F H) : ∀ (i : List Tr) {c : List V} {fp : List Addr}, bE K F H i c fp -> aF K (j9 F H) (kO i) c
 | [], c, fp, h => by
  simp only [bE] at h
  rw [h.1]
  simp only [kO]
  exact .nil
 | t :: i, c, fp, h => by
  simp only [bE] at h
  obtain ⟨v, r, p, k, rfl, j, f, g⟩ := h
  simp only [kO]
  exact .cons (EL s t f) (EM s i g)
end
theorem EO{F H:Hp}(s:aD F H):∀{d:D}{v:V},vM K F H d v->Rep K (j9 F H) d v:=by
 intro d v h;rcases h with h|⟨a,rfl,h⟩|⟨T,r,rfl,h⟩;.exact Rep.mono vN _ h
 .cases d with
  |lst l=> obtain⟨g,e,b⟩:=h;refine⟨a,_,rfl,?_,b.mono vN⟩;unfold j9;cases q:F a with |some u=>rwa[s _ _ q] at e |none=>simp_all
  |c9 p l=> obtain⟨g,e,f,b⟩:=h;refine⟨a,_,rfl,?_,f,b.mono vN⟩;unfold j9;cases q:F a with |some u=>rwa[s _ _ q] at e |none=>simp_all
  |obj c p l=> obtain⟨j,g,e,f,b⟩:=h;refine⟨a,j,_,rfl,?_,f,b.mono vN⟩;unfold j9;cases q:F a with |some u=>rwa[s _ _ q] at e |none=>simp_all
  |_=>exact h.elim
 .exact EL s T h
theorem KC{F H:Hp}(s:aD F H):∀{ds:List D}{vs:List V},tE (vM K F H) ds vs->aF K (j9 F H) ds vs |_,_,.nil=>.nil |_,_,.cons h t=>.cons (EO s h) (KC s t)
open Classical in
def kf(F H a:Hp):Hp:=fun b=>if F b=none/\H b≠none then none else a b
theorem R'{F H f H':Hp}(e:Ext (j9 F H) H f H')(h:f a=some o)(h1:∀vs,o≠.lst vs)(h2:∀kvs,o≠.dK kvs)(h3:∀q u,o≠.fB q u)(g:∀C d fs,o≠.ins C d fs):kf F H f a=some o:=by
 unfold kf;split;.rename_i l;exfalso;cases c:H a with |none=>simp_all |some u=>
  have b:j9 F H a=match H a with|some (.lst vs)=>some (.lst vs)|some (.dK kvs)=>some (.dK kvs)|some (.fB o u)=>some (.fB o u)|some (.ins C d fs)=>some (.ins C d fs)|_=>none:=by unfold j9;rw[l.1]
  cases u with |lst vs=>rw[c] at b;have z:=e.ff a _ b;grind |dK vs=>rw[c] at b;have z:=e.ff a _ b;rw[h] at z;simp_all |fB q w=>rw[c] at b;have z:=e.ff a _ b;rw[h] at z;cases z;exact h3 q w rfl |ins C d fs=>rw[c] at b;have z:=e.ff a _ b;rw[h] at z;cases z;exact g C _ _ rfl |_=>rw[c] at b;have z:=e.nw a _ b c;rw[h] at z;cases z
 .exact h
mutual
theorem ER {F H f H' : Hp} (e : Ext (j9 F H) H f H') : ∀ (d : D) {v : V}, uT d = true -> Rep K f d v -> Rep K (kf F H f) d v
 | .non, v, _, h => h
 | .bl _, v, _, h => h
 | .int _, v, _, h => h
 | .str _, v, _, h => h
 | .lst _, v, c, h => by cases c
 | .c9 _ _, v, c, h => by cases c
 | .du _, v, c, h => by cases c
 | .exc _, v, c, h => by cases c
 | .fd _ _, v, c, h => by cases c
 | .obj _ _ _, v, c, h => by cases c
 | .tup l, v, c, h => let ⟨a, _, j, o, k⟩ := h;⟨a, _, j, R' e o (fun _ z => by cases z) (fun _ z => by cases z) (fun _ _ z => by cases z) (fun _ _ _ z => by cases z), KD e l c k⟩
theorem KD {F H f H' : Hp} (e : Ext (j9 F H) H f H') : ∀ (l : List D) {i : List V}, zJ l = true -> aF K f l i -> aF K (kf F H f) l i
 | [], i, _, h => by simp only [aF] at h ⊢; exact h
 | d :: l, i, c, h => by
  simp only [zJ, iY] at c
  simp only [aF] at h ⊢
  obtain ⟨v, r, j, o, k⟩ := h
  exact ⟨v, r, j, ER e d c.1 o, KD e l c.2 k⟩
end
theorem KG{F H a H':Hp}(e:Ext (j9 F H) H a H'):Ext F H (kf F H a) H':=by
  refine⟨fun b o h=>?_,e.hh,fun b o h=>?_,fun p o c f=>?_⟩;.unfold kf;rw[ao (fun d=>by simp_all)];exact e.ff b o (vN b o h)
  . unfold kf at h;split at h;.cases h
    .exact e.fh b o h
  .unfold kf;rw[ak ⟨c,by simp_all⟩]
def tL(f:List D->R D)(ml:En->R (List D))(δ:En):R D:=(ml δ).bind fun l=>(f l).nZ.bind fun d=>if uT d=true then .ok d else .no
theorem ES(h:yf K XO E j ml):SE K XO E (wx (qc K XO f) [] o j) (tL f ml):=by intro Λ F0 H0 F H σ δ Q I a;refine h _ _ _ F H _ _ _ I (a.bind.imp fun l F1 H1 c b s r=>⟨_,_,KA c.fh,by rw[f_];exact KC c.fh r,?_⟩);cases q:f _ with |no=>rwa[q] at b |ex x=>rw[q] at b;exact b.elim |ok d=>
 rw[q] at b;intro z w e v g;simp[R.jK] at b;split at b;.rename_i i;exact b _ _ (KG e) v (ER e d i g)
 .exact b.elim
variable(K) in
def SC(r:List V->Hp->VK->Prop)(f:List D->Option D):Prop:=∀F H e b d Q,aD F H->tE (Top K F H) b e->f b=some d->(∀v c a,Ext F H c a->Rep K c d v->Q v a)->r e H Q
variable(K) in
def BR(r:List V->Hp->VK->Prop)(f:List D->Option D):Prop:=∀F H e c d Q,aD F H->tE (Top K F H) c e->f c=some d->(∀p b a,Ext F H b a->b p=none->H p=none->Own K b a d p->Q (.ref p) a)->r e H Q
def bp(f:List D->Option D)(ml:En->R (List D))(δ:En):R D:=(ml δ).bind fun l=>R.of (f l)
theorem fU(j:SC K r f)(h:uO K XO E i ml):SE K XO E (k9 r i) (bp f ml):=by intro Λ F0 H0 F H σ δ Q I a;refine h _ _ _ F H _ _ _ I (a.bind.imp fun k F1 H1 c b o g=>?_);cases q:f _ with |none=>rw[q] at b;exact b.elim |some d=>rw[q] at b;exact j _ _ _ _ d Q c.fh g q fun v l p e r=>b _ _ e v r
theorem qj(j:BR K r f)(h:uO K XO E k ml):nY K XO E (k9 r k) (bp f ml):=by intro Λ F0 H0 F H σ δ Q I a;refine h _ _ _ F H _ _ _ I (a.bind.imp fun s F1 H1 c b v i=>?_);cases q:f _ with |none=>rw[q] at b;exact b.elim |some d=>rw[q] at b;exact j _ _ _ _ d Q c.fh i q fun p w x e l g o=>b _ _ e p l (c.hh.free g) o
noncomputable def aW:List D->Option D |[.lst l]=>some (.int l.length) |[.du l]=>some (.int l.length) |[.tup l]=>some (.int l.length) |_=>none
theorem kg:SC K (fun xs H Q=>∃p ys,xs=[.ref p]/\(gh K.f H p ys\/jo K.f H p ys)/\Q (.int ys.length) H) aW:=by
 intro F H i h d Q s r e q;unfold aW at e;split at e;.cases e;cases r with |cons r c=> cases c;obtain⟨a,xs,rfl,f,g⟩:=r;exact⟨a,_,rfl,.inl (.inl f),q _ F H (.refl s) (by simp[Rep];rw[g.length])⟩
 .cases e;cases r with |cons r c=> cases c;obtain⟨a,rfl,f⟩:=r;exact⟨a,_,rfl,.inl (s.seq f),q _ F H (.refl s) (by simp only[Rep];simp)⟩
 .cases e;cases r with |cons r c=> cases c;obtain⟨a,xs,rfl,f,g⟩:=r;exact⟨a,_,rfl,.inr (.inl (.inl (s _ _ f))),q _ F H (.refl s) (by simp[Rep];rw[g.length])⟩
 simp_all
def tM:List D->Option D |[.int i]=>some (.int (if i<0 then-i else i)) |_=>none
theorem KH:SC K (fun xs H Q=>∃i,xs=[.int i]/\Q (.int (if i<0 then-i else i)) H) tM:=by
 intro F H c f d Q s r e q;unfold tM at e;split at e;.rename_i i;cases e;cases r with |cons r b=> cases b;subst r;exact⟨i,rfl,q _ F H (.refl s) rfl⟩
 simp_all
def kq:List D->Option D |[.lst l]=>some (.lst l) |[.tup l]=>some (.lst l) |_=>none
theorem uU:BR K (fun xs H Q=>∃p ys,xs=[.ref p]/\(gh K.f H p ys\/jo K.f H p ys)/\∀l,H l=none->Q (.ref l) (upd H l (.lst ys))) kq:=by
 intro F H i j d Q s r e q;unfold kq at e;split at e;.cases e;cases r with |cons r f=> cases f;obtain⟨a,xs,rfl,g,h⟩:=r;exact⟨a,_,rfl,.inl (.inl g),fun p b=>q _ F _ (.eM s b) (s.free b) b ⟨_,b9,h⟩⟩
 .cases e;cases r with |cons r f=> cases f;obtain⟨a,xs,rfl,g,h⟩:=r;exact⟨a,_,rfl,.inr (.inl (.inl (s _ _ g))),fun p b=>q _ F _ (.eM s b) (s.free b) b ⟨_,b9,h⟩⟩
 simp_all
def KI:D->Option Int |.int i=>some i |_=>none
def bG(_:En):R (Option Int):=.ok none
def cz(me:En->R D)(δ:En):R (Option Int):=(me δ).bind fun d=>(R.of (KI d)).bind fun i=>.ok (some i)
variable(K XO E) in
def SO(t:TO)(m:En->R (Option Int)):Prop:=∀Λ F0 H0 F H σ δ Q,aA K Λ F0 H0 F H σ δ->fH E XO σ F H (fun o _ a=>Q o a) (m δ)->t σ H Q
theorem gY:SO K XO E A_ bG:=fun Λ F0 H0 F H σ δ Q I a=>a F H (.refl I.same)
theorem fP(h:SE K XO E te me):SO K XO E (vD te) (cz me):=by intro Λ F0 H0 F H σ δ Q I a;refine h _ _ _ F H _ _ _ I (a.bind.imp fun d F1 H1 e b v r=>?_);cases d with |int i=>exact⟨i,r,b _ _ (.refl e.fh)⟩ |_=>exact b.elim
def cutD(xs:List D)(lo hi:Option Int):List D:=(xs.drop (HT.eY xs.length 0 lo)).take (HT.eY xs.length xs.length hi-HT.eY xs.length 0 lo)
def dg(me:En->R D)(ml mh:En->R (Option Int))(δ:En):R D:=(me δ).bind fun d=>(ml δ).bind fun b=>(mh δ).bind fun a=>(R.of (zF d)).bind fun l=>.ok (.lst (cutD l b a))
theorem ie(h:kP K XO E te me)(z:SO K XO E w ml)(y:SO K XO E x mh):nY K XO E (wA (zf K.f) te w x) (dg me ml mh):=by intro Λ F0 H0 F H σ δ Q I a;refine h _ _ _ F H _ _ _ I (a.bind.imp fun d F1 H1 f k v r=>?_);refine z _ _ _ _ _ _ _ _ (I.grow f) (k.bind.imp fun C N L e s=>(y _ _ _ _ _ _ _ _ ((I.grow f).grow e) (s.bind.imp fun J G B b i=>?_)));cases d with |lst l=> obtain⟨p,M,rfl,g,j⟩:=r;refine⟨p,_,rfl,.inl (PM.aD.rd b.hh (PM.aD.rd e.hh g)),fun q c=>i _ _ (.eM b.fh c) q (b.fh.free c) (f.hh.free (e.hh.free (b.hh.free c))) ⟨_,b9,?_⟩⟩;unfold cutD nU;rw[<-j.length];exact(((j.mono e.ff).mono b.ff).drop _).take _ |du l=> obtain⟨p,rfl,g⟩:=r;refine⟨p,_,rfl,b.hh.seq (e.hh.seq (f.fh.seq g)),fun q c=>i _ _ (.eM b.fh c) q (b.fh.free c) (f.hh.free (e.hh.free (b.hh.free c))) ⟨_,b9,?_⟩⟩;unfold cutD nU;rw[aI,aI];exact(aF.ints.drop _).take _ |_=>exact i.elim
end
def bU(x y:D):Option D:=match x,y with|.lst l,.lst r=>dt (l.length+r.length<=sizeLine) (some (.lst (l++r))) none|_,_=>none
def fE:Nat->D->Bool |_,.non=>true |_,.int _=>true |n+1,.tup l=>l.all (fE n) |n+1,.lst l=>l.all (fE n) |_,_=>false
open Classical in
def gr(x y:D):Option D:=dt (fE 8 x=true/\fE 8 y=true) (some (.bl (decide (x=y)))) none
open Classical in
def ig(x y:D):Option D:=dt (fE 8 x=true/\fE 8 y=true) (some (.bl (!decide (x=y)))) none
noncomputable def uV:String->D->Bool |"int",.int _=>true |"int",.bl _=>true |"bool",.bl _=>true |"list",.lst _=>true |"tuple",.tup _=>true |"str",.str _=>true |_,_=>false
def ET:D->Bool |.du _=>false |.exc _=>false |.fd _ _=>false |.obj _ _ _=>false |_=>true
def zL(c:String)(d:D):Option D:=match d with|.du _=>none|.exc _=>none|.fd _ _=>none|.obj _ _ _=>none|d=>some (.bl (uV c d))
noncomputable def c5:List D->Option (List Int) |[]=>some [] |.int i::l=>(c5 l).map (i::.) |_=>none
theorem qO(ns:List Int):c5 (ns.map .int)=some ns:=by induction ns with |nil=>rfl |cons a l c=>simp[c5,c]
theorem rq(h:c5 l=some ns):l=ns.map .int:=by induction l generalizing ns with |nil=>cases h;rfl |cons d l e=> cases d with
 |int i=> simp[c5] at h;cases q:c5 l with |none=>simp_all |some m=>grind
 |_=>cases h
def kQ:List D->Option D |[.lst l]=>(c5 l).map fun a=>.int a.sum |_=>none
def ij:List Int->Int->Int |[],m=>m |a::l,m=>ij l (if a>m then a else m)
theorem KJ(h:qi c m n δ=o)(p:o≠.no):x_ c m δ=o:=by
 have a:∀k n δ,qi c m n δ≠.no->qi c m (n+k) δ=qi c m n δ:=by intro k n;induction n with |zero=>intro δ h;exact absurd rfl h |succ n j=>
  intro δ h;have e:n+1+k=(n+k)+1:=by lia
  rw[e];unfold qi at h⊢;cases q:c _ with |no=>rfl |ex x=>rfl |ok b=> rw[q] at h;cases b with |false=>rfl |true=> cases i:m _<;>simp[i] at h⊢<;>exact j _ h
 have d:∃n,qi c m n _≠.no:=⟨n,by rwa[h]⟩;unfold x_;rw[dif_pos d];rw[<-(a n _ _ (Classical.choose_spec d)),Nat.add_comm,(a (Classical.choose _) n _ (by simp_all)),h]
theorem EU{b:Type}(enc:b->D)(g:b->Option D):∀(l:List b),(∀x∈l,f (enc x)=.ok (g x))->n_ f (l.map enc)=.ok (l.filterMap g) |[],_=>rfl |x::l,h=>by rw[b7];unfold n_;rw[EU _ g l fun y c=>h y (bz _ c)];cases q:g x with |none=>simp_all |some d=>simp_all
theorem Sa(h:n<=100000):n<=sizeLine:=bV h (by decide)
theorem KL(h:n<=100000):n<sizeLine:=iB h (by decide)
theorem dH(n:Nat)(h:i.natAbs<=n)(h2:n<2^8000:=by decide+kernel):fc i:=iB h h2
@[simp] theorem tN(i j:Int):bo (.int i) (.int j)=some (.int (i+j)):=rfl
@[simp] theorem BS(i j:Int):jf (.int i) (.int j)=some (.int (i-j)):=rfl
theorem uW(h:fc i)(h':fc j):fe (.int i) (.int j)=some (.int (i*j)):=gq ⟨h,h'⟩
theorem Sb(h:j≠0)(h':fc j):oDiv (.int i) (.int j)=some (.int (i.fdiv j)):=gq ⟨h,h'⟩
theorem um(h:0<j)(h':fc j):oDiv (.int i) (.int j)=some (.int (i/j)):=by rw[Sb (by omega) h',Int.fdiv_eq_ediv_of_nonneg _ (by omega)]
theorem lz(h:0<j):oMod (.int i) (.int j)=some (.int (i%j)):=gq h
theorem EV(h:sU i j):lG (.int i) (.int j)=some (.int (i^j.toNat)):=gq h
@[simp] theorem KN(i j:Int):oLt (.int i) (.int j)=some (.bl (decide (i<j))):=rfl
@[simp] theorem ZY (i j : Int) : oLe (.int i) (.int j) = some (.bl (decide (i ≤ j))) := rfl
@[simp] theorem wR(i j:Int):n6 (.int i) (.int j)=some (.bl (decide (j<i))):=rfl
@[simp] theorem ZZ(i j:Int):yd (.int i) (.int j)=some (.bl (decide (j<=i))):=rfl
@[simp] theorem Sd(i:Int):jM (.int i)=some (.int (-i)):=rfl
@[simp] theorem rZ(i j:Int):oEq (.int i) (.int j)=some (.bl (decide (i=j))):=by simp[oEq,fl,pU]
@[simp] theorem Z0(i j:Int):uj (.int i) (.int j)=some (.bl (!decide (i=j))):=by simp[uj,fl,pU]
@[simp] theorem Z1 (d : D) : tI d .non = some (.bl (BM d)) := rfl
@[simp] theorem Se(b:Bool):BD (.bl b)=some b:=rfl
@[simp] theorem Z2(l:List D):zF (.lst l)=some l:=rfl
@[simp] theorem KO (l : List D) : Ex (.tup l) = some l := rfl
@[simp] theorem EW(i:Int):KI (.int i)=some i:=rfl
@[simp] theorem Z3(l:List D):aW [.lst l]=some (.int l.length):=rfl
@[simp] theorem Z4 (l : List D) : aW [.tup l] = some (.int l.length) := rfl
@[simp] theorem Z5 (l : List D) : kq [.lst l] = some (.lst l) := rfl
@[simp] theorem Z6 (a b : D) : aL (.tup [a, b]) (.int 0) = some a := rfl
@[simp] theorem Z7 (a b : D) : aL (.tup [a, b]) (.int 1) = some b := rfl
theorem eL{l:List α}{k:Nat}{d:α}(h:l[k]?=some d):jY l (k:Int)=some d:=by have a:=(cI.mp h).1;unfold jY gm;rwa[ak (by omega),ak (by omega)]
theorem Sf{k:Nat}(h:l[k]?=some d):aw (.lst l) (.int (k:Int))=some d:=eL h
theorem vO(h0:0<=i)(h:l[i.toNat]?=some d):aw (.lst l) (.int i)=some d:=by
 have e:i=i.toNat:=by lia
 rw[e];exact Sf h
theorem EX(h0:0<=n)(h:n<=100000):nq [.int n]=some (uP 0 n.toNat):=by show dt _ _ _=_;rw[gq (by lia)]
theorem EY(h0:-100000<=a/\a<=100000)(h:-100000<=b/\b<=100000):nq [.int a,.int b]=some (uP a (b-a).toNat):=by show dt _ _ _=_;rw[gq (by lia)]
theorem Sg(n:Nat):uP 0 n=(List.range n).map fun(k:Nat)=>D.int (k:Int):=by unfold uP;simp
theorem KP(l:List D):uR l=(l.zipIdx).map fun p=>D.tup [.int (p.2:Int),p.1]:=by unfold uR;rw[List.mapIdx_eq_zipIdx_map]
@[simp] theorem Z8 (a b : α) : ([a, b].length ≤ sizeLine) = True := by simp [sizeLine]
def sv:Option D->Sl |none=>.no |some d=>.v d
theorem fF(h:δ[i]?=some (sv o)):aG i d δ=some (δ.set i (.v d)):=by unfold aG;rw[h];cases o<;>rfl
@[simp] theorem Z9:sv none=.no:=rfl
@[simp] theorem Z_ (d : D) : sv (some d) = .v d := rfl
def iL(l:List Int):D:=.lst (l.map .int)
theorem Sh{α:Type}(enc:α->D)(p:α->Bool)(l:List α)(h:∀x∈l,f (enc x)=.ok (if p x=true then some (enc x) else none)):n_ f (l.map enc)=.ok ((l.filter p).map enc):=by rw[EU _ _ l h];induction l with |nil=>rfl |cons a l e=>
 by_cases d:p a=true;.simp_all
 simp_all
theorem qP{α:Type}(enc:α->D)(g:α->D)(l:List α)(h:∀x∈l,f (enc x)=.ok (some (g x))):n_ f (l.map enc)=.ok (l.map g):=by rw[EU _ _ l h,List.filterMap_eq_map']
theorem oI(h1:mi δ=.ok l)(d:l.length<=100000) (h2:n_ (jN b a me (eJ δ c n)) l=.ok r):ly mi c n b a me δ=.ok (.lst r):=by unfold ly;rw[h1,R.aC,gq (Sa d),h2];rfl
theorem lA(h:mi δ=.ok l):dA mi b m δ=gX b m l δ:=by unfold dA;simp_all
theorem jO(h:m (rY nv ds)=.rt d)(a:ds.length=np:=by rfl):cf np nv m ds=.ok d:=by unfold cf;simp_all
theorem Si(h:m (rY nv ds)=.nx δ)(a:ds.length=np:=by rfl):cf np nv m ds=.ok .non:=by unfold cf;simp_all
theorem qQ(h:m (rY nv ds)=.ro d)(a:ds.length=np:=by rfl):fi np nv m ds=.ok d:=by unfold fi;simp_all
theorem bA(h:m δ=.nx a):aq m n δ=n a:=by unfold aq;rw[h]
theorem cB(h:me δ=.ok d)(h2:b d δ=some a):av me b δ=.nx a:=by unfold av;simp_all
theorem gg(h:n δ=.ok true):a_ n m m' δ=m δ:=by unfold a_;simp_all
theorem fM(h:n δ=.ok false):a_ n m m' δ=m' δ:=by unfold a_;simp_all
theorem lZ{g:Type}(enc:g->D)(P:List g->En->Prop)(a:List g) (step:∀pre x post δ,a=pre++x::post->P pre δ->∃c qR,b (enc x) δ=some c/\(m c=.nx qR\/m c=.ct qR)/\P (pre++[x]) qR)(δ:En)(h:P [] δ):∃qR,gX b m (a.map enc) δ=.nx qR/\P a qR:=by
 have f:∀(post pre:List _)(δ:En),a=pre++post->P pre δ->∃qR,gX b m (post.map enc) δ=.nx qR/\P a qR:=by intro post;induction post with |nil=>intro pre δ e h;exact⟨_,rfl,by simp_all⟩ |cons x post n=> intro pre δ e h;obtain⟨c,qR,p,d,l⟩:=step _ x _ _ e h;obtain⟨k,q,j⟩:=n _ _ (by rw[e];simp) l;refine⟨_,?_,j⟩;rw[b7];unfold gX;rw[p];rcases d with d|d<;>(simp[d];exact q)
 exact f _ _ _ rfl h
@[simp] theorem BU(l:List Int):aW [iL l]=some (.int l.length):=by simp[iL]
@[simp] theorem zwE (l : List Int) : zF (iL l) = some (l.map .int) := rfl
theorem oh(l:List Int)(lo hi:Option Int):∃cs:List Int,cutD (l.map .int) lo hi=cs.map .int/\cs.length<=l.length:=by refine⟨(l.drop (HT.eY l.length 0 lo)).take (HT.eY l.length l.length hi-HT.eY l.length 0 lo),?_,by rw[gB,iv];lia⟩;unfold cutD;simp
theorem KQ(a:fE 8 x=true)(b:fE 8 y=true)(h:x=y):gr x y=some (.bl true):=by unfold gr;simp_all
theorem Sj(a:fE 8 x=true)(b:fE 8 y=true)(h:x=y):ig x y=some (.bl false):=by unfold ig;simp_all
end PM
namespace PM
open PySem L2 PyProof.Rows
section
variable{K:Kx}{ca:Nat->Addr}{an:Nat->Str}{XO:cX}{E:L2.St->XK}{ta tb te:TE}{ma mb me:En->R D}{X:Cx}
def KR:R2:=fun x y H Q=>∃l b c a,x=.ref l/\y=.ref b/\Rd H l (.lst c)/\Rd H b (.lst a)/\c.length+a.length<=sizeLine/\∀p,H p=none->Q (.ref p) (upd H p (.lst (c++a)))
theorem iW:gT X (binaryOp .Add) KR:=by
 rintro f s t H x y v u Q I o g ⟨l,b,p,G,rfl,rfl,m,h,A,q⟩;cases o;cases g;obtain⟨z,c,n,r,e⟩:=m.ok I.bF;obtain⟨B,a,C,d,k⟩:=h.ok I.bF;have w:=r.length;have j:=d.length;refine PySem.P.add_list e k ?_ (by rw[bI,bI];lia);have i:c.toArray++a.toArray=(c++a).toArray:=by simp
 rw[i];exact⟨.ref _,_,I.DI (r.append d) (by rw[bO];lia),rfl,q _ I.fresh⟩
theorem iX:Ke K KR bU:=by intro F H x y i j d Q s m k e q;cases i with
 |lst l=> cases j with
  |lst r=>
   simp[bU] at e;unfold dt at e;split at e;.cases e;obtain⟨a,u,rfl,n,h⟩:=m;obtain⟨b,t,rfl,o,g⟩:=k;exact⟨a,b,_,_,rfl,rfl,n,o,by rwa[h.length,g.length],fun p c=>q p F _ (.eM s c) (s.free c) c ⟨_,b9,h.append g⟩⟩
   simp_all |_=>cases e
 |_=>cases e
theorem ql:∀{ns:List Int}{xs:List V},aF K F (ns.map .int) xs->xs=ns.map V.int |[],xs,h=>by simpa[aF] using h |n::ns,xs,h=>by obtain⟨v,r,rfl,rfl,b⟩:=h;rw[ql b];rfl
def zM:List V->Hp->VK->Prop:=fun b H Q=>∃(p:Addr) (a:List Int),b=[.ref p]/\Rd H p (.lst (a.map V.int))/\Q (.int a.sum) H
theorem Sk(h:kQ ds=some d):∃ns:List Int,ds=[.lst (ns.map .int)]/\d=.int ns.sum:=by
 unfold kQ at h;split at h;.rename_i l;cases z:c5 l with |none=>simp_all |some ns=>rw[z] at h;cases h;exact⟨_,by rw[rq z],rfl⟩
 simp_all
theorem BV:SC K zM kQ:=by intro F H l i d Q s r e q;obtain⟨k,rfl,rfl⟩:=Sk e;cases r with |cons r g=> cases g;obtain⟨a,j,rfl,f,h⟩:=r;have c:=ql h;subst c;exact⟨a,_,rfl,f,q _ F H (.refl s) rfl⟩
theorem BX(o:X.calm=true):cj X (.builtin "sum") zM:=by
 rintro g s J H L M Q I r ⟨p,b,rfl,m,q⟩;obtain⟨u,rfl,G⟩:=lW r;cases G;obtain⟨z,d,n,j,e⟩:=m.ok I.bF;obtain⟨c,rfl,w⟩:∃c:List _,d=(b.zip c).map (fun p=>Value.int p.1 p.2)/\c.length=b.length:=by clear e m q z;induction b generalizing d with |nil=>cases j;simp |cons a l v=> cases j with |cons h t=> obtain⟨i,rfl⟩:=h;obtain⟨c,rfl,B⟩:=v _ t;exact⟨i::c,rfl,by simp[B]⟩
 have y:((b.zip c).map (fun p=>Value.int p.1 p.2)).toArray=intItems (b.zip c).toArray:=by simp[intItems]
 rw[y] at e;refine sum_intListG (I.ok.hd o) ⟨_,e,rfl,n,rfl⟩ fun S i N C=>?_;have x:preSum (numAt (b.zip c).toArray) (b.zip c).toArray.size=b.sum:=by rw[preSum_eq,kF (by simp)];have:(b.zip c).map _=b:=List.map_fst_zip (by lia);rw[this]
 rw[x];exact⟨.int _,H,I.kept C,⟨_,rfl⟩,q⟩
def KS:D->String |.non=>"NoneType" |.bl _=>"bool" |.int _=>"int" |.str _=>"str" |.tup _=>"tuple" |.lst _=>"list" |.c9 _ _=>"dict" |.du _=>"list" |.exc _=>"object" |.fd _ _=>"object" |.obj _ _ _=>"object"
theorem Sm{K:W.Frag}:PySem.W.kitOne K (.type "NoneType") (.type "str")=some false:=L2.jI rfl rfl rfl
theorem So{K:W.Frag}:PySem.W.kitOne K (.type "bool") (.type "str")=some false:=L2.jI rfl rfl rfl
theorem Sq{K:W.Frag}:PySem.W.kitOne K (.type "int") (.type "str")=some false:=L2.jI rfl rfl rfl
theorem Sr{K:W.Frag}:PySem.W.kitOne K (.type "tuple") (.type "str")=some false:=L2.jI rfl (by decide+kernel) (by decide+kernel)
theorem Ss{K:W.Frag}:PySem.W.kitOne K (.type "list") (.type "str")=some false:=L2.jI rfl rfl rfl
theorem Su{K:W.Frag}:PySem.W.kitOne K (.type "dict") (.type "str")=some false:=L2.jI rfl rfl rfl
theorem Sv{K:W.Frag}(d:D)(h:ET d=true):PySem.W.kitOne K (.type (KS d)) (.type "str")=some (uV "str" d):=by cases d with |non=>exact Sm |bl b=>exact So |int b=>exact Sq |str b=>rfl |tup b=>exact Sr |lst b=>exact Ss |c9 b a=>exact Su |du b=>cases h |exc b=>cases h |fd b a=>cases h |obj b a g=>cases h
theorem Sw(M:∀d,ET d=true->PySem.W.kitOne K.f (.type (KS d)) (.type c)=some (uV c d))(U:kP K XO E ta ma):SE K XO E (k9 (JJ K.f) (dE ta (dE (tC (.ty c)) bZ))) (m1 (zL c) ma):=by
 intro Λ F0 Z F H u δ Q I a;refine U _ _ _ F H _ _ _ I (a.bind.imp fun d G C n g x f=>?_);by_cases e:ET d=true;case neg=> cases d with |du _=>exact g.elim |exc _=>exact g.elim |fd _ _=>exact g.elim |obj _ _ _=>exact g.elim |_=>exact absurd rfl e
 have t:fH E XO u G C (fun d L w=>∀v,Rep K L d v->Q v w) (.ok (.bl (uV c d))):=by cases d with |du l=>cases e |exc l=>cases e |fd _ _=>cases e |obj _ _ _=>cases e |_=>exact g
 suffices h:jc _ _ x _ from⟨x,_,_,_,_,rfl,rfl,h,M d e,(t _ _ (.refl n.fh) _ rfl)⟩
 cases d with |non=>subst f;exact .non |bl b=>subst f;exact .bl _ |int b=>subst f;exact .int _ |str b=>subst f;exact .str _ |tup l=> obtain⟨p,S,rfl,m,r⟩:=f;exact .tup (n.fh _ _ m) |lst l=>
  obtain⟨p,S,rfl,m,r⟩:=f;rcases m with h|⟨o,h⟩;.exact .lst h
  .exact .fB h |c9 ks l=>obtain⟨p,y,rfl,m,r⟩:=f;exact .dK m |du l=>cases e |exc l=>cases e |fd _ _=>cases e |obj _ _ _=>cases e
noncomputable def toPy:Nat->D->PyData |_,.non=>.none |_,.int i=>.int i |n+1,.tup l=>.tuple (l.map (toPy n)) |n+1,.lst l=>.list (l.map (toPy n)) |_,_=>.none
theorem yg:∀(n:Nat)(d:D),fE n d=true->(toPy n d).canLay0=true/\(toPy n d).depth<=n:=by intro n;induction n with
 |zero=> intro d h;cases d with |non=>exact⟨rfl,aB _⟩ |int i=>exact⟨rfl,aB _⟩ |_=>cases h
 |succ n t=>
  have b:∀l:List D,l.all (fE n)=true->PyData.canLayAll0 (l.map (toPy n))=true/\PyData.depthAll (l.map (toPy n))<=n:=by intro l;induction l with |nil=>intro _;exact⟨rfl,cG _⟩ |cons a l f=>
   intro h;rw[il,iY] at h;obtain⟨c,o⟩:=t a h.1;obtain⟨s,u⟩:=f h.2;refine⟨?_,?_⟩;.simp[PyData.canLayAll0,c,s]
   .simp[PyData.depthAll];lia
  intro d h;cases d with |non=>exact⟨rfl,cG _⟩ |int i=>exact⟨rfl,cG _⟩ |tup l=>obtain⟨c,o⟩:=b l h;exact⟨by simpa[toPy,PyData.canLay0] using c,by simp[toPy,PyData.depth];omega⟩ |lst l=>obtain⟨c,o⟩:=b l h;exact⟨by simpa[toPy,PyData.canLay0] using c,by simp[toPy,PyData.depth];omega⟩ |_=>cases h
open Classical in
theorem KU:∀(n:Nat)(d d':D),fE n d=true->fE n d'=true->PyData.eqv (toPy n d) (toPy n d')=decide (d=d'):=by intro n;induction n with
 |zero=> intro d d' h c;cases d with
  |non=>cases d'<;>first|(simp[toPy,PyData.eqv];done)|cases c
  |int i=> cases d' with |int j=>simp[toPy,PyData.eqv];grind |_=>first|(simp[toPy,PyData.eqv])|cases c
  |_=>cases h
 |succ n u=>
  have k:∀l e:List D,l.all (fE n)=true->e.all (fE n)=true->PyData.eqvAll (l.map (toPy n)) (e.map (toPy n))=decide (l=e):=by intro l;induction l with |nil=>intro e _ _;cases e<;>simp[PyData.eqvAll] |cons a l r=> intro e h c;cases e with |nil=>rfl |cons b e=> rw[il,iY] at h c;simp only[b7,PyData.eqvAll,u a b h.1 c.1,r _ h.2 c.2];by_cases w:a=b<;>by_cases v:l=e<;>simp
  intro d d' h c;cases d with
  |non=>cases d'<;>first|(simp[toPy,PyData.eqv];done)|cases c
  |int i=> cases d' with |int j=>simp[toPy,PyData.eqv];grind |_=>first|(simp[toPy,PyData.eqv])|cases c
  |tup l=> cases d' with |tup e=>simp only[toPy,PyData.eqv,k l _ h c];simp |_=>first|(simp[toPy,PyData.eqv])|cases c
  |lst l=> cases d' with |lst e=>simp only[toPy,PyData.eqv,k l _ h c];simp |_=>first|(simp[toPy,PyData.eqv])|cases c
  |_=>cases h
theorem EZ(I:Inv X pins σ H s)(M:aD F H):∀(n:Nat)(d:D)(v:V)(u:Value),fE n d=true->Rep ⟨X.K,ca,an⟩ F d v->RelV v u->∃f,Reads s.heap u (toPy n d) f:=by intro n;induction n with
 |zero=> intro d v u h r b;cases d with |non=>subst r;cases b;exact⟨_,.none⟩ |int i=>subst r;obtain⟨t,rfl⟩:=b;exact⟨_,.int i t⟩ |_=>cases h
 |succ n U=>
  have p:∀(l:List D)(g:List V)(w:List _),l.all (fE n)=true->aF ⟨X.K,ca,an⟩ F l g->Vals g w->∃f,ReadsAll s.heap w (l.map (toPy n)) f:=by intro l;induction l with |nil=>intro g w _ r b;subst r;cases b;exact⟨_,.nil⟩ |cons a l A=> intro g w h r b;rw[il,iY] at h;obtain⟨v,r',rfl,T,Q⟩:=r;cases b with |cons b x=> obtain⟨f,m⟩:=U a v _ h.1 T b;obtain⟨bs,q⟩:=A _ _ h.2 Q x;exact⟨_,.cons m q⟩
  intro d v u h r b;cases d with |non=>subst r;cases b;exact⟨_,.none⟩ |int i=>subst r;obtain⟨t,rfl⟩:=b;exact⟨_,.int i t⟩ |tup l=> obtain⟨a,g,rfl,m,q⟩:=r;cases b;obtain⟨G,C,⟨o,e,c,k,B⟩,_⟩:=I.tuple (.inl (.inl (M _ _ m)));obtain⟨f,Z⟩:=p l _ _ h q C;exact⟨_,.tuple e c B (by omega)⟩ |lst l=> obtain⟨a,g,rfl,m,q⟩:=r;cases b;obtain⟨G,C,⟨o,k,e,c,_,B⟩,_⟩:=I.list (.inl (PM.aD.xX M m));obtain⟨f,Z⟩:=p l _ _ h q C;exact⟨_,.list e c B (by omega)⟩ |_=>cases h
theorem Sx(I:Inv X pins σ H s)(m:aD F H)(n:Nat):∀(l:List D)(vs:List V)(us:List Value),l.all (fE n)=true->aF ⟨X.K,ca,an⟩ F l vs->Vals vs us->∃f,ReadsAll s.heap us (l.map (toPy n)) f:=by intro l;induction l with |nil=>intro vs us _ r c;subst r;cases c;exact⟨_,.nil⟩ |cons a l e=> intro vs us h r c;rw[il,iY] at h;obtain⟨v,p,rfl,g,j⟩:=r;cases c with |cons c d=> obtain⟨f,i⟩:=EZ I m n a v _ h.1 g c;obtain⟨q,k⟩:=e _ _ h.2 j d;exact⟨_,.cons i k⟩
theorem BY(I:Inv X pins σ H s)(i:aD F H)(h:fE n d=true)(r:Top ⟨X.K,ca,an⟩ F H d v)(b:RelV v u):∃g,Reads s.heap u (toPy n d) g:=by cases d with
 |lst l=> cases n with |zero=>cases h |succ n=> obtain⟨a,C,rfl,z,m⟩:=r;cases b;obtain⟨p,w,⟨o,k,e,c,_,A⟩,_⟩:=I.list (.inl z);obtain⟨g,B⟩:=Sx I i n l _ _ h m w;exact⟨_,.list e c A (by simpa using B)⟩
 |c9 y l=>cases n<;>cases h |obj c y l=>cases n<;>cases h |_=>exact EZ (ca:=ca) (an:=an) I i n _ v u h r b
open Classical in
def uX(K:Kx)(c:Bool):R2:=fun x y H Q=>∃(F:Hp) (b a:D),aD F H/\Top K F H b x/\Top K F H a y/\fE 8 b=true/\fE 8 a=true/\Q (.bl (if c=true then !decide (b=a) else decide (b=a))) H
theorem zN(o:X.A.units+64<cLine):gT X (compareOp .Eq) (uX ⟨X.K,ca,an⟩ false):=by rintro d s r H x y v u Q I g e ⟨F,l,p,c,i,f,b,a,q⟩;obtain⟨n,h⟩:=BY I c b i g;obtain⟨m,j⟩:=BY I c a f e;obtain⟨k,t⟩:=yg 8 _ b;obtain⟨m1,m2⟩:=yg 8 _ a;refine SeqAt.compareEq_reads h j k m1 (by lia) ?_;rw[KU 8 _ _ b a];exact⟨.bl _,H,I,rfl,q⟩
theorem zO(o:X.A.units+64<cLine):gT X (compareOp .NotEq) (uX ⟨X.K,ca,an⟩ true):=by rintro d s r H x y v u Q I g e ⟨F,l,p,c,i,f,b,a,q⟩;obtain⟨n,h⟩:=BY I c b i g;obtain⟨m,j⟩:=BY I c a f e;obtain⟨k,t⟩:=yg 8 _ b;obtain⟨m1,m2⟩:=yg 8 _ a;refine SeqAt.compareNe_reads h j k m1 (by omega) ?_;rw[KU 8 _ _ b a];exact⟨.bl _,H,I,rfl,q⟩
theorem zP:SR K (uX K false) gr:=by
 intro F H x y f c d Q s a b e q;unfold gr dt at e;split at e;.rename_i h;cases e;exact⟨F,_,_,s,a,b,h.1,h.2,q _ F H (.refl s) rfl⟩
 .cases e
theorem zQ:SR K (uX K true) ig:=by
 intro F H x y f c d Q s a b e q;unfold ig dt at e;split at e;.rename_i h;cases e;exact⟨F,_,_,s,a,b,h.1,h.2,q _ F H (.refl s) rfl⟩
 simp_all
end
end PM
namespace L2
open PySem PySem.Spec PyProof.Rows
def KW(scope a:Scope):Scope:={scope with names:=scope.names.map fun(n,k)=>if(k==.free&&a.kind==.function&&a.names.lookup n==some .cell) then(n,.cell) else(n,k)}
section
variable{X:Cx}
end
end L2
namespace PM
open PySem L2
section
variable{K:Kx}{XO:cX}{E:L2.St->XK}
end
def nu(K:Kx):cX:=fun x F _ C a=>C=.ref (K.ca x.c)/\XA K F x.c a
def yh(c:Nat)(ml:En->R (List D))(δ:En):O:=(ml δ).gW δ fun l=>dt (l.length<=sizeLine) (.ex δ ⟨c⟩) .no
section
variable{K:Kx}{E:L2.St->XK}{ta:TE}{ma:En->R D}{t u:TS}{m n:En->O}{Λ:List (Nat×Addr×HO)}{F0 H0 F H:Hp}{σ:L2.St}{δ:En}
theorem E3(b:C=K.ca c)(d:c<16)(h:SA K (nu K) E f ml):SS K (nu K) E (J5 C E f) (yh c ml):=by
 intro Λ F0 H0 F H σ δ j I a;refine h _ _ _ F H _ _ _ I ((cT.of I a).imp fun l g k e p i r=>?_);unfold dt at p;split at p;.exact⟨by rwa[r.length],p _ _ _ _ _ (I.grow e) ⟨by rw[b],by unfold XA;simp_all⟩⟩
 .exact p.elim
theorem aA.unset {i : Nat} (I : aA K Λ F0 H0 F H σ δ) (hl : ∃ x, δ[i]? = some x ∧ ∀ d, x ≠ .l d) : aA K Λ F0 H0 F H (σ.set i none) (δ.set i .no) := by
  obtain ⟨x, hx, hn⟩ := hl
  have hi  := (cI.mp hx).1
  refine ⟨I.ext, by simp [I.len], fun j => ?_, fun j k a E4 h1 h2 h3 h4 => ?_, fun y hy => ?_, I.gP (fun k ll h => by
      by_cases e : i = k
      · simp_all
      simp_all) (fun _ _ _ _ _ _ t f _ => ⟨t, fun b hb => (f b hb).2⟩) fun k j ll a b bs _ _ _ _ ho hs => .inl (by
      by_cases e : i = j
      · subst e; rw [bH hi] at ho; cases ho
      simp_all)⟩
  · by_cases e : i = j
    · subst e
      rw [bH hi]
      trivial
    · rw [aO e, aO e]
      exact I.slot j
  · have ne : ∀ k , Sl.own (δ.set i .no)[k]? = true → i ≠ k := by
      rintro k h rfl
      rw [bH hi] at h
      cases h
    have n1 := ne j h1
    have n2 := ne k h2
    rw [aO n1] at h1 h3
    rw [aO n2] at h2 h4
    exact I.dist j k a E4 h1 h2 h3 h4
  · obtain ⟨⟨d', h1⟩, h2, h3⟩ := I.gO y hy
    have n : i ≠ y.1 := by
      intro e
      rw [← e, hx] at h1
      exact hn _ (eU h1)
    exact ⟨⟨_, by rwa [aO n]⟩, by rwa [aO n], h3⟩
noncomputable def vP (i : Nat) (δ : En) : Option En := match δ[i]? with | none => none | some (.l _) => none | some _ => some (δ.set i .no)
theorem E5 {i : Nat} {qo : En} (h : vP i δ = some qo) (I : aA K Λ F0 H0 F H σ δ) : aA K Λ F0 H0 F H (σ.set i none) qo := by
  unfold vP at h
  split at h
  · cases h
  · cases h
  · rename_i x h2 h1
    cases h
    exact I.unset ⟨x, h1, fun d' z => h2 _ (by rw [z])⟩
def BZ (i : Nat) : O → O
  | .nx δ => (match vP i δ with | some qo => .nx qo | none => .no)
  | .bk δ => (match vP i δ with | some qo => .bk qo | none => .no)
  | .ct δ => (match vP i δ with | some qo => .ct qo | none => .no)
  | .ex _ _ => .no
  | r => r
def tO (mb : En → O) (sub : Nat → Bool) (i : Nat) (mh : En → O) (δ : En) : O := match mb δ with
  | .ex qo x => if sub x.c = true then (match aG i (.exc x.c) qo with | some KY => BZ i (mh KY) | none => .no) else .no
  | r => r
theorem Sy {D' : Addr} {tb : (L2.St → XK) → TS} {th : TS} {mb mh : En → O} {sub : Nat → Bool} {i : Nat} (E6 : ∀ c, sub c = true → PySem.W.kitCls K.f (.ref (K.ca c)) (.ref D') = some true)
    (hb : ∀ E', SS K (nu K) E' (tb E') mb) (hh : SS K (nu K) EN th mh) : SS K (nu K) E (zv K.f D' tb i th) (tO mb sub i mh) := by
  intro Λ F0 H0 F H σ δ Dn I a
  refine hb _ _ _ _ F H _ _ _ I ?_
  unfold tO at a
  cases q : mb _ with
  | no => rwa [q] at a
  | nx qo => rwa [q] at a
  | rt d => rwa [q] at a
  | ro d => rwa [q] at a
  | bk qo => rwa [q] at a
  | ct qo => rwa [q] at a
  | ex qo x =>
    rw [q] at a
    simp at a
    split at a
    · rename_i hs
      rintro σ1 F1 H1 C c9 I1 ⟨rfl, zR⟩
      refine ⟨_, rfl, E6 _ hs, fun ea KZ => ?_⟩
      have sF : aD _ (upd _ _ (tu (K.ca x.c) c9 ea)) := aD.upd (I1.same.free KZ)
      cases qb : aG i _ _ with
      | none => rw [qb] at a; exact a.elim
      | some KY =>
        rw [qb] at a
        simp at a
        refine bR _ _ _ _ _ _ _ _ _ _ _ (I1.grow (Ext.new I1.same KZ)) ?_ qb fun ug I3 => ?_
        · exact ⟨_, _, rfl, b9, zR.mono sF⟩
        · refine hh _ _ _ _ _ _ _ _ I3 ?_
          cases qh : mh _ with
          | no => rwa [qh] at a
          | rt d => rwa [qh] at a
          | ro d => rwa [qh] at a
          | ex _ _ => rw [qh] at a; exact a.elim
          | nx qR =>
            rw [qh] at a
            simp [BZ] at a
            cases z : vP i _ with
            | none => rw [z] at a; exact a.elim
            | some E7 => rw [z] at a; exact fun σ F H J => a _ F H (E5 z J)
          | bk qR =>
            rw [qh] at a
            simp [BZ] at a
            cases z : vP i _ with
            | none => rw [z] at a; exact a.elim
            | some E7 => rw [z] at a; exact fun σ F H J => a _ F H (E5 z J)
          | ct qR =>
            rw [qh] at a
            simp [BZ] at a
            cases z : vP i _ with
            | none => rw [z] at a; exact a.elim
            | some E7 => rw [z] at a; exact fun σ F H J => a _ F H (E5 z J)
    · exact a.elim
def vQ (tab : Nat → Option Bool) (d : D) : Option D := match d with | .exc c => (tab c).map .bl | _ => none
theorem yi {w : V} {cv : Value} {tab : Nat → Option Bool} (hw : uM w = some cv) (hk : ∀ c b, tab c = some b → cO K.f (K.ca c) ∧ PySem.W.kitOne K.f (.ref (K.ca c)) cv = some b) (ha : kP K XO E ta ma) :
    SE K XO E (k9 (zA K.f) (dE ta (dE (tC w) bZ))) (m1 (vQ tab) ma) := by
  intro Λ F0 H0 F H σ δ Q I a
  refine ha _ _ _ F H _ _ _ I (a.bind.imp fun d F1 H1 e1 a1 x rx => ?_)
  cases d with
  | exc c =>
    obtain ⟨p, c9, rfl, h1, zR⟩ := rx
    simp [vQ] at a1
    cases z : tab c with
    | none => rw [z] at a1; exact a1.elim
    | some b =>
      rw [z] at a1
      obtain ⟨k1, k2⟩ := hk c b z
      exact ⟨p, _, _, w, _, b, rfl, hw, e1.fh _ _ h1, fun dx ed => by
        unfold XA at zR
        split at zR
        · simp_all
        · obtain ⟨dx', e2, e3⟩ := zR
          rw [e2] at ed; cases ed
          exact ⟨_, e1.fh _ _ e3⟩, k1, k2, a1 _ _ (.refl e1.fh) _ rfl⟩
  | _ => exact a1.elim
end
end PM
namespace L2
open PySem PySem.Spec PyProof.Rows
section
variable{P:Program}{w:World}{B:Around}{Z:Result->Shared->Prop}{J S:Addr}{fp wr:List Addr}{n:Nat}{Pv:Nat->Value->Prop}{Sn:Nat->Heap->Prop}
end
section
variable{P:Program}{w:World}{B:Around}{E:Value->Shared->Prop}{s:Shared}{Q:Value->Shared->Prop}{l:Addr}{xs:Array (Int×Tok)}{df:Value}
end
theorem mX:∀(l:List Int)(m:Int),m<=PM.ij l m/\(∀a∈l,a<=PM.ij l m)/\(PM.ij l m=m\/PM.ij l m∈l)
  |[],m=>⟨iZ _,fun _ h=>(by cases h),.inl rfl⟩ |a::l,m=>by
    obtain⟨i,g,d⟩:=mX l (if a>m then a else m);unfold PM.ij;have e:(if a>m then a else m)=a/\a>m\/(if a>m then a else m)=m/\¬a>m:=by lia
    refine⟨by lia,fun b f=>?_,?_⟩
    . rcases aR.mp f with rfl|f;.lia
      simp_all
    . rcases d with d|d
      . rcases e with⟨e,_⟩|⟨e,_⟩;.exact .inr (by grind)
        grind
      .exact .inr (bz _ d)
section
variable{X:Cx}
end
end L2
namespace PM
open PySem L2
section
variable{K:Kx}{XO:cX}{E:L2.St->XK}{td te:TE}{md me:En->R D}
end
end PM
namespace L2
open PySem PySem.Spec PyProof.Rows
section
variable{X:Cx}
theorem K0(h1:attributeBase o m X.env (eval o X.env)=eval o X.env:=by rfl) (h2:((backTo a (starEach [e,f] X.env)).all (fun x=>!x.1)&&(backToKw a (keywordEach [] X.env)).all (fun x=>x.1.isSome)&&decide (([e,f]:List Expr).length+([]:List Keyword).length+(if([]:List Keyword).isEmpty then 0 else 1)<30))=true:=by rfl) (h3:(b.endLine==a.line)=true:=by rfl)(c:backTo a (starEach [e,f] X.env)=[(false,eval e X.env),(false,eval f X.env)]:=by rfl):M2 X o m b e f a:=⟨h1,h2,h3,c⟩
end
end L2
namespace PM
open PySem L2
section
variable{K:Kx}{XO:cX}{E:L2.St->XK}{td ty tx:TE}{md my mx:En->R D}
def Sz:D->D->Option D:=wO sU fun i j=>.int (i*2^j.toNat)
def yj(x y:D):Option D:=match x,y with|.int i,.lst l=>(c5 l).map fun a=>.bl (decide (i∈a))|.int i,.tup l=>(c5 l).map fun a=>.bl (decide (i∈a))|_,_=>none
theorem K1{ns:List Int}:Bb (.int i) (ns.map V.int)=decide (i∈ns):=by
  rw[oP];unfold Bb;simp[List.any_eq_true];constructor
  . rintro⟨a,c,b⟩;have:=by simpa[ue] using b
    simp_all
  .intro h;exact⟨i,h,by simp[ue]⟩
theorem K5{ns:List Int}:(ns.map V.int).all uK=true:=by rw[f9,d_];intro x _;rfl
theorem SD:SR K (Jm K.f false) yj:=by intro F H x y j m d Q s p h e q;cases j with
 |int i=> subst p;cases m with
  |lst l=> obtain⟨a,o,rfl,g,c⟩:=h;simp only[yj] at e;cases z:c5 l with |none=>simp_all |some t=> rw[z] at e;cases e;have b:=rq z;subst b;have f:=ql c;subst f;exact⟨a,_,rfl,.inl (.inl g),rfl,K5,q _ F H (.refl s) (by rw[K1];rfl)⟩
  |tup l=> obtain⟨a,o,rfl,g,c⟩:=h;simp only[yj] at e;cases z:c5 l with |none=>rw[z] at e;cases e |some t=> rw[z] at e;cases e;have b:=rq z;subst b;have f:=ql c;subst f;exact⟨a,_,rfl,.inr (.inl (.inl (s _ _ g))),rfl,K5,q _ F H (.refl s) (by rw[K1];rfl)⟩
  |_=>cases e
 |_=>cases e
def E8:D->Option (List Key×List D) |.c9 a l=>some (a,l) |_=>none
def wU(md my mx:En->R D)(δ:En):R D:=(md δ).bind fun d=>(R.of (E8 d)).bind fun p=>(my δ).bind fun k=>(mx δ).bind fun x=>R.of ((ui k).map fun k=>(jL p.1 p.2 k).getD x)
theorem SF(hd:kP K XO E td md)(t:SE K XO E ty my)(A:SE K XO E tx mx):SE K XO E (DR td ty tx) (wU md my mx):=by intro S F0 T F H σ Y Q I a;refine hd _ _ _ F H _ _ _ I (a.bind.imp fun d N X i e x j=>?_);cases d with
 |c9 ks l=> have h:=j;obtain⟨p,m,rfl,L,_⟩:=h;refine⟨p,rfl,.inl ⟨_,.inl L⟩,?_⟩;change fH E _ _ _ _ _ ((my _).bind _) at e;refine t _ _ _ _ _ _ _ _ (I.grow i) (e.bind.imp fun k F2 H2 f s y G=>(A _ _ _ _ _ _ _ _ ((I.grow i).grow f) (s.bind.imp fun Z F3 H3 c b z n=>?_)));cases q:ui k with |none=>rw[q] at b;exact b.elim |some u=> rw[q] at b;obtain⟨p',o,J,g,M,C⟩:=R4 ((j.mono f.ff f.hh).mono c.ff c.hh);cases J;cases EB q G;refine⟨o,g,b _ _ (.refl c.fh) _ ?_⟩;cases w:jL _ l _ with |none=>rw[C w];simpa[w,Option.getD_none] using n |some U=>obtain⟨v,rfl,r⟩:=M _ w;simpa[w] using r
 |_=>exact e.elim
end
end PM
namespace L2
open PySem PySem.Spec PyProof.Rows
section
variable{X:Cx}
def K6(c:TA):TE:=fun d H Q=>c d H fun b a=>∃j:Int,b=[.int j]/\∀r,a r=none->Q (.ref r) (upd a r (.nq 0 j))
theorem zS(l:Gl X "range")(f:X.mg "range"=none)(m:PA X [a] g)(k:starEach [a] X.env=[(false,eval a X.env)]:=by rfl):PE X (.Call (.Name "range" p) [a] [] pos) (K6 g):=by intro c s v H Q I h;refine Call_ (vy I l f boot_range (jx (bW (m _ _ s _ H _ I h) fun r w ⟨_,_,d,n,i⟩=>?_) k rfl));obtain⟨j,e,q⟩:=i;subst e;obtain⟨u,rfl,t,rfl⟩:=lW n;refine call_range_1 ⟨.ref _,_,?_,rfl,q _ (d.bF.fresh (aB _))⟩;exact d.laid (fun b o e=>bu _ e) (aB _) ⟨_,_,_,cu _ rfl⟩
def K7:List V->Hp->VK->Prop:=fun a H Q=>∃(r:Addr) (j:Int),a=[.ref r]/\H r=some (.nq 0 j)/\(0<=j/\j<=100000)/\∀l,H l=none->Q (.ref l) (upd H l (.lst ((List.range j.toNat).map fun k:Nat=>.int (k:Int))))
theorem zT(E:X.calm=true):cj X (.type "list") K7:=by
 rintro h s L H R S Q I r ⟨Z,j,rfl,w,hj,q⟩;obtain⟨u,rfl,D⟩:=lW r;cases D;obtain⟨J,M,T,e⟩:=I.bF _ _ w;have C:Builtin.Range.rangeSize 0 j 1=j.toNat:=by rw[rangeSize_one];lia
 refine call_list_range (I.ok.hd E) e (small_one (by decide) (by decide) (by lia) (by omega)) C (by lia) fun N U x c' A Y a=>(⟨.ref _,_,?_,rfl,q _ (I.bF.fresh (aB _))⟩);obtain⟨O,B⟩:=a;refine I.laid A (aB _) ⟨by rw[aI,nP];exact bV (show j.toNat<=100000 by lia) (by decide),_,_,?_,by omega⟩;have c:∀(n:Nat)(l:List _)(o:Nat),l.length=n->(∀k v,l[k]?=some v->∃t,v=Value.int (o+k:Nat) t)->Vals ((List.range' o n).map fun k:Nat=>V.int k) l:=by intro n;induction n with |zero=>intro l o b _;rw[i7.mp b];exact .nil |succ n z=> intro l o b p;cases l with |nil=>simp at b |cons v l=> obtain⟨t,rfl⟩:=p 0 v rfl;refine .cons ⟨t,rfl⟩ (z l _ (by simpa using b) fun k v d=>?_);obtain⟨G,f⟩:=p (k+1) v (by simpa using d);exact⟨_,by rw[f];congr 2;lia⟩
 have:=c _ _ 0 (by omega) fun k v d=>let⟨t,f⟩:=B k v (by simpa using d);⟨t,by rw[f];congr 1;simp⟩;rwa[List.range_eq_range']
end
end L2
namespace PM
open PySem L2
section
variable{K:Kx}{XO:cX}{E:L2.St->XK}
def tQ(l:List D):Option D:=match l with |[.int j]=>dt (0<=j/\j<=100000) (some (.lst ((List.range j.toNat).map fun k:Nat=>.int (k:Int)))) none |_=>none
def oJ(ml:En->R (List D))(δ:En):R D:=(ml δ).bind fun l=>R.of (tQ l)
theorem SH(h:tQ l=some d):∃j:Int,l=[.int j]/\(0<=j/\j<=100000)/\d=.lst ((List.range j.toNat).map fun k:Nat=>.int (k:Int)):=by
  unfold tQ at h;split at h
  . rename_i j;unfold dt at h;split at h;.cases h;exact⟨j,rfl,by omega,rfl⟩
    simp_all
  simp_all
theorem zU(h:SA K XO E s ml):nY K XO E (k9 K7 (dE (K6 s) bZ)) (oJ ml):=by intro y x z F H C w Q I a;refine h _ _ _ F H _ _ _ I (a.bind.imp fun u p t f c A r=>?_);cases q:tQ _ with |none=>rw[q] at c;exact c.elim |some d=> rw[q] at c;obtain⟨j,rfl,o,rfl⟩:=SH q;obtain⟨v,rfl,n⟩:=aF.one r;subst n;refine⟨j,rfl,fun B g=>⟨_,j,rfl,b9,o,fun l m=>?_⟩⟩;have e:Ext _ _ _ (upd _ _ (.nq 0 j)):=.eM f.fh g;have b:=e.hh.free m;refine c _ _ (e.trans (.eM e.fh m)) l (f.fh.free b) (f.hh.free b) ⟨_,b9,?_⟩;have:=aF.ints (K:=K) (F:=p) (ns:=(List.range j.toNat).map fun k:Nat=>k);rwa[bX,bX] at this
end
end PM
namespace L2
open PySem PySem.Spec PyProof.Rows
theorem Inv.uY(ch:List Addr)(I:Inv X pins σ H s)(d:∀b∈ch,jF X pins H b)(k:∀b o,b∉ch->s.heap.get? b=some o->h'.get? b=some o):Inv X pins σ H {s with heap:=h',toks:=t'}:=by
 have g:∀b u,H b=some u->b∉ch:=fun b u e z=>by obtain⟨i,_⟩:=d b z;simp_all
 refine I.step (fun b l=>?_) (fun b o _ _ a e _=>k b o a e) (fun b o _ _ a e _=>⟨_,k b o a e⟩) (fun _ _ _ _ n=>n) (fun b o a e=>⟨o,k b o a e⟩) (fun _ _ e=>e) (fun _ _ _ e=>e) (fun b w e=>⟨#[],by simp_all⟩) (fun m j=>?_) (fun b u e=>?_) I.bare;.obtain⟨i,h,t,B,x,A⟩:=d b l;grind
 .obtain⟨o,y,p,f,r⟩:=j;refine⟨o,_,_,k _ o (fun z=>?_) f,r⟩;obtain⟨_,h,_⟩:=d _ z;simp_all
 .refine(I.bF b u e).i_ (fun c v a q=>k c v ?_ q) (fun _ q=>q) fun _ _ q=>q;grind
theorem Inv.zV(ch:List Addr)(I:Inv X pins σ H s)(h:∀b∈ch,jF X pins H b)(k:∀b o,b∉ch->s.heap.get? b=some o->h'.get? b=some o) (x:xs.length<=sizeLine)(t:Vals xs us)(y:h'.get? s.heap.objs.size=some {cls:=.type "tuple",data:=.seq us.toArray}):Inv X pins σ (upd H s.heap.objs.size (.tup xs)) {s with heap:=h',toks:=t'}:=by
  have d:=I.bF.fresh (aB _);have B:∀b u,H b=some u->b∉ch:=fun b u e z=>by obtain⟨j,_⟩:=h b z;simp_all
  refine I.step (fun b a=>?_) (fun b o _ _ a q _=>k b o a q) (fun b o _ _ a q _=>⟨_,k b o a q⟩) (fun b o a q n=>?_) (fun b o a q=>⟨o,k b o a q⟩) (fun b i q=>?_) (fun b o i q=>?_) (fun b J q=>⟨#[],?_⟩) (fun m A=>?_) ?_ I.bare;.obtain⟨j,l,G,E,D,C⟩:=h b a;grind
  .rwa[a9 (bC (aQ q))]
  .rwa[a9 (eF q d)]
  .rwa[a9 (eF q d)]
  .rw[a9 (eF q d),q];simp
  .obtain⟨o,w,L,g,r⟩:=A;refine⟨o,_,_,k _ o (fun z=>?_) g,r⟩;obtain⟨_,l,_⟩:=h _ z;simp_all
  . intro b o q;by_cases a:b=s.heap.objs.size;.subst a;rw[b9] at q;cases q;exact⟨x,_,t,⟨_,y,rfl,_,rfl⟩⟩
    . rw[a9 a] at q;refine(I.bF b o q).i_ (fun c v p f=>?_) (fun c f=>by rwa[a9 (eF f d)]) fun c i f=>by rwa[a9 (eF f d)]
      (first|rfl|omega|simp|simp_all|grind)
section
variable{X:Cx}
end
end L2
namespace PM
open PySem L2
section
variable{K:Kx}{XO:cX}{E:L2.St->XK}
end
end PM
namespace L2
open PySem PySem.Spec PyProof.Rows
section
variable{X:Cx}
def K8(f:List Int->Int->Int):List V->Hp->VK->Prop:=fun a H Q=>∃(p:Addr) (n:Int) (l:List Int),a=[.ref p]/\Rd H p (.lst ((n::l).map V.int))/\Q (.int (f l n)) H
theorem SJ{ns:List Int}(d:Vals (ns.map V.int) its):∃ts:List Tok,its.toArray=intItems (ns.zip ts).toArray/\(ns.zip ts).toArray.size=ns.length/\∀j,numAt (ns.zip ts).toArray j=ns.getD j 0:=by
 obtain⟨ts,rfl,f⟩:∃ts:List _,its=(ns.zip ts).map (fun p=>Value.int p.1 p.2)/\ts.length=ns.length:=by induction ns generalizing its with |nil=>cases d;simp |cons a l k=> cases d with |cons h t=> obtain⟨e,rfl⟩:=h;obtain⟨ts,rfl,g⟩:=k t;exact⟨e::ts,rfl,by simp[g]⟩
 refine⟨ts,by simp[intItems],by simp_all,fun j=>?_⟩;rw[numAt_eq];have:(ns.zip ts).map _=ns:=List.map_fst_zip (by omega);rw[this]
theorem SK{f:Nat->Int}(a:∀j,f j=(m::l).getD j 0):f (argBest (fun i j=>decide (f i>f j)) ((m::l).length-1))=PM.ij l m:=by
  obtain⟨q,o⟩:=argBest_gt f _;obtain⟨p,d,e⟩:=mX l m;generalize argBest _ _=j at*;have k:j<(m::l).length:=by have:(m::l).length=l.length+1:=rfl;lia
  have b:(m::l).getD j 0∈m::l:=by rw[bN,bx k];simp
  rw[<-a j] at b;refine Int.le_antisymm ?_ ?_
  . rcases aR.mp b with z|z;.simp_all
    .exact d _ z
  .have h:PM.ij l m∈m::l:=e.elim (fun z=>by rw[z];simp) fun z=>bz _ z;obtain⟨i,g,n⟩:=kB h;have:=o i (by(first|rfl|lia|simp|simp_all|grind));rwa[a i,bN,bx g,n] at this
theorem K_(h:X.calm=true):cj X (.builtin "max") (K8 PM.ij):=by rintro a s A H C x Q I r ⟨p,m,l,rfl,k,q⟩;obtain⟨u,rfl,o⟩:=lW r;cases o;obtain⟨z,i,n,c,e⟩:=k.ok I.bF;obtain⟨B,d,b,f⟩:=SJ c;rw[d] at e;refine max_intList (I.ok.hd h) ⟨_,e,rfl,n,rfl⟩ (by simp_all) fun v w y g j=>?_;obtain⟨t,rfl⟩:=intItems_at g;refine⟨.int _,H,I.kept j,⟨t,?_⟩,q⟩;congr 1;rw[b];exact SK f
end
end L2
namespace PM
open PySem L2
section
variable{K:Kx}
def zW:List D->Option D |[.int i,.int j]=>some (.int (if j>i then j else i)) |_=>none
def zX:List D->Option D |[.int i,.int j]=>some (.int (if j<i then j else i)) |_=>none
def uZ(f:List Int->Int->Int):List D->Option D |[.lst (.int a::l)]=>(c5 l).map fun b=>.int (f b a) |_=>none
theorem SM:SC K (fun xs H Q=>∃i j,xs=[.int i,.int j]/\Q (.int (if j>i then j else i)) H) zW:=by
 intro F H h g d Q s r e q;unfold zW at e;split at e;.rename_i i j;cases e;cases r with |cons r f=> cases f with |cons b c=> cases c;subst r b;exact⟨i,j,rfl,q _ F H (.refl s) rfl⟩
 simp_all
theorem SN:SC K (fun xs H Q=>∃i j,xs=[.int i,.int j]/\Q (.int (if j<i then j else i)) H) zX:=by
 intro F H h g d Q s r e q;unfold zX at e;split at e;.rename_i i j;cases e;cases r with |cons r f=> cases f with |cons b c=> cases c;subst r b;exact⟨i,j,rfl,q _ F H (.refl s) rfl⟩
 simp_all
theorem SQ(h:uZ f ds=some d):∃(n:Int) (l:List Int),ds=[.lst ((n::l).map .int)]/\d=.int (f l n):=by
 unfold uZ at h;split at h;.rename_i a l;cases z:c5 l with |none=>simp_all |some b=>rw[z] at h;cases h;exact⟨a,_,by rw[rq z];rfl,rfl⟩
 simp_all
theorem K':SC K (K8 f) (uZ f):=by intro F H m j d Q s r e q;obtain⟨n,l,rfl,rfl⟩:=SQ e;cases r with |cons r g=> cases g;obtain⟨a,k,rfl,h,i⟩:=r;have c:=ql i;subst c;exact⟨a,n,l,rfl,h,q _ F H (.refl s) rfl⟩
end
end PM
namespace L2
open PySem PySem.Spec PyProof.Rows
section
variable{X:Cx}
def E9:List V->Hp->VK->Prop:=fun d H Q=>∃(p:Addr) (c:List Int),d=[.ref p]/\Rd H p (.lst (c.map V.int))/\c.length<64/\∀a,H a=none->Q (.ref a) (upd H a (.lst ((c.mergeSort (fun a b=>decide (a<=b))).map V.int)))
theorem E_(c:Vals (ns.map V.int) its):IntsAre its ns:=by induction ns generalizing its with |nil=>cases c;exact .nil |cons a l d=> cases c with |cons h t=> obtain⟨f,rfl⟩:=h;exact .cons _ _ (d t)
theorem SV(b:IntsAre its ns):Vals (ns.map V.int) its:=by induction b with |nil=>exact .nil |cons _ _ _ d=>exact .cons ⟨_,rfl⟩ d
theorem SW{ns d:List Int}(g:d.Perm ns)(j:d.Pairwise (.<=.)):d=ns.mergeSort fun a b=>decide (a<=b):=by
 have f:(ns.mergeSort fun a b=>decide (a<=b)).Pairwise (.<=.):=by have:=mq (le:=fun a b=>decide (a<=b)) (fun a b c f e=>by grind) (fun a b=>by grind) ns;simp_all
 have e:d.Perm (ns.mergeSort fun a b=>decide (a<=b)):=g.trans (l9 ..).symm;exact sq (fun a b _ _ i h=>Int.le_antisymm i h) j f e
theorem yk:cj X (.builtin "sorted") E9:=by intro d s x H y D Q I r h;obtain⟨p,A,rfl,v,w,q⟩:=h;obtain⟨u,rfl,j⟩:=lW r;cases j;obtain⟨z,m,n,f,e⟩:=v.ok I.bF;have a:=f.length;rw[aI] at a;refine sorted_ints ⟨_,e,rfl,n,rfl⟩ (E_ f) (by lia) fun k B g l t=>?_;obtain⟨c,C⟩:=sortedAll_at _ _ _;rw[SW l t] at g;refine⟨.ref _,_,?_,rfl,q _ (I.bF.fresh (fo _))⟩;refine I.laid (fun b o i=>sortedAll_old i) (fo _) ⟨?_,_,c,SV g,by omega⟩;simp_all
end
end L2
namespace PM
open PySem L2
section
variable{K:Kx}
def oi:List D->Option D |[.lst l]=>(c5 l).bind fun c=>dt (c.length<64) (some (.lst ((c.mergeSort fun a b=>decide (a<=b)).map .int))) none |_=>none
theorem SX(h:oi ds=some d):∃ns:List Int,ds=[.lst (ns.map .int)]/\ns.length<64/\d=.lst ((ns.mergeSort fun a b=>decide (a<=b)).map .int):=by
 unfold oi at h;split at h;.rename_i l;cases z:c5 l with |none=>simp_all |some ns=>
  rw[z] at h;simp[Option.bind] at h;unfold dt at h;split at h;.rename_i c;cases h;exact⟨_,by rw[rq z],c,rfl⟩
  simp_all
 simp_all
theorem Fb:∀ns:List Int,aF K F (ns.map .int) (ns.map V.int) |[]=>.nil |n::ns=>.cons rfl (Fb _)
theorem zY:BR K E9 oi:=by intro F H k n d Q s r e q;obtain⟨l,rfl,j,rfl⟩:=SX e;cases r with |cons r g=> cases g;obtain⟨a,m,rfl,h,i⟩:=r;have f:=ql i;subst f;exact⟨a,_,rfl,h,j,fun p b=>q p F _ (.eM s b) (s.free b) b ⟨_,b9,Fb _⟩⟩
end
section
variable{K:Kx}{XO:cX}{E:L2.St->XK}{te:TE}{me:En->R D}
theorem aF.eraseIdx {F : Hp} : ∀ {l : List D} {vs : List V} (k : Nat), aF K F l vs → aF K F (l.eraseIdx k) (vs.eraseIdx k)
  | [], vs, k, h => by
    subst h
    rfl
  | d :: l, vs, k, h => by
    obtain ⟨v, r, rfl, h1, h2⟩ := h
    cases k with
    | zero => exact h2
    | succ k => exact .cons h1 (aF.eraseIdx k h2)
theorem aF.dropLast(h:aF K F l vs):aF K F l.dropLast vs.dropLast:=by rw[List.dropLast_eq_take,List.dropLast_eq_take,h.length];exact h.take _
def zZ (i : Nat) (me : En → R D) (b : D → En → Option En) (δ : En) : O := match δ[i]? with
  | some (.o (.lst l)) => (me δ).gW δ fun k => match k with
    | .int (.ofNat k) => (match l[k]? with | some d => if k < 2 ^ 63 then O.of (b d (δ.set i (.o (.lst (l.eraseIdx k))))) else .no | none => .no)
    | _ => .no
  | _ => .no
theorem SY {k n : Nat} (h : k < n) : seqIndex? (k : Int) n = some k := by
  unfold seqIndex?
  have e : ¬ (k : Int) < 0 := by lia
  simp [e]
  simp_all
theorem S0 {i : Nat} {g : TG} {b : D → En → Option En} (h : SE K XO E te me) (hg : SG K g b) : SS K XO E (fD (vF K.f "list" Jr (bh i) (dE te bZ)) g) (zZ i me b) := by
  intro Λ F0 H0 F H σ δ Dn I a
  unfold zZ at a
  split at a
  · rename_i l q
    obtain ⟨p, s1, vs, s2, s3⟩ := I.own q
    refine ⟨_, s1, .inl ⟨rfl, _, .inl (.inl s2)⟩, (h _ _ _ F H _ δ _ I ((cT.of I a).imp fun d F1 H1 e c v r => ?_))⟩
    split at c
    · rename_i k
      subst r
      cases z : l[k]? with
      | none => simp [z] at c; exact c.elim
      | some y =>
        simp [z] at c
        split at c
        · obtain ⟨w, hw, DJ⟩ := (s3.mono e.ff).get z
          refine ⟨p, _, k, k, w, rfl, rfl, e.hh _ _ s2, by lia, by omega, SY (by grind), hw, ?_⟩
          cases zz : b y _ with
          | none => rw [zz] at c; exact c.elim
          | some qo => rw [zz] at c; exact hg _ _ _ _ _ _ _ y w _ _ ((I.grow e).chg (d' := .lst _) q s1 ⟨_, b9, (s3.mono e.ff).eraseIdx k⟩) DJ zz fun lV I' => c _ _ _ I'
        · exact c.elim
    · exact c.elim
  · exact a.elim
end
end PM
namespace L2
open PySem PySem.Spec PyProof.Rows
section
variable{X:Cx}
theorem La{ns:List Int}(b:Vals (ns.map V.int) its)(d:m<its.toArray.size):∃t,its.toArray[m]=.int (ns.getD m 0) t:=by
 have c:=b.length;have a:m<ns.length:=by simp_all
 obtain⟨u,f,t,e⟩:=b.get (show(ns.map _)[m]?=some (.int (ns.getD m 0)) by rw[bB,bN,bx a];rfl);simp_all
def Lb(i:Int):Value->Bool |.int a _=>a==i |_=>false
theorem S1{ns:List Int}(a:Vals (ns.map V.int) its)(i:Int)(t:Tok):∀y,y∈its.toArray->MeetsSeq.EqGives y (.int i t) (Lb i y):=fun y b=>by obtain⟨m,c,e⟩:=Array.getElem_of_mem b;obtain⟨u,h⟩:=La a _;rw[<-e,h];exact MeetsSeq.EqGives.int _ _ _ _
theorem Lc{ns:List Int}(a:Vals (ns.map V.int) its)(i:Int)(b:m<its.toArray.size):Lb i its.toArray[m]=(ns.getD m 0==i):=by obtain⟨u,h⟩:=La a _;rw[h];rfl
theorem S2{ns:List Int}(h:ns.idxOf i<ns.length):ns.getD (ns.idxOf i) 0=i:=by rw[bN,bx h];simp
theorem S3{ns:List Int}(h:m<ns.idxOf i)(j:m<ns.length):ns.getD m 0≠i:=fun e=>by induction ns generalizing m with |nil=>simp_all |cons a l k=>
    rw[List.idxOf_cons] at h;by_cases z:a=i;.simp[z] at h
    . have g:(a==i)=false:=by simp_all
      rw[g] at h;cases m with |zero=>exact z e |succ m=>simp_all
def Ld:V->List V->Hp->VK->Prop:=fun x b H Q=>∃(p:Addr) (a:List Int) (i:Int),x=.ref p/\b=[.int i]/\H p=some (.lst (a.map V.int))/\a.idxOf i<a.length/\Q .non (upd H p (.lst ((a.eraseIdx (a.idxOf i)).map V.int)))
theorem S4:xO X "list.remove" Ld:=by
  intro B s M H x N v O Q I C E h;obtain⟨p,d,i,rfl,rfl,r,y,q⟩:=h;cases C;obtain⟨u,rfl,t,rfl⟩:=E.one;obtain⟨z,c,n,f,A,e⟩:=I.pZ r;have b:=A;rw[aI] at b;have G:d.idxOf i<c.toArray.size:=by rw[bI,<-b];exact y
  refine jA F.slot_list_remove ⟨_,e,rfl⟩ F.entry_list_remove (F.args_list_remove_2 _ _) (MeetsSeq.list_remove p _ n _ _ (S1 f i t) _ G ?_ (fun m R g=>?_) (by rw[bI,<-A];exact z)) ⟨e,?_⟩;.rw[Lc f i _,S2 y];simp
  .rw[Lc f i _];simpa using S3 g (by lia)
  . refine⟨.non,_,I.rh (its':=c.eraseIdx (d.idxOf i)) r e ?_ ?_ ?_,rfl,q⟩;.simp
    . have:=f.eraseIdx (d.idxOf i);have L:∀(l:List _)(k:Nat),(l.map V.int).eraseIdx k=(l.eraseIdx k).map _:=fun l=>by induction l with |nil=>simp |cons a l J=> intro k;cases k with |zero=>rfl |succ k=>simp[b7,List.eraseIdx_cons_succ,J k]
      simp_all
    .rw[aI] at z⊢;have:=List.length_eraseIdx_le d (d.idxOf i);lia
end
end L2
namespace PM
open PySem L2
section
variable{K:Kx}{XO:cX}{E:L2.St->XK}{tl te:TE}{ml me:En->R D}
def ym(i:Nat)(me:En->R D)(b:En):O:=match b[i]? with
 |some (.o (.lst l))=>(me b).gW b fun k=>match k with |.int k=>(match c5 l with|some a=>if a.idxOf k<a.length then .nx (b.set i (.o (.lst ((a.eraseIdx (a.idxOf k)).map .int)))) else .no|none=>.no) |_=>.no
 |_=>.no
theorem S5(h:SE K XO E te me):SS K XO E (wm (vF K.f "list" Ld (bh i) (dE te bZ))) (ym i me):=by
  intro s A u F H B t x I a;unfold ym at a;split at a
  . rename_i l q;obtain⟨p,f,C,b,j⟩:=I.own q;refine⟨_,f,.inl ⟨rfl,_,.inl (.inl b)⟩,(h _ _ _ F H _ _ _ I ((cT.of I a).imp fun d y w e c v r=>?_))⟩;split at c;.rename_i k;subst r;cases z:c5 l with |none=>simp[z] at c;exact c.elim |some o=>
        simp[z] at c;split at c;.rename_i m;have g:=rq z;subst g;have n:=ql j;subst n;exact⟨p,_,k,rfl,rfl,e.hh _ _ b,m,c _ _ _ ((I.grow e).chg q f ⟨_,b9,Fb _⟩)⟩
        .exact c.elim
    .exact c.elim
  .exact a.elim
end
end PM
namespace L2
open PySem PySem.Spec PyProof.Rows
open Sem (wp)
section
variable{P:Program}{w:World}{B:Around}{Er:Value->Shared->Prop}{hp:Heap}{gs:Array GenState}{dr:Drawn}{tk:Nat}{os:OsState}
variable{nm q:Str}{C N:Addr}{bs bm xU:List Value}{hdct:Bool}{sn:List Str}{sub:List Value}{ab:Bool}{col:Option Bool}{dd:Option Addr}{k0 k1 k2 k3 k5:Option Value}{B0 Bn newId Bq mR Br:String}{Bp:List Value}
end
end L2
namespace L2
open PySem PySem.Spec PyProof.Rows
section
variable{P:Program}{w:World}{B:Around}{Er:Value->Shared->Prop}{s:Shared}
end
section
variable{X:Cx}
end
end L2
namespace PM
open PySem L2
section
variable{K:Kx}{XO:cX}{E:L2.St->XK}
end
end PM
namespace L2
open PySem PySem.Spec PyProof.Rows
def uniq(ns:List Int):List Int:=ns.foldl step_dedup []
section
variable{X:Cx}
def Le:List V->Hp->VK->Prop:=fun c H Q=>∃(p:Addr) (b:List Int),c=[.ref p]/\Rd H p (.lst (b.map V.int))/\b.length<4000/\∀a,H a=none->Q (.ref a) (upd H a (.set (fun k=>(uniq b).any (.==k)) (uniq b).length))
theorem S6(ns:List Int):firstMet (fun i=>ns.getD i 0) ns.length=uniq ns:=by unfold firstMet uniq;congr 1;refine List.ext_getElem (by simp) fun i a b=>?_;simp_all
theorem S7(l:X.calm=true):cj X (.type "set") Le:=by
 intro d s C H B A Q I r h;obtain⟨p,m,rfl,j,w,q⟩:=h;obtain⟨u,rfl,k⟩:=lW r;cases k;obtain⟨z,c,n,g,e⟩:=j.ok I.bF;have t:=g.length;have a:c.toArray.size=m.length:=by simp_all
 refine PySem.call_set_list (I.ok.hd l) ⟨_,e,rfl,n,rfl⟩ (by simpa using E_ g) (by unfold scanBound;lia) fun x y f v=>?_;rw[a,S6] at f;refine⟨.ref _,_,?_,rfl,q _ (I.bF.fresh (aB _))⟩;exact I.laid (fun b o i=>v b o (aQ i) i) (aB _) f
def Lf:List V->Hp->VK->Prop:=fun a H Q=>∃(p:Addr) (S:Int->Bool) (n:Nat),a=[.ref p]/\H p=some (.set S n)/\Q (.int n) H
theorem S8:cj X (.builtin "len") Lf:=by rintro b s v H l k Q I r ⟨p,S,n,rfl,d,q⟩;obtain⟨u,rfl,h⟩:=lW r;cases h;obtain⟨o,m,j,t,e,a,g,_,_,i,c,f⟩:=I.bF p _ d;exact call_len_set e a g c (by unfold scanBound at i;lia) ⟨.int n,H,I.tok _,⟨_,by rw[f]⟩,q⟩
end
end L2
namespace PM
open PySem L2
section
variable{K:Kx}{XO:cX}{E:L2.St->XK}
def wV:List D->Option D |[.lst l]=>(c5 l).bind fun a=>dt (a.length<4000) (some (.int (uniq a).length)) none |_=>none
theorem S9(h:wV ds=some d):∃ns:List Int,ds=[.lst (ns.map .int)]/\ns.length<4000/\d=.int (uniq ns).length:=by
 unfold wV at h;split at h;.rename_i l;cases z:c5 l with |none=>simp_all |some ns=>
  rw[z] at h;simp[Option.bind] at h;unfold dt at h;split at h;.rename_i a;cases h;exact⟨_,by rw[rq z],a,rfl⟩
  simp_all
 simp_all
theorem S_(h:uO K XO E k ml):SE K XO E (k9 Lf (dE (k9 Le k) bZ)) (bp wV ml):=by intro z v t F H w o Q I a;refine h _ _ _ F H _ _ _ I (a.bind.imp fun s u B g c y r=>?_);cases q:wV _ with |none=>rw[q] at c;exact c.elim |some d=> rw[q] at c;obtain⟨A,rfl,l,rfl⟩:=S9 q;cases r with |cons r m=> cases m;obtain⟨p,x,rfl,f,n⟩:=r;have j:=ql n;subst j;refine⟨p,_,rfl,f,l,fun b i=>⟨b,_,_,rfl,b9,c _ _ (.eM g.fh i) _ rfl⟩⟩
end
end PM
namespace L2
open PySem PySem.Spec PyProof.Rows
section
variable{X:Cx}
end
end L2
namespace PM
open PySem L2
section
variable{K:Kx}{XO:cX}{E:L2.St->XK}{tk te:TE}{mk me:En->R D}
end
section
variable{K:Kx}{XO:cX}{E:St->XK}{ta tb te:TE}{ma mb me:En->R D}{t u:TS}{m n:En->O}{Λ:List (Nat×Addr×HO)}{F0 H0 F H F' H' F1 H1:Hp}{σ:St}{δ:En}{Dn:Ends}
def aM(a:List (List Int)):D:=.lst (a.map iL)
structure mY(H:Hp)(a:Addr)(bs:List Addr)(ll:List (List Int)):Prop where
 top:H a=some (.lst (bs.map .ref))len:bs.length=ll.length
 row:∀(i:Nat)(b:Addr)(l:List Int),bs[i]?=some b->ll[i]?=some l->H b=some (.lst (l.map .int))nd:(a::bs).Nodup
theorem mY.mono(e:aD H H')(t:mY H a bs c):mY H' a bs c:=⟨e _ _ t.top,t.len,fun i b l f d=>e _ _ (t.row i b l f d),t.nd⟩
theorem mY.obj(t:mY H a bs d):∀b∈a::bs,∃o,H b=some o:=fun b c=>by
  rcases aR.mp c with rfl|c;.exact⟨_,t.top⟩
  . obtain⟨i,f,e⟩:=kB c;have g:i<d.length:=by rwa[<-t.len]
    exact⟨_,t.row i b d[i] (by simp_all) (bx _)⟩
def tR(l:List Int):Tr:=.l (l.map fun i=>.d (.int i))
def jP(a:List (List Int)):Tr:=.l (a.map tR)
theorem jg:∀{l:List Int}{vs:List V}{fp:List Addr},bE K F H (l.map fun i=>.d (.int i)) vs fp↔vs=l.map .int/\fp=[]
 |[],vs,fp=>by rfl |i::l,vs,fp=>by
  constructor;.rintro⟨v,r,b,c,rfl,rfl,⟨rfl,rfl⟩,h⟩;obtain⟨rfl,rfl⟩:=jg.mp h;simp
  .rintro⟨rfl,rfl⟩;exact⟨_,_,_,_,rfl,rfl,⟨rfl,rfl⟩,jg.mpr ⟨rfl,rfl⟩⟩
theorem qS:eB K F H (tR l) v fp↔∃b,v=.ref b/\fp=[b]/\H b=some (.lst (l.map .int)):=by
 constructor;.rintro⟨a,d,e,rfl,rfl,f,c⟩;obtain⟨rfl,rfl⟩:=jg.mp c;simp_all
 .rintro⟨b,rfl,rfl,h⟩;exact⟨b,_,_,rfl,rfl,h,jg.mpr ⟨rfl,rfl⟩⟩
theorem jh:∀{e:List (List Int)}{vs:List V}{bs:List Addr},bE K F H (e.map tR) vs bs↔vs=bs.map .ref/\bs.length=e.length/\∀(i:Nat)(b:Addr)(l:List Int),bs[i]?=some b->e[i]?=some l->H b=some (.lst (l.map .int))
 |[],vs,bs=>by
  simp only[qF,bE];constructor;.rintro⟨rfl,rfl⟩;simp
  .rintro⟨rfl,h,_⟩;cases bs with |nil=>simp |cons _ _=>simp at h
 |l::e,vs,bs=>by
  constructor;.rintro⟨v,r,z,y,rfl,rfl,p,w⟩;obtain⟨b,rfl,rfl,A⟩:=qS.mp p;obtain⟨rfl,q,x⟩:=jh.mp w;refine⟨rfl,by simp[q],fun i c r s g=>?_⟩;cases i with |zero=>simp_all |succ i=>exact x i c r (by simp_all) (by simp_all)
  .rintro⟨rfl,h,j⟩;cases bs with |nil=>simp at h |cons b bs=>exact⟨_,_,_,_,rfl,rfl,qS.mpr ⟨b,rfl,rfl,j 0 b l rfl rfl⟩,jh.mpr ⟨rfl,by simpa using h,fun i c r s g=>j (i+1) c r (by grind) (by simpa using g)⟩⟩
theorem ku:Tab K F H a bs (jP h)↔mY H a bs h:=by
 constructor;.intro t;have:=t.ok;obtain⟨j,k,i,l,c,f,d⟩:=this;cases c;obtain⟨rfl,g,e⟩:=jh.mp d;exact⟨f,g,e,t.nd⟩
 .intro t;exact⟨⟨a,_,_,rfl,rfl,t.top,jh.mpr ⟨rfl,t.len,t.row⟩⟩,t.nd⟩
def B2:Tr->Option Int |.d (.int i)=>some i |_=>none
noncomputable def vR{α:Type}(f:Tr->Option α):List Tr->Option (List α) |[]=>some [] |t::b=>(f t).bind fun x=>(vR f b).bind fun r=>some (x::r)
def Fc:Tr->Option (List Int) |.l a=>vR B2 a |_=>none
def B3:Tr->Option (List (List Int)) |.l a=>vR Fc a |_=>none
theorem Fd{f:Tr->Option b}{g:b->Tr}(h:∀t x,f t=some x->t=g x):∀{ts:List Tr}{l:List b},vR f ts=some l->ts=l.map g |[],l,e=>by cases e;rfl |t::ts,l,e=>by unfold vR at e;cases q:f t with |none=>simp_all |some x=> rw[q] at e;cases c:vR f ts with |none=>simp_all |some r=> rw[c] at e;cases e;rw[h t x q,Fd h c];rfl
theorem Fe {α : Type} {f : Tr → Option α} {g : α → Tr} (h : ∀ x, f (g x) = some x) : ∀ (l : List α), vR f (l.map g) = some l
  | [] => rfl
  | x :: l => by
    show (f (g x)).bind _ = _
    rw [h x]
    show (vR f (l.map g)).bind _ = _
    rw [Fe h l]; rfl
theorem Ta{t:Tr}(h:B2 t=some i):t=.d (.int i):=by unfold B2 at h;grind
theorem Tb{t:Tr}(h:Fc t=some l):t=tR l:=by
 unfold Fc at h;split at h;.rw[Fd (fun _ _=>Ta) h];rfl
 simp_all
theorem Tc{t:Tr}(h:B3 t=some a):t=jP a:=by
 unfold B3 at h;split at h;.rw[Fd (fun _ _=>Tb) h];rfl
 simp_all
@[simp] theorem Td (ll : List (List Int)) : B3 (jP ll) = some ll := Fe (fun l => Fe (f := B2) (fun _ => rfl) l) ll
theorem Ff:∀(ts:List Tr),kO ts=ts.map rW |[]=>rfl |t::ts=>by simp[kO,Ff _]
@[simp] theorem Te(a:List (List Int)):rW (jP a)=aM a:=by unfold jP aM;simp only[rW,Ff,bX];congr 1;apply i9;intro l _;show rW _=iL l;unfold tR iL;simp only[rW,Ff,bX];rfl
noncomputable def Fg:Sl->Sl |.o d=>.v d |.l d=>.v d |.p T=>.v (rW T) |s=>s
def peek(δ:En):En:=δ.map Fg
theorem Tf(I:aA K Λ F0 H0 F H σ δ):aA K [] (j9 F H) H (j9 F H) H σ (peek δ):=by
 have g:∀i:Nat,(peek δ)[i]?=(δ[i]?).map Fg:=fun i=>by unfold peek;simp
 have no:∀i,Sl.own (peek _)[i]?=false:=fun i=>by rw[g];cases q:δ[i]? with |none=>rfl |some s=>cases s<;>rfl
 refine⟨.refl (KA I.same),by rw[I.len];simp[peek],fun i=>?_,fun i j a _ w=>by simp_all,fun x r=>(by cases r),fun i T h=>?_⟩;.have z:=I.slot i;rw[g];cases q:δ[i]? with |none=>trivial |some s=> rw[q] at z;cases s with |no=>trivial |v d=>obtain⟨u,b,e⟩:=z;exact⟨u,b,Rep.mono vN d e⟩ |o d=>obtain⟨a,b,_,_,f⟩:=z;exact⟨_,b,EO I.same (.inr (.inl ⟨a,rfl,f⟩))⟩ |l d=>obtain⟨a,b,_,_,f⟩:=z;exact⟨_,b,EO I.same (.inr (.inl ⟨a,rfl,f⟩))⟩ |p T=>obtain⟨a,y,b,e,_⟩:=z;exact⟨_,b,EL I.same T e.ok⟩
 .have:=no i;rw[h] at this;cases this
def yn(m:En->R D)(δ:En):R D:=match m (peek δ) with|.ok d=>if uT d=true then .ok d else .no|_=>.no
theorem Tg(h:SE K XO E te me):SE K XO E te (yn me):=by intro Λ F0 H0 F H σ δ Q I a;refine h _ _ H _ H _ _ Q (Tf I) ?_;unfold yn at a;cases q:me _ with |no=>rwa[q] at a |ex x=>rw[q] at a;exact a.elim |ok d=>
 rw[q] at a;dsimp at a;split at a;.rename_i e;intro f i b v c;exact a _ _ (KG b) v (ER b d e c)
 .exact a.elim
variable(K XO E) in
def Lg(t:TE)(m:En->R (List (List Int))):Prop:=∀Λ F0 H0 F H σ δ Q,aA K Λ F0 H0 F H σ δ->fH E XO σ F H (fun d F' H'=>∀a c,mY H' a c d->(∀b∈a::c,F' b=none/\H b=none)->Q (.ref a) H') (m δ)->t σ H Q
def u0:D->Option (List Int) |.lst l=>c5 l |_=>none
theorem Th(h:u0 d=some l):d=iL l:=by cases d with |lst x=>rw[rq h];rfl |_=>cases h
def wW(b:D->En->Option En)(me:En->R D)(δ:En)(d:D):R (List Int):=match b d δ with |none=>.no |some a=>(me a).nZ.bind fun x=>R.of (u0 x)
def r9(f:D->R (List Int)):List D->R (List (List Int)) |[]=>.ok [] |d::l=>(f d).bind fun o=>(r9 f l).bind fun r=>.ok (o::r)
def Fh(mi:En->R (List D))(c:List Nat)(n:Nat)(b:D->En->Option En)(me:En->R D)(δ:En):R (List (List Int)):= (mi δ).bind fun a=>dt (a.length<=sizeLine) (r9 (wW b me (eJ δ c n)) a).nZ .no
theorem Ti(h:r9 f (d::l)=.ok r):∃o a,f d=.ok o/\r9 f l=.ok a/\r=o::a:=by unfold r9 at h;cases q:f d with |no=>simp_all |ex x=>simp_all |ok o=> rw[q] at h;cases b:r9 f l with |no=>simp_all |ex x=>simp_all |ok a=>rw[b] at h;cases h;simp
theorem Tj{n:Nat}(hi:zE K XO E wi mi)(EF:L.Nodup)(hg:SG K g b)(hw:BW b)(he:nY K XO EN te me):Lg K XO E (vG wi L n g none te) (Fh mi L n b me):=by
  intro Λ F0 H0 F H σ δ Q I a;refine hi Λ F0 H0 F H σ δ _ I (a.bind.imp fun v F1 H1 e1 Y J hJ p hp=>?_);unfold dt at Y;split at Y;case isFalse=>exact Y.elim
  rename_i hsz;have I1:=I.grow e1;obtain⟨s,Ic,s_,tK⟩:=Ks (n:=n) I1 EF;cases B:(r9 (wW b me (eJ δ L n)) v).nZ with |no=>rw[B] at Y;exact Y.elim |ex x=>cases q2:r9 (wW b me (eJ δ L n)) v<;>(rw[q2] at B;cases B) |ok l=>
  rw[B] at Y;have qg:=jK B;have S:∀x∈s,∃d,(eJ δ L n)[x.1]?=some (.l d):=fun x hx=>(Ic.gO x hx).1;have EG:∀x∈s,x.2.1≠p:=fun x hx e=>by obtain⟨o,ho⟩:=tK x hx;grind
  have p0:H0 p=none:=I1.ext.hh.free hp;have f1:F1 p=none:=e1.fh.free hp;refine⟨fun i k ys U N=>∃F2 l1 l2 G,aA K s F0 H0 F2 N U (eJ δ L n)/\Ext F1 H1 F2 N/\ys=G.map .ref/\mY N p G l1/\(∀c∈p::G,F2 c=none/\H1 c=none)/\r9 (wW b me (eJ δ L n)) (v.drop i)=.ok l2/\l=l1++l2/\k=v.length-i/\i<=v.length/\ys.length<=i, ⟨_,F1,[],l,[],?_,.eM e1.fh hp,rfl,⟨b9,rfl,fun i c r h=>by simp at h,by simp⟩,fun c hc=>?_,qg,rfl,rfl,cG _,aB _⟩,?_⟩;.exact Ic.grow (.eM e1.fh hp)
  .rw[bc.mp hc];exact⟨f1,hp⟩
  rintro i k ys U N ⟨F2,l1,l2,G,I2,x2,rfl,tb,A,qd,rfl,rfl,Kt,EH⟩;refine⟨tb.top,?_⟩;by_cases uk:i<v.length;.have e:v.drop i=v[i]::v.drop (i+1):=sA uk;rw[e] at qd;obtain⟨Z,l3,f,q3,rfl⟩:=Ti qd;obtain⟨h1,h2⟩:=(hJ F2 N x2 i).1 v[i] (by simp);refine .inr ⟨h1,fun X lV H'=>∃F' C,aA K s F0 H0 F' H' lV (eJ δ L n)/\Ext F1 H1 F' H'/\X=C.map .ref/\mY H' p C (l1++[Z])/\(∀c∈p::C,F' c=none/\H1 c=none)/\X.length<=i+1, fun X lV H' ⟨F',C,w1,w2,w3,w4,w5,w6⟩=>⟨_,by omega,F',l1++[Z],l3,C,w1,w2,w3,w4,w5,q3,by simp,rfl,uk,w6⟩,fun x H' y=>?_⟩;obtain⟨F3,e3,rx⟩:=h2 x H' y;unfold wW at f;cases qb:b v[i] (eJ δ L n) with |none=>rw[qb] at f;cases f |some T=> rw[qb] at f;dsimp only at f;refine hg s F0 H0 F3 H' U _ _ x T _ (I2.grow e3) rx qb fun xS I3=>?_;unfold DW;simp only[iG];cases qm:me T with |no=>rw[qm] at f;cases f |ex x=>rw[qm] at f;cases f |ok d=>
        rw[qm] at f;simp only[R.jK,R.aC] at f;have ed:d=iL Z:=by cases qa:u0 d with |none=>rw[qa] at f;cases f |some r=>rw[qa] at f;cases f;exact Th qa
        subst ed;refine he s F0 H0 F3 H' xS T _ I3 ?_;rw[qm];intro F5 H5 e5 c c0 c1 co;have z:=e3.trans e5;obtain⟨vs,cv,cr⟩:=co;have ex:=ql cr;subst ex;have Lh:=tb.mono z.hh;have z2:F5 p=none:=z.nw p _ (A p (by simp)).1 tb.top;have Li:N c=none:=e3.hh.free c1;have ud:∀q∈p::G,q≠c:=fun q hq ee=>by obtain⟨o,ho⟩:=tb.obj q hq;rw[ee,Li] at ho;cases ho
        refine⟨Lh.top,?_,F5,G++[c],((I3.grow e5).tJ (hw _ _ _ qb) S).side s_ EG p0 z2,?_,by simp,⟨?_,by simp[tb.len],fun j q r M g2=>?_,?_⟩,fun q hq=>?_,by simpa using EH⟩;.lia
        .have w:=x2.trans z;exact⟨w.ff,fun c o q=>by rw[a9 (eF q hp)];exact w.hh c o q,fun c o q=>by rw[a9 (eF q z2)];exact w.fh c o q,w.nw⟩
        .rw[b9];simp
        . have qp:q≠p:=fun ee=>by
            have hm:=eg M;rw[ee] at hm;rcases cD.mp hm with w|w;.exact(fQ.mp tb.nd).1 w
            .exact ud p (by simp) (bc.mp w)
          rw[a9 qp];by_cases hj:j<G.length;.rw[iu hj] at M;rw[iu (by rw[<-tb.len];exact hj)] at g2;exact Lh.row j q r M g2
          . rw[jT (by omega)] at M;rw[jT (by rw[<-tb.len];omega),<-tb.len] at g2;have j0:j-G.length=0:=by have:=(cI.mp M).1;simp at this;omega
            rw[j0] at M g2;simp at M g2;subst M g2;exact cv
        .rw[<-sx,l_];exact⟨tb.nd,by simp,fun q hq r hr ee=>ud q hq (by rw[ee];exact bc.mp hr)⟩
        . rw[<-sx] at hq;rcases cD.mp hq with w|w;.obtain⟨o,ho⟩:=tb.obj q w;exact⟨z.nw q o (A q w).1 ho,(A q w).2⟩
          .rw[bc.mp w];exact⟨c0,x2.hh.free Li⟩
  . have e:i=v.length:=by lia
    subst e;rw[qD] at qd;cases qd;refine .inl ⟨(hJ F2 N x2 _).2 (by simp),Y F2 N x2 p G (by rw[f_];exact tb) fun c hc=>⟨(A c hc).1,e1.hh.free (A c hc).2⟩⟩
def Tn(i:Nat)(δ:En):Bool:=(List.range δ.length).all fun j=>j==i||match δ[j]? with|some (.p _)=>false|_=>true
theorem aA.Fi(I:aA K Λ F0 H0 F H σ δ)(hl:∃x,δ[i]?=some x/\∀d,x≠.l d)(e:Ext F H F' H')(t:Tab K F' H' a bs T)(h0:∀b∈a::bs,F' b=none/\H b=none): aA K Λ F0 H0 F' H' (σ.set i (some (.ref a))) (δ.set i (.p T)):=by
  obtain⟨x,hx,To⟩:=hl;have hi:i<δ.length:=(cI.mp hx).1;have r:i<σ.length:=by rwa[I.len]
  have fresh:∀(k:Nat)(b:Addr),k≠i->Sl.own δ[k]?=true->σ[k]?=some (some (.ref b))->b∉a::bs:=fun k b hki g M h=>by have z:=I.slot k;have Bw:=(h0 b h).2;cases q:δ[k]? with |none=>rw[q] at g;cases g |some y=> rw[q] at g z;cases y with |no=>cases g |v d=>cases g |o d=>obtain⟨c,z1,_,_,z4⟩:=z;obtain⟨u,hu⟩:=z4.obj;simp_all |l d=>obtain⟨c,z1,_,_,z4⟩:=z;obtain⟨u,hu⟩:=z4.obj;simp_all |p l2=>obtain⟨c,cs,z1,z2,_⟩:=z;rw[M] at z1;cases z1;obtain⟨u,hu⟩:=z2.obj b (by simp);simp_all
  have J:=I.grow e;have f3:∀b∈a::bs,H0 b=none/\F' b=none:=fun b h=>⟨I.ext.hh.free (h0 b h).2,(h0 b h).1⟩;refine⟨J.ext,by simp[I.len],fun j=>?_,fun j k b Q w g2 N Z=>?_,fun y hy=>?_,fun j l2 w=>?_⟩
  . by_cases B:i=j;.subst B;rw[bH hi,bH r];exact⟨a,bs,rfl,t,f3⟩
    .rw[aO B,aO B];exact J.slot j
  . by_cases e1:i=j;.subst e1;rw[bH r] at N;cases N;rw[aO Q] at g2 Z;exact fresh k a (aJ Q) g2 Z (by simp)
    . by_cases G:i=k;.subst G;rw[bH r] at Z;cases Z;rw[aO e1] at w N;exact fresh j a (aJ e1) w N (by simp)
      .rw[aO e1] at w N;rw[aO G] at g2 Z;exact I.dist j k b Q w g2 N Z
  . obtain⟨⟨d',w⟩,g2,N⟩:=J.gO y hy;have ne:i≠y.1:=by intro B;rw[<-B,hx] at w;exact To d' (eU w)
    exact⟨⟨d',by rwa[aO ne]⟩,by rwa[aO ne],N⟩
  . have old:∀(k:Nat)(T2:Tr),k≠i->δ[k]?=some (.p T2)->∃A f,σ[k]?=some (some (.ref A))/\Tab K F' H' A f T2/\(∀b∈A::f,b∉a::bs)/\(∀b∈A::f,H0 b=none/\F' b=none)/\(∀(j:Nat)(b:Addr),j≠k->Sl.own δ[j]?=true->σ[j]?=some (some (.ref b))->b∉A::f)/\∀(j:Nat)(T':Tr),j≠k->δ[j]?=some (.p T')->∃Y s,σ[j]?=some (some (.ref Y))/\Tab K F' H' Y s T'/\∀b∈Y::s,b∉A::f:=fun k T2 g q=>by
      obtain⟨A,f,s1,X,U,s4,s5⟩:=I.tab q;refine⟨A,f,s1,X.mono e.ff e.hh,fun b h S=>?_,fun b h=>?_,s4,fun j T' hj L=>?_⟩;.obtain⟨o,C⟩:=X.obj b h;rw[(h0 b S).2] at C;cases C
      .obtain⟨o,C⟩:=X.obj b h;exact⟨(U b h).1,e.nw b o (U b h).2 C⟩
      .obtain⟨Y,s,u1,u2,u3⟩:=s5 j T' hj L;exact⟨Y,s,u1,u2.mono e.ff e.hh,u3⟩
    by_cases B:i=j
    . subst B;rw[bH hi] at w;cases w;refine⟨a,bs,bH r,t,f3,fun k b g C M h=>?_,fun k l3 g L=>?_⟩;.rw[aO (aJ g)] at C M;exact fresh k b g C M h
      .rw[aO (aJ g)] at L;obtain⟨A,f,s1,X,U,_⟩:=old k l3 g L;exact⟨A,f,by rwa[aO (aJ g)],X,U⟩
    . rw[aO B] at w;obtain⟨A,f,s1,X,U,s4,s5,s6⟩:=old j l2 (aJ B) w;refine⟨A,f,by rwa[aO B],X,s4,fun k b g C M h=>?_,fun k l3 g L=>?_⟩
      . by_cases G:i=k;.subst G;rw[bH r] at M;cases M;exact U a h (by simp)
        .rw[aO G] at C M;exact s5 k b g C M h
      . by_cases G:i=k;.subst G;rw[bH hi] at L;cases L;exact⟨a,bs,bH r,t,fun b h S=>U b S h⟩
        .rw[aO G] at L;obtain⟨Y,s,u1,u2,u3⟩:=s6 k l3 g L;exact⟨Y,s,by rwa[aO G],u2,u3⟩
def B4(me:En->R (List (List Int)))(i:Nat)(δ:En):O:=(me δ).gW δ fun a=>match δ[i]? with |none=>.no |some (.l _)=>.no |some _=>if Tn i δ=true then .nx (δ.set i (.p (jP a))) else .no
theorem Tp{i:Nat}(h:Lg K XO E te f):SS K XO E (fD te (jE i)) (B4 f i):=by intro Λ F0 H0 F H σ δ Dn I a;refine h _ _ _ F H σ _ _ I ((cT.of I a).imp fun g F1 H1 e c p k t b=>?_);cases q:δ[i]? with |none=>simp[q] at c;exact c.elim |some x=> simp[q] at c;cases x with |l d=>exact c.elim |no|v d|o d|p j=>
 dsimp at c;split at c;.exact c _ _ _ (I.Fi ⟨_,q,fun d z=>by cases z⟩ e (ku.mpr t) b)
 .exact c.elim
structure TabAt(K:Kx)(H0 F H:Hp)(σ:St)(δ:En)(i:Nat)(a:Addr)(bs:List Addr)(T:Tr):Prop where
 is:δ[i]?=some (.p T)at':σ[i]?=some (some (.ref a))tab:Tab K F H a bs T
 free:∀b∈a::bs,H0 b=none/\F b=none
 dist:∀(j:Nat)(b:Addr),j≠i->Sl.own δ[j]?=true->σ[j]?=some (some (.ref b))->b∉a::bs
 one:∀(j:Nat)(T':Tr),j≠i->δ[j]?=some (.p T')->∃a' mT,σ[j]?=some (some (.ref a'))/\Tab K F H a' mT T'/\∀b∈a'::mT,b∉a::bs
theorem aA.tabAt(I:aA K Λ F0 H0 F H σ δ)(b:δ[i]?=some (.p T)):∃a bs,TabAt K H0 F H σ δ i a bs T:=let⟨a,_,d,c,g,e,f⟩:=I.tab b;⟨a,_,b,d,c,g,e,f⟩
theorem TabAt.grow(t:TabAt K H0 F H σ δ i a bs T)(e:Ext F H F' H'):TabAt K H0 F' H' σ δ i a bs T:= ⟨t.is,t.at',t.tab.mono e.ff e.hh,fun b c=>let⟨o,h⟩:=t.tab.obj b c;⟨(t.free b c).1,e.nw b o (t.free b c).2 h⟩,t.dist,fun j p f g=>let⟨_,_,k,l,d⟩:=t.one j _ f g;⟨_,_,k,l.mono e.ff e.hh,d⟩⟩
theorem aA.Fj{u:HO}(I:aA K Λ F0 H0 F H σ δ)(t:TabAt K H0 F H σ δ i a bs T)(Y:b∈a::bs)(t':Tab K F (upd H b u) a mT T')(sub:∀c∈mT,c∈bs): aA K Λ F0 H0 F (upd H b u) σ (δ.set i (.p T')):=by
  have f:=t.is;have hi:i<δ.length:=(cI.mp f).1;have fb:=t.free b Y;have e:∀c∈a::mT,c∈a::bs:=fun c k=>by
    rcases aR.mp k with rfl|k;.simp
    .exact bz _ (sub c k)
  have N:∀(j:Nat)(c:Addr),i≠j->Sl.own δ[j]?=true->σ[j]?=some (some (.ref c))->c≠b:=fun j c hj Q S g=>t.dist j c (aJ hj) Q S (by simp_all);have ow:∀r:Nat,Sl.own (δ.set i (.p T'))[r]?=true->Sl.own δ[r]?=true:=by
    intro r h;by_cases g:i=r;.subst g;rw[f];rfl
    .rwa[aO g] at h
  refine⟨⟨I.ext.ff,fun c w q=>?_,fun c w q=>?_,I.ext.nw⟩,by simp[I.len],fun j=>?_,fun j r c E4 s g2 g3 g4=>?_,fun y hy=>?_,fun j l2 s=>?_⟩;.rw[a9 (eF q fb.1)];exact I.ext.hh c w q
  .rw[a9 (eF q fb.2)];exact I.ext.fh c w q
  . by_cases g:i=j;.subst g;rw[bH hi];exact⟨a,mT,t.at',t',fun c k=>t.free c (e c k)⟩
    .rw[aO g];have w:=I.slot j;cases q:δ[j]? with |none=>trivial |some y=> rw[q] at w;cases y with |no=>trivial |v d=>exact w |o d=>obtain⟨c,C,Z,U,w4⟩:=w;exact⟨c,C,Z,U,w4.at (a9 (N j c g (by rw[q];rfl) C))⟩ |l d=>obtain⟨c,C,Z,U,w4⟩:=w;exact⟨c,C,Z,U,w4.at (a9 (N j c g (by rw[q];rfl) C))⟩ |p l2=> obtain⟨a',mT,M,J,G⟩:=t.one j l2 (aJ g) q;obtain⟨c,cs,C,Z,U⟩:=w;rw[M] at C;cases C;have X:=BA Z J;subst X;exact⟨_,cs,M,J.at' fun x f=>a9 fun z=>G x f (z▸Y),U⟩
  .exact I.dist j _ c E4 (ow j s) (ow _ g2) g3 g4
  . obtain⟨⟨d2,s⟩,g2,g3⟩:=I.gO y hy;have ne:i≠y.1:=by intro g;simp_all
    exact⟨⟨_,by rwa[aO ne]⟩,g2,by rwa[a9 (N _ _ ne (by rw[s];rfl) g2)]⟩
  . by_cases g:i=j
    . subst g;rw[bH hi] at s;cases s;refine⟨a,_,t.at',t',fun c k=>t.free c (e c k),fun r c A Q S k=>?_,fun r l3 A B=>?_⟩;.exact t.dist _ c A (ow _ Q) S (e c k)
      .rw[aO (aJ A)] at B;obtain⟨a',cs,M,J,G⟩:=t.one _ _ A B;exact⟨_,_,M,J.at' fun x f=>a9 fun z=>G x f (z▸Y),fun x f L=>G x f (e x L)⟩
    . rw[aO g] at s;obtain⟨a2,bs2,s1,s2,s3,s4,s5⟩:=I.tab s;obtain⟨a',cs,M,J,G⟩:=t.one j _ (aJ g) s;rw[M] at s1;cases s1;have X:=BA s2 J;subst X;refine⟨_,_,M,J.at' fun x f=>a9 fun z=>G x f (z▸Y),s3,fun r c A Q S k=>s4 _ c A (ow _ Q) S k,fun r l3 A B=>?_⟩;by_cases e2:i=r;.subst e2;rw[bH hi] at B;cases B;exact⟨a,_,t.at',t',fun x f L=>G x L (e x f)⟩
      .rw[aO e2] at B;obtain⟨a3,cs3,v1,v2,v3⟩:=s5 _ _ A B;obtain⟨a4,cs4,x1,x2,x3⟩:=t.one _ _ (aJ e2) B;rw[v1] at x1;cases x1;have X:=BA v2 x2;subst X;exact⟨_,_,v1,v2.at' fun x f=>a9 fun z=>x3 x f (z▸Y),v3⟩
theorem aA.Fl(I:aA K Λ F0 H0 F H σ δ)(t:TabAt K H0 F H σ δ i a bs (jP s))(g:bs[k]?=some b): aA K Λ F0 H0 F (upd H b (.lst (row.map .int))) σ (δ.set i (.p (jP (s.set k row)))):=by
  have tb:=ku.mp t.tab;have o:=eg g;have l:=(cI.mp g).1;have h:=fQ.mp tb.nd;refine I.Fj t (bz _ o) (ku.mpr ⟨?_,by simp[tb.len],fun j c r f d=>?_,tb.nd⟩) fun c q=>q;.rw[a9 (show a≠b from fun z=>h.1 (z▸o))];exact tb.top
  . by_cases e:k=j;.subst e;rw[g] at f;cases f;rw[bH (by rw[<-tb.len];exact l)] at d;cases d;exact b9
    .rw[aO e] at d;rw[a9 (fun z=>e ((nK l h.2).mp (by simp_all)))];exact tb.row j c r f d
def tabOf:Option Sl->Option (List (List Int)) |some (.p T)=>B3 T |_=>none
theorem Tq(h:tabOf x=some a):x=some (.p (jP a)):=by
 unfold tabOf at h;split at h;.rw[Tc h]
 simp_all
@[simp] theorem zwe (ll : List (List Int)) : tabOf (some (.p (jP ll))) = some ll := Td ll
def r_(i:Nat)(mk mj me:En->R D)(δ:En):O:=match tabOf δ[i]? with
 |some b=>(me δ).gW δ fun v=>(mk δ).gW δ fun k=>match v,k with |.int v,.int k=>(match gm b.length k with |some c=>(match b[c]? with |some a=>(mj δ).gW δ fun j=>(match j with |.int j=>(match gm a.length j with|some d=>.nx (δ.set i (.p (jP (b.set c (a.set d v)))))|none=>.no) |_=>.no) |none=>.no) |none=>.no) |_,_=>.no
 |none=>.no
theorem B5(h1:SE K XO E tk mk)(h2:SE K XO E U mj)(h:SE K XO E te me):SS K XO E (fD te (sS (iN (nV K.f) (bh i) tk) U ze)) (r_ i mk mj me):=by
  intro Λ F0 H0 F H σ δ Dn I a;unfold r_ at a;split at a
  . rename_i G N;have q:=Tq N;obtain⟨p,f,ta⟩:=I.tabAt q;have T:=ta.at';have o:=ku.mp ta.tab;refine h Λ F0 H0 F H σ δ _ I ((cT.of I a).imp fun v F1 H1 e c x Z=>⟨_,T,?_⟩);refine h1 Λ F0 H0 F1 H1 σ δ _ (I.grow e) ((cT.of (I.grow e) c).imp fun k Y H2 s b y X=>?_);have w:=(I.grow e).grow s;have B:=(o.mono e.hh).mono s.hh;split at b;.rename_i v k;subst X Z;cases z:gm G.length k with |none=>rw[z] at b;exact b.elim |some d=> rw[z] at b;dsimp at b;cases l:G[d]? with |none=>rw[l] at b;exact b.elim |some r=>
          rw[l] at b;have kl:d<f.length:=by rw[o.len];exact(cI.mp l).1
          have J:f[d]?=some f[d]:=bx kl;refine⟨p,f.map .ref,k,.ref f[d],rfl,rfl,.inl (.inl B.top),?_,?_⟩;.unfold jY;rw[aI,o.len,z];simp
          . refine h2 Λ F0 H0 Y H2 σ δ _ w ((cT.of w b).imp fun j F3 H3 A g u S=>?_);have M:=w.grow A;have L:=B.mono A.hh;split at g;.rename_i j;subst S;cases C:gm _ j with |none=>rw[C] at g;exact g.elim |some Q=> rw[C] at g;refine⟨f[d],r.map _,j,Q,rfl,rfl,L.row _ _ _ J l,by simp_all,?_⟩;rw[<-qG];exact g _ _ _ (M.Fl (((ta.grow e).grow s).grow A) J)
            .exact g.elim
    .exact b.elim
  .exact a.elim
def B6(i:Nat)(δ:En):O:=match δ[i]? with|some (.p T)=>.ro (rW T)|_=>.no
open Classical in
def u_(F H:Hp)(bs:List Addr):Hp:=fun b=>if b∈bs then H b else F b
mutual
theorem Ts {F1 : Hp} (s : aD F F1) : ∀ (T : Tr) {v : V} {fp : List Addr}, eB K F H T v fp -> (∀ b ∈ fp, F1 b = H b) -> Rep K F1 (rW T) v
 | .d x, v, fp, h, _ => Rep.mono s x h.2
 | .l _, v, fp, h, e => by
  obtain ⟨a, f, y, rfl, p, k, j⟩ := h
  subst p
  exact ⟨a, _, rfl, (e a (by simp)).trans k, B7 s _ j fun b g => e b (bz _ g)⟩
 | .t _, v, fp, h, e => by
  obtain ⟨a, f, rfl, k, j⟩ := h
  exact ⟨a, _, rfl, s _ _ k, B7 s _ j e⟩
theorem B7 {F1 : Hp} (s : aD F F1) : ∀ (o : List Tr) {f : List V} {fp : List Addr}, bE K F H o f fp -> (∀ b ∈ fp, F1 b = H b) -> aF K F1 (kO o) f
 | [], f, fp, h, _ => by
  simp only [bE] at h
  rw [h.1]
  simp only [kO]
  exact .nil
 | t :: o, f, fp, h, e => by
  simp only [bE] at h
  obtain ⟨v, r, w, q, rfl, p, k, j⟩ := h
  subst p
  simp only [kO]
  exact .cons (Ts s t k fun b g => e b (dq _ g)) (B7 s o j fun b g => e b (c7 _ g))
end
theorem Tt:SS K XO E (jD (bh i)) (B6 i):=by
  intro Λ F0 H0 F H σ δ Dn I a;unfold B6 at a;split at a
  . rename_i T q;obtain⟨p,e,v,r,f,_⟩:=I.tab q;have k:aD F (u_ F H _):=fun b o h=>by unfold u_;rwa[ao fun z=>by rw[(f b (bz _ z)).2] at h;cases h]
    have A:aD (u_ F H e) H:=fun b o h=>by
      unfold u_ at h;split at h;.exact h
      .exact I.same b o h
    have B:u_ F H e p=none:=by unfold u_;rw[ao (fQ.mp r.nd).1];exact(f p (by simp)).2
    refine⟨_,v,a p _ H ⟨I.ext.ff.trans k,I.ext.hh,A,fun b o g c=>?_⟩ B (f p (by simp)).1 ?_⟩;.unfold u_;rw[ao fun z=>by rw[(f b (bz _ z)).1] at c;cases c];exact I.ext.nw b o g c
    . have j:=r.ok;have s:∀b∈e,u_ F H e b=H b:=fun b s=>by unfold u_;grind
      cases T with |d x=>cases j.1 |t w=> obtain⟨J,C,g,c,_⟩:=j;cases g;simp_all |l w=> obtain⟨J,C,L,g,c,G,y⟩:=j;cases c;exact⟨_,G,B7 k _ y s⟩
  .exact a.elim
end
end PM
namespace L2
open PySem PySem.Spec PyProof.Rows
def Lj(K:PySem.W.Frag)(f:Addr)(g:(St->XK)->TS)(c:TS):TS:=fun D d H=> g (fun b a _ e=>∃C,a=.ref C/\PySem.W.kitCls K (.ref C) (.ref f)=some true/\c D b e) D d H
section
variable{X:Cx}{x:Str}{np rj pos:Pos}{body:List Stmt}{p9:Stmt}{c_:List Stmt}{D':Addr}{tb:(St->XK)->TS}{th:TS}
theorem Tu(Q:X.stack=X.env::X.outer)(Bv:X.env.frame=some X.env.locals)(hg:Gl X x)(D_:X.mg x=some (.ref D'))(hD:PySem.W.mroIn X.K D' (.type "BaseException")=some true) (k:∀(E:St->XK)(pl:List (Addr×Obj))(xe:Value->Shared->Prop),zt (rV X.prog X.w) (X.guard pl xe) E->km (X.guard pl xe) body (tb E))(hh:∀ea,km (X.c_ ea) (p9::c_) th)(Ea:(x==("__debug__":Str))=false:=by decide): PS X (.Try body [.ExceptHandler (some (.Name x np)) none (p9::c_) rj] [] [] pos) (Lj X.K D' tb th):=by
  intro c s σ H D I h;have j:=I.ok;refine wpAny_Try_except ?_;refine cw (k _ (X.pn++c) (fun e J=>wpAny (model X.prog X.w) X.A (noteFrame e X.env) (fun _ w=>wpAny (model X.prog X.w) X.A (setFlight e none) (fun _ A=>wpAny (model X.prog X.w) X.A (handleBy e X.env [.ExceptHandler (some (.Name x np)) none (p9::c_) rj]) (SP X c D) X.xe A) X.xe w) X.xe J) ?_ [] s σ H D (I.guard _) h) (fun f l q=>?_) fun _ _ q=>q
  . intro Z r H1 l e O I1 Tv;obtain⟨ea,C,G,S,rfl,F,C',Ee,hm,Ef⟩:=Tv;cases Ee;have J1:Inv X c r H1 l:=I1.dW j;have R:D8 X.prog X.w (X.env::X.outer) H1 l ea (.ref C) G S O:=by rw[<-Q];exact F
    obtain⟨Eg,n,ju,B,fl,bF,t⟩:=R;have Eh:X.A.frames=some (X.env::X.outer):=by rw[<-Q];exact j.frames
    have m:∀p,kb B (X.env::X.outer) ea (.ref C) G .none p->O.heap.UpToSlots p->Inv X c r S {O with heap:=p}:=fun p R up=>by obtain⟨u,_⟩:=Bo (fs:=lC (X.env::X.outer)) (fr:=lC (X.env::X.outer)) (h0:=l.heap) (h1:=l.heap) (h3:=p) (B:=B) (L:=l.heap.objs.size) Un.refl ju (aB _) (fun b k=>bz _ k) (fun b k=>k) (fun b k=>J1.jb b (by simp_all)) (fun b k o e=>by obtain⟨_,o',xR,Bw⟩:=fl.p5.mem k;rw[e] at xR;grind) up R.stays t;obtain⟨RN,g2,d2,t2,Ei⟩:=O;obtain rfl:Ei=l.os:=Eg;show Inv X c r S {l with heap:=p,gens:=g2,drawn:=d2,toks:=t2};exact J1.call (h':=p) (g':=g2) (d':=d2) (t':=t2) (ch:=[]) (by simp_all) (bF.JZ R.stays) n fun b z=>absurd z (by simp)
    show wpAny (model X.prog X.w) X.A (noteFrame (.ref ea) X.env) _ _ O;refine D7 Eh Bv fl fun h1 F1 up1=>?_;refine xT F1 fun h2 F2 N=>?_;have J2:=m h2 F2 (up1.trans N);obtain⟨T,_,⟨oe,vs,_,_,he,hc,RO,hd,_⟩,_⟩:=F2.tr;refine wpAny_handleBy_cons (codeAny_handlers_test (wh (X:=X.c_ ea) (J2.c_ ea) hg D_ ?_ Ea)) (by intro z;cases z);refine J6 (K:=X.K) J2.iQ he hc hm hD ?_;refine codeAny_handlers_suite ?_;refine xT F2 fun h3 F3 Ej=>?_;have J3:=m h3 F3 ((up1.trans N).trans Ej);refine cw (hh ea c _ _ _ _ (J3.c_ ea) Ef) (fun f s6 d=>?_) fun _ _ z=>z.elim;cases f with |next=> obtain⟨a,i,g,d⟩:=d;exact⟨_,_,g.fj j,d⟩ |brk=> obtain⟨a,i,g,d⟩:=d;exact⟨_,_,g.fj j,d⟩ |cont=> obtain⟨a,i,g,d⟩:=d;exact⟨_,_,g.fj j,d⟩ |ret v=> obtain⟨v6,a,i,g,Y,d⟩:=d;exact⟨v6,_,_,g.fj j,Y,d⟩
  .cases f with |next=> obtain⟨a,i,g,d⟩:=q;exact jB ⟨a,i,g.dW j,d⟩ |brk=> obtain⟨a,i,g,d⟩:=q;exact⟨a,i,g.dW j,d⟩ |cont=> obtain⟨a,i,g,d⟩:=q;exact⟨a,i,g.dW j,d⟩ |ret v=> obtain⟨v6,a,i,g,Y,d⟩:=q;exact⟨v6,a,i,g.dW j,Y,d⟩
end
end L2
namespace PM
open PySem L2
section
variable{K:Kx}{E:L2.St->XK}
def z5(c:En->O)(sub:Nat->Bool)(mh:En->O)(b:En):O:=match c b with |.ex a x=>if sub x.c=true then(match mh a with|.ex _ _=>.no|r=>r) else .no |r=>r
theorem Tw(g:∀c,sub c=true->PySem.W.kitCls K.f (.ref (K.ca c)) (.ref n)=some true) (s:∀i,SS K (nu K) i (m i) h)(u:SS K (nu K) EN y mh):SS K (nu K) E (Lj K.f n m y) (z5 h sub mh):=by intro L J Q F H G M S I a;refine s _ _ _ _ F H _ _ _ I ?_;unfold z5 at a;cases q:h _ with |no=>rw[q] at a;exact a |nx b=>rw[q] at a;exact a |rt d=>rw[q] at a;exact a |ro d=>rw[q] at a;exact a |bk b=>rw[q] at a;exact a |ct b=>rw[q] at a;exact a |ex b x=>
 rw[q] at a;simp at a;split at a;.rename_i p;rintro A B N C t w ⟨rfl,_⟩;refine⟨_,rfl,g _ p,(u _ _ _ _ _ _ _ _ w ?_)⟩;cases e:mh _ with |no=>rw[e] at a;exact a |rt d=>rw[e] at a;exact a |ro d=>rw[e] at a;exact a |ex _ _=>rw[e] at a;exact a.elim |nx f=>rw[e] at a;exact a |bk f=>rw[e] at a;exact a |ct f=>rw[e] at a;exact a
 .exact a.elim
end
end PM
namespace PM
def lexLt:List Int->List Int->Bool |[],[]=>false |[],_::_=>true |_::_,[]=>false |a::l,b::m=>if a=b then lexLt l m else decide (a<b)
def gu:List (List Int)->List Int->List Int |[],m=>m |t::l,m=>gu l (if lexLt t m=true then t else m)
theorem l8:∀(l:List (List Int))(m x:List Int),gu (l++[x]) m=if lexLt x (gu l m)=true then x else gu l m |[],_,_=>rfl |t::l,m,x=>by show gu (l++[x]) _=_;rw[l8 l];rfl
end PM
namespace L2
open PySem PySem.Spec PyProof.Rows
section
variable {prog : Program} {w : World} {A : Around} {E : Value → Shared → Prop} {s : Shared}
def oj(h:Heap)(ns:List Int)(a:Addr):Prop:=∃b:List Value,Vals (ns.map V.int) b/\IsTup h a b.toArray
theorem oj.typeIs(x:oj s.heap ns a):s.TypeIs (.ref a) "tuple":=by obtain⟨_,_,o,e,c,_⟩:=x;exact⟨o,e,c⟩
theorem Lk(h:Q (.bool (decide (i<j))) s):wpAny (model prog w) A (richCompare .Lt (.int i t) (.int j u)) Q E s:= richCompare_gives rfl rfl F.slot_int_lt F.entry_int_lt (F.args_int_lt_2 _ _) (gives_int_lt _ _ t u) (fun x=>nomatch x) h
theorem Tx(U:oj s.heap x a)(T:oj s.heap y b)(h:P (.done (.ret (.bool (PM.lexLt x y)))) s): wpAny (model prog w) A (Builtin.«tuple.__lt__» ⟨[.ref a,.ref b],[]⟩) P E s:=by
  have D:=T.typeIs;obtain⟨z,L,oa,N,_,na,S⟩:=U;obtain⟨B,J,ob,R,_,nb,H⟩:=T;show wpAny _ _ (isInstance (.ref b) (.type "tuple")>>=_) _ _ s;refine ah (mE D isSubtype_tuple_tuple ?_);simp only[Bool.not_true,oQ,gE];refine ah (mJ N S ?_);refine ah (mJ R H ?_);refine ah ?_;refine wpAny_forIn_list _ (fun rest r C=>r.1=none/\C=s/\∃m l g f,rest=List.zip g f/\Vals (m.map V.int) g/\Vals (l.map V.int) f/\PM.lexLt m l=PM.lexLt x y/\(decide (g.length<f.length))=decide (z.length<B.length)) _ ?_ ?_ _ _ ⟨rfl,rfl,x,y,z,B,rfl,L,J,rfl,rfl⟩;.rintro⟨u,v⟩ rest r C ⟨M,rfl,m,l,g,f,t,i,d,e,k⟩;cases m with |nil=>cases i;simp_all |cons p G=> cases l with |nil=>cases d;simp_all |cons I O=> cases i with |cons Y n=> cases d with |cons Z q=>
            obtain⟨t1,rfl⟩:=Y;obtain⟨t2,rfl⟩:=Z;simp only[List.zip_cons_cons,List.cons.injEq,Prod.mk.injEq] at t;obtain⟨⟨rfl,rfl⟩,rfl⟩:=t;refine ah (wpAny_eqBool_int ?_);by_cases Q:p=I;.subst Q;rw[show(p==p)=true from pE _];simp only[Bool.not_true,oQ,gE];refine au ⟨rfl,rfl,G,O,_,_,rfl,n,q,?_,by simp_all⟩;rw[<-e];simp[PM.lexLt]
            . rw[show(p==I)=false from iD.mpr Q];simp only[Bool.not_false,iG];have X:PM.lexLt x y=decide (p<I):=by rw[<-e];simp[PM.lexLt,Q]
              rw[X] at h;refine ah (wpAny_rule ?_);refine ah (Lk ?_);exact ah (au (au (au h)))
  . rintro⟨r1,r2⟩ C ⟨M,rfl,m,l,g,f,t,i,d,e,k⟩;simp only at M;subst M;refine au ?_;have o:decide (z.length<B.length)=PM.lexLt x y:=by rw[<-e,<-k];cases m with
      |nil=> cases i;cases l with |nil=>cases d;simp[PM.lexLt] |cons _ _=>cases d;simp[PM.lexLt]
      |cons _ _=> cases i with |cons _ _=> cases l with |nil=>cases d;simp[PM.lexLt] |cons _ _=>cases d;simp at t
    show P (.done (.ret (.bool (decide (z.toArray.size<B.toArray.size))))) C;rw[bI,bI,o];exact h
theorem Tz(f:A.units<cLine)(c:oj s.heap x a)(d:oj s.heap y b)(h:Q (.bool (PM.lexLt x y)) s):wpAny (model prog w) A (richCompare .Lt (.ref a) (.ref b)) Q E s:= wpAny_richCompare_same_room c.typeIs d.typeIs qA (iH qA c.typeIs F.entry_tuple_lt (Tx c d ⟨_,rfl,(fun e=>nomatch e),h⟩) (F.args_tuple_lt_2 _ _)) f
end
def TB(a:List Addr)(h0 h:Heap):Prop:=∀b∈a,∀o,h0.get? b=some o->h.get? b=some o
theorem Ll{St:Nat->Heap->Prop}(W:Walks prog w A I fp g n P St)(d:List Addr)(h0:Heap)(hd:∀b∈d,b∉g): Walks prog w A I (fp++d) g n P (fun i h=>St i h/\TB d h0 h) where sub:=fun b a=>dq _ (W.sub b a);frame:=fun i h l st k=>⟨W.frame i h _ st.1 fun b a=>k b (dq _ a),fun b a o e=>k b (c7 _ a) o (st.2 b a o e)⟩;item:=fun i s Q E j st c=>W.item i s Q E j st.1 fun v l m p f k=>c v _ _ p ⟨f,fun b a o e=>k b o (hd b a) (st.2 b a o e)⟩ k;done:=fun s Q E st c=>W.done s Q E st.1 c;self:=fun i s Q E st q=>W.self i s Q E st.1 q
def wX(prog:Program)(w:World)(A:Around)(P:Nat->Value->Prop)(St:Nat->Heap->Prop)(c:Nat->Nat->Bool):Prop:= ∀k i j b a(s:Shared)(Q:Value->Shared->Prop)(E:Value->Shared->Prop),St k s.heap->P i b->P j a->Q (.bool (c i j)) s->wpAny (model prog w) A (richCompare .Lt b a) Q E s
section
variable{prog:Program}{w:World}{A:Around}{R:Result->Shared->Prop}{I S:Addr}{fp wr:List Addr}{n:Nat}{P:Nat->Value->Prop}{St:Nat->Heap->Prop}{bt:Nat->Nat->Bool}
def Lm(S:Addr)(items:Array Value)(h:Heap):Prop:=∃c,h.get? S=some {cls:=.type "list",dict:=none,data:=.seq items c,slots:=#[]}
theorem TC(W:Walks prog w A.in1 I fp wr n P St)(z:wX prog w A.in1 P St bt)(C:S∉fp)(j:Nat)(s:Shared)(r:Value)(U:j+1<=n)(D:St (j+1) s.heap)(B:P (argBest bt j) r)(q:Lm S #[r,r] s.heap) (J:∀v h' tk,P (argBest bt (n-1)) v->(∀b o,b∉wr->b≠S->s.heap.get? b=some o->h'.get? b=some o)->R (.ok (.ret v)) {s with heap:=h',toks:=tk}): codeAny (model prog w) A (.builtin "min.loop" ⟨[.ref I,.none,.ref S],[]⟩) R s:=by
 have y:S∉wr:=fun h=>C (W.sub _ h);have m:(toString "min"++toString ".loop":String)="min.loop":=by decide
 obtain⟨k,T⟩:∃k,n-(j+1)=k:=⟨_,rfl⟩;induction k generalizing j s r with |zero=>
  have H:j+1=n:=by lia
  obtain⟨c,q⟩:=q;refine codeAny_builtin F.entry_min_loop ?_;rw[v9 lM _];show wpAny _ A.in1 (seqItems? (.ref S)>>=_) _ _ s;refine ah (mG q rfl ?_);show wpAny _ A.in1 (tryCatch (pyNext (.ref I)) _>>=_) _ _ s;refine ah (mI (W.done s _ _ (H▸D) fun h' tk d=>?_));have i:=d S _ y q;show wpAny _ A.in1 (updateSeq S (fun _=>#[])>>=_) _ _ _;refine ah ?_;refine iJ i rfl (ah (jC (au ?_)));exact J r _ tk (by grind) fun b o a f e=>(dZ _ _ (aJ f)).trans (d b o a e) |succ k Q=>
  have u:j+1<n:=by omega
  obtain⟨c,q⟩:=q;refine codeAny_builtin F.entry_min_loop ?_;rw[v9 lM _];show wpAny _ A.in1 (seqItems? (.ref S)>>=_) _ _ s;refine ah (mG q rfl ?_);show wpAny _ A.in1 (tryCatch (pyNext (.ref I)) _>>=_) _ _ s;refine ah (mI (W.item (j+1) s _ _ u D fun v h' tk L l d=>?_));have i:=d S _ y q;show wpAny _ A.in1 (tryCatch (holding [v,v] (richCompare .Lt v r>>=_)) _>>=_) _ _ _;refine ah (mI (fv (ah (z (j+1+1) (j+1) (argBest bt j) v r _ _ _ l L B ?_))));refine ah (fv (gG ?_))
  refine ah (jC (au ?_));cases O:bt (j+1) (argBest bt j) with |true=>
   simp only[iG];refine ah ?_;refine iJ i rfl (ah (jC ?_));rw[m];refine au ⟨mB lM _,Q (j+1) _ v u (W.frame _ _ _ l fun b E o e=>?_) (by simp only[argBest,O,iG];exact L) ⟨_,jS _ i rfl⟩ (fun G t g x p=>?_) (by omega)⟩;.exact(dZ _ _ (fun h:S=b=>C (by rw[h];exact E))).trans e
   .exact J G t g x fun b o a f e=>p b o a f ((dZ _ _ (aJ f)).trans (d b o a e)) |false=> simp only[oQ,gE];refine ah (jC ?_);rw[m];refine au ⟨mB lM _,Q (j+1) _ r u l (by simp only[argBest,O,oQ,gE];exact B) ⟨_,i⟩ (fun G t g x p=>?_) (by omega)⟩;exact J G t g x fun b o a f e=>p b o a f (d b o a e)
theorem TH(W:Walks prog w A.in1 I fp wr n P St)(i:wX prog w A.in1 P St bt)(a:S∉fp)(y:0<n){s:Shared}(u:St 0 s.heap)(p:Lm S #[] s.heap) (C:∀v h' tk,P (argBest bt (n-1)) v->(∀b o,b∉wr->b≠S->s.heap.get? b=some o->h'.get? b=some o)->R (.ok (.ret v)) {s with heap:=h',toks:=tk}): codeAny (model prog w) A (.builtin "min.loop" ⟨[.ref I,.none,.ref S],[]⟩) R s:=by
 have t:S∉wr:=fun h=>a (W.sub _ h);have d:(toString "min"++toString ".loop":String)="min.loop":=by decide
 obtain⟨c,p⟩:=p;refine codeAny_builtin F.entry_min_loop ?_;rw[v9 lM _];show wpAny _ A.in1 (seqItems? (.ref S)>>=_) _ _ s;refine ah (mG p rfl ?_);show wpAny _ A.in1 (tryCatch (pyNext (.ref I)) _>>=_) _ _ s;refine ah (mI (W.item 0 s _ _ y u fun v h' tk D g l=>?_));have k:=l S _ t p;show wpAny _ A.in1 (updateSeq S (fun _=>#[v,v])>>=_) _ _ _;refine ah ?_;refine iJ k rfl ?_;rw[d];refine au ⟨mB lM _,TC W i a 0 _ v y (W.frame _ _ _ g fun b z o e=>?_) D ⟨_,jS _ k rfl⟩ fun B q x r m=>?_⟩;.exact(dZ _ _ (fun h=>a (by simp_all))).trans e
 .exact C B q _ r fun b o j f e=>m b o j f ((dZ _ _ (aJ f)).trans (l b o j e))
end
section
variable {prog : Program} {w : World} {A : Around} {E : Value → Shared → Prop} {s : Shared}
theorem Ln(h:wpAny (model prog w) A.in1 (pyIter x) (fun it a=>∃I fp f n P St i,it=.ref I/\Walks prog w A.in1 I fp f n P St/\St 0 a.heap/\(∀b∈fp,b<a.heap.objs.size)/\0<n/\wX prog w A.in1 P St i/\ ∀v h' tk,P (argBest i (n-1)) v->(∀b o,b∉f->a.heap.get? b=some o->h'.get? b=some o)->Q v {a with heap:=h',toks:=tk}) E s): wpAny (model prog w) A (call (.builtin "min") [x]) Q E s:=by refine call_function_tree rfl F.plain_min F.entry_min (F.args_min1 _) ?_;refine ah (wpAny_of_eq rfl ?_);refine ah (au ?_);refine ah (cw h (fun it a c=>?_) fun _ _ e=>e);obtain⟨I,fp,f,n,P,St,i,rfl,W,j,g,r,d,m⟩:=c;refine ah (gF (au ⟨rfl,TH W d (fun l=>cY _ (g _ l)) r (W.frame _ _ _ j fun b _ o e=>bu _ e) ⟨_,cu _ rfl⟩ fun v h' tk p q=>?_⟩));exact m v _ _ p fun b o k e=>q b o k (bC (aQ e)) (bu _ e)
end
section
variable {X : Cx}
theorem Lo(t:List Int)(ts:List (List Int)):∀k,k<=ts.length->(t::ts).getD (argBest (fun i j=>PM.lexLt ((t::ts).getD i []) ((t::ts).getD j [])) k) []=PM.gu (ts.take k) t
 |0,_=>rfl |k+1,h=>by
  have b:=Lo t ts k (by lia);have c:ts.take (k+1)=ts.take k++[(t::ts).getD (k+1) []]:=by rw[oW,List.getD_cons_succ,bN,bx (by lia)];rfl
  rw[c,PM.l8,<-b];show(t::ts).getD (if PM.lexLt _ _=true then k+1 else argBest _ k) _=_;split<;>rfl
def Lp:List V->Hp->VK->Prop:=fun d H Q=>∃(p:Addr) (b:List Addr) (t:List Int) (c:List (List Int)),d=[.ref p]/\Rd H p (.lst (b.map V.ref))/\b.length=c.length+1/\(∀i a,b[i]?=some a->H a=some (.tup (((t::c).getD i []).map V.int)))/\ ∀i a,b[i]?=some a->(t::c).getD i []=PM.gu c t->Q (.ref a) H
theorem TJ{c:List Addr}(d:Vals (c.map V.ref) its):its=c.map Value.ref:=by induction c generalizing its with |nil=>cases d;rfl |cons a l f=> cases d with |cons h t=> have:_=Value.ref a:=h;grind
theorem TK(hu:X.A.units+64<cLine)(hc:X.calm=true):cj X (.builtin "min") Lp:=by
  intro L s σ H xs us Q I r h;obtain⟨p,c,t,d,rfl,hq,E,ht,q⟩:=h;obtain⟨u,rfl,rx⟩:=lW r;cases rx;obtain⟨z,S,n,Y,e⟩:=hq.ok I.bF;have R:=TJ Y;subst R;have w:∀i a,c[i]?=some a->oj s.heap ((t::d).getD i []) a:=fun i a h=>by obtain⟨_,f,D,w'⟩:=I.bF a _ (ht i a h);exact⟨f,D,w'⟩
  have lt:∀a∈c,a<s.heap.objs.size:=fun a U=>by obtain⟨i,G,M⟩:=kB U;obtain⟨_,_,o,m,_⟩:=w i a (by grind);exact aQ m
  have y:s.heap.IsList p (c.map Value.ref).toArray:=⟨_,e,rfl,n,rfl⟩;have B:p<s.heap.objs.size:=aQ e;refine Ln (mF y ?_);refine⟨s.heap.objs.size,[s.heap.objs.size,p]++c,[s.heap.objs.size],(c.map Value.ref).toArray.size,_,_,(fun i j=>PM.lexLt ((t::d).getD i []) ((t::d).getD j [])),rfl,Ll (Walks.list (A:=X.A.in1) (I.ok.hd hc) s.heap.objs.size p (bC B) (c.map Value.ref).toArray) c s.heap ?_,⟨⟨⟨_,cu _ rfl,rfl,rfl⟩,y.push _⟩,fun b _ o m=>bu _ m⟩,?_,?_,?_,?_⟩;.intro b l C;rw[bc.mp C] at l;exact absurd (lt _ l) (cY _)
  . intro b l;show b<(s.heap.push _).objs.size;rw[lN];rcases cD.mp l with l|l
    . rcases aR.mp l with rfl|l;.simp
      .rw[bc.mp l];grind
    grind
  .rw[bI,aI,E];lia
  . intro k i j vi vj s' Q' E' st G Z hQ;have J:∀(i:Nat)(v:Value),(c.map Value.ref).toArray[i]?=some v->∃a,c[i]?=some a/\v=.ref a:=fun i v h=>by rw[qE,bB] at h;cases z:c[i]? with |none=>rw[z] at h;cases h |some a=>rw[z] at h;cases h;grind
    obtain⟨a,M,rfl⟩:=J i vi G;obtain⟨b,eb,rfl⟩:=J j vj Z;have N:∀i a,c[i]?=some a->oj s'.heap ((t::d).getD i []) a:=fun i a h=>by obtain⟨f,D,o,m,c1,O⟩:=w i a h;exact⟨f,D,o,st.2 a (eg h) o m,c1,O⟩
    exact Tz (by grind) (N i a M) (N j b eb) hQ
  .intro v h' tk hP T;have g:(c.map Value.ref).toArray[argBest (fun i j=>PM.lexLt ((t::d).getD i []) ((t::d).getD j [])) ((c.map Value.ref).toArray.size-1)]?=some v:=hP;rw[qE,bI,aI,E,bB,oX] at g;have x:=Lo t d d.length (aB _);rw[List.take_length] at x;cases z:c[argBest (fun i j=>PM.lexLt ((t::d).getD i []) ((t::d).getD j [])) d.length]? with |none=>rw[z] at g;cases g |some a=> rw[z] at g;cases g;refine⟨.ref a,H,I.kept (t':=tk) (fun b o m=>T b o (fun C=>?_) (bu _ m)),rfl,q _ a z x⟩;rw[bc.mp C] at m;exact absurd (aQ m) (cY _)
end
end L2
namespace PM
open PySem L2
section
variable{K:Kx}
def om:D->Option (List Int) |.tup l=>c5 l |_=>none
def oo:List D->Option (List (List Int)) |[]=>some [] |d::l=>(om d).bind fun t=>(oo l).map fun b=>t::b
def z6:List D->Option D |[.lst (d::l)]=>(om d).bind fun t=>(oo l).map fun a=>.tup ((gu a t).map .int) |_=>none
theorem Lq(h:om d=some t):d=.tup (t.map .int):=by
 unfold om at h;split at h;.rw[rq h]
 simp_all
theorem Lr:∀{l:List D}{ts:List (List Int)},oo l=some ts->l=ts.map fun t=>.tup (t.map .int) |[],_,h=>by cases h;rfl |d::l,ts,h=>by unfold oo at h;cases q:om d with |none=>simp_all |some t=> rw[q] at h;cases b:oo l with |none=>simp_all |some r=> rw[b] at h;cases h;rw[Lq q,Lr b];rfl
theorem Ls{F:Hp}:∀{ts:List (List Int)}{vs:List V},aF K F (ts.map fun t=>.tup (t.map .int)) vs->∃d:List Addr,vs=d.map V.ref/\d.length=ts.length/\∀i a,d[i]?=some a->F a=some (.tup ((ts.getD i []).map V.int)) |[],vs,h=>by have:=h;subst this;simp |t::ts,vs,h=>by obtain⟨v,r,rfl,l,p⟩:=h;obtain⟨a,s,rfl,o,m⟩:=l;have q:=ql m;subst q;obtain⟨d,rfl,n,k⟩:=Ls p;refine⟨a::d,rfl,by simp[n],fun i b e=>?_⟩;cases i with |zero=>simp at e;subst e;exact o |succ i=>exact k i b e
theorem TL:SC K Lp z6:=by
 intro F H x z d Q s r e q;unfold z6 at e;split at e;.rename_i m l;cases g:om m with |none=>simp_all |some t=> rw[g] at e;cases k:oo l with |none=>simp_all |some n=> rw[k] at e;cases e;cases r with |cons r u=> cases u;obtain⟨p,A,rfl,w,j⟩:=r;rw[Lq g,Lr k] at j;obtain⟨y,rfl,o,f⟩:=Ls (ts:=t::n) j;refine⟨p,_,t,_,rfl,w,o,fun i a c=>s a _ (f i a c),fun i a c v=>q _ F H (.refl s) ?_⟩;have:=f i a c;rw[v] at this;exact⟨a,_,rfl,this,aF.ints⟩
 simp_all
end
end PM
namespace L2
open PySem PySem.Spec PyProof.Rows
section
variable {X : Cx}
def Lu(c:TA):TE:=fun d H Q=>c d H fun b a=>∃i j:Int,b=[.int i,.int j]/\∀r,a r=none->Q (.ref r) (upd a r (.nq i j))
theorem TM(l:Gl X "range")(n:X.mg "range"=none)(g:PA X [a,b] k)(w:starEach [a,b] X.env=[(false,eval a X.env),(false,eval b X.env)]:=by rfl)(c:starEach [b] X.env=[(false,eval b X.env)]:=by rfl):PE X (.Call (.Name "range" p) [a,b] [] pos) (Lu k):=by intro f s A H Q I h;refine Call_ (vy I l n boot_range (jx (bW (g _ _ s _ H _ I h) fun v z ⟨_,_,d,m,r⟩=>?_) (by simp_all) (by rw[c];rfl)));obtain⟨i,j,e,q⟩:=r;subst e;obtain⟨u,y,rfl,⟨t,rfl⟩,⟨x,rfl⟩⟩:=y_ m;refine call_range_2 ⟨.ref _,_,?_,rfl,q _ (d.bF.fresh (aB _))⟩;exact d.laid (fun b o e=>bu _ e) (aB _) ⟨_,_,_,cu _ rfl⟩
def Lv:List V->Hp->VK->Prop:=fun a H Q=>∃(r:Addr) (i j:Int),a=[.ref r]/\H r=some (.nq i j)/\(0<=i/\i<=j/\j<=100000)/\∀l,H l=none->Q (.ref l) (upd H l (.lst ((List.range (j-i).toNat).map fun k:Nat=>.int (i+(k:Int)))))
theorem TN(E:X.calm=true):cj X (.type "list") Lv:=by
 rintro m s σ H S T Q I r ⟨D,i,j,rfl,C,hj,q⟩;obtain⟨u,rfl,G⟩:=lW r;cases G;obtain⟨M,N,U,e⟩:=I.bF D _ C;have y:Builtin.Range.rangeSize i j 1=((j-i).toNat:Int):=by rw[rangeSize_one];lia
 refine call_list_range (I.ok.hd E) e (small_one (by omega) (by omega) (by lia) (by omega)) y (by lia) fun O Y w c' x Z a=>(⟨.ref _,_,?_,rfl,q _ (I.bF.fresh (aB _))⟩);obtain⟨R,B⟩:=a;refine I.laid x (aB _) ⟨by rw[aI,nP];exact bV (by lia) (show 100000<=sizeLine by decide),_,_,?_,by omega⟩;have c:∀(n:Nat)(l:List _)(o:Nat),l.length=n->(∀k v,l[k]?=some v->∃t,v=Value.int (i+(o+k:Nat)) t)->Vals ((List.range' o n).map fun k:Nat=>V.int (i+k)) l:=by intro n;induction n with |zero=>intro l o b _;rw[i7.mp b];exact .nil |succ n A=> intro l o b p;cases l with |nil=>simp at b |cons v l=> obtain⟨t,rfl⟩:=p 0 v rfl;refine .cons ⟨t,rfl⟩ (A l _ (by simpa using b) fun k v h=>?_);obtain⟨L,J⟩:=p (k+1) v (by grind);exact⟨_,by rw[J];congr 3;try lia⟩
 have:=c _ _ 0 (by omega) fun k v h=>let⟨t,_⟩:=B k v (by simpa using h);⟨t,by congr 1⟩;rw[List.range_eq_range'];omega
end
end L2
namespace PM
open PySem L2
section
variable{K:Kx}{XO:cX}{E:L2.St->XK}
def z7(l:List D):Option D:=match l with |[.int i,.int j]=>dt (0<=i/\i<=j/\j<=100000) (some (.lst ((List.range (j-i).toNat).map fun k:Nat=>.int (i+(k:Int))))) none |_=>none
def B8(ml:En->R (List D))(δ:En):R D:=(ml δ).bind fun l=>R.of (z7 l)
theorem TQ(h:z7 l=some d):∃i j:Int,l=[.int i,.int j]/\(0<=i/\i<=j/\j<=100000)/\d=.lst ((List.range (j-i).toNat).map fun k:Nat=>.int (i+(k:Int))):=by
  unfold z7 at h;split at h
  . rename_i i j;unfold dt at h;split at h;.cases h;exact⟨i,j,rfl,by omega,rfl⟩
    simp_all
  simp_all
theorem TR(h:SA K XO E u ml):nY K XO E (k9 Lv (dE (Lu u) bZ)) (B8 ml):=by intro C B y F H z x Q I a;refine h _ _ _ F H _ _ _ I (a.bind.imp fun G s A f c J r=>?_);cases q:z7 _ with |none=>rw[q] at c;exact c.elim |some d=> rw[q] at c;obtain⟨i,j,rfl,t,rfl⟩:=TQ q;obtain⟨v,L,rfl,p,w⟩:=r;obtain⟨N,rfl,g⟩:=aF.one w;subst p g;refine⟨i,j,rfl,fun M m=>⟨_,i,j,rfl,b9,t,fun l o=>?_⟩⟩;have e:Ext _ _ _ (upd _ _ (.nq i j)):=.eM f.fh m;have b:=e.hh.free o;refine c _ _ (e.trans (.eM e.fh o)) l (f.fh.free b) (f.hh.free b) ⟨_,b9,?_⟩;have:=aF.ints (K:=K) (F:=s) (ns:=(List.range (j-i).toNat).map fun k:Nat=>i+k);rwa[bX,bX] at this
end
end PM
namespace L2
open PySem PySem.Spec PyProof.Rows
section
variable{X:Cx}{a b c:Expr}{ta tb tc:TE}{pos:Pos}
def z8 : List V → Hp → VK → Prop := fun xs H Q => ∃ (p : Addr) (bs : List Bool), xs = [.ref p] ∧ Rd H p (.lst (bs.map V.bl)) ∧ Q (.bl (bs.all id)) H
theorem TU{bs:List Bool}(e:Vals (bs.map V.bl) its):its=bs.map Value.bool:=by induction bs generalizing its with |nil=>cases e;rfl |cons a l g=> cases e with |cons h t=> have:_=Value.bool a:=h;grind
theorem Lw : ∀ (bs : List Bool), ((List.range bs.length).all fun i => bs.getD i false) = bs.all id
  | [] => rfl
  | b :: bs => by
    rw [ef, List.range_succ_eq_map, il, f9, il, ← Lw _]
    rfl
theorem TV (hc : X.calm = true) : cj X (.builtin "all") z8 := by
  rintro pins s σ H xs us Q I r ⟨p, bs, rfl, hq, q⟩
  obtain ⟨u, rfl, rx⟩ := lW r
  cases rx
  obtain ⟨z, its, n, rv, e⟩ := hq.ok I.bF
  have ei := TU rv
  subst ei
  have Ly : s.heap.IsList p (bs.map _).toArray := ⟨_, e, rfl, n, rfl⟩
  refine call_all_walk (mF Ly (⟨_, _, _, _, _, _, (fun i => bs.getD i false), rfl, Walks.list (A := X.A.in1) (I.ok.hd hc) _ p (bC (aQ e)) _, ⟨⟨_, cu _ rfl, rfl, rfl⟩, Ly.push _⟩, ?_, ?_⟩))
  · intro i v s' Q' E' hi hQ
    have Fm  := hi
    rw [qE, bB] at Fm
    cases z : bs[i]? with
    | none => simp_all
    | some b =>
      rw [z] at Fm
      cases Fm
      refine gG ?_
      simp_all
  · intro h' tk hk
    rw [bI, aI, Lw]
    refine ⟨.bl _, H, I.kept (fun b o eo => hk b o (fun hm => ?_) (bu _ eo)), rfl, q⟩
    rw [bc.mp hm] at eo
    exact absurd (aQ eo) (cY _)
end
end L2
namespace PM
open PySem L2
section
variable{K:Kx}{XO:cX}{E:L2.St->XK}{ta tb tc:TE}{ma mb mc:En->R D}
def z9(b a:D->D->Option D)(ma mb mc:En->R D)(δ:En):R D:=(ma δ).bind fun x=>(mb δ).bind fun y=>match b x y with |some (.bl true)=>(mc δ).bind fun z=>R.of (a y z) |some (.bl false)=>.ok (.bl false) |_=>.no
theorem TX(h1:SR K s m)(h2:SR K n w)(U:kP K XO E ta ma)(A:kP K XO E tb mb)(N:kP K XO E tc mc):SE K XO E (IU s n ta tb tc) (z9 m w ma mb mc):=by intro L T H0 F H l δ Q I a;refine U _ _ _ F H _ _ _ I (a.bind.imp fun dx F1 H1 o Y x C=>(A L _ _ _ _ _ _ _ (I.grow o) (Y.bind.imp fun dy F2 X f b y p=>?_)));cases q:m _ _ with |none=>rw[q] at b;exact b.elim |some d=>
 rw[q] at b;have B:∀t,d=.bl t->s x y X fun k g=>∃t:Bool,k=.bl t/\if t=true then tc l g fun z u=>n y z u Q else Q (.bl false) g:=by rintro t rfl;refine h1 _ _ x y _ _ _ _ f.fh (C.mono f.ff f.hh) p q fun v S g c M=>(⟨t,M,?_⟩);cases t with |false=> exact b S g c _ rfl |true=> have G:=fH.bind b;refine N _ T _ _ _ l _ _ (((I.grow o).grow f).grow c) ((fH.mono c G).imp fun dz F4 u j h z J=>?_);cases i:w _ _ with |none=>rw[i] at h;exact h.elim |some Z=> rw[i] at h;exact h2 _ _ y z _ _ _ Q j.fh ((p.mono c.ff c.hh).mono j.ff j.hh) J i fun v F' H' e r=>h _ _ e v r
 cases d with |bl t=>grind |_=>exact b.elim
noncomputable def oq:List D->Option (List Bool) |[]=>some [] |.bl b::l=>(oq l).map fun c=>b::c |_::_=>none
theorem Lz:∀{l:List D}{bs:List Bool},oq l=some bs->l=bs.map .bl |[],_,h=>by cases h;rfl |d::l,bs,h=>by cases d with
 |bl b=> unfold oq at h;cases q:oq l with |none=>simp_all |some r=>rw[q] at h;cases h;rw[Lz q];rfl
 |_=>cases h
theorem TY(bs:List Bool):oq (bs.map .bl)=some bs:=by induction bs with |nil=>rfl |cons b bs c=>simp[oq,c]
def tS : List D → Option D
  | [.lst l] => (oq l).map fun bs => .bl (bs.all id)
  | _ => none
theorem LA:∀{bs:List Bool}{vs:List V},aF K F (bs.map .bl) vs->vs=bs.map V.bl |[],vs,h=>h |b::bs,vs,h=>by obtain⟨v,r,rfl,e,d⟩:=h;have:=e;rw[this,LA d];rfl
theorem TZ : SC K z8 tS := by
  intro F H vs ds d Q s r e q
  unfold tS at e
  split at e
  · rename_i l
    cases q2 : oq l with
    | none => simp_all
    | some bs =>
      rw [q2] at e
      cases e
      cases r with
      | cons r r' =>
        cases r'
        obtain ⟨p, xs, rfl, h1, h2⟩ := r
        rw [Lz q2] at h2
        have := LA h2
        subst this
        exact ⟨p, _, rfl, h1, q _ F H (.refl s) rfl⟩
  simp_all
end
end PM
namespace L2
open PySem PySem.Spec PyProof.Rows
section
variable{X:Cx}{e st:Expr}{te ts:TE}{p2 pos:Pos}
end
end L2
namespace PM
open PySem L2
section
variable{K:Kx}{XO:cX}{E:L2.St->XK}{te ts:TE}{me ms:En->R D}
end
end PM
namespace L2
open PySem PySem.Spec PyProof.Rows
section
variable{X:Cx}{l:Expr}{tl:TE}
end
end L2
namespace PM
open PySem L2
section
variable{K:Kx}{XO:cX}{E:L2.St->XK}{te:TE}{me:En->R D}
end
end PM
namespace L2
open PySem PySem.Spec PyProof.Rows Builtin Builtin.ObjectAttr
section
variable{prog:Program}{w:World}{A:Around}{E:Value->Shared->Prop}{s:Shared}{K:PySem.W.Frag}{x C:Addr}{ox:Obj}{od:Option Obj}{name:Str}{tk:Tok}{v:Value}{R:Result->Shared->Prop}
end
section
variable{X:Cx}{o e value:Expr}{f:Str}{pos pos' zb:Pos}{ta tv:TE}
end
section
variable{M:Model}{A:Around}{E:Value->Shared->Prop}{s:Shared}{B:Heap}{env:Env}{outer l:List Env}{L e:Addr}{Q:Unit->Shared->Prop}
end
section
variable{M:Model}{A:Around}{E:Value->Shared->Prop}{env:Env}
variable{nm q:Str}{C N:Addr}{bs bm:List Value}{hdct:Bool}{sn:List Str}{sub:List Value}{ab:Bool}{col:Option Bool}{dd:Option Addr}{k0 k1 k2 k3 k5:Option Value}{newId:String}
end
section
variable{X:Cx}{CX:jt}{k:Nat}{fa:Addr}{fd:FuncData}{ps:List Str}{sp:Sp}{x:Str}{np e_ pos:Pos}{ri:Expr}{rest:List Expr}{C:Addr}{xU Bp:List Value}{newId Bn B Bq Br mR:String}{E:St->XK}{t:TA}
end
end L2
namespace PM
open PySem L2
section
variable{X:Cx}{fa:Addr}{ps:List Str}{sp:Sp}{x:Str}{np e_ pos:Pos}{ri:Expr}{rest:List Expr}{C:Addr}{xU Bp:List Value}{newId Bn B Bq Br mR:String}{E:L2.St->XK}{t:TA}
end
section
variable{K:Kx}{XO:cX}{E:L2.St->XK}{ta:TE}{ma:En->R D}{Λ:List (Nat×Addr×HO)}{F0 H0 F H:Hp}{σ:L2.St}{δ:En}
end
end PM
namespace L2
open PySem PyProof.Rows
def Lx(ky:Nat->Int)(i j:Nat):Prop:=ky i<ky j\/(ky i=ky j/\i<j)
theorem Lx.trans(h:Lx ky a b)(h':Lx ky b c):Lx ky a c:=by unfold Lx at*;lia
theorem Lx.le(h:Lx ky a b):ky a<=ky b:=by unfold Lx at h;lia
abbrev lH(p:Array Nat)(j:Nat):Nat:=p.getD j 0
def Arr(N:Nat)(p:Array Nat):Prop:=p.Perm (List.toArray (List.range N))
section
variable{N:Nat}{p:Array Nat}
theorem Arr.list(h:Arr N p):p.toList.Perm (List.range N):=by simpa using uz.mp h
theorem Arr.size(h:Arr N p):p.size=N:=by have:=h.size_eq;simp_all
theorem Arr.get(h:Arr N p)(hi:i<N):p.toList[i]?=some (lH p i):=by
 have:i<p.size:=by rwa[h.size]
 simp_all
theorem Arr.lt(h:Arr N p){i:Nat}(hi:i<N):lH p i<N:=by have:=h.list.mem_iff.mp (eg (h.get hi));simp_all
theorem Arr.inj(h:Arr N p)(hi:i<N)(c:j<N)(e:lH p i=lH p j):i=j:=by
 have d:=h.list.nodup_iff.mpr mf;have b:=h.get hi;have a:=h.get c;rw[<-e] at a;have f:i<p.toList.length:=by grind
 exact(nK f d).mp (b.trans a.symm)
theorem Arr.below(h:Arr N p)(b:∀j,n<=j->j<N->lH p j=j)(hi:i<n)(c:n<=N):lH p i<n:=by
 by_cases a:lH p i<n;.exact a
 .have l:=h.lt (show i<N by lia);have:=h.inj (by lia) l (b _ (by lia) l).symm;lia
end
section
variable{ky:Nat->Int}{N:Nat}{cmp:Nat->Nat->(Bool->Shared->Prop)->Shared->Prop}
structure Ds(ky:Nat->Int)(N:Nat)(p:Array Nat)(n q:Nat):Prop where
 arr:Arr N p
 le:n<=N
 qn:q<n
 rest:∀j,n<=j->j<N->lH p j=j
 ord:∀i j,i<j->j<n-1-q->Lx ky (lH p j) (lH p i)low:∀i j,i<n-1-q->n-1-q<=j->j<n->ky (lH p j)<ky (lH p i)T1:∀i j,n-1-q<=i->i<j->j<n->ky (lH p i)=ky (lH p j)/\lH p i<lH p j
theorem Ds.turn(D:Ds ky N p n q)(g':∀k,lH d k=if n-1-q<=k/\k<n then lH p (n-1-q+n-1-k) else lH p k):∀i j,i<j->j<n->Lx ky (lH d j) (lH d i):=by
  intro i j f e;rw[g',g'];by_cases a:n-1-q<=i;.rw[ak ⟨by omega,e⟩,ak ⟨a,by omega⟩];have:=D.T1 (n-1-q+n-1-j) (n-1-q+n-1-i) (by omega) (by omega) (by omega);exact .inr this
  . by_cases b:n-1-q<=j;.rw[ak ⟨b,e⟩,ao (by omega)];exact .inl (D.low i _ (by omega) (by omega) (by omega))
    .rw[ao (by omega),ao (by omega)];exact D.ord i j f (by omega)
end
end L2
namespace L2
open PySem PySem.Spec PyProof.Rows
section
variable{prog:Program}{w:World}{A:Around}{E:Value->Shared->Prop}{s:Shared}
end
section
variable{X:Cx}{pins:List (Addr×Obj)}{σ:St}{H:Hp}{s:Shared}{h':Heap}
end
end L2
namespace PM
open PySem L2
section
variable{K:Kx}{XO:cX}{E:L2.St->XK}
end
end PM
namespace L2
open PySem PySem.Spec PyProof.Rows
section
variable{P:Program}{w:World}{K:PySem.W.Frag}{mg mb:Str->Option Value}{CX:jt}{k:Nat}{fa a tP:Addr}{fd:FuncData}{x:Str}{sp:Sp}{zw:Shared}{vs:List Value}{ns:List Int}
end
section
variable{X:Cx}
end
end L2
namespace PM
open PySem L2
section
variable{K:Kx}{XO:cX}{E:L2.St->XK}
end
section
variable{K:Kx}
def qq : List D → Option D
  | [.int i] => some (.int i)
  | [.bl b] => some (.int (if b then 1 else 0))
  | _ => none
theorem LB : SC K (fun xs H Q => (∃ i, xs = [.int i] ∧ Q (.int i) H) ∨ ∃ k, xs = [.bl k] ∧ Q (.int (if k then 1 else 0)) H) qq := by
  intro F H vs ds d Q s r e q
  unfold qq at e
  split at e
  · rename_i i
    cases e
    cases r with
    | cons r r' =>
      cases r'
      subst r
      exact .inl ⟨i, rfl, q _ F H (.refl s) rfl⟩
  · rename_i b
    cases e
    cases r with
    | cons r r' =>
      cases r'
      subst r
      exact .inr ⟨b, rfl, q _ F H (.refl s) rfl⟩
  simp_all
end
end PM
namespace L2
open PySem PySem.Spec PyProof.Rows
section
variable{prog:Program}{w:World}{A:Around}{E:Value->Shared->Prop}{s:Shared}
end
def ZL:List (V×V)->List Addr->Hp->Hp->Prop |[],[],H,a=>a=H |q::l,p::b,H,a=>H p=none/\ZL l b (upd H p (.tup [q.1,q.2])) a |_,_,_,_=>False
theorem ZL.len:∀{l:List (V×V)}{ps:List Addr}{H H':Hp},ZL l ps H H'->ps.length=l.length |[],[],_,_,_=>rfl |[],_::_,_,_,z=>z.elim |_::_,[],_,_,z=>z.elim |_::l,_::ps,_,_,z=>by have:=ZL.len z.2;simp_all
section
variable{prog:Program}{w:World}{A:Around}{E:Value->Shared->Prop}{s:Shared}
end
section
variable{X:Cx}{pins:List (Addr×Obj)}{σ:St}{A:Around}{R:Result->Shared->Prop}
abbrev va(a:Array Value)(c:Nat):Obj:={cls:=.type "list",dict:=none,data:=.seq a c,slots:=#[]}
end
end L2
namespace PM
open PySem L2
section
variable{K:Kx}{XO:cX}{E:L2.St->XK}
end
end PM
namespace L2
open PySem PySem.Spec PyProof.Rows
theorem LC(h:(oE P w).is k u=true):RelV (kV k) u:=by
 rcases uc h with⟨i,t,rfl,rfl⟩|⟨x,t,rfl,rfl⟩;.exact⟨t,rfl⟩
 .exact⟨t,rfl⟩
theorem KV.at:∀{kvs:List (Key×V)}{vs:List (Key×Value)},KV kvs vs->∀{i:Nat}{k:Key}{x:V},kvs[i]?=some (k,x)->∃u,vs[i]?=some (k,u)/\RelV x u:=by intro kvs vs r;unfold KV at r;induction r with
  |nil=>simp
  |@cons p q l n g t j=> intro i k x h;cases i with |zero=>
      have e:p=(k,x):=by simp_all
      subst e;obtain⟨m,d⟩:=q;exact⟨d,by simp_all,g.2⟩ |succ i=>simp_all
section
variable{X:Cx}{pins:List (Addr×Obj)}{σ:St}{H:Hp}{s:Shared}{a:Addr}{kvs:List (Key×V)}
theorem Inv.fB(I:Inv X pins σ H s)(c:H a=some (.dK kvs)):∃o,Inv X pins σ (upd H a (.fB o (.dK kvs))) s:=by have d:=I.bF a _ c;obtain⟨_,_,_,_,o,f,e,b,_⟩:=id d;exact⟨o,I.write (by rw[c];exact True.intro) (.inl rfl) (fun _ _ _ q=>q) ⟨o,b⟩ ⟨b,d⟩⟩
theorem Inv.dat(I:Inv X pins σ H s)(i:H a=some (.fB o (.dK kvs)))(hd:o.data=.dict e ep):∃vs,KV kvs vs/\s.heap.DictAt (oE X.prog X.w) a vs ep:=by obtain⟨c,_,_,vs,f,l,k,g,d,j,b,h⟩:=I.bF a _ i;rw[c] at d;cases d;rw[hd] at b;cases b;exact⟨_,f,o,_,c,j,hd,h⟩
end
def z_(t:TE):TE:=fun d H Q=>t d H fun v c=>∃a b,v=.ref a/\c a=some (.dK b)/\∀o,Q v (upd c a (.fB o (.dK b)))
theorem T4(h:PE X e t):PE X e (z_ t):=by intro b s k H Q I q;refine bW (h _ s _ H _ I q) fun u j ⟨v,_,c,g,a,_,_,i,f⟩=>?_;obtain⟨o,d⟩:=c.fB i;exact⟨v,_,d,g,f o⟩
def Fn(a:Addr)(o:Obj)(kvs:List (Key×V)):It:= ⟨fun i H=>H a=some (.fB o (.dK kvs))/\i<kvs.length,fun i H v b=>b=H/\∃k x,v=kV k/\kvs[i]?=some (k,x),fun i H=>H a=some (.fB o (.dK kvs))/\kvs.length<=i⟩
theorem KV.len{kvs:List (Key×V)}(r:KV kvs vs):vs.length=kvs.length:=by induction r with |nil=>rfl |cons _ _ b=>simp[b]
theorem T5{K:PySem.W.Frag}(a it:Addr)(o:Obj)(kvs:List (Key×V))(hd:o.data=.dict es0 ep): Turn P w K tg (Fn a o kvs) [it] it (fun i h=>h.IsKeyIter it a i kvs.length ep) where
 mem:=by simp
 obj:=fun i h st b j=>by obtain⟨q,R,c,d⟩:=st;rw[bc.mp j];exact⟨q,R,fun v z=>by simp_all⟩
 keep:=fun i h J st k=>st.at fun q e=>k _ (by simp) q e;item:=by intro X p D A O i m s σ H E I n st M;subst p D A;obtain⟨B,L⟩:=M;obtain⟨Z,l,t⟩:=I.dat B hd;obtain⟨⟨S,x⟩,Q⟩:∃q,kvs[i]?=some q:=⟨_,bx L⟩;obtain⟨u,Y,ru⟩:=l.at Q;obtain⟨r,G,f2,y,N,C⟩:=n it (by simp);have f:=st;rw[<-l.len] at f;refine wpAny_pyNext_dict_item f t Y fun kk J T g U=>?_;have I1:Inv X _ _ H {s with heap:=J}:=I.turned (fun b o j e=>(U.2 b j).trans e) r G y N C;rw[l.len] at g;obtain⟨q,e,c,d⟩:=id g;exact⟨_,rfl,A1 e c d rfl ⟨_,H,I1,LC T,⟨rfl,_,x,rfl,Q⟩,g,fun b j=>(n b j).1⟩⟩
 done:=by intro X p D A O i m s σ H E I n st M;subst p D A;obtain⟨B,L⟩:=M;obtain⟨Z,l,t⟩:=I.dat B hd;obtain⟨r,G,f2,y,N,C⟩:=n it (by simp);have f:=st;rw[<-l.len] at f;exact wpAny_pyNext_dict_end (I.ok.hd O) f t (List.getElem?_eq_none (by rw[l.len];exact L)) fun J eb=>⟨rfl,I.turned (fun b o j e=>eb b o j e) r G y N C⟩
 self:=fun _ _ _ _ _ st h=>wpAny_pyIter_keyiter st h
section
variable{X:Cx}
def B9(d:TE):TI:=fun e H R=>d e H fun x c=>∃a o b,x=.ref a/\c a=some (.fB o (.dK b))/\R (Fn a o b) c
theorem T6(y:PE X l r):PI X N l (B9 r):=by intro i s S H R I h;refine bW (y _ s _ H _ I h) fun v O ⟨x,_,d,m,a,o,_,t,g,q⟩=>?_;subst t;obtain rfl:v=Value.ref a:=m;obtain⟨J,D,B⟩:=DQ d (.inl ⟨_,.inr ⟨o,g⟩⟩);obtain⟨C,z,G,Q,w,A⟩:=d.bF a _ g;obtain⟨E,f⟩:=A.dictAt;obtain⟨L,k,j,M,n,T⟩:=id f;rw[C] at j;cases j;refine wpAny_pyIter_dict B f (⟨_,_,_,_,_,rfl,d.kept fun b u e=>bu _ e,T5 a _ o _ n,⟨_,cu _ rfl,rfl,by rw[<-w.len];rfl⟩,fun c p=>?_,q⟩);rw[bc.mp p];exact d.lE (aB _) (d.bF.fresh (aB _))
end
end L2
namespace PM
open PySem L2
section
variable{K:Kx}{XO:cX}{E:L2.St->XK}
def kD:Key->D |.inl i=>.int i |.inr x=>.str x
theorem LD(k:Key):Rep K F (kD k) (kV k):=by cases k with |inl i=>rfl |inr x=>rfl
def Fo:D->Option (List Key×List D) |.fd a l=>some (a,l) |_=>none
def LF(md:En->R D)(a:En):R (List D):=(md a).bind fun d=>(R.of (Fo d)).bind fun p=>.ok (p.1.map kD)
theorem T7(h:∀c b,P c b->aD c b/\b a=some (.fB o (.dK kvs))):qf K (Fn a o kvs) P ((kvs.map (·.1)).map kD):=by
 intro c b p i;obtain⟨j,q⟩:=h _ _ p;rw[bB,bB];refine⟨fun d g=>?_,fun m=>?_⟩;.cases e:kvs[i]? with |none=>simp_all |some y=> rw[e] at g;cases g;refine⟨⟨q,(cI.mp e).1⟩,fun l n z=>?_⟩;obtain⟨rfl,k,x,rfl,f⟩:=z;rw[e] at f;cases f;exact⟨_,.refl j,LD _⟩
 .cases e:kvs[i]? with |none=>exact⟨q,kA.mp e⟩ |some y=>simp_all
theorem T8(h:SE K XO E f md):SI K XO E (B9 f) (LF md):=by intro j m k F H q i R I a;refine h _ _ _ F H _ _ _ I (a.bind.imp fun d p n b c v r=>?_);cases d with |fd y l=> obtain⟨a,o,g,rfl,e,rfl,t⟩:=r;exact⟨a,o,_,rfl,b.fh _ _ e,c _ _ (.refl b.fh) _ (T7 fun w s x=>⟨x.2,x.2 _ _ (x.1 _ _ e)⟩)⟩ |_=>exact c.elim
def vd(d k:D):Option D:=match ui k,d with|some k,.fd a l=>jL a l k|_,_=>none
theorem T9(hd:SE K XO E n md)(j:SE K XO E w s):SE K XO E (zm n w) (m2 vd md s):=by intro J T H0 F H Y S Q I a;refine hd _ _ _ F H _ _ _ I (a.bind.imp fun i L U A f x t=>(j _ _ _ _ _ _ _ _ (I.grow A) (f.bind.imp fun dk F2 X c b y h=>?_)));unfold vd at b;cases z:ui _ with |none=>rw[z] at b;exact b.elim |some k=> rw[z] at b;cases i with
 |fd N l=> have e:=Rep.mono c.ff _ t;obtain⟨p,o,m,rfl,u,B,C⟩:=e;obtain⟨G,M⟩:=EC B C;cases EB z h;dsimp at b;cases q:jL _ l k with |none=>rw[q] at b;exact b.elim |some d=> rw[q] at b;obtain⟨v,g,r⟩:=G d q;exact⟨p,v,rfl,.inl ⟨_,k,.inr ⟨o,c.fh _ _ u⟩,rfl,g.symm⟩,b _ _ (.refl c.fh) _ r⟩
 |_=>exact b.elim
end
end PM
namespace L2
open PySem PySem.Spec PyProof.Rows
structure wY(P:Program)(w:World)(K:PySem.W.Frag)(mg:Str->Option Value)(base:Heap)(CX:jt)(k:Nat)(x:Str)(ps:List Str)(sp:Sp)(d:V):Prop where ex:∃(f:Addr) (fd:FuncData),b_ P w K mg base CX k f fd ps sp/\mg x=some (.ref f)/\PySem.W.keepIn K (.ref f)=true/\Binds K fd ps []/\∃u,RelV d u/\Binds K fd ps [u]
section
variable{P:Program}{w:World}{K:PySem.W.Frag}{mg:Str->Option Value}{base:Heap}{CX:jt}{k:Nat}{x:Str}{ps:List Str}{sp:Sp}{d:V}
theorem wY.has(G:wY P w K mg base CX k x ps sp d):tf P w K mg base CX k x ps sp:=by obtain⟨f,g,a,b,c,e,_⟩:=G.ex;exact⟨f,_,a,b,c,e⟩
end
section
variable{X:Cx}{CX:jt}{k:Nat}{x:Str}{ps:List Str}{sp:Sp}{E:XK}{p pos:Pos}{a b:Expr}{ta tb:TE}{d:V}
end
theorem T_{K:PySem.W.Frag}{n:Nat}(hd:fd.defaults=.ref T)(f:K.lookup T=some o)(g:o.data=.seq #[u] n) (h3:∀us:List Value,us.length=ps.length->∃a,bindArgs fd ⟨us,[]⟩=seqItems? fd.defaults>>=a/\a (some #[u])=pure (ps.zip us)) (h2:∀us:List Value,us.length+1=ps.length->∃a,bindArgs fd ⟨us,[]⟩=seqItems? fd.defaults>>=a/\a (some #[u])=pure (ps.zip (us++[u]))):Binds K fd ps []/\Binds K fd ps [u]:=by
 constructor;.intro s us d b;rw[f_] at b⊢;obtain⟨a,c,e⟩:=h3 _ b;exact .of_defaults hd (d T o f) g c e
 .intro s us d b;obtain⟨a,c,e⟩:=h2 _ (by simpa using b);exact .of_defaults hd (d T o f) g c e
structure tT(K:PySem.W.Frag)(x qual:Str)(st:Stmt)(f:Addr)(fd:FuncData)(d:V):Prop where
 ex:∃(oc:Value) (od:Option Addr) (T:Addr) (kV doc pm:Value) (an:Option Addr) (p4 ct:Value) (zd:Array (Option Value)), fd=PySem.W.fnOf x qual (rT st) (nX st) (dJ st) (.ref T) kV doc pm an p4 ct/\K.lookup f=some ⟨oc,od,.func fd,zd⟩/\PySem.W.codeIn K p4 qual=true/\∃(o:Obj) (u:Value) (n:Nat),K.lookup T=some o/\o.data=.seq #[u] n/\RelV d u
 kp:PySem.W.keepIn K (.ref f)=true
section
variable{P:Program}{w:World}{K:PySem.W.Frag}{mg:Str->Option Value}{base:Heap}{d:V}
theorem tT.ok{st:Stmt}(F:tT K x b st f fd d)(S:cb N ps (dJ st))(i:∀vs H Q E,sp vs H Q E->vs.length=ps.length) (c:∀(e:Value)(A:Around)(a:List Env)(s:Shared)(H:Hp)(vs:List V)(Q:VK)(E:XK),cN k (A.deeper (envOfC b (dJ st) s.heap.objs.size f e))->sp vs H Q E-> ∃t,km (mP iR P w K mg base N b (dJ st) f e A a s H E).wk (nX st) t/\t {nx:=fun _ H'=>Q .non H',rt:=Q} (start N vs) H):b_ P w K mg base iR (k+1) f fd ps sp:=by obtain⟨y,r,T,kV,m,p,v,e,u,n,rfl,l,j,_⟩:=F.ex;refine DC l j S i fun A a s H vs Q E o g=>?_;obtain⟨t,h,q⟩:=c _ A _ s H _ Q E o g;exact⟨t,h.wk,q⟩
theorem tT.binds{st:Stmt}(F:tT K x c st f fd d) (h3:∀(T:Addr)(kV b g:Value)(an:Option Addr)(a h u:Value)(us:List Value),us.length=ps.length->∃e,bindArgs (PySem.W.fnOf x c (rT st) (nX st) (dJ st) (.ref T) kV b g an a h) ⟨us,[]⟩=seqItems? (.ref T)>>=e/\e (some #[u])=pure (ps.zip us)) (h2:∀(T:Addr)(kV b g:Value)(an:Option Addr)(a h u:Value)(us:List Value),us.length+1=ps.length->∃e,bindArgs (PySem.W.fnOf x c (rT st) (nX st) (dJ st) (.ref T) kV b g an a h) ⟨us,[]⟩=seqItems? (.ref T)>>=e/\e (some #[u])=pure (ps.zip (us++[u]))): Binds K fd ps []/\∃u,RelV d u/\Binds K fd ps [u]:=by obtain⟨t,v,T,kV,b,g,an,a,h,p,rfl,s,r,o,u,n,q,l,k⟩:=F.ex;obtain⟨j,m⟩:=T_ rfl q l (fun us i=>h3 T _ _ _ _ _ _ u _ i) fun us i=>h2 T _ _ _ _ _ _ u _ i;exact⟨j,u,k,m⟩
end
structure tU(K:PySem.W.Frag)(x:Str)(st:Stmt)(f:Addr)(fd:FuncData)(d:V):Prop where ns:PySem.W.nsIn K mainGlobals x=some (some (.ref f))fn:tT K x x st f fd d
theorem tU.has{K:PySem.W.Frag}{st:Stmt}(D:tU K x st f fd d)(X:K.In h)(G:h.Ns mainGlobals mg) (c:b_ P w K mg a CX k f fd ps sp)(b:Binds K fd ps []/\∃u,RelV d u/\Binds K fd ps [u]):wY P w K mg a CX k x ps sp d:=⟨f,_,c,eE X G D.ns,D.fn.kp,b⟩
end L2
namespace PM
open PySem L2
section
variable{K:Kx}{F H:Hp}
end
section
variable{K:Kx}{XO:cX}{E:L2.St->XK}{ta te:TE}{ma me:En->R D}
end
def Aa(δ:En):Prop:=∀i:Nat,Sl.own δ[i]?=false
section
variable{K:Kx}{XO:cX}{E:L2.St->XK}{F0 H0 F H:Hp}{σ:L2.St}{δ:En}
end
end PM
namespace L2
open PySem PySem.Spec PyProof.Rows
section
variable{prog:Program}{w:World}{A:Around}{E:Value->Shared->Prop}{s:Shared}
end
section
variable{X:Cx}
def Ab(K:PySem.W.Frag):R2:=fun x y H Q=>∃a b c d,x=.ref a/\y=.ref b/\jo K H a c/\jo K H b d/\c.length+d.length<=sizeLine/\ (c=[]->Q (.ref b) H)/\(c≠[]->d=[]->Q (.ref a) H)/\(c≠[]->d≠[]->∀p,H p=none->Q (.ref p) (upd H p (.tup (c++d))))
theorem Fp:gT X (binaryOp .Add) (Ab X.K):=by
 rintro p s T H x y v u Q I h m ⟨a,b,q,N,rfl,rfl,l,o,G,A,C,B⟩;by_cases c:q=[];.cases h;cases m;obtain⟨M,L,E,_⟩:=I.tuple l;obtain⟨j,U,D,_⟩:=I.tuple o;obtain⟨⟨w,R,k,O⟩,i,r,n,t⟩:=id E;obtain⟨⟨g,J,data2,z⟩,d,e,S,f⟩:=id D;subst r t e f;exact concat_meets ⟨_,i,rfl⟩ ⟨_,d,rfl⟩ noFill_tuple_add seq_tuple_add pk ph (pf _ _) (tuple_addW0 a b _ _ n _ _ _ _ _ (by simp[(L.kn.mpr c)])) ⟨i,d,⟨.ref b,H,I,rfl,A c⟩⟩
 .exact QS _ s _ H _ _ v u Q I h m ⟨a,b,_,_,rfl,rfl,l,o,c,G,C c,B c⟩
end
end L2
namespace PM
open PySem L2
section
variable{K:Kx}{XO:cX}{E:L2.St->XK}
def wZ(x y:D):Option D:=match x,y with|.tup l,.tup r=>dt (l.length+r.length<=sizeLine) (some (.tup (l++r))) none|_,_=>none
theorem Fq:SR K (Ab K.f) wZ:=by
  intro F H x y v w d Q s o m e q;unfold wZ at e;split at e
  . rename_i l r;unfold dt at e;split at e
    . cases e;obtain⟨a,j,rfl,g,f⟩:=o;obtain⟨b,t,rfl,n,h⟩:=m;have A:=f.length;have B:=h.length;refine⟨a,b,_,_,rfl,rfl,.of (s _ _ g),.of (s _ _ n),by lia,fun z=>?_,fun k u=>?_,fun k u p i=>?_⟩;.have:l=[]:=vw (by simp_all);refine q _ F H (.refl s) ?_;simp[Rep];simp_all
      .have:r=[]:=vw (by simp_all);exact q _ F H (.refl s) ⟨a,_,rfl,g,by simp_all⟩
      .have c:Ext F H (upd F p (.tup (j++t))) _:=.new s i;exact q _ _ _ c ⟨p,_,rfl,b9,(f.mono c.ff).append (h.mono c.ff)⟩
    simp_all
  simp_all
end
end PM
namespace L2
open PySem PySem.Spec PyProof.Rows
structure rz(P:Program)(w:World)(K:PySem.W.Frag)(mg:Str->Option Value)(base:Heap)(CX:jt)(k:Nat)(x:Str)(C:Addr)(ps:List Str)(sp:Sp):Prop where ex:∃(f:Addr) (fd:FuncData),Mk K C f/\b_ P w K mg base CX k f fd ps sp/\mg x=some (.ref C)/\Binds K fd ps []
structure kh(P:Program)(w:World)(K:PySem.W.Frag)(mg:Str->Option Value)(base:Heap)(CX:jt)(k:Nat)(m:Str)(C:Addr)(ps:List Str)(sp:Sp):Prop where ex:∃(f:Addr) (fd:FuncData),lX K C/\Meth K C m f/\b_ P w K mg base CX k f fd ps sp/\Binds K fd ps []
section
variable{X:Cx}{CX:jt}{k:Nat}{x m:Str}{C:Addr}{ps:List Str}{sp:Sp}{E:XK}{p pos apos:Pos}{e o:Expr}{es:List Expr}{t:TA}{ta:TE}
theorem Ua(G:rz X.prog X.w X.K X.mg X.base CX k x C ps sp)(d:cN (k+1) X.A)(h:Gl X x)(c:rS CX X E)(i:PA X (e::es) t) (a:(x==("__debug__":Str))=false:=by decide)(g:starEach (e::es) X.env=(false,eval e X.env)::starEach es X.env:=by rfl)(b:(backTo pos (starEach es X.env)).any (·.1)=false:=by rfl): PE X (.Call (.Name x p) (e::es) [] pos) (DB C sp [] E t):=let⟨f,n,M,F,l,j⟩:=G.ex;QJ M F d h l j .nil c i a g b
theorem Fs(G:kh X.prog X.w X.K X.mg X.base CX k m C ps sp)(h:cN k X.A)(l:rS CX X E)(g:PE X o ta)(i:PA X (e::es) t) (a:starEach (e::es) X.env=(false,eval e X.env)::starEach es X.env:=by rfl)(b:(backTo pos (starEach es X.env)).any (·.1)=false:=by rfl) (r:eval (.Call (.Attribute o m apos) (e::es) [] pos) X.env=(eval o X.env>>=fun d=>standAt apos.atName>>=fun _=>holding [d] (getMethod d m pl)>>=fun q=>callWith pos q.1 q.2 (backTo pos (starEach (e::es) X.env)) (backToKw pos (keywordEach [] X.env))):=by rfl): PE X (.Call (.Attribute o m apos) (e::es) [] pos) (xM C m sp [] E ta t):=let⟨f,_,c,n,F,j⟩:=G.ex;QH g c n F h j .nil l i a b r
end
end L2
namespace PM
open PySem L2
section
variable{K:Kx}{XO:cX}{E:L2.St->XK}{F0 H0 F H:Hp}{σ:L2.St}{δ:En}
open Classical in
def Ac(H:Hp)(p:Addr):Hp:=fun b=>if b=p then none else H b
theorem Ub{H:Hp}:aD (Ac H p) H:=fun b o h=>by unfold Ac at h;simp_all
theorem Uc{H:Hp}:Ac H p p=none:=by unfold Ac;simp
theorem aA.one{d:D}(I:aA K A F0 H0 F H σ δ)(g:∀j,j≠i->Sl.own δ[j]?=false)(hi:i<δ.length)(s:F p=none)(o:Own K F H d p):aA K [] F (Ac H p) F H (σ.set i (some (.ref p))) (δ.set i (.o d)):=by
  have b:∀j:Nat,Sl.own (δ.set i (.o d))[j]?=true->j=i:=fun j h=>by apply dO;intro z;rw[aO (aJ z),g j z] at h;cases h
  refine⟨⟨.refl _,Ub,I.ext.fh,fun q u c m=>c⟩,by simp[I.len],fun j=>?_,fun j k a f c m _ _=>f ((b j c).trans (b k m).symm),fun y t=>(by cases t),fun j r c=>?_⟩
  . by_cases z:i=j;.subst z;rw[bH hi,bH (by rw[I.len];exact hi)];exact⟨p,rfl,Uc,s,o⟩
    .rw[aO z,aO z];have w:=I.slot j;have e:=g j (aJ z);cases q:δ[j]? with |none=>trivial |some x=> rw[q] at w e;cases x with |no=>trivial |v d=>exact w |o d=>cases e |l d=>cases e |p r=>cases e
  .have:=b j (by rw[c];rfl);subst this;rw[bH hi] at c;cases c
end
section
variable{K:Kx}{XO:cX}{E:L2.St->XK}{F0 H0 F H F1 H1 F' H':Hp}
variable(K) in
def Ad(c:Nat)(t:TS)(m:En->List Str->List D->R (List Str×List D)):Prop:= ∀(F1 H1 F H:Hp)(b:L2.St)(d:En)(x g:Addr)(e:List (Str×V))(l:List D)(f:Ends),Aa d->aA K [] (j9 F1 H1) H1 F H b d->b[0]?=some (some (.ref x))->H1 x=none->F x=none->H x=some (.ins (K.ca c) g e)->aF K (kf F1 H1 F) l (e.map (·.2))-> (match m d (e.map (·.1)) l with |.no=>False |.ok p=>∀F' H' a,aA K [] (j9 F1 H1) H1 F' H' b d->F' x=none->H' x=some (.ins (K.ca c) g a)->a.map (·.1)=p.1->aF K (kf F1 H1 F') p.2 (a.map (·.2))->f.nx b H' |.ex _=>False)->t f b H
end
end PM
namespace L2
open PySem PySem.Spec PyProof.Rows
structure MethAt(K:PySem.W.Frag)(C:Addr)(m qual:Str)(st:Stmt)(f:Addr)(fd:FuncData):Prop where
 at_:PySem.W.findIn K (.ref C) m=some (some (.ref f))LG:PySem.W.isFn K (.ref f)=true
 fn:ju K m qual st f fd
theorem rA{K:PySem.W.Frag}{st:Stmt}{kV e g d h:Value}(a:PySem.W.findIn K (.ref C) m=some (some (.ref f)))(i:PySem.W.isFn K (.ref f)=true) (l:K.lookup f=some ⟨n,od,.func (PySem.W.fnOf m b (rT st) (nX st) (dJ st) .none kV e g an d h),j⟩)(c:PySem.W.codeIn K d b=true)(k:PySem.W.keepIn K (.ref f)=true):∃f fd,MethAt K C m b st f fd:= ⟨f,_,a,i,JH l c k⟩
section
variable{P:Program}{w:World}{K:PySem.W.Frag}{mg:Str->Option Value}{base:Heap}{CX:jt}{k:Nat}{x m qual:Str}{C:Addr}{st:Stmt}{f:Addr}{fd:FuncData}{ps:List Str}{sp:Sp}
theorem MethAt.w_(D:MethAt K C m qual st f fd)(c:lX K C)(a:b_ P w K mg base CX k f fd ps sp)(b:Binds K fd ps []):kh P w K mg base CX k m C ps sp:=⟨f,_,c,⟨D.at_,D.LG,D.fn.kp⟩,a,b⟩
theorem MethAt.Ae(D:MethAt K C "__init__" qual st f fd)(mk:PySem.W.makesIn K C=true)(c:PySem.W.keepIn K (.ref C)=true)(a:mg x=some (.ref C))(d:b_ P w K mg base CX k f fd ps sp)(b:Binds K fd ps []):rz P w K mg base CX k x C ps sp:=⟨f,_,⟨mk,D.at_,D.LG,c⟩,d,a,b⟩
end
section
variable{X:Cx}{CX:jt}{k:Nat}{x:Str}{C:Addr}{ps:List Str}{sp:Sp}{E:St->XK}{p pos:Pos}{e:Expr}{es:List Expr}{t:TA}
end
end L2
namespace PM
open PySem L2
section
variable{K:Kx}{XO:cX}{E:L2.St->XK}{F0 H0 F H F1 H1 F' H':Hp}
variable(K XO E) in
def Ft(c:Nat)(t:TS)(m:En->List Str->List D->R (List Str×List D)):Prop:= ∀(F1 H1 F H:Hp)(b:L2.St)(e:En)(x h:Addr)(f:List (Str×V))(l:List D)(g:Ends),Aa e->aA K [] (j9 F1 H1) H1 F H b e->b[0]?=some (some (.ref x))->H1 x=none->F x=none->H x=some (.ins (K.ca c) h f)->aF K (kf F1 H1 F) l (f.map (·.2))-> (match m e (f.map (·.1)) l with |.no=>False |.ok p=>∀F' H' a,aA K [] (j9 F1 H1) H1 F' H' b e->F' x=none->H' x=some (.ins (K.ca c) h a)->a.map (·.1)=p.1->aF K (kf F1 H1 F') p.2 (a.map (·.2))->g.nx b H' |.ex i=>∀C d F' H',Ext (j9 F1 H1) H1 F' H'->XO i F' H' C d->E b C d H')->t g b H
theorem Ad.x(h:Ad K c t m)(b:∀δ ks l x,m δ ks l≠.ex x):Ft K XO E c t m:=by intro F1 H1 F H u δ x n s l r g I i j d f e a;refine h _ _ F H _ _ x _ _ l _ g I i j d f e ?_;cases q:m _ _ l with |no=>rwa[q] at a |ok p=>rwa[q] at a |ex o=>exact(b _ _ _ _ q).elim
def Ud(K:Kx)(c:Nat)(f:List D->R D):Sp:=fun h H Q E=>∃(x b:Addr) (g:List V) (F a:Hp) (e:List D),h=.ref x::g/\H=upd (upd a b (.own x)) x (.ins (K.ca c) b [])/\a x=none/\a b=none/\b≠x/\aD F a/\tE (vM K F a) e g/\ fH (fun _=>E) (nu K) [] F a (fun d F' H'=>F' x=none->Own K F' H' d x->Q .non H') (f e)
end
end PM
namespace L2
open PySem PySem.Spec PyProof.Rows
section
variable{prog:Program}{w:World}{A:Around}{E:Value->Shared->Prop}{s:Shared}
end
section
variable{X:Cx}
end
end L2
namespace PM
open PySem L2
section
variable{K:Kx}{XO:cX}{E:L2.St->XK}
end
end PM
namespace L2
open PySem PySem.Spec PyProof.Rows
structure vS (K : PySem.W.Frag) (x y : Str) (st : Stmt) (f : Addr) (fd : FuncData) : Prop where
  ns : PySem.W.nsIn K mainGlobals x = some (some (.ref f))
  fn : ju K y y st f fd
theorem vS.has {P : Program} {w : World} {K : PySem.W.Frag} {mg : Str → Option Value} {base h : Heap} {CX : jt} {k : Nat} {x y : Str} {st : Stmt} {f : Addr} {fd : FuncData} {ps : List Str} {sp : Sp} (D : vS K x y st f fd) (X : K.In h) (G : h.Ns mainGlobals mg)
    (ok : b_ P w K mg base CX k f fd ps sp) (b : Binds K fd ps []) : tf P w K mg base CX k x ps sp := ⟨f, fd, ok, eE X G D.ns, D.fn.kp, b⟩
theorem LH:∀{vs:List V}{us:List Value},vs.length=us.length->(∀(i:Nat)(x:V)(y:Value),vs[i]?=some x->us[i]?=some y->RelV x y)->Vals vs us |[],[],_,_=>.nil |[],_::_,h,_=>by simp at h |_::_,[],h,_=>by simp at h |x::vs,y::us,h,r=>.cons (r 0 x y rfl rfl) (LH (by simp_all) fun i a b e d=>r (i+1) a b (by simp_all) (by simp_all))
section
variable{X:Cx}
end
end L2
namespace PM
open PySem L2
section
variable{K:Kx}{XO:cX}{E:L2.St->XK}
def LI:D->Option D |.c9 a _=>some (.lst (a.map kD)) |_=>none
theorem LJ:∀ks:List Key,aF K F (ks.map kD) (ks.map kV) |[]=>.nil |k::ks=>.cons (LD k) (LJ _)
def LK(f:D->Option D)(md:En->R D)(a:En):R D:=(md a).bind fun d=>R.of (f d)
end
section
variable{K:Kx}{XO:cX}{E:St->XK}{ta tb te:TE}{ma mb me:En->R D}{t u:TS}{m n:En->O}{Λ:List (Nat×Addr×HO)}{F0 H0 F H F' H' F1 H1:Hp}{σ:St}{δ:En}{Dn:Ends}
theorem bE.length:∀{ts:List Tr}{vs:List V}{fp:List Addr},bE K F H ts vs fp->vs.length=ts.length |[],vs,fp,h=>by simp[bE] at h;simp_all |t::ts,vs,fp,h=>by obtain⟨v,r,b,d,rfl,rfl,c,a⟩:=h;simp[bE.length a]
end
section
variable{K:Kx}{XO:cX}{E:St->XK}{ta tb te:TE}{ma mb me:En->R D}{t u:TS}{m n:En->O}{Λ:List (Nat×Addr×HO)}{F0 H0 F H F' H' F1 H1:Hp}{σ:St}{δ:En}{Dn:Ends}
end
section
variable{K:Kx}{XO:cX}{E:St->XK}{ta tb te to:TE}{ma mb me mo:En->R D}{t u:TS}{m n:En->O}{Λ:List (Nat×Addr×HO)}{F0 H0 F H F' H' F1 H1:Hp}{σ:St}{δ:En}{Dn:Ends}
end
section
variable{K:Kx}{XO:cX}{E:St->XK}{te ti tj:TE}{me mi mj:En->R D}{Λ:List (Nat×Addr×HO)}{F0 H0 F H:Hp}{σ:St}{δ:En}{Dn:Ends}
def Af(x:Nat)(mi mj me:En->R D)(δ:En):O:=match δ[x]? with |some (.o (.lst l))=>(me δ).gW δ fun d=>(match d with |.tup [a,b]=>(mi δ).gW δ fun k=>(match k with |.int k=>(match gm l.length k with |some j=>(mj (δ.set x (.o (.lst (l.set j a))))).gW (δ.set x (.o (.lst (l.set j a)))) fun c=>(match c with |.int c=>(match gm l.length c with |some e=>.nx ((δ.set x (.o (.lst (l.set j a)))).set x (.o (.lst ((l.set j a).set e b)))) |none=>.no) |_=>.no) |none=>.no) |_=>.no) |_=>.no) |_=>.no
theorem Ue(h:SE K XO E te me)(hi:SE K XO E ti mi)(y:SE K XO E tj mj):SS K XO E (fD te (uE K.f 2 (xG (sS (bh x) ti ze) (xG (sS (bh x) tj ze) uD)))) (Af x mi mj me):=by
  intro Λ F0 H0 F H σ δ Dn I a;unfold Af at a;split at a
  . rename_i l q;obtain⟨p,n,vs,A,s⟩:=I.own q;refine h _ _ _ F H _ _ _ I ((cT.of I a).imp fun d Q H1 e c v r=>?_);split at c;case h_2=>exact c.elim
    have t:=I.grow e;obtain⟨tA,Y,rfl,C,X,S,rfl,u,vb,T,rfl,B,rfl⟩:=r;refine⟨_,_,rfl,.inl (.inl (e.fh _ _ C)),rfl,_,_,rfl,_,n,(hi _ _ _ _ _ _ _ _ t ((cT.of t c).imp fun k F2 H2 b f Z L=>?_))⟩;split at f;case h_2=>exact f.elim
    rename_i k;subst L;cases z:gm _ k with |none=>rw[z] at f;exact f.elim |some j=>
    rw[z] at f;have m:=(s.mono e.ff).mono b.ff;have J:=(t.grow b).chg (d':=.lst _) q n ⟨_,b9,m.set j (Rep.mono b.ff _ u)⟩;refine⟨p,_,k,j,rfl,rfl,b.hh _ _ (e.hh _ _ A),by rwa[s.length],_,_,rfl,_,n,(y _ _ _ _ _ _ _ _ J ((cT.of J f).imp fun N F3 U o g v3 G=>?_))⟩;split at g;case h_2=>exact g.elim
    subst G;cases w:gm _ _ with |none=>rw[w] at g;exact g.elim |some M=> rw[w] at g;exact⟨p,_,_,_,rfl,rfl,o.hh _ _ b9,by rwa[sM,s.length],rfl,g _ _ _ ((J.grow o).chg (bH ((cI.mp q).1)) n ⟨_,b9,((m.set j (Rep.mono b.ff _ u)).mono o.ff).set _ (Rep.mono (b.ff.trans o.ff) _ B)⟩)⟩
  .exact a.elim
end
end PM
namespace L2
open PySem PySem.Spec PyProof.Rows
section
variable{X:Cx}
end
end L2
namespace PM
open PySem L2
section
variable{K:Kx}
end
end PM
namespace L2
open PySem PySem.Spec PyProof.Rows
def Fu(tk d:TE):TE:=fun f H Q=>∀p,H p=none->DO [(tk,d)] f (upd H p (.dT [])) fun e a=>a p=some (.dT [])/\∃(c:List Key) (b:Addr) (y:V),e=[(.ref b,y)]/\a b=some (.tup (c.map kV))/\Q (.ref p) (upd a p (.dT [(c,y)]))
theorem LL{X:Cx}{k v:Expr}{tk w:TE}(Z:X.A.units<cLine)(U:PE X k tk)(S:PE X v w):PE X (.Dict [some k] [v] pos) (Fu tk w):=by intro f s J H Q I q;have O:=I.bF.fresh (aB s.heap.objs.size);have R:=I.laid (a:=s.heap.objs.size) (o:=.dT []) (h':=s.heap.push {cls:=.type "dict",data:=.dict #[]}) (t':=s.toks) (fun _ _ q=>bu _ q) (aB _) (Jz s.heap I.big);refine wpAny_Dict_any rfl rfl (by simp) (by simp) (bW ((Rc U S Rb) f _ J _ _ R (q _ O)) fun ws s2 ⟨ps,H2,i,d,e,ks,b,y,j,m,M⟩=>?_);subst j;cases d with |@cons pa N as bs h t=> cases t;obtain⟨u,r⟩:=N;obtain⟨T,x⟩:=h;cases(show u=Value.ref b from T);obtain⟨z,G,xs,d,A⟩:=Jy i.bF e;cases d;unfold storeAll;rw[sJ];refine ah (ah (wpAny_dictSet_heap (knd:=tupleKind (oE X.prog X.w)) (hsz:=cG _) Z (xP i.bF m) A fun h' g D=>au ?_));show wpAny _ _ (forIn [] _ _) _ _ _;refine au ⟨.ref s.heap.objs.size,_,?_,rfl,M⟩;obtain⟨q,L,j,n,E,B,C,_,Y⟩:=g;refine DM i (by rw[e];exact True.intro) D ⟨q,n⟩ ⟨by show 1<=sizeLine;decide,G,_,KT.keeps (H:=H2) (.cons ⟨rfl,m,x⟩ .nil) fun c ys p=>?_,q,L,j,n,E,B,C,Y⟩;rw[a9 (AV p e (fun z=>nomatch z))];exact p
end L2
namespace PM
def lI(eq lt:Nat->Bool):Nat->Nat->Bool |0,0=>false |0,_+1=>true |_+1,0=>false |n+1,m+1=>if eq 0=true then lI (fun j=>eq (j+1)) (fun j=>lt (j+1)) n m else lt 0
end PM
namespace L2
open PySem PySem.Spec PyProof.Rows
def rB(A:Around)(s:Shared)(u v:Value)(b:Bool):Prop:= ∀(a:Program)(w:World)(E:Value->Shared->Prop)(Q:Value->Shared->Prop),Q (.bool b) s->wpAny (model a w) A (richCompare .Lt u v) Q E s
section
variable{prog:Program}{w:World}{A:Around}{E:Value->Shared->Prop}{s:Shared}
theorem LM:rB A s (.int i t) (.int j u) (decide (i<j)):=fun _ _ _ _ h=>Lk h
theorem B_(x:IsTup s.heap a xs):s.TypeIs (.ref a) "tuple":=by obtain⟨o,e,c,_⟩:=x;exact⟨o,e,c⟩
theorem Ug{xs ys:List Value}{a b:Addr}(R:IsTup s.heap a xs.toArray)(L:IsTup s.heap b ys.toArray)(N:∀j u v,xs[j]?=some u->ys[j]?=some v->SeqAt.EqAt A s u v (eq j)) (Q:∀j u v,xs[j]?=some u->ys[j]?=some v->eq j=false->rB A s u v (lt j))(h:P (.done (.ret (.bool (PM.lI eq lt xs.length ys.length)))) s):wpAny (model prog w) A (Builtin.«tuple.__lt__» ⟨[.ref a,.ref b],[]⟩) P E s:=by
  have q:=B_ L;obtain⟨Y,B,_,Z,I⟩:=R;obtain⟨X,t,_,T,z⟩:=L;show wpAny _ _ (isInstance (.ref b) (.type "tuple")>>=_) _ _ s;refine ah (mE q isSubtype_tuple_tuple ?_);refine ah (mJ B I ?_);refine ah (mJ t z ?_);refine ah ?_;refine wpAny_forIn_list _ (fun rest r H=>r.1=none/\H=s/\∃(d c:List Value) (e lt':Nat->Bool),rest=List.zip d c/\(∀j u v,d[j]?=some u->c[j]?=some v->SeqAt.EqAt A s u v (e j))/\(∀j u v,d[j]?=some u->c[j]?=some v->e j=false->rB A s u v (lt' j))/\ PM.lI e lt' d.length c.length=PM.lI eq lt xs.length ys.length/\(decide (d.length<c.length))=decide (xs.length<ys.length)) _ ?_ ?_ _ _ ⟨rfl,rfl,xs,ys,eq,lt,rfl,N,Q,rfl,rfl⟩;.rintro⟨u,v⟩ rest r H ⟨M,rfl,d,c,e,lt',J,m,l,f,k⟩;cases d with |nil=>simp_all |cons x n=> cases c with |nil=>simp_all |cons y o=> obtain⟨⟨rfl,rfl⟩,rfl⟩:=J;refine ah (m 0 u v rfl rfl _ _ _ _ ?_);cases D:e 0 with |true=> refine au ⟨rfl,rfl,n,o,fun j=>e (j+1),fun j=>lt' (j+1),rfl,fun j u v C G=>m (j+1) u v C G,fun j u v C G=>l (j+1) u v C G,?_,by simp_all⟩;rw[<-f];simp[PM.lI,D] |false=>
          have O:PM.lI eq lt xs.length ys.length=lt' 0:=by rw[<-f];simp[PM.lI,D]
          rw[O] at h;refine ah (wpAny_rule ?_);refine ah (l 0 u v rfl rfl D _ _ _ _ ?_);exact ah (au (au (au h)))
  . rintro⟨U,S⟩ H ⟨M,rfl,d,c,e,lt',J,m,l,f,k⟩;subst M;refine au ?_;have p:decide (xs.length<ys.length)=PM.lI eq lt xs.length ys.length:=by rw[<-f,<-k];cases d with
      |nil=>cases c with |nil=>rfl |cons _ _=>rfl
      |cons _ _=>cases c with |nil=>rfl |cons _ _=>simp_all
    show P (.done (.ret (.bool _))) _;rw[bI,bI,p];exact h
theorem Uh{xs ys:List Value}(f:A.units<cLine)(c:IsTup s.heap a xs.toArray)(d:IsTup s.heap b ys.toArray)(i:∀j u v,xs[j]?=some u->ys[j]?=some v->SeqAt.EqAt A.in1 s u v (eq j)) (g:∀j u v,xs[j]?=some u->ys[j]?=some v->eq j=false->rB A.in1 s u v (lt j)):rB A s (.ref a) (.ref b) (PM.lI eq lt xs.length ys.length):=fun prog w E Q h=> wpAny_richCompare_same_room (B_ c) (B_ d) qA (iH qA (B_ c) F.entry_tuple_lt (Ug c d i g ⟨_,rfl,(fun e=>nomatch e),h⟩) (F.args_tuple_lt_2 _ _)) f
end
noncomputable def B':Nat->PyData->PyData->Bool |0,.int i,.int j=>decide (i<j) |n+1,.int i,.int j=>decide (i<j) |n+1,.tuple l,.tuple r=>PM.lI (fun j=>PyData.eqv (l.getD j .none) (r.getD j .none)) (fun j=>B' n (l.getD j .none) (r.getD j .none)) l.length r.length |_,_,_=>false
def qr:Nat->PyData->PyData->Bool |0,.int _,.int _=>true |n+1,.int _,.int _=>true |n+1,.tuple l,.tuple r=>(List.range (min l.length r.length)).all fun j=>qr n (l.getD j .none) (r.getD j .none) |_,_,_=>false
theorem Ag:∀{ds:List PyData}{j:Nat}{d:PyData},PyData.canLayAll0 ds=true->ds[j]?=some d->d.canLay0=true |[],j,d,_,h=>by simp at h |x::ds,0,d,h,e=>by simp at e;subst e;simp[PyData.canLayAll0,iY] at h;exact h.1 |x::ds,j+1,d,h,e=>by simp[PyData.canLayAll0,iY] at h;exact Ag h.2 (by simpa using e)
theorem Ah:∀{ds:List PyData}{j:Nat}{d:PyData},ds[j]?=some d->d.depth<=PyData.depthAll ds |[],j,d,h=>by simp at h |x::ds,0,d,e=>by simp at e;subst e;simp[PyData.depthAll];lia |x::ds,j+1,d,e=>by have:=Ah (ds:=ds) (j:=j) (d:=d) (by simp_all);simp[PyData.depthAll];lia
theorem Fv:∀{vs:List Value}{ds:List PyData}{g:List Addr},ReadsAll h vs ds g->vs.length=ds.length/\∀(j:Nat)(v:Value)(d:PyData),vs[j]?=some v->ds[j]?=some d->∃bs,Reads h v d bs |_,_,_,.nil=>⟨rfl,fun j v d h _=>by simp at h⟩ |_,_,_,.cons r t=>by obtain⟨i,k⟩:=Fv t;refine⟨by simp[i],fun j v d f c=>?_⟩;cases j with |zero=>simp at f c;grind |succ j=>exact k j v d (by simp_all) (by simpa using c)
theorem Ui:∀(n:Nat)(l f:PyData)(A:Around)(s:Shared)(a b:Value)(I bs:List Addr),Reads s.heap a l I->Reads s.heap b f bs->qr n l f=true->l.canLay0=true->f.canLay0=true->l.depth<=8->f.depth<=8->A.units+16+n<cLine-> rB A s a b (B' n l f):=by intro n;induction n with
 |zero=> intro l f A s a b I bs L H c _ _ _ _ _;cases L with
  |int i t=>cases H with |int j u=>exact LM |_=>cases c
  |_=>cases c
 |succ n ih=> intro l f A s a b I bs L H c M J Z hb hu;cases L with
  |int i t=>cases H with |int j u=>exact LM |_=>cases c
  |tuple a1 a2 U a4=>cases H with |tuple Y b2 b3 b4=>
   rename_i a0 o0 B n0 h X o1 z n1 k;obtain⟨T,g1⟩:=Fv a4;obtain⟨N,g2⟩:=Fv b4;have c':((List.range (min h.length k.length)).all fun j=>qr n (h.getD j .none) (k.getD j .none))=true:=c;simp only[PyData.canLay0] at M J;simp only[PyData.depth] at Z hb;have i1:A.in1.units=A.units+1:=Around.in1_units ..;have get:∀(j:Nat)(u v:Value),B.toList[j]?=some u->z.toList[j]?=some v->∃x y g o,h[j]?=some x/\k[j]?=some y/\Reads s.heap u x g/\Reads s.heap v y o/\qr n x y=true:=fun j u v r q=>by have R:=(cI.mp r).1;have S:=(cI.mp q).1;rw[T] at R;rw[N] at S;have d:h[j]?=some h[j]:=bx R;have e:k[j]?=some k[j]:=bx S;obtain⟨g,D⟩:=g1 j u _ r d;obtain⟨o,w⟩:=g2 j v _ q e;have G:=d_.mp c' j (cF.mpr (by lia));rw[bN,bN,d,e] at G;exact⟨_,_,g,o,d,e,D,w,G⟩
   have C:=Uh (s:=s) (A:=A) (xs:=B.toList) (ys:=z.toList) (a:=a0) (b:=X) (eq:=fun j=>PyData.eqv (h.getD j .none) (k.getD j .none)) (lt:=fun j=>B' n (h.getD j .none) (k.getD j .none)) (by lia) ⟨_,a1,a2,_,by simpa using U⟩ ⟨_,Y,b2,_,by simpa using b3⟩ (fun j u v r q=>by obtain⟨x,y,g,o,d,e,D,w,G⟩:=get j u v r q;have:=SeqAt.eqAt_reads x y A.in1 s u v g o D w (Ag M d) (Ag J e) (by have:=Ah d;have:=Ah e;lia);simpa only[bN,d,e,o9] using this) (fun j u v r q _=>by obtain⟨x,y,g,o,d,e,D,w,G⟩:=get j u v r q;have:=ih x y A.in1 s u v g o D w G (Ag M d) (Ag J e) (by have:=Ah d;lia) (by have:=Ah e;lia) (by lia);simpa only[bN,d,e,o9] using this);rw[T,N] at C;exact C |_=>cases c
  |_=>cases c
end L2
namespace PM
open PySem L2
def ve(x y:D):Bool:=B' 8 (toPy 8 x) (toPy 8 y)
def minD:List D->D->D |[],m=>m |t::l,m=>minD l (if ve t m=true then t else m)
theorem LN:∀(l:List D)(m x:D),minD (l++[x]) m=if ve x (minD l m)=true then x else minD l m |[],_,_=>rfl |t::l,m,x=>by show minD (l++[x]) _=_;rw[LN l];rfl
def xa(l:List D):Bool:=l.all fun x=>fE 8 x&&l.all fun y=>qr 8 (toPy 8 x) (toPy 8 y)
theorem LO(t:D)(ts:List D):∀k,k<=ts.length->(t::ts).getD (argBest (fun i j=>ve ((t::ts).getD i .non) ((t::ts).getD j .non)) k) .non=minD (ts.take k) t
 |0,_=>rfl |k+1,h=>by
  have b:=LO t ts k (by lia);have c:ts.take (k+1)=ts.take k++[(t::ts).getD (k+1) .non]:=by rw[oW,List.getD_cons_succ,bN,bx (by lia)];rfl
  rw[c,LN,<-b];show(t::ts).getD (if ve _ _=true then k+1 else argBest (fun i j=>ve _ _) k) _=_;split<;>rfl
end PM
namespace L2
open PySem PySem.Spec PyProof.Rows PM
section
variable{X:Cx}{ca:Nat->Addr}{an:Nat->Str}
def LP(K:Kx):List V->Hp->VK->Prop:=fun b H Q=>∃(p:Addr) (F:Hp) (a:List V) (d:D) (l:List D),b=[.ref p]/\Rd H p (.lst a)/\aD F H/\aF K F (d::l) a/\xa (d::l)=true/\ ∀(i:Nat)(v:V),a[i]?=some v->(d::l).getD i .non=minD l d->Q v H
theorem Uj(hu:X.A.units+64<cLine)(hc:X.calm=true):cj X (.builtin "min") (LP ⟨X.K,ca,an⟩):=by
  intro pins s σ H xs us Q I r h;obtain⟨p,F,vs,t,c,rfl,hq,sm,hr,L,q⟩:=h;obtain⟨u,rfl,rx⟩:=lW r;cases rx;obtain⟨z,a,n,T,e⟩:=hq.ok I.bF;have hl:=hr.length;have J:=T.length;have get:∀(i:Nat)(w:Value),a[i]?=some w->∃d,(t::c)[i]?=some d/\fE 8 d=true/\∃Z,Reads s.heap w (toPy 8 d) Z:=fun i w hw=>by have hi:=(cI.mp hw).1;have hd:(t::c)[i]?=some (t::c)[i]:=bx (by omega);obtain⟨v,hv,rp⟩:=hr.get hd;obtain⟨u',f,ru⟩:=T.get hv;rw[hw] at f;cases f;have pl:=d_.mp L _ (List.getElem_mem (by omega:i<(t::c).length));simp only[iY] at pl;exact⟨_,hd,pl.1,EZ I sm 8 _ v w pl.1 rp ru⟩
  have E:s.heap.IsList p a.toArray:=⟨_,e,rfl,n,rfl⟩;have N:p<s.heap.objs.size:=aQ e;refine Ln (mF E ?_);refine⟨s.heap.objs.size,[s.heap.objs.size,p]++List.range s.heap.objs.size,[s.heap.objs.size],a.toArray.size,_,_,(fun i j=>ve ((t::c).getD i .non) ((t::c).getD j .non)),rfl,Ll (Walks.list (A:=X.A.in1) (I.ok.hd hc) s.heap.objs.size p (bC N) a.toArray) (List.range s.heap.objs.size) s.heap ?_,⟨⟨⟨_,cu _ rfl,rfl,rfl⟩,E.push _⟩,fun b _ o g=>bu _ g⟩,?_,?_,?_,?_⟩;.intro b l hm;simp_all
  . intro b l;show b<(s.heap.push _).objs.size;rw[lN];rcases cD.mp l with l|l
    . rcases aR.mp l with rfl|l;.exact fq _
      .rw[bc.mp l];grind
    .exact oY (cF.mp l)
  .rw[bI,<-J,hl];grind
  . intro k i j vi U s' Q' E' st hi hj hQ;have S:a[i]?=some vi:=by simp_all
    have Y:a[j]?=some U:=by simpa using hj
    obtain⟨B,M,p1,Z,r1⟩:=get i vi S;obtain⟨C,e2,p2,bs,r2⟩:=get j U Y;have kp:∀b o,s.heap.get? b=some o->s'.heap.get? b=some o:=fun b o g=>st.2 b (cF.mpr (aQ g)) o g;obtain⟨l1,m1⟩:=yg 8 B p1;obtain⟨l2,m2⟩:=yg 8 C p2;have cm:qr 8 (toPy 8 B) (toPy 8 C)=true:=by have:=d_.mp L B (eg M);simp only[iY] at this;exact d_.mp this.2 C (eg e2)
    have:=Ui 8 (toPy 8 B) (toPy 8 C) X.A.in1 s' vi U Z bs (Reads.keeps kp r1) (Reads.keeps kp r2) cm l1 l2 m1 m2 (by rw[Around.in1_units];lia);refine this _ _ _ _ ?_;have g1:(t::c).getD i .non=B:=by rw[bN,M];rfl
    have g2:(t::c).getD j .non=C:=by rw[bN,e2];rfl
    simp only[g1,g2] at hQ;exact hQ
  .intro v h' tk hP hk;have y:a.toArray[argBest (fun i j=>ve ((t::c).getD i .non) ((t::c).getD j .non)) (a.toArray.size-1)]?=some v:=hP;rw[qE,bI,<-J,hl,ef,oX] at y;have G:=LO t c c.length (aB _);rw[List.take_length] at G;obtain⟨B,M,_⟩:=get _ v y;obtain⟨x,hx,_⟩:=hr.get M;obtain⟨u',f,ru⟩:=T.get hx;rw[y] at f;cases f;refine⟨x,H,I.kept (t':=tk) (fun b o g=>hk b o (fun hm=>?_) (bu _ g)),ru,q _ x hx G⟩;rw[bc.mp hm] at g;exact absurd (aQ g) (cY _)
end
end L2
namespace PM
open PySem L2
abbrev BP:=Int×List (Int×Int)
def mZ(p:Int×Int):D:=.tup [.int p.1,.int p.2]
def cQ(b:BP):D:=.tup [.int b.1,.tup (b.2.map mZ)]
def ot:List BP->BP->BP |[],m=>m |t::l,m=>ot l (if ve (cQ t) (cQ m)=true then t else m)
theorem LQ:∀(l:List BP)(m:BP),minD (l.map cQ) (cQ m)=cQ (ot l m) |[],_=>rfl |t::l,m=>by show minD (l.map _) _=cQ (ot l _);rw[<-LQ l];grind
noncomputable def cV(rest:List Int)(k:Nat):List Int:=(rest.drop 1).take (k-1)++rest.drop (k+1)
def tV(d:Int->Int->Int)(f:List Int->BP)(rest:List Int)(k:Nat):BP:=(d (rest.getD 0 0) (rest.getD k 0)+(f (cV rest k)).1,(rest.getD 0 0,rest.getD k 0)::(f (cV rest k)).2)
def least:List BP->BP |[]=>(0,[]) |b::l=>ot l b
def m5(d:Int->Int->Int):Nat->List Int->BP |0,_=>(0,[]) |m+1,rest=>least ((List.range (rest.length-1)).map fun j=>tV d (m5 d m) rest (j+1))
def cn:Nat->Nat |0=>0 |m+1=>1+(2*m+1)*cn m
def uo(L:D)(d:Int->Int->Int)(rest:List Int):Prop:=∀i∈rest,∀j∈rest,∃a,aw L (.int i)=some a/\aw a (.int j)=some (.int (d i j))
theorem Ca{rest:List Int}:∀i∈cV rest k,i∈rest:=fun i h=>by
 rcases cD.mp h with z|z;.exact List.mem_of_mem_drop (List.mem_of_mem_take z)
 grind
theorem Fw{rest:List Int}(h1:1<=k)(h2:k<rest.length):(cV rest k).length+2=rest.length:=by simp[cV,bO,gB,iv];lia
structure qs(K:Kx)(c:Nat)(d:Int->Int->Int)(L:D)(F H:Hp)(x kp dx:Addr)(lv:V)(kvs:List (List Key×V)):Prop where
 fh:aD F H
 hx:H x=some (.ins (K.ca c) dx [("lengths",lv),("known",.ref kp)])hk:H kp=some (.dT kvs)fx:F x=none
 fk:F kp=none
 rl:Rep K F L lv
 good:∀e∈kvs,∃ks:List Int,e.1=ks.map Sum.inl/\Rep K F (cQ (m5 d (ks.length/2) ks)) e.2emp:∃v,di kvs []=some v
structure rC(kp:Addr)(F H F' H':Hp):Prop where
 ff:aD F F'
 hh:∀b o,b≠kp->H b=some o->H' b=some o
 nw:∀b o,F b=none->H b=some o->F' b=none
section
variable{K:Kx}{c:Nat}{d:Int->Int->Int}{L:D}{F H F' H' Fx LR:Hp}{x kp dx:Addr}{lv:V}{kvs:List (List Key×V)}
theorem rC.of(e:Ext F H F' H'):rC kp F H F' H':=⟨e.ff,fun b o _ h=>e.hh b o h,e.nw⟩
theorem rC.trans(a:rC kp F H F' H')(b:rC kp F' H' Fx LR)(i:Fx kp=none):rC kp F H Fx LR:= ⟨a.ff.trans b.ff,fun c o n h=>b.hh c o n (a.hh c o n h),fun c o g f=>by
 by_cases e:c=kp;.simp_all
 .exact b.nw c o (a.nw c o g f) (a.hh c o e f)⟩
theorem qs.ext(k:qs K c d L F H x kp dx lv kvs)(e:Ext F H F' H'):qs K c d L F' H' x kp dx lv kvs:= ⟨e.fh,e.hh _ _ k.hx,e.hh _ _ k.hk,e.nw _ _ k.fx k.hx,e.nw _ _ k.fk k.hk,Rep.mono e.ff _ k.rl,fun p a=>let⟨_,f,b⟩:=k.good p a;⟨_,f,Rep.mono e.ff _ b⟩,k.emp⟩
theorem Ai(s:aD F H)(n:g.length=e.length)(f:∀(i:Nat)(t:Sl),e[i]?=some t->t=.no\/∃dd u,t=.v dd/\g[i]?=some (some u)/\Rep K F dd u):aA K [] F H F H g e:=by
 have k:∀i:Nat,Sl.own e[i]?=false:=fun i=>by cases q:e[i]? with |none=>rfl |some t=>rcases f i t q with rfl|⟨dd,u,rfl,_⟩<;>rfl
 refine⟨.refl s,n,fun i=>?_,fun i j a _ h _ _ _=>by grind,fun y o=>(by cases o),fun i T h=>by have:=k i;rw[h] at this;cases this⟩;cases q:e[i]? with |none=>trivial |some t=>
  rcases f i t q with rfl|⟨dd,u,rfl,m,l⟩;.trivial
  .exact⟨u,m,l⟩
end
variable(K:Kx)(c:Nat)(d:Int->Int->Int)(L:D) in
def tW(m:Nat):Sp:=fun j H Q _=>∃(x e h r:Addr) (i:V) (F:Hp) (b:List (List Key×V)) (rest:List Int),j=[.ref x,.ref r]/\qs K c d L F H x e h i b/\Rep K F (.tup (rest.map .int)) (.ref r)/\rest.length=2*m/\uo L d rest/\b.length+cn m<=100000/\ ∀(v:V)(g f:Hp)(a:List (List Key×V)),rC e F H g f->qs K c d L g f x e h i a->a.length<=b.length+cn m->Rep K g (cQ (m5 d m rest)) v->Q v f
variable(K:Kx)(c:Nat)(d:Int->Int->Int)(L:D) in
def vf(m:Nat):Sp:=fun j H Q _=>∃(x e h r:Addr) (i:V) (F:Hp) (b:List (List Key×V)) (rest:List Int) (k:Nat),j=[.ref x,.ref r,.int k]/\qs K c d L F H x e h i b/\Rep K F (.tup (rest.map .int)) (.ref r)/\rest.length=2*(m+1)/\uo L d rest/\1<=k/\k<rest.length/\b.length+cn m<=100000/\ ∀(v:V)(g f:Hp)(a:List (List Key×V)),rC e F H g f->qs K c d L g f x e h i a->a.length<=b.length+cn m->Rep K g (cQ (tV d (m5 d m) rest k)) v->Q v f
section
variable{K:Kx}{XO:cX}{E:L2.St->XK}
def lJ(me:En->R D)(ml mh:En->R (Option Int))(a:En):R D:=(me a).bind fun d=>(ml a).bind fun c=>(mh a).bind fun b=>(R.of (Ex d)).bind fun l=>dt (HT.eY l.length 0 c=0/\HT.eY l.length l.length b=l.length) .no (.ok (.tup (cutD l c b)))
theorem Cb(h:kP K XO E s me)(y:SO K XO E x ml)(t:SO K XO E C mh):SE K XO E (wA (rf K.f) s x C) (lJ me ml mh):=by
 intro M U L F H S X Q I a;refine h _ _ _ F H _ _ _ I (a.bind.imp fun d Z N f k v r=>?_);refine y _ _ _ _ _ _ _ _ (I.grow f) (k.bind.imp fun n F2 Y e o=>(t _ _ _ _ _ _ _ _ ((I.grow f).grow e) (o.bind.imp fun m T J c b=>?_)));cases d with |tup l=>
  have A:=r;obtain⟨p,z,rfl,w,i⟩:=A;change fH E _ _ _ _ _ (dt _ _ _) at b;unfold dt at b;split at b;.exact b.elim
  .have B:=i.length;refine⟨p,_,rfl,.inl (.inl (c.hh _ _ (e.hh _ _ (f.fh _ _ w)))),by grind,fun q g=>?_⟩;refine b _ _ (.new c.fh g) _ (⟨q,_,rfl,b9,?_⟩);have j:=(i.mono (e.ff.trans c.ff)).mono (show aD _ (upd _ q (.tup (nU z n m))) from aD.upd (c.fh.free g));generalize upd _ q _=G at j⊢;unfold nU cutD;rw[B];exact(j.drop _).take _ |_=>exact b.elim
end
section
variable{K:Kx}{c m:Nat}{d:Int->Int->Int}{L:D}{E:XK}
def Fy(K:Kx)(c:Nat)(sp:Sp)(E:XK):TS:= iM (fD (xM (K.ca c) "best" sp [] E (bh 0) (dE (iN (Ab K.f) (wA (rf K.f) (bh 1) (vD (tC (.int 1))) (vD (bh 2))) (wA (rf K.f) (bh 1) (vD (iN (mO fun i j=>.int (i+j)) (bh 2) (tC (.int 1)))) A_)) bZ)) (jE 3)) (iM (fD (lF (dE (iN (ka K.f) (bh 1) (tC (.int 0))) (dE (iN (ka K.f) (bh 1) (bh 2)) bZ))) (jE 4)) (jD (lF (dE (iN (mO fun i j=>.int (i+j)) (iN (nV K.f) (iN (nV K.f) (pX K.f (bh 0) "lengths") (iN (ka K.f) (bh 4) (tC (.int 0)))) (iN (ka K.f) (bh 4) (tC (.int 1)))) (iN (ka K.f) (bh 3) (tC (.int 0)))) (dE (iN (Ab K.f) (lF (dE (bh 4) bZ)) (iN (ka K.f) (bh 3) (tC (.int 1)))) bZ)))))
abbrev vT:cX:=fun _ _ _ _ _=>False
abbrev vU:L2.St->XK:=fun _ _ _ _=>False
theorem xb(n z k:Nat)(h:k<=n):HT.eY n z (some (k:Int))=k:=by show(if k<0 then((k:Int)+n).toNat else min _ n)=k;grind
theorem LS{rest:List Int}(h1:1<=k)(h2:k<rest.length)(h3:rest.length<=1000): m2 wZ (lJ (ag 1) (cz (mC (.int 1))) (cz (af 2))) (lJ (ag 1) (cz (m2 bo (ag 2) (mC (.int 1)))) bG) [s0,.v (.tup (rest.map .int)),.v (.int k),s3,s4]=.ok (.tup ((cV rest k).map .int)):=by
 have g:lJ (ag 1) (cz (mC (.int 1))) (cz (af 2)) [s0,.v (.tup (rest.map .int)),.v (.int k),s3,s4]=.ok (.tup (((rest.drop 1).take (k-1)).map .int)):=by have f:=xb (rest.map D.int).length 0 1 (by grind);have b:=xb (rest.map D.int).length (rest.map D.int).length k (by grind);have a:HT.eY (rest.map D.int).length 0 (some 1)=1:=f;simp only[lJ,ag,cz,mC,af,ec,c6,R.aC,EW,KO,R.bj];rw[dt,ao (by lia)];unfold cutD;rw[a,b,lR,jU]
 have h:lJ (ag 1) (cz (m2 bo (ag 2) (mC (.int 1)))) bG [s0,.v (.tup (rest.map .int)),.v (.int k),s3,s4]=.ok (.tup ((rest.drop (k+1)).map .int)):=by have f:=xb (rest.map D.int).length 0 (k+1) (by grind);have a:HT.eY _ 0 (some ((k:Int)+1))=k+1:=f;have b:HT.eY (rest.map D.int).length (rest.map D.int).length none=(rest.map _).length:=rfl;simp only[lJ,ag,cz,mC,bG,oG,ec,c6,R.aC,tN,EW,KO,R.bj];rw[dt,ao (by lia)];unfold cutD;rw[a,b,jU,kF (by simp)]
 have e:wZ (.tup (((rest.drop 1).take (k-1)).map .int)) (.tup ((rest.drop (k+1)).map .int))=some (.tup ((cV rest k).map .int)):=by show dt _ _ _=_;rw[gq (by simp[aI,gB,iv,fu];lia),cV,dC]
 simp_all
theorem LU:∀(l:List BP)(m:BP),ot l m∈m::l |[],m=>by simp[ot] |t::l,m=>by unfold ot;have:=LU l (if ve (cQ t) (cQ m)=true then t else m);split at this<;>simp[aR] at this⊢<;>grind
theorem Fz(d:Int->Int->Int):∀(m:Nat)(rest:List Int),(m5 d m rest).2.length<=m
 |0,_=>by simp[m5] |m+1,rest=>by
  have a:∀b∈(List.range (rest.length-1)).map fun j=>tV d (m5 d m) rest (j+1),b.2.length<=m+1:=fun b g=>by obtain⟨j,_,rfl⟩:=c8.mp g;simp[tV,ef];have:=Fz d m (cV rest (j+1));omega
  unfold m5;cases q:(List.range _).map _ with |nil=>simp[least] |cons b l=> rw[q] at a;exact a _ (LU l b)
theorem Uk(hC:lX K.f (K.ca c))(hL:cH K.f (K.ca c) "lengths"){E E':XK}(hm:m<=6)(h:vf K c d L m vs H Q E):Fy K c (tW K c d L m) E' {nx:=fun _ H'=>Q .non H',rt:=Q} (L2.start ["self","rest","k","others","pair"] vs) H:=by
 obtain⟨x,kp,dx,r,lv,F,Y,rest,k,rfl,hK,hr,hl,ht,k1,k2,hn,fin⟩:=h;have st:L2.start ["self","rest","k","others","pair"] [V.ref x,.ref r,.int k]=[some (.ref x),some (.ref r),some (.int k),none,none]:=rfl;rw[st];refine⟨.ref x,rfl,x,dx,_,rfl,hK.hx,rfl,?_⟩;have I1:aA K [] F H F H [some (.ref x),some (.ref r),some (.int k),none,none] [.no,.v (.tup (rest.map .int)),.v (.int k),.no,.no]:=Ai hK.fh rfl fun i t q=>by match i,q with |0,q=>simp_all |1,q=>cases q;simp_all |2,q=>cases q;exact .inr ⟨_,_,rfl,rfl,by simp only[Rep]⟩ |3,q=>cases q;simp_all |4,q=>cases q;simp |n+5,q=>cases q
 refine az (XO:=vT) (E:=vU) (Fq (K:=K)) (Cb ar (fP aS) (fP aN)).r (Cb ar (fP (az fO ar aS.r)) gY).r [] F H F H _ _ _ I1 ?_;rw[LS k1 k2 (by lia)];intro F1 H1 e1 v1 r1;have A:=r1;simp only[Rep] at A;obtain⟨r0,ws,rfl,_,_⟩:=A;have cl:=Fw k1 k2;refine⟨x,kp,dx,r0,lv,F1,Y,cV rest k,rfl,hK.ext e1,r1,by lia,fun i hi j hj=>ht i (Ca i hi) j (Ca j hj),hn,fun v2 S N G s2 K2 LV g=>?_⟩;have X:rest[0]?=some (rest.getD 0 0):=by rw[bN,bx (by lia)];rfl
 have gk:rest[k]?=some (rest.getD k 0):=by rw[bN,bx k2];rfl
 obtain⟨a,B⟩:∃a,a=rest.getD 0 0:=⟨_,rfl⟩;obtain⟨b,I⟩:∃b,b=rest.getD k 0:=⟨_,rfl⟩;rw[<-B] at X;rw[<-I] at gk;obtain⟨f,w⟩:∃f,f=m5 d m (cV rest k):=⟨_,rfl⟩;rw[<-w] at g;have M:=e1.ff.trans s2.ff;have I2:aA K [] S N S N [some (.ref x),some (.ref r),some (.int k),some v2,none] [.no,.v (.tup (rest.map .int)),.v (.int k),.v (cQ f),.no]:=Ai K2.fh rfl fun i t q=>by match i,q with |0,q=>cases q;exact .inl rfl |1,q=>cases q;exact .inr ⟨_,_,rfl,rfl,Rep.mono M _ hr⟩ |2,q=>cases q;exact .inr ⟨_,_,rfl,rfl,by simp only[Rep]⟩ |3,q=>cases q;exact .inr ⟨_,_,rfl,rfl,g⟩ |4,q=>cases q;exact .inl rfl |n+5,q=>cases q
 dsimp only[jE,iM,fD,List.set_cons_succ,List.set_cons_zero];refine lb (XO:=vT) (E:=vU) (cJ (az fm ar aS.r) (cJ (az fm ar ar) gf)) [] S N S N _ _ _ I2 ?_;have pe:bL (ai (m2 aL (ag 1) (mC (.int 0))) (ai (m2 aL (ag 1) (ag 2)) ae)) [.no,.v (.tup (rest.map .int)),.v (.int k),.v (cQ f),.no]=.ok (mZ (a,b)):=by have i0:aL (.tup (rest.map .int)) (.int 0)=some (.int a):=eL (k:=0) (by rw[bB,X];rfl);have i1:aL (.tup (rest.map .int)) (.int k)=some (.int b):=eL (by rw[bB,gk];rfl);simp[bL,ai,ae,ag,mC,i0,i1,sizeLine,mZ]
 rw[pe];intro u l U v4 r4;have J:=K2.ext U;have T:aA K [] u l u l [some (.ref x),some (.ref r),some (.int k),some v2,some v4] [.no,.v (.tup (rest.map .int)),.v (.int k),.v (cQ f),.v (mZ (a,b))]:=Ai J.fh rfl fun i t q=>by match i,q with |0,q=>cases q;exact .inl rfl |1,q=>cases q;exact .inr ⟨_,_,rfl,rfl,Rep.mono (M.trans U.ff) _ hr⟩ |2,q=>cases q;exact .inr ⟨_,_,rfl,rfl,by simp only[Rep]⟩ |3,q=>cases q;exact .inr ⟨_,_,rfl,rfl,Rep.mono U.ff _ g⟩ |4,q=>cases q;exact .inr ⟨_,_,rfl,rfl,r4⟩ |n+5,q=>cases q
 obtain⟨C,Z,Ul⟩:=ht a (eg X) b (eg gk);refine⟨.ref x,rfl,x,_,dx,_,lv,rfl,J.hx,hC,hL,rfl,?_⟩;refine az (XO:=vT) (E:=vU) fm ar aS.r [] u l u l _ _ _ T ?_;have Um:m2 aL (ag 4) (mC (.int 0)) [.no,.v (.tup (rest.map .int)),.v (.int k),.v (cQ f),.v (mZ (a,b))]=.ok (.int a):=rfl;have Uo:m2 aL (ag 4) (mC (.int 1)) [.no,.v (.tup (rest.map .int)),.v (.int k),.v (cQ f),.v (mZ (a,b))]=.ok (.int b):=rfl;have v30:m2 aL (ag 3) (mC (.int 0)) [.no,.v (.tup (rest.map .int)),.v (.int k),.v (cQ f),.v (mZ (a,b))]=.ok (.int f.1):=rfl;rw[Um];intro F4 H4 o u4 w4;refine cE F4 H4 lv u4 L (.int a) C _ o.fh ((Rep.mono o.ff _ J.rl).top o.fh) (w4.top o.fh) Z fun u5 F5 H5 e5 w5=>?_;refine az (XO:=vT) (E:=vU) fm ar aS.r [] u l F5 H5 _ _ _ (T.grow (o.trans e5)) ?_;rw[Uo];intro F6 H6 y u6 w6;refine cE F6 H6 u5 u6 C (.int b) (.int (d a b)) _ y.fh ((Rep.mono y.ff _ w5).top y.fh) (w6.top y.fh) Ul fun u7 F7 H7 e7 w7=>?_;refine az (XO:=vT) (E:=vU) fm ar aS.r [] u l F7 H7 _ _ _ (T.grow (((o.trans e5).trans y).trans e7)) ?_;rw[v30];intro F8 H8 e8 u8 w8;simp only[Rep] at w7 w8;subst w7 w8;refine⟨d a b,f.1,rfl,rfl,?_⟩;have z:=(((o.trans e5).trans y).trans e7).trans e8;refine az (XO:=vT) (E:=vU) (Fq (K:=K)) (lb (cJ aN gf)).r (az fm ar aS.r).r [] u l F8 H8 _ _ _ (T.grow z) ?_;have ol:f.2.length<=m:=by rw[w];exact Fz ..
 have vc:m2 wZ (bL (ai (af 4) ae)) (m2 aL (ag 3) (mC (.int 1))) [.no,.v (.tup (rest.map .int)),.v (.int k),.v (cQ f),.v (mZ (a,b))]=.ok (.tup (((a,b)::f.2).map mZ)):=by
  have t4:bL (ai (af 4) ae) [.no,.v (.tup (rest.map .int)),.v (.int k),.v (cQ f),.v (mZ (a,b))]=.ok (.tup [mZ (a,b)]):=by simp[bL,ai,ae,af,sizeLine]
  have t3:m2 aL (ag 3) (mC (.int 1)) [.no,.v (.tup (rest.map .int)),.v (.int k),.v (cQ f),.v (mZ (a,b))]=.ok (.tup (f.2.map mZ)):=rfl;have e:wZ (.tup [mZ (a,b)]) (.tup (f.2.map mZ))=some (.tup (((a,b)::f.2).map mZ)):=by show dt _ _ _=_;rw[gq (by simp only[aI,ef,nM,fu];lia)];rfl
  show R.bind (bL (ai (af 4) ae) _) _=_;rw[t4,R.aC];show R.bind (m2 aL (ag 3) (mC (.int 1)) _) _=_;rw[t3,R.aC,e,R.bj]
 rw[vc];intro F9 H9 e9 u9 w9;refine⟨by show 2<=sizeLine;decide,fun p hp=>?_⟩;have s:=z.trans e9;have x9:Ext F9 H9 (upd F9 p (.tup [.int (d a b+f.1),u9])) (upd H9 p (.tup [.int (d a b+f.1),u9])):=.new e9.fh hp;have K9:=(J.ext s).ext x9;refine fin (.ref p) _ _ G ((((rC.of e1).trans s2 K2.fk).trans (rC.of (U.trans s)) (J.ext s).fk).trans (rC.of x9) K9.fk) K9 LV ?_;have eb:tV d (m5 d m) rest k=(d a b+f.1,(a,b)::f.2):=by unfold tV;rw[<-B,<-I,<-w]
 rw[eb];unfold cQ;simp only[Rep];refine⟨p,_,rfl,b9,.cons (by simp only[Rep]) (.cons (Rep.mono x9.ff _ w9) .nil)⟩
end
section
variable{K:Kx}{c m:Nat}{d:Int->Int->Int}{L:D}
def FA(K:Kx):TS:=iM (uC (tB (Bf (bh 1) (pX K.f (bh 0) "known"))) ID AZ) (jD (zm (pX K.f (bh 0) "known") (bh 1)))
def Up(K:Kx)(c:Nat)(sp:Sp)(E:XK):TE:=vG (A2 (dE (tC (.int 1)) (dE (k9 (fun b H Q=>∃p a,b=[.ref p]/\(gh K.f H p a\/jo K.f H p a)/\Q (.int a.length) H) (dE (bh 1) bZ)) bZ))) [0,1] 1 (jE 2) none (xM (K.ca c) "best_with" sp [] E (bh 0) (dE (bh 1) (dE (bh 2) bZ)))
def Uq(K:Kx)(c:Nat)(sp:Sp)(E:XK):TS:=iM (uC (tB (Bf (bh 1) (pX K.f (bh 0) "known"))) (Bg (pX K.f (bh 0) "known") (bh 1) (k9 (LP K) (dE (Up K c sp E) bZ))) AZ) (jD (zm (pX K.f (bh 0) "known") (bh 1)))
theorem Ur{kvs:List (List Key×V)}(h:di kvs k=some v):∃e∈kvs,e.1=k/\e.2=v:=by obtain⟨e,a,b⟩:=mv.mp h;have f:=List.find?_some a;exact⟨e,List.mem_of_find?_eq_some a,by simp_all,b⟩
theorem Us{kvs:List (List Key×V)}(h:e∈putK kvs k v):e∈kvs\/e=(k,v):=by
  unfold putK at h;split at h
  . obtain⟨a,b,rfl⟩:=c8.mp h;split;.simp_all
    .exact .inl b
  . rcases cD.mp h with z|z;.grind
    .exact .inr (bc.mp z)
theorem Cc{a b:List Int}(h:a.map (Sum.inl:Int->Key)=b.map Sum.inl):a=b:=by induction a generalizing b with
 |nil=>cases b with |nil=>rfl |cons _ _=>cases h
 |cons x a g=>cases b with |nil=>cases h |cons y b=> grind
theorem Cd{rest:List Int}(s:aD F H)(h:Rep K F (.tup (rest.map .int)) (.ref r)):H r=some (.tup ((rest.map (Sum.inl:Int->Key)).map kV)):=by obtain⟨a,g,e,b,f⟩:=h;cases e;rw[ql f] at b;rw[s _ _ b,bX];rfl
theorem LW{rest:List Int}(k:qs K c d L F H x j i o kvs)(l:rest.length=2*m)(h:di kvs (rest.map Sum.inl)=some v):Rep K F (cQ (m5 d m rest)) v:=by obtain⟨e,a,f,n⟩:=Ur h;obtain⟨p,b,g⟩:=k.good e a;have:=Cc (b.symm.trans f);simp_all
theorem qs.side(k:qs K c d L F H x a f i kvs)(h:F p=none)(e:p≠x)(g:p≠a):qs K c d L F (upd H p o) x a f i kvs:= ⟨fun b u q=>by rw[a9 (eF q h)];exact k.fh _ _ q,by rw[a9 (aJ e)];exact k.hx,by rw[a9 (aJ g)];exact k.hk,k.fx,k.fk,k.rl,k.good,k.emp⟩
theorem Ut(e:lX K.f (K.ca c))(i:cH K.f (K.ca c) "known")(h:tW K c d L 0 vs H Q E):FA K {nx:=fun _ H'=>Q .non H',rt:=Q} (L2.start ["self","rest"] vs) H:=by obtain⟨x,s,p,r,t,F,o,rest,rfl,a,n,u,q,w,b⟩:=h;have l:=i7.mp (by omega);subst l;obtain⟨v,f⟩:=a.emp;have j:=Cd a.fh n;have g:=gp.t (k:=[]) a.hk j;rw[f] at g;refine⟨_,rfl,_,rfl,x,_,_,_,_,rfl,a.hx,e,i,rfl,_,_,rfl,g,_,rfl,?_⟩;exact⟨_,rfl,x,_,_,_,_,rfl,a.hx,e,i,rfl,_,rfl,_,v,rfl,g,b v F H _ ⟨.refl _,fun _ _ _ h=>h,fun _ _ h _=>h⟩ a (by lia) (LW a rfl f)⟩
theorem Uu(a b:BP):qr 8 (toPy 8 (cQ a)) (toPy 8 (cQ b))=true:=by show((List.range 2).all _)=true;rw[d_];intro j k;have e:=cF.mp k;match j,e with
 |0,_=>rfl |1,_=>
  show((List.range _).all _)=true;rw[d_];intro i n;have f:=cF.mp n;simp[aI] at f;have g:∀(l:List _),i<l.length->((l.map mZ).map (toPy 6)).getD i .none=toPy 6 (mZ (l.getD i (0,0))):=fun l h=>by rw[bN,bB,bB,bN,bx h];rfl
  rw[g _ (by lia),g _ (by lia)];rfl
theorem Uv(b:BP):fE 8 (cQ b)=true:=by show([D.int _,.tup _]).all _=true;simp only[il,List.all_nil,Bool.and_true];show(true&&(b.2.map _).all _)=true;rw[Bool.true_and,f9,d_];intro x _;rfl
theorem Uw(l:List BP):xa (l.map cQ)=true:=by unfold xa;rw[d_];intro x e;obtain⟨a,_,rfl⟩:=c8.mp e;rw[iY];refine⟨Uv a,?_⟩;rw[d_];intro y f;obtain⟨b,_,rfl⟩:=c8.mp f;exact Uu a b
theorem FC(hC:lX K.f (K.ca c))(hN:cH K.f (K.ca c) "known")(hm:m<=6)(h:tW K c d L (m+1) vs H Q E):Uq K c (vf K c d L m) E' {nx:=fun _ H'=>Q .non H',rt:=Q} (L2.start ["self","rest"] vs) H:=by obtain⟨x,f,I,r,lv,F,B,rest,rfl,A,hr,hl,ht,hn,fin⟩:=h;have hk:=Cd A.fh hr;have g:=gp.t (k:=rest.map Sum.inl) A.hk hk;refine⟨.ref r,rfl,.ref x,rfl,x,_,I,_,.ref f,rfl,A.hx,hC,hN,rfl,f,_,rfl,g,_,rfl,?_⟩;cases q:di B (rest.map Sum.inl) with |some v=> rw[q] at g;show(if false=true then _ else _);rw[ao cW];refine⟨.ref x,rfl,x,_,I,_,.ref f,rfl,A.hx,hC,hN,rfl,.ref r,rfl,f,v,rfl,g,?_⟩;exact fin v F H B ⟨.refl _,fun _ _ _ h=>h,fun _ _ h _=>h⟩ A (by lia) (LW A hl q) |none=>
    show(if true=true then _ else _);rw[ak rfl];obtain⟨n,Ux⟩:∃n,n=2*m+1:=⟨_,rfl⟩;have Y:=hr;simp only[Rep] at Y;obtain⟨r0,ws,er,Uy,Uz⟩:=Y;cases er;have wl:=Uz.length;rw[aI] at wl;have cn1:cn (m+1)=1+n*cn m:=by rw[Ux];rfl
    refine⟨.ref r,rfl,r,ws,rfl,.inr (.inl (.inl (A.fh _ _ Uy))),1,_,rfl,⟨by decide,by decide,by lia,by lia⟩,fun D J=>?_⟩;have nn:((ws.length:Int)-1).toNat=n:=by lia
    rw[nn];have Dx:D≠x:=fun e=>by rw[e,A.hx] at J;cases J
    have Dk:D≠f:=fun e=>by rw[e,A.hk] at J;cases J
    refine⟨fun i mm ys Z X=>∃(o:Option V) (s:Hp) (a:List (List Key×V)),Z=[some (.ref x),some (.ref r),o]/\X D=some (.lst ys)/\s D=none/\qs K c d L s X x f I lv a/\rC f F H s X/\aF K s ((List.range i).map fun j=>cQ (tV d (m5 d m) rest (j+1))) ys/\a.length<=B.length+i*cn m/\i<=n/\mm=n-i, ⟨n,none,F,B,rfl,b9,A.fh.free J,A.side (A.fh.free J) Dx Dk,⟨.refl _,fun b u _ q=>by rw[a9 (eF q J)];exact q,fun _ _ h _=>h⟩,.nil,by lia,by lia,rfl⟩,?_⟩;rintro i mm ys Z X ⟨o,s,a,rfl,G,UA,p,S,R2,l2,i2,rfl⟩;refine⟨G,?_⟩;rcases Nat.lt_or_ge i n with hi|hi
    . refine .inr ⟨hi,fun M lV H'=>∃(o:Option V) (s:Hp) (a:List (List Key×V)),lV=[some (.ref x),some (.ref r),o]/\H' D=some (.lst M)/\s D=none/\qs K c d L s H' x f I lv a/\rC f F H s H'/\aF K s ((List.range (i+1)).map fun j=>cQ (tV d (m5 d m) rest (j+1))) M/\a.length<=B.length+(i+1)*cn m, fun M lV H' ⟨o',F',T,w1,w2,w3,w4,w5,w6,w7⟩=>⟨n-(i+1),by lia,o',F',T,w1,w2,w3,w4,w5,w6,w7,hi,rfl⟩,?_⟩;rintro y H' ⟨rfl,rfl⟩;dsimp only[jE,DW,List.set_cons_succ,List.set_cons_zero];rw[ak rfl];have rr:Rep K s (.tup (rest.map .int)) (.ref r):=Rep.mono S.ff _ hr;have mul:(i+1)*cn m=i*cn m+cn m:=by grind
      have mle:i*cn m+cn m<=n*cn m:=by rw[<-mul];exact oZ _ (by lia)
      refine⟨.ref x,rfl,x,I,_,rfl,p.hx,rfl,.ref r,rfl,.int (1+i),rfl,x,f,I,r,lv,s,a,rest,i+1,?_,p,rr,hl,ht,by lia,by lia,by lia,fun v F3 H3 U s3 K3 l3 r3=>?_⟩;.show[V.ref x,.ref r,.int (1+(i:Int))]=_;rw[show(1:Int)+(i:Int)=((i+1:Nat):Int) by lia]
      . have JV:=s3.hh D _ Dk G;have LX:=s3.nw D _ UA G;have yl:=R2.length;rw[aI,nP] at yl;refine⟨JV,by rw[yl,fu];lia,some (.int (1+i)),F3,U,rfl,b9,LX,K3.side LX Dx Dk,?_,?_,by lia⟩;.have:=S.trans s3 K3.fk;exact⟨this.ff,fun b u n q=>by rw[a9 (eF q J)];exact this.hh b u n q,this.nw⟩
        .rw[List.range_succ,dC];exact(R2.mono s3.ff).append (.cons r3 .nil)
    . refine .inl ⟨hi,?_⟩;have ei:i=n:=by lia
      subst ei;obtain⟨ms,N⟩:∃ms,ms=(List.range i).map fun j=>tV d (m5 d m) rest (j+1):=⟨_,rfl⟩;have em:(List.range i).map (fun j=>cQ (tV d (m5 d m) rest (j+1)))=ms.map cQ:=by rw[N,bX];rfl
      rw[em] at R2;have lm:ms.length=i:=by rw[N,aI,nP]
      cases ms with |nil=>simp at lm;lia |cons b l=>
        refine⟨D,s,ys,cQ b,l.map cQ,rfl,.inl G,p.fh,R2,Uw (b::l),fun j v hv hj=>?_⟩;rw[LQ] at hj;have eb:m5 d (m+1) rest=ot l b:=by show least ((List.range (rest.length-1)).map fun j=>tV d (m5 d m) rest (j+1))=_;rw[show rest.length-1=i by lia,<-N];rfl
        have rv:Rep K s (cQ (m5 d (m+1) rest)) v:=by
          rw[eb,<-hj];have jl:=(cI.mp hv).1;rw[R2.length] at jl;have gd:((b::l).map cQ)[j]?=some (((b::l).map cQ).getD j .non):=by rw[bN,bx jl];rfl
          obtain⟨v',h1,h2⟩:=R2.get gd;rw[hv] at h1;cases h1;exact h2
        have rr:Rep K s (.tup (rest.map .int)) (.ref r):=Rep.mono S.ff _ hr;have C:=Cd p.fh rr;refine⟨.ref x,rfl,x,_,I,_,.ref f,rfl,p.hx,hC,hN,rfl,.ref r,rfl,f,_,rfl,mQ.t p.hk C (by rw[fu];lia),?_⟩;have xk:x≠f:=fun e=>by have h1:=p.hx;rw[e,p.hk] at h1;cases h1
        have rk:r≠f:=fun e=>by rw[e,p.hk] at C;cases C
        have UB:rest.map (Sum.inl:Int->Key)≠[]:=fun e=>by have:=bT List.length e;simp at this;rw[this] at hl;simp at hl
        have K4:qs K c d L s (upd X f (.dT (putK a (rest.map Sum.inl) v))) x f I lv (putK a (rest.map Sum.inl) v):= ⟨fun b u q=>by rw[a9 (eF q p.fk)];exact p.fh _ _ q,by rw[a9 xk];exact p.hx,b9,p.fx,p.fk,p.rl,fun e he=>by
            rcases Us he with z|z;.exact p.good e z
            .rw[z];refine⟨rest,rfl,?_⟩;rw[show rest.length/2=m+1 by lia];exact rv,by obtain⟨w,hw⟩:=p.emp;exact⟨w,by rw[Jv,ao (fun e=>UB e.symm)];exact hw⟩⟩;have gd:=gp.t (k:=rest.map Sum.inl) K4.hk (by rw[a9 rk];exact C);rw[Jv,ak rfl] at gd;refine⟨.ref x,rfl,x,_,I,_,.ref f,rfl,K4.hx,hC,hN,rfl,.ref r,rfl,f,v,rfl,gd,?_⟩;refine fin v s _ _ ⟨S.ff,fun b u n q=>by rw[a9 n];exact S.hh b u n q,S.nw⟩ K4 ?_ rv;have:=DK a (rest.map Sum.inl) v;lia
end
end PM
namespace L2
open PySem PySem.Spec PyProof.Rows
section
variable{P:Program}{w:World}{K:PySem.W.Frag}{mg:Str->Option Value}{base:Heap}{CX:jt}{k:Nat}{m:Str}{C:Addr}{ps:List Str}{sp sp':Sp}
theorem kh.imp(G:kh P w K mg base CX k m C ps sp)(h:∀vs H Q E,sp' vs H Q E->sp vs H Q E):kh P w K mg base CX k m C ps sp':=by obtain⟨f,c,a,b,F,B⟩:=G.ex;exact⟨f,_,a,b,F.imp h,B⟩
end
end L2
namespace PM
open PySem L2
section
variable{K:Kx}{c m:Nat}{d:Int->Int->Int}{L:D}
def UC(K:Kx):TS:=iM (wt K.f (bh 0) (bh 1) "lengths") (wt K.f (bh 0) (Fu (lF bZ) (lF (dE (tC (.int 0)) (dE (lF bZ) bZ)))) "known")
variable(K:Kx)(c:Nat)(d:Int->Int->Int)(L:D) in
def Aj:Sp:=fun j H Q _=>∃(x e:Addr) (F a:Hp) (g:V),j=[.ref x,g]/\H=upd (upd a e (.own x)) x (.ins (K.ca c) e [])/\a x=none/\a e=none/\e≠x/\aD F a/\Rep K F L g/\ ∀(h f:Hp)(i:Addr)(b:List (List Key×V)),Ext F a h f->qs K c d L h f x i e g b->b.length<=1->a i=none->Q .non f
theorem FD(Y:lX K.f (K.ca c))(hL:cH K.f (K.ca c) "lengths")(hN:cH K.f (K.ca c) "known")(h:Aj K c d L vs H Q E):UC K {nx:=fun _ H'=>Q .non H',rt:=Q} (L2.start ["self","lengths"] vs) H:=by
  obtain⟨x,f,F,t,v,rfl,rfl,C,B,ne,s,rl,J⟩:=h;refine⟨v,rfl,.ref x,rfl,x,_,f,[],rfl,b9,Y,hL,by decide,fun g a=>?_⟩;have e1:upd (upd (upd t f (.own x)) x (.ins (K.ca c) f [])) x (.ins (K.ca c) f (hI "lengths" v []))=upd (upd t f (.own x)) x (.ins (K.ca c) f [("lengths",v)]):=by rw[P6];rfl
  rw[e1] at a⊢;have k:g≠x:=fun e=>by rw[e,b9] at a;cases a
  rw[a9 k] at a;have T:g≠f:=fun e=>by rw[e,b9] at a;cases a
  rw[a9 T] at a;have M:Ext F t F (upd (upd (upd t f (.own x)) x (.ins (K.ca c) f [("lengths",v)])) g (.dT [])):=by have a1:Ext F t F (upd t f (.own x)):=.eM s B;have U:=a1.trans (.eM (o:=.ins (K.ca c) f [("lengths",v)]) a1.fh (by rw[a9 (aJ ne)];exact C));exact U.trans (.eM (o:=.dT []) U.fh (by rw[a9 k,a9 T];exact a))
  refine⟨by decide,fun p y=>?_⟩;have S:Ext F t (upd F p (.tup [])) (upd _ p (.tup [])):=M.trans (.new M.fh y);refine⟨by decide,fun q r=>⟨by show 2<=sizeLine;decide,fun w i=>?_⟩⟩;have X:=S.trans (.new (o:=.tup []) S.fh r);have u:=X.trans (.new (o:=.tup [.int 0,.ref q]) X.fh i);have pq:p≠q:=fun e=>by rw[<-e,b9] at r;cases r
  have pw:p≠w:=fun e=>by rw[<-e,a9 pq,b9] at i;cases i
  have qw:q≠w:=fun e=>by rw[<-e,b9] at i;cases i
  have j:g≠p:=fun e=>by rw[<-e,b9] at y;cases y
  have I:g≠q:=fun e=>by rw[<-e,a9 j,b9] at r;cases r
  have N:g≠w:=fun e=>by rw[<-e,a9 I,a9 j,b9] at i;cases i
  have A:x≠p:=fun e=>by rw[<-e,a9 (aJ k),b9] at y;cases y
  have G:x≠q:=fun e=>by rw[<-e,a9 A,a9 (aJ k),b9] at r;cases r
  have Z:x≠w:=fun e=>by rw[<-e,a9 G,a9 A,a9 (aJ k),b9] at i;cases i
  refine⟨by rw[a9 N,a9 I,a9 j,b9],[],p,.ref w,rfl,by rw[a9 pw,a9 pq,b9];rfl,.ref x,rfl,x,K.ca c,f,[("lengths",v)],rfl,?_,Y,hN,by simp,?_⟩;.rw[a9 (aJ k),a9 Z,a9 G,a9 A,a9 (aJ k),b9]
  . have fx:F x=none:=s.free C;have fk:F g=none:=s.free a;have n:upd (upd (upd F p (.tup [])) q (.tup [])) w (.tup [.int 0,.ref q]) x=none:=by rw[a9 Z,a9 G,a9 A];exact fx
    have l:upd (upd (upd F p (.tup [])) q (.tup [])) w (.tup [.int 0,.ref q]) g=none:=by rw[a9 N,a9 I,a9 j];exact fk
    refine J (upd (upd (upd F p (.tup [])) q (.tup [])) w (.tup [.int 0,.ref q])) _ g [([],.ref w)] ?_ ⟨?_,?_,?_,n,l,Rep.mono u.ff _ rl,?_,⟨.ref w,rfl⟩⟩ (aB 1) a
    . refine⟨u.ff,fun b o z=>?_,fun b o z=>?_,u.nw⟩;.rw[a9 (eF z C),a9 (eF z a)];exact u.hh b o z
      .rw[a9 (eF z n),a9 (eF z l)];exact u.fh b o z
    .intro b o z;rw[a9 (eF z n),a9 (eF z l)];exact u.fh b o z
    .rw[b9];rfl
    .rw[a9 k,b9]
    .intro e he;rw[bc.mp he];refine⟨[],rfl,?_⟩;exact⟨w,_,rfl,b9,.cons (by rfl) (.cons (by exact⟨q,[],rfl,by rw[a9 qw,b9],.nil⟩) .nil)⟩
variable(K:Kx)(c:Nat) in
def xc(_:Unit):Sp:=fun a H Q E=>∃(d:Int->Int->Int) (L:D),Aj K c d L a H Q E
variable(K:Kx)(c:Nat) in
def tX(m:Nat):Sp:=fun a H Q E=>∃(d:Int->Int->Int) (L:D),tW K c d L m a H Q E
variable(K:Kx)(c:Nat) in
def Ak(m:Nat):Sp:=fun a H Q E=>∃(d:Int->Int->Int) (L:D),vf K c d L m a H Q E
variable(K:Kx)(c:Nat) in
def xf(_:Unit):Sp:=fun a H Q E=>∃m,m<=6/\tX K c m a H Q E
def UD(K:Kx)(c:Nat)(e f:XK):TE:= k9 (fun b H Q=>∃p a,b=[.ref p]/\(gh K.f H p a\/jo K.f H p a)/\∀l,H l=none->Q (.ref l) (upd H l (.lst a))) (dE (iN (ka K.f) (xM (K.ca c) "best" (xf K c ()) [] f (DB (K.ca c) (xc K c ()) [] e (dE (bh 0) bZ)) (dE (k9 (fun b H Q=>∃p a,b=[.ref p]/\((gh K.f H p a/\∀l,H l=none->Q (.ref l) (upd H l (.tup a)))\/(jo K.f H p a/\Q (.ref p) H))) (dE (k9 E9 (dE (bh 1) bZ)) bZ)) bZ)) (tC (.int 1))) bZ)
def eZ(ns:List Int):List Int:=ns.mergeSort fun a b=>decide (a<=b)
def j_(L:D)(i j:Int):Int:=match(aw L (.int i)).bind fun r=>aw r (.int j) with|some (.int x)=>x|_=>0
def yo(L:D)(ns:List Int):List (Int×Int):=(m5 (j_ L) (ns.length/2) (eZ ns)).2
def Ce(b:En):R D:=match b[(0:Nat)]?,b[(1:Nat)]? with |some (.v L),some (.v (.lst l))=>(match c5 l with|some a=>dt (a.length%2=0/\a.length<=12/\uo L (j_ L) a) (.ok (.lst ((yo L a).map mZ))) .no|none=>.no) |_,_=>.no
theorem UE:∀m,m<=6->cn m<=20000 |0,_=>by decide |1,_=>by decide |2,_=>by decide |3,_=>by decide |4,_=>by decide |5,_=>by decide |6,_=>by decide |n+7,h=>by lia
theorem UG:nY K XO E (UD K c E1 E2) Ce:=by
 intro Λ F0 H0 F H σ δ Q I a;unfold Ce at a;split at a;case h_2=>exact a.elim
 rename_i L l q0 q1;split at a;case h_2=>exact a.elim
 rename_i f qn;rw[rq qn] at q1;unfold dt at a;split at a;case isFalse=>exact a.elim
 rename_i hc;obtain⟨G,h12,ht⟩:=hc;have s0:=I.slot 0;rw[q0] at s0;obtain⟨B,e0,r0⟩:=s0;have s1:=I.slot 1;rw[q1] at s1;obtain⟨u1,e1,r1⟩:=s1;obtain⟨s,vs,rfl,g,y⟩:=r1;rw[ql y] at g;refine⟨B,e0,fun x S hx p ne=>⟨j_ L,L,x,S,F,H,B,rfl,rfl,hx,p,ne,I.ext.fh,r0,fun r N kp U k X kl hkp=>⟨rfl,x,S,_,rfl,X.hx,rfl,?_⟩⟩⟩;have u:Rd N s (.lst (f.map V.int)):=aD.rd (k.ff.trans k.fh) (by first|exact g|exact .inl g);refine⟨.ref s,e1,s,f,rfl,u,by lia,fun w hw=>⟨w,(eZ f).map V.int,rfl,.inl ⟨.inl (.inl b9),fun t T=>?_⟩⟩⟩;have y1:Ext r N r (upd N w (.lst ((eZ f).map V.int))):=.eM k.fh hw;have Z:=y1.trans (.new (o:=.tup ((eZ f).map V.int)) y1.fh T);have rt:Rep K (upd r t (.tup ((eZ f).map V.int))) (.tup ((eZ f).map .int)) (.ref t):=by exact⟨t,_,rfl,b9,aF.ints⟩
 have sl:(eZ f).length=f.length:=List.length_mergeSort ..;have m6:f.length/2<=6:=by lia
 have cl:=UE _ m6;refine⟨f.length/2,m6,j_ L,L,x,kp,S,t,B,_,U,eZ f,rfl,X.ext Z,rt,by lia,fun i hi j hj=>ht i (sN.mp hi) j (sN.mp hj),by lia,fun v F3 H3 UH M C l3 r3=>?_⟩;have x3:Ext F H F3 H3:=by have z:=k.trans Z;refine⟨z.ff.trans M.ff,fun b o hb=>M.hh b o (fun e=>by simp_all) (z.hh b o hb),C.fh,fun b o h1 G=>M.nw b o (z.nw b o h1 G) (z.hh b o G)⟩
 refine fm _ _ v _ _ (.int 1) _ _ C.fh (r3.top C.fh) rfl rfl fun v4 F4 H4 n r4=>?_;obtain⟨q,ws,rfl,hq,A⟩:=r4;refine⟨q,_,rfl,.inr (.inl (.inl (n.fh _ _ hq))),fun lq h=>?_⟩;have Y:=x3.trans n;exact a _ _ (Y.trans (.eM n.fh h)) _ (n.fh.free h) (Y.hh.free h) ⟨_,b9,A⟩
end
end PM
namespace L2
open PySem PySem.Spec PyProof.Rows
section
variable{prog:Program}{w:World}{K:Type}[DecidableEq K]{knd:KeyKind prog w K}{A:Around}{E:Value->Shared->Prop}{s:Shared}
theorem UI(a:s.TypeIs (.ref v) "dict")(h:Q false s):wpAny (model prog w) A (Builtin.List.listLengthHint (.ref v)) Q E s:=by refine ah (wpAny_specialOf a PySem.F.slot_dict_len.lookup ?_);generalize b:"dict.__len__"=c;subst b;refine ah (mE a (by rw[isSubtype_type];rfl) ?_);exact ah (mL a (au h))
theorem UJ(hh:A.handled=none)(Y:(a==sysModules)=false)(hd:s.heap.DictAt knd a kvs ep)(t:kvs.length<=sizeLine)(S:Addr)(l:Value)(q:Nat)(I:s.heap.get? S=some (va #[] q)) (hR:∀h' tk n c,(∀b o,b≠S->s.heap.get? b=some o->h'.get? b=some o)->h'.get? S=some (va n c)->ItemsOf (fun i x=>∃k y,kvs[i]?=some (k,y)/\knd.is k x=true) n kvs.length->R (.ok (.ret l)) {s with heap:=h',toks:=tk}): wpAny (model prog w) A.in1 (Builtin.List.listExtendWith (.ref S) (.ref a) l) (fun H s'=>match H with|.done f=>R (.ok f) s'|.again M=>M.quiet=true/\codeAny (model prog w) A M R s') (fun e s'=>R (.error e) s') s:=by
 obtain⟨U,es,G,O,_⟩:=id hd;have X:S<s.heap.objs.size:=aQ I;have J:S≠s.heap.objs.size:=bC X;have al:a<s.heap.objs.size:=aQ G;have N:S≠a:=fun e=>by simp_all
 have nf:S∉[s.heap.objs.size,a]:=by simp only[aR,List.not_mem_nil,or_false,not_or];simp_all
 have W:=(Walks.dictKeys (prog:=prog) (w:=w) (A:=A.in1) (knd:=knd) hh s.heap.objs.size a (bC al) kvs ep).toS;have B:∀(h:Heap)(g tk:Nat),h.IsKeyIter s.heap.objs.size a 0 kvs.length ep->(∀b o,b≠S->s.heap.get? b=some o->h.get? b=some o)->h.get? S=some (va #[] g)->codeAny (model prog w) A (.builtin "list.extend.loop" ⟨[.ref S,.ref s.heap.objs.size,l],[]⟩) R {s with heap:=h,toks:=tk}:=by
  intro h g tk z Q d;refine codeAny_extend_loopS W t S nf l kvs.length 0 _ #[] g rfl (cG _) ⟨z,hd.at' fun o e=>Q a o (aJ N) e⟩ d (ItemsOf.nil _) fun s' n c L C v=>?_;rw[Moved.eq_with L];refine hR s'.heap s'.toks n c (fun b o u e=>L.heap b o (fun m=>?_) (Q b o u e)) C v;rcases aR.mp m with e'|m;.exact u e'
  .exact absurd (aQ e) (by rw[bc.mp m];exact cY _)
 have tv:s.TypeIs (.ref a) "dict":=⟨U,G,O.1⟩;unfold Builtin.List.listExtendWith;refine ah (mL (T:="dict") tv ?_);have e1:Builtin.List.listSameRef (.ref S) (.ref a)=false:=by simp[Builtin.List.listSameRef,N]
 have Z:(Value.type "dict"==Value.type "list")=false:=by decide
 have e3:(Value.type "dict"==Value.type "tuple")=false:=by decide
 simp only[e1,Z,e3,Bool.or_false,oQ,gE];refine ah (wpAny_pyIter_dict Y hd ?_);obtain⟨Al,p⟩:∃Al:Obj,Al={cls:=.type "dict_keyiterator",data:=.fields #[.ref a,.int 0 0,.int kvs.length 0,.int ep 0]}:=⟨_,rfl⟩;have D:(s.heap.push Al).IsKeyIter s.heap.objs.size a 0 kvs.length ep:=⟨Al,cu _ (by rw[p];rfl),by rw[p],by rw[p];rfl⟩;rw[<-p];refine ah (fv (UI ⟨U,bu _ G,O.1⟩ ?_));have d:(s.heap.push Al).get? S=some (va #[] q):=bu _ I;refine wpAny_ite_split (fun _=>?_) (fun c=>absurd (show _=true by decide+kernel) c);refine ah (wpAny_rule (ah ?_));show wpAny _ A.in1 (updateSeq S (·.push .none)>>=fun _=>updateSeq S (·.pop)) _ _ _;refine ah (iJ d rfl ?_);have j:=jS (Obj.mapSeq (·.push Value.none)) d rfl;refine iJ (hz:=by seq_fits) j rfl ?_;have r:=jS (Obj.mapSeq (·.pop)) j rfl;refine au ⟨mB F.plain_extend_loop _,B _ _ _ ?_ (fun b o u e=>?_) r⟩;.exact D.at fun o e=>(dZ _ _ J).trans ((dZ _ _ J).trans e)
 .exact(dZ _ _ (aJ u)).trans ((dZ _ _ (aJ u)).trans (bu _ e))
theorem UK(r:A.handled=none)(B:(a==sysModules)=false)(hd:s.heap.DictAt knd a kvs ep)(g:kvs.length<=sizeLine) (G:∀h' tk d c,(∀b o,s.heap.get? b=some o->h'.get? b=some o)->h'.get? s.heap.objs.size=some (va d c)->ItemsOf (fun i x=>∃k y,kvs[i]?=some (k,y)/\knd.is k x=true) d kvs.length->Q (.ref s.heap.objs.size) {s with heap:=h',toks:=tk}): wpAny (model prog w) A (call (.type "list") [.ref a]) Q E s:=by refine callType_codes (Q₁:=fun p f=>p=.ref s.heap.objs.size/\f={s with heap:=s.heap.push (va #[] 0)}) F.called_list (F.typeCall_list_1 _) F.entry_list_init (code_list_new _ ⟨rfl,rfl⟩) fun p f l=>?_;obtain⟨rfl,rfl⟩:=l;have m:(s.heap.push (va #[] 0)).get? s.heap.objs.size=some (va #[] 0):=cu _ rfl;obtain⟨H,u,q,C⟩:=id hd;have t:a≠s.heap.objs.size:=bC (aQ q);refine⟨⟨_,m,rfl⟩,F.args_list_init_2 _ _,?_⟩;refine ah ?_;refine ah (mG m rfl (au ?_));refine ah (iJ m rfl ?_);have v:=jS (Obj.mapSeq (fun _=>(#[]:Array Value))) m rfl;have j:∀b o,b≠s.heap.objs.size->s.heap.get? b=some o->((s.heap.push (va #[] 0)).update s.heap.objs.size (Obj.mapSeq (fun _=>(#[]:Array Value)))).get? b=some o:=fun b o D e=>(dZ _ _ (aJ D)).trans (bu _ e);refine ah (jC ?_);refine UJ (A:=A.in1) r (knd:=knd) (kvs:=kvs) (ep:=ep) (a:=a) B ⟨H,u,j a _ t q,C⟩ g _ .none _ v fun h' tk d c z n h=>?_;exact⟨rfl,G h' tk d c (fun b o e=>z b o (bC (aQ e)) (j b o (bC (aQ e)) e)) n h⟩
end
section
variable{X:Cx}
def LY:List V->Hp->VK->Prop:=fun d H Q=>∃(a:Addr) (b:List (Key×V)),d=[.ref a]/\Rd H a (.dK b)/\∀l,H l=none->Q (.ref l) (upd H l (.lst (b.map fun c=>kV c.1)))
theorem UL(v:X.calm=true):cj X (.type "list") LY:=by intro g s N H S T Q I r h;obtain⟨a,C,rfl,w,q⟩:=h;obtain⟨u,rfl,A⟩:=lW r;cases A;obtain⟨z,E,vs,f,p⟩:=wG I.bF w;obtain⟨R,t⟩:=p.dictAt;have J:=f.len;refine UK (I.ok.hd v) E t (by lia) fun U tk G c k Y b=>(⟨.ref _,_,?_,rfl,q _ (I.bF.fresh (aB _))⟩);obtain⟨D,l⟩:=b;refine I.laid k (aB _) ⟨by rw[aI];exact z,_,c,?_,by omega⟩;refine LH (by rw[aI,<-J];simpa using D.symm) fun i x y e m=>?_;rw[bB] at e;obtain⟨⟨B,Z⟩,n,o⟩:=mv.mp e;obtain⟨M,j,O⟩:=f.at n;obtain⟨k',y',d,L⟩:=l i y (by simpa using m);rw[j] at d;cases d;cases o;exact LC L
end
end L2
namespace PM
open PySem L2
section
variable{K:Kx}{XO:cX}{E:L2.St->XK}
theorem UM(h:kP K XO E k md):nY K XO E (k9 LY (dE k bZ)) (LK LI md):=by
 intro v w A F H y i Q I a;refine h _ _ _ F H _ i _ I (a.bind.imp fun d u t c f x m=>?_)
 cases d with |c9 j l=>
  obtain⟨p,e,rfl,r,s,z⟩:=m;refine⟨p,_,rfl,.inl r,fun q b=>(f _ _ (.eM c.fh b) q (c.fh.free b) (c.hh.free b) ⟨_,b9,?_⟩)⟩;have:e.map (fun o=>kV o.1)=j.map kV:=by rw[<-s,bX];rfl
  rw[this];exact LJ _ |_=>exact f.elim
noncomputable def Am(j i:Nat)(a:En):O:=match a[j]?,a[i]? with |some (.o (.lst r)),some (.o (.lst l))=>if i=j then .no else(match l[l.length-1]? with|some d=>if r.length<100000 then .nx ((a.set i (.o (.lst l.dropLast))).set j (.o (.lst (r++[d])))) else .no|none=>.no) |_,_=>.no
theorem UN:SS K XO E (wm (vF K.f "list" Bc (bh j) (dE (zh K.f "list" zj (bh i)) bZ))) (Am j i):=by
  intro J Q L F H G s N I a;unfold Am at a;split at a
  . rename_i r l t m;split at a;.exact a.elim
    .obtain⟨A,z,M,w,S⟩:=I.own t;obtain⟨p,h,T,k,g⟩:=I.own m;cases e:l[l.length-1]? with |none=>simp[e] at a;exact a.elim |some d=>
        simp[e] at a;split at a
        . rename_i U;obtain⟨v,x,B⟩:=g.get e;have q:=I.chg (d':=.lst _) m h ⟨_,b9,g.dropLast⟩;have b:(s.set i (.o (.lst l.dropLast)))[j]?=some (.o (.lst r)):=by simp_all
          obtain⟨c,u,C,y,n⟩:=q.own b;have f:c=A:=by simp_all
          subst f;refine⟨_,z,.inl ⟨rfl,_,.inl (.inl w)⟩,(⟨_,h,.inl ⟨rfl,_,.inl (.inl k)⟩,p,_,v,rfl,rfl,k,by rw[g.length];exact x,?_⟩)⟩;exact⟨_,_,v,rfl,rfl,y,by rw[n.length];exact KL (by lia),a _ F _ (q.chg b u ⟨_,b9,n.append (.cons B .nil)⟩)⟩
        .exact a.elim
  .exact a.elim
end
section
variable{K:Kx}{XO:cX}{E:L2.St->XK}{Λ:List (Nat×Addr×HO)}{F0 H0 F H:Hp}{σ:L2.St}{δ:En}
theorem aA.FE(I:aA K Λ F0 H0 F H σ δ)(s:δ[i]?=some (.o (.c9 ks l)))(B:σ[i]?=some (some (.ref a)))(hk:H a=some (.dK kvs)): aA K Λ F0 H0 (upd F a (.fB o (.dK kvs))) (upd H a (.fB o (.dK kvs))) σ (δ.set i (.v (.fd ks l))):=by
  have N:i<δ.length:=(cI.mp s).1;have z:=I.slot i;rw[s] at z;obtain⟨a',z1,z2,z3,z4⟩:=z;rw[B] at z1;cases z1;obtain⟨u,eu⟩:∃u,u=HO.fB o (.dK kvs):=⟨_,rfl⟩;rw[<-eu];have A:∀b,b≠a->upd H a u b=H b:=fun b e=>a9 e;have x:aD F (upd F a u):=aD.upd z3;have J:∀j:Nat,i≠j->Sl.own δ[j]?=true->σ[j]?≠some (some (V.ref a)):=fun j hj h e=>I.dist i j a hj (by rw[s];rfl) h B e;refine⟨⟨I.ext.ff.trans x,fun b w q=>(by rw[A b (eF q z2)];exact I.ext.hh b w q),fun b w q=>?_,fun p o h1 M=>?_⟩,by simp[I.len],fun j=>?_,fun j k b Y C G U g4=>?_,fun y hy=>?_,I.gP (fun k ll h=>by
      by_cases e:i=k;.subst e;rw[bH N] at h;cases h
      .rw[aO e] at h;simp_all) (fun k r S T C G t f dj=>by
      have e:i≠k:=fun e=>by simp_all
      exact⟨(t.mono x (.refl _)).at' fun b g=>A b fun c=>dj i a e (by rw[s];rfl) B (c▸g),fun b g=>by rw[a9 (show b≠a from fun c=>dj i a e (by rw[s];rfl) B (c▸g))];exact(f b g).2⟩) fun k j ll r b S _ _ _ _ ho x=>.inl (by
      by_cases e:i=j;.subst e;rw[bH N] at ho;cases ho
      . (simp_all))⟩
  . by_cases e:b=a;.subst e;rw[b9] at q⊢;exact q
    .rw[a9 e] at q;rw[A b e];exact I.ext.fh _ _ q
  .rw[a9 (eF M z2)];exact I.ext.nw p o h1 M
  . by_cases e:i=j;.subst e;rw[bH N];refine⟨.ref a,B,?_⟩;obtain⟨UO,M,h3,h4⟩:=z4;rw[hk] at M;cases M;simp only[Rep];exact⟨a,o,kvs,rfl,by rw[b9,eu],h3,h4.mono x⟩
    .rw[aO e];have w:=I.slot j;cases q:δ[j]? with |none=>trivial |some y=> rw[q] at w;cases y with |no=>trivial |v d=>obtain⟨v,m,L⟩:=w;exact⟨v,m,Rep.mono x d L⟩ |o d=> obtain⟨b,m,L,Q,X⟩:=w;exact⟨b,m,L,by rw[a9 (show b≠a from fun c=>J j e (by rw[q];rfl) (by rw[m,c]))];exact Q,(X.mono x (.refl _)).at (A b fun c=>J j e (by rw[q];rfl) (by rw[m,c]))⟩ |p ll=> obtain⟨r,S,t1,t2,t3,t4,t5⟩:=I.tab q;exact⟨r,S,t1,(t2.mono x (.refl _)).at' fun b g=>A b fun c=>t4 i a e (by rw[s];rfl) B (c▸g),fun b g=>⟨(t3 b g).1,by rw[a9 (show b≠a from fun c=>t4 i a e (by rw[s];rfl) B (c▸g))];exact(t3 b g).2⟩⟩ |l d=> obtain⟨b,m,L,Q,X⟩:=w;exact⟨b,m,L,by rw[a9 (show b≠a from fun c=>J j e (by rw[q];rfl) (by rw[m,c]))];exact Q,(X.mono x (.refl _)).at (A b fun c=>J j e (by rw[q];rfl) (by rw[m,c]))⟩
  . have Z:∀k:Nat,Sl.own (δ.set i (.v (.fd ks l)))[k]?=true->Sl.own δ[k]?=true:=by
      intro k h;by_cases e:i=k;.subst e;rw[bH N] at h;cases h
      .rw[aO e] at h;exact h
    exact I.dist j k b Y (Z j C) (Z k G) U g4
  . obtain⟨⟨d2,C⟩,G,U⟩:=I.gO y hy;have n:i≠y.1:=by intro e;rw[<-e,s] at C;cases C
    exact⟨⟨d2,by rw[aO n];exact C⟩,G,by rw[A _ (fun c=>J y.1 n (by rw[C];rfl) (by rw[G,c]))];exact U⟩
noncomputable def FF(i:Nat)(m:En->O)(δ:En):O:=match δ[i]? with|some (.o (.c9 a l))=>m (δ.set i (.v (.fd a l)))|_=>.no
theorem UP(h:SS K XO E (jD (k9 r (dE (vG (B9 (bh i)) f n g j s) bZ))) m): SS K XO E (jD (k9 r (dE (vG (B9 (z_ (bh i))) f n g j s) bZ))) (FF i m):=by
 intro Λ F0 H0 F H σ δ u I a;unfold FF at a;split at a;.rename_i t l q;obtain⟨p,b,e,d,x,w⟩:=I.own q;refine⟨_,b,p,_,rfl,d,fun o=>?_⟩;obtain⟨v,c,k⟩:=h _ _ _ _ _ _ _ _ (I.FE q b d) a;rw[b] at c;cases c;exact k
 .exact a.elim
end
section
variable{K:Kx}{XO:cX}{E:L2.St->XK}{Λ:List (Nat×Addr×HO)}{F0 H0 F H:Hp}{σ:L2.St}{δ:En}{t:TS}{m:En->O}
end
section
variable{X:Cx}{K:Kx}{XO:cX}{E:L2.St->XK}{te:TE}{me:En->R D}{ca:Nat->Addr}{an:Nat->Str}
end
end PM
namespace L2
open PySem PySem.Spec PyProof.Rows
section
variable{X:Cx}
section
variable{prog:Program}{w:World}{A:Around}{E:Value->Shared->Prop}{s:Shared}{a:Addr}{xs:Array (Int×Tok)}
end
end
end L2
namespace PM
open PySem L2
section
variable{K:Kx}
end
end PM
namespace L2
open PySem PySem.Spec PyProof.Rows
section
variable{prog:Program}{w:World}{A:Around}{E:Value->Shared->Prop}{s:Shared}
def TF(h:Heap)(v:Value)(n:Int):Prop:=∃(a:Addr) (t:Tok) (r:List Value),v=.ref a/\h.IsTuple a (Value.int n t::r).toArray
inductive vV(h:Heap):List Value->List Int->Prop |nil:vV h [] [] |cons{v:Value}{n:Int}{vs:List Value}{ns:List Int}:TF h v n->vV h vs ns->vV h (v::vs) (n::ns)
theorem vV.len(x:vV h vs ns):vs.length=ns.length:=by induction x with |nil=>rfl |cons _ _ b=>simp[b]
theorem UQ(x:TF s.heap v n)(h:∀t,Q (some (.int n t)) s):wpAny (model prog w) A (firstOfTuple' v) Q E s:=by obtain⟨a,t,r,rfl,b⟩:=x;refine ah (mL b.typeIs ?_);obtain⟨o,d,_,k,c⟩:=b;exact ah (listItems_at d c (au (h t)))
theorem UR(x:vV s.heap vs ns):∀{Q:List (Option Value)->Shared->Prop},(∀fs:List Value,IntsAre fs ns->Q (fs.map some) s)->wpAny (model prog w) A (vs.mapM firstOfTuple') Q E s:=by induction x with |nil=>intro Q h;exact au (h _ .nil) |cons t _ d=> intro Q h;rw[List.mapM_cons];exact ah (UQ t fun e=>ah (d fun fs b=>au (h _ (.cons _ _ b))))
theorem US(x:vV s.heap (v::vs) ns)(h:Q (tuples' true) s):wpAny (model prog w) A (keyKind' (v::vs).toArray) Q E s:=by
 rw[keyKind'_eq,List.mapM_toArray];refine ah (ah (UR x fun b d=>au ?_));rw[ak (by simp)];refine ah (wpAny_rule ?_);have e:((b.map some).toArray.filterMap id)=b.toArray:=by simp
 rw[e,oneTypeOnly'_eq,List.mapM_toArray,mapM_typeOf_ints d];simp only[map_pure,pure_bind];have j:b≠[]:=fun z=>by subst z;cases d;cases x
 obtain⟨f,c,rfl⟩:∃f c,b=f::c:=by cases b with |nil=>simp_all |cons f c=>simp
 have a:((List.map (fun _=>Value.type "int") (f::c)).toArray.all fun x=>x==Value.type "int")=true:=by simp
 simp[a,iG];exact au h
end
end L2
namespace L2
open PySem PySem.Spec PyProof.Rows PM
section
variable{X:Cx}{ca:Nat->Addr}{an:Nat->Str}
end
end L2
namespace PM
open PySem L2
section
variable{K:Kx}
end
section
variable{K:Kx}{XO:cX}{E:L2.St->XK}{F0 H0 F H F1 H1 F' H':Hp}
variable(K XO E) in
end
end PM
namespace L2
open PySem PySem.Spec PyProof.Rows
section
variable{X:Cx}
end
end L2
namespace PM
open PySem L2
section
variable{K:Kx}{XO:cX}{E:L2.St->XK}{F0 H0 F H F1 H1 F' H':Hp}
end
section
variable{K:Kx}{XO:cX}{E:L2.St->XK}{Λ:List (Nat×Addr×HO)}{F0 H0 F H:Hp}{σ:L2.St}{δ:En}
end
end PM
namespace L2
open PySem PySem.Spec PyProof.Rows
section
variable{prog:Program}{w:World}{A:Around}{E:Value->Shared->Prop}{s:Shared}
end
section
variable{X:Cx}
end
end L2
namespace PM
open PySem L2
section
variable{K:Kx}{XO:cX}{E:L2.St->XK}
end
end PM
namespace L2
open PySem PySem.Spec PyProof.Rows
section
variable{X:Cx}{x:Str}{C:Addr}{p pos:Pos}
end
end L2
namespace PM
open PySem L2
section
variable{K:Kx}{XO:cX}{E:L2.St->XK}{F0 H0 F H F1 H1 F' H':Hp}
variable(K XO E) in
end
section
variable{K:Kx}{XO:cX}{E:L2.St->XK}{Λ:List (Nat×Addr×HO)}{F0 H0 F H:Hp}{σ:L2.St}{δ:En}
end
section
variable{K:Kx}{XO:cX}{E:L2.St->XK}{F0 H0 F H F1 H1 F' H':Hp}{α:Type}{An:α->V->Hp->Hp->Hp->Prop}
end
end PM
namespace HT
open PySem PyProof.Rows
section
open PySem.SeqAt
open PySem.AutoSeq1 (wpAny_loadPart')
open PySem.MeetsSeq PySem.MeetsSeq2 PySem.MeetsSeq3
variable{prog:Program}{w:World}{A:Around}{E:Value->Shared->Prop}{s:Shared}
end
end HT
namespace L2
open PySem PySem.Spec PyProof.Rows
section
variable{X:Cx}
end
section
variable{P:Program}{w:World}{K:PySem.W.Frag}{mg:Str->Option Value}{base:Heap}{d:V}
end
section
variable{X:Cx}{CX:jt}{k:Nat}{x:Str}{ps:List Str}{sp:Sp}{p pos:Pos}{a:Expr}{ta:TE}{d:V}
end
end L2
namespace PM
open PySem L2
section
variable{K:Kx}{XO:cX}{E:L2.St->XK}{F0 H0 F H F1 H1 F' H':Hp}
def encC(c:List Int):D:=.tup (c.map .int)
def vg:D->Option (List Int) |.tup l=>c5 l |_=>none
theorem UT(h:vg d=some c):d=encC c:=by cases d with |tup l=>rw[rq h];rfl |_=>cases h
def m8:List D->Option (List (List Int)) |[]=>some [] |d::l=>(vg d).bind fun c=>(m8 l).map (c::.)
theorem LZ:∀{l:List D}{cs:List (List Int)},m8 l=some cs->l=cs.map encC |[],cs,h=>by cases h;rfl |d::l,cs,h=>by unfold m8 at h;cases q:vg d with |none=>simp_all |some c=> rw[q] at h;cases b:m8 l with |none=>simp_all |some r=> simp[b] at h;subst h;rw[UT q,LZ b];rfl
theorem L3:∀(cs:List (List Int)),m8 (cs.map encC)=some cs
 |[]=>rfl |c::cs=>by
  have e:vg (encC c)=some c:=by show c5 _=some c;induction c with |nil=>rfl |cons a c f=>simp only[b7,c5,f];rfl
  unfold m8;rw[b7];simp only[e,L3 _];rfl
def pS(c:List Int):List (List Int):=(List.range (c.length+1)).map (c.take .)
end
end PM
namespace L2
open PySem PySem.Spec PyProof.Rows
open Builtin Builtin.Str
section
variable{X:Cx}{tg:Expr}{pos:Pos}
end
end L2
namespace L2
open PySem PySem.Spec PyProof.Rows
section
variable{X:Cx}{a b:Expr}{ta tb:TE}{pos p1 p2 p3:Pos}
end
end L2
namespace PM
open PySem L2
section
variable{K:Kx}{XO:cX}{E:L2.St->XK}{ta tb te:TE}{ma mb me:En->R D}
end
end PM
namespace L2
open PySem PySem.Spec PyProof.Rows
section
variable{X:Cx}{x:Str}{pos:Pos}
end
end L2
namespace PM
open PySem L2
section
variable{K:Kx}
end
end PM
namespace L2
open PySem PySem.Spec PyProof.Rows
section
variable{prog:Program}{w:World}{A:Around}{E:Value->Shared->Prop}{s:Shared}
end
section
variable{X:Cx}
end
end L2
namespace PM
open PySem L2
section
variable{K:Kx}{XO:cX}{E:L2.St->XK}
end
end PM
namespace L2
open PySem PySem.Spec PyProof.Rows
theorem UU (l : Addr) (items : Array Value) (n : Nat) (b : Addr) (m9 : Array Value) (n2 : Nat) (dd : Option Addr) (sl : Array (Option Value)) (hs0 : ¬(!items.isEmpty && Builtin.List.listTooLong (items.size + m9.size)) = true) (UW : items.size ≤ sizeLine) (hs2 : items.size + m9.size ≤ sizeLine + 1) :
    Meets (Builtin.«list.extend» ⟨[.ref l, .ref b], []⟩) (fun _ R s => s.heap.get? l = some { cls := .type "list", dict := none, data := .seq items n, slots := #[] } ∧ s.heap.get? b = some { cls := .type "tuple", dict := dd, data := .seq m9 n2, slots := sl } ∧ R (.ok (.ret Value.none)) { s with heap := s.heap.update l (Obj.mapSeq fun x => x ++ m9), toks := s.toks }) :=
  .of_wp fun prog w A R s h => by
    obtain ⟨hl, hb, h⟩ := h; wp_walk using (iJ hl rfl), wpAny_loadPart' hl, wpAny_loadPart' hb; simp_all
section
variable{X:Cx}
def L5 : V → List V → Hp → VK → Prop := fun x vs H Q => ∃ l b xs zs, x = .ref l ∧ vs = [.ref b] ∧ H l = some (.lst xs) ∧ (H b = some (.lst zs) ∨ H b = some (.tup zs)) ∧ xs.length + zs.length ≤ sizeLine ∧ Q .non (upd H l (.lst (xs ++ zs)))
theorem UX : xO X "list.extend" L5 := by
  rintro pins s σ H x vs v us Q I rx rv ⟨l, b, xs, zs, rfl, rfl, hH, hB, hz, q⟩
  rcases hB with hB | hB
  · exact Q0 _ s _ H _ _ v _ Q I rx rv ⟨l, b, _, _, rfl, rfl, hH, hB, hz, q⟩
  cases rx
  obtain ⟨u, rfl, ru⟩ := rv.one
  cases ru
  obtain ⟨z, its, n, r, hl, e⟩ := I.pZ hH
  obtain ⟨z2, Ao, r2, e2⟩ := I.bF b _ hB
  have LV := r2.length
  obtain ⟨⟨cls, dd, da, sl⟩, e2, hc, n2, hd⟩ := e2
  subst hc hd
  have hsz : its.toArray.size + Ao.toArray.size ≤ sizeLine := by rw [bI, bI]; omega
  have Ap : ¬ (!its.toArray.isEmpty && Builtin.List.listTooLong (its.toArray.size + Ao.toArray.size)) = true := by
    rw [Jp hsz]
    simp
  refine jA F.slot_list_extend ⟨_, e, rfl⟩ F.entry_list_extend (F.args_list_extend_2 _ _)
    (UU l _ n b _ _ _ _ Ap (by omega) (by omega)) ⟨e, e2, (⟨.non, _, I.rh hH e (by simp) (r.append r2) ?_, rfl, q⟩)⟩
  simp_all
end
end L2
namespace PM
open PySem L2
section
variable{K:Kx}{XO:cX}{E:L2.St->XK}{Λ:List (Nat×Addr×HO)}{F0 H0 F H F1 H1 F' H':Hp}{σ:L2.St}{δ:En}
def FH (i : Nat) (me : En → R D) (δ : En) : O := match δ[i]? with
  | some (.o (.lst l)) => (me δ).gW δ fun d => (match d with | .lst r => dt (l.length + r.length ≤ sizeLine) (.nx (δ.set i (.o (.lst (l ++ r))))) .no | .tup r => dt (l.length + r.length ≤ sizeLine) (.nx (δ.set i (.o (.lst (l ++ r))))) .no | _ => .no)
  | _ => .no
theorem UY {i : Nat} {te : TE} {me : En → R D} (h : SE K XO E te me) : SS K XO E (wm (vF K.f "list" L5 (bh i) (dE te bZ))) (FH i me) := by
  intro Λ F0 H0 F H σ δ Dn I a
  unfold FH at a
  split at a
  · rename_i l q
    obtain ⟨p, s1, vs, s2, s3⟩ := I.own q
    refine ⟨_, s1, .inl ⟨rfl, _, .inl (.inl s2)⟩, (h _ _ _ F H _ _ _ I ((cT.of I a).imp fun d F1 H1 e c x rx => ?_))⟩
    cases d with
    | lst r =>
      obtain ⟨b, ws, rfl, b2, b3⟩ := rx
      dsimp at c
      unfold dt at c
      split at c
      · exact ⟨p, b, _, _, rfl, rfl, e.hh _ _ s2, .inl (e.fh _ _ b2), by rwa [s3.length, b3.length], c _ _ _ ((I.grow e).chg q s1 ⟨_, b9, (s3.mono e.ff).append b3⟩)⟩
      · exact c.elim
    | tup r =>
      obtain ⟨b, ws, rfl, b2, b3⟩ := rx
      dsimp at c
      unfold dt at c
      split at c
      · exact ⟨p, b, _, _, rfl, rfl, e.hh _ _ s2, .inr (e.fh _ _ b2), by rwa [s3.length, b3.length], (c _ _ _ ((I.grow e).chg q s1 ⟨_, b9, (s3.mono e.ff).append b3⟩))⟩
      · exact c.elim
    | _ => exact c.elim
  · exact a.elim
theorem aA.any(I:aA K Λ F0 H0 F H σ δ)(hi:δ[i]?=some .no):aA K Λ F0 H0 F H (σ.set i x) δ:=by
  have c:∀j:Nat,δ[j]?≠some .no->(σ.set i x)[j]?=σ[j]?:=fun j r=>aO fun e=>r (by simp_all);have g:∀j:Nat,Sl.own δ[j]?=true->δ[j]?≠some .no:=fun j h e=>by rw[e] at h;cases h
  refine⟨I.ext,by simp[I.len],fun j=>?_,fun j k a l o q m p=>?_,fun y s=>?_,?_⟩
  . by_cases e:δ[j]?=some .no;.rw[e];trivial
    .rw[c j e];exact I.slot j
  .rw[c j (g j o)] at m;rw[c k (g k q)] at p;exact I.dist j k a l o q m p
  .obtain⟨⟨d,z⟩,w,v⟩:=I.gO y s;exact⟨⟨d,z⟩,by rw[c _ (by grind)];exact w,v⟩
  .exact I.gP (fun k T h=>⟨h,c k (by grind)⟩) (fun _ _ _ _ _ _ t f _=>⟨t,fun b A=>(f b A).2⟩) fun k j T a b B _ _ _ _ n u=>.inl ⟨n,by rw[<-c j (g j n)];exact u⟩
end
end PM
namespace L2
open PySem PySem.Spec PyProof.Rows
section
variable{X:Cx}
end
end L2
namespace PM
open PySem L2
section
variable{K:Kx}{XO:cX}{E:L2.St->XK}{te:TE}{me:En->R D}
end
end PM
namespace L2
open PySem PySem.Spec PyProof.Rows
section
variable{X:Cx}{CX:jt}{k n:Nat}{x:Str}{ps:List Str}{sp:Sp}{E:XK}{p pos:Pos}{e:Expr}{es:List Expr}{t:TA}
theorem bP(G:tf X.prog X.w X.K X.mg X.base CX k x ps sp)(f:cN n X.A)(d:rS CX X E)(i:PA X (e::es) t)(c:k<=n:=by decide)(h:Gl X x:=by rfl)(a:(x==("__debug__":Str))=false:=by decide) (g:starEach (e::es) X.env=(false,eval e X.env)::starEach es X.env:=by rfl)(b:(backTo pos (starEach es X.env)).any (·.1)=false:=by rfl):PE X (.Call (.Name x p) (e::es) [] pos) (wx sp [] E t):=JX G (f.mono c) h d i a g b
theorem vW{E:St->XK}(G:tf X.prog X.w X.K X.mg X.base CX k x ps sp)(f:cN n X.A)(d:zt CX X E)(i:PA X (e::es) t)(c:k<=n:=by decide)(h:Gl X x:=by rfl)(a:(x==("__debug__":Str))=false:=by decide) (g:starEach (e::es) X.env=(false,eval e X.env)::starEach es X.env:=by rfl)(b:(backTo pos (starEach es X.env)).any (·.1)=false:=by rfl):PE X (.Call (.Name x p) (e::es) [] pos) (Bs sp E t):=RJ G (f.mono c) h d i a g b
theorem kR{N P:List Str}(h1:a.kind=.function:=by rfl)(h2:a.isCoroutine=false:=by rfl)(h3:a.isGenerator=false:=by rfl)(d:N.Nodup:=by decide+kernel)(b:N.take P.length=P:=by rfl) (c:∀x∈P,a.names.lookup x=some .local\/a.names.lookup x=some .cell:=by decide+kernel)(f:∀y∈a.names,y.2≠.free:=by decide+kernel):cb N P a:=⟨h1,h2,h3,d,b,c,f⟩
end
section
variable{X:Cx}{xe:Value->Shared->Prop}{pins:List (Addr×Obj)}{σ:St}{H:Hp}{s:Shared}
end
section
variable{M:Model}{A:Around}{E:Value->Shared->Prop}{s:Shared}{B:Heap}{env UZ:Env}{outer l:List Env}{L e:Addr}{cls:Value}{c9:Option Addr}{fl:Value}{Q:Unit->Shared->Prop}
end
section
variable{X:Cx}{E:XK}{C:Addr}{e:Value}{s':Shared}
end
section
variable{prog:Program}{w:World}{A:Around}{R:Result->Shared->Prop}{s:Shared}
end
section
variable{X:Cx}{scope:Scope}{N':List Str}{ix:List Nat}{n:Nat}{tg elt iter:Expr}{g:TG}{te:TE}{pos:Pos}{E0:XK}
end
section
variable{P:Program}{w:World}{K:PySem.W.Frag}{mg:Str->Option Value}{base:Heap}{N:List Str}{qual:Str}{scope:Scope}{f:Addr}{cd:Value}{A:Around}{outer:List Env}{s0:Shared}{H0:Hp}{E:XK}
end
end L2
namespace PM
open PySem L2
section
variable{K:Kx}{XO:cX}{E0:XK}{te:TE}{me:En->R D}
end
section
variable{K:Kx}{XO:cX}{E:L2.St->XK}
end
end PM
namespace L2
open PySem PySem.Spec PyProof.Rows
section
variable{X:Cx}{x:Str}{e a b o:Expr}{te ta tb to:TE}{p pos pos' apos:Pos}{tg elt:Expr}
theorem pS(i:Nat)(c:X.N.Nodup)(f:PE X e te)(hi:X.N[i]?=some x:=by rfl)(d:Loc X.env.scope x:=by first|exact Or.inl rfl|exact Or.inr rfl)(h:swapsWith e (some (.Name x pos')) pos.line X.env=pure false:=by rfl) (g:X.fn x=true\/X.env.scope.names.lookup x=some .local:=by first|exact .inl rfl|exact .inr rfl|assumption):PS X (.Assign [.Name x pos'] e pos) (fD te (jE i)):=nR c hi d f h g
theorem pN(i:Nat)(c:X.N.Nodup)(hi:X.N[i]?=some x:=by rfl)(d:Loc X.env.scope x:=by first|exact Or.inl rfl|exact Or.inr rfl)(f:X.fn x=true\/X.env.scope.names.lookup x=some .local:=by first|exact .inl rfl|exact .inr rfl|assumption):PG X (.Name x pos) (jE i):=vA c hi d f
theorem pB{id:String}(i:cj X (.builtin id) r)(l:X.mg x=none)(g:bootBuiltins x=some (.builtin id))(k:PA X (e::es) t)(j:Gl X x:=by rfl)(f:x≠"__name__":=by decide)(c:(x==("__debug__":Str))=false:=by decide) (h:starEach (e::es) X.env=(false,eval e X.env)::starEach es X.env:=by rfl)(d:(backTo pos (starEach es X.env)).any (·.1)=false:=by rfl):PE X (.Call (.Name x p) (e::es) [] pos) (k9 r t):=xN i j l g k f c h d
theorem bJ(h:PE X e te)(c:starEach [e] X.env=(false,eval e X.env)::starEach [] X.env:=by rfl):PA X [e] (dE te bZ):=bY h dM c
theorem cR(h:PE X a ta)(g:PE X b tb)(d:starEach [a,b] X.env=(false,eval a X.env)::starEach [b] X.env:=by rfl)(c:starEach [b] X.env=(false,eval b X.env)::starEach [] X.env:=by rfl):PA X [a,b] (dE ta (dE tb bZ)):=bY h (bY g dM c) d
theorem pI(h:PE X a ta)(g:PE X b tb)(c:DE b:=by exact fun _ _=>rfl):PE X (.Subscript a b pos) (iN (nV X.K) ta tb):=lY uJ h g c
theorem pJ(h:PE X a ta)(g:PE X b tb)(c:DE b:=by exact fun _ _=>rfl):PE X (.Subscript a b pos) (iN (ka X.K) ta tb):=lY sV h g c
theorem pq(c:gT X (compareOp op) r)(d:PE X a ta)(f:PE X b tb)(g:behindInMarks op b=false:=by exact wq _):PT X (.Compare a [op] [b] pos) (Dz (iN r ta tb)):=xJ c d f g
theorem pr(c:gT X (compareOp op) r)(d:PE X a ta)(f:PE X b tb)(g:behindInMarks op b=false:=by exact wq _):PE X (.Compare a [op] [b] pos) (iN r ta tb):=IT c d f g
theorem pR(h:PE X e te):km X [.Return (some e) pos] (jD te):=dh (sR h)
theorem pF{tb:TS}(hi:PI X tg c f)(j:PG X tg g)(k:km X d tb)(l:PassesOwn (model X.prog X.w) X.A X.env X.xe:=by exact iC)(i:X.calm=true:=by rfl) (h:∀x,foldedSetIterable c X.env x=pure x:=by intro _;rfl):PS X (.For tg c d [] pos) (sT f g tb):=rR l i hi j k h
theorem pM(G:kh X.prog X.w X.K X.mg X.base CX k m C ps sp)(j:cN n X.A)(i:rS CX X E)(h:PE X o ta)(l:PA X (e::es) t)(r:k<=n:=by decide) (c:starEach (e::es) X.env=(false,eval e X.env)::starEach es X.env:=by rfl)(d:(backTo pos (starEach es X.env)).any (·.1)=false:=by rfl) (g:eval (.Call (.Attribute o m apos) (e::es) [] pos) X.env=(eval o X.env>>=fun f=>standAt apos.atName>>=fun _=>holding [f] (getMethod f m pl)>>=fun q=>callWith pos q.1 q.2 (backTo pos (starEach (e::es) X.env)) (backToKw pos (keywordEach [] X.env))):=by rfl): PE X (.Call (.Attribute o m apos) (e::es) [] pos) (xM C m sp [] E ta t):=Fs (pl:=pl) G (j.mono r) i h l c d g
theorem xh(h:PE X o to)(g:PE X e te)(k:attributeBase o "append" X.env (eval o X.env)=eval o X.env:=by rfl)(i:((backTo pos (starEach [e] X.env)).all (fun x=>!x.1)&&(backToKw pos (keywordEach [] X.env)).all (fun x=>x.1.isSome)&&decide (([e]:List Expr).length+([]:List Keyword).length+(if([]:List Keyword).isEmpty then 0 else 1)<30))=true:=by rfl) (f:(apos.endLine==pos.line)=true:=by rfl)(c:starEach [e] X.env=(false,eval e X.env)::starEach [] X.env:=by rfl)(d:(backTo pos (starEach [] X.env)).any (·.1)=false:=by rfl)(j:swapsWith (.Call (.Attribute o "append" apos) [e] [] pos) none pos'.line X.env=pure false:=by rfl): PS X (.Expr (.Call (.Attribute o "append" apos) [e] [] pos) pos') (wm (vF X.K "list" Bc to (dE te bZ))):=vz (zi jz PySem.F.slot_list_append PySem.F.type_list_append Jq h (bY g dM c) k i f c d) j
section
variable{scope:Scope}{c:Expr}{g:TG}{tc:TT}
theorem oK(k:Scope)(A l:List Str)(u:List Nat)(n:Nat) (h:∀(cl:List (Str×Addr))(C:Addr)(s:Shared)(H:Hp)(fp:List Addr)(pins:List (Addr×Obj)),l.Nodup->PG (X.comp scope cl C l s H fp pins) tg g/\PE (X.comp scope cl C l s H fp pins) elt te) (D:l.Nodup:=by decide+kernel)(q:X.env.scope=k:=by rfl)(B:X.N=A:=by rfl)(t:scope.kind=.function:=by rfl)(i:(scope.names.all fun y=>y.2 !=.free||scope.names.all fun z=>!(z.1==y.1)||z.2 !=.cell)=true:=by decide+kernel) (m:∀y∈scope.names,y.2=.local->scope.names.lookup y.1=some .local:=by decide+kernel)(r:(scope.names.all fun y=>y.2 !=.free||(k.names.lookup y.1==some .cell||k.names.lookup y.1==some .free))=true:=by decide+kernel)(w:u.length+n=l.length:=by rfl) (v:((List.range u.length).all fun j=>match l[j]?,A[u.getD j 0]? with|some x,some y=>x==y&&scope.names.lookup x==some .free|_,_=>false)=true:=by decide+kernel):gN X scope l u n tg elt [] g none te:= Bm k A l u n q B t i m r w v (fun a b c d e f=>(h a b c d e f D).1) (fun a b c d e f=>(h a b c d e f D).2) (.inl ⟨rfl,rfl⟩)
theorem L6(k:Scope)(D i:List Str)(u:List Nat)(n:Nat) (h:∀(cl:List (Str×Addr))(C:Addr)(s:Shared)(H:Hp)(fp:List Addr)(pins:List (Addr×Obj)),i.Nodup->PG (X.comp scope cl C i s H fp pins) tg g/\PE (X.comp scope cl C i s H fp pins) elt te/\PT (X.comp scope cl C i s H fp pins) c tc) (A:i.Nodup:=by decide+kernel)(q:X.env.scope=k:=by rfl)(B:X.N=D:=by rfl)(t:scope.kind=.function:=by rfl)(l:(scope.names.all fun y=>y.2 !=.free||scope.names.all fun z=>!(z.1==y.1)||z.2 !=.cell)=true:=by decide+kernel) (m:∀y∈scope.names,y.2=.local->scope.names.lookup y.1=some .local:=by decide+kernel)(r:(scope.names.all fun y=>y.2 !=.free||(k.names.lookup y.1==some .cell||k.names.lookup y.1==some .free))=true:=by decide+kernel)(w:u.length+n=i.length:=by rfl) (v:((List.range u.length).all fun j=>match i[j]?,D[u.getD j 0]? with|some x,some y=>x==y&&scope.names.lookup x==some .free|_,_=>false)=true:=by decide+kernel):gN X scope i u n tg elt [c] g (some tc) te:= Bm k D i u n q B t l m r w v (fun a b c d e f=>(h a b c d e f A).1) (fun a b c d e f=>(h a b c d e f A).2.1) (.inr ⟨_,_,rfl,rfl,fun a b c d e f=>(h a b c d e f A).2.2⟩)
end
theorem FI(i:Nat)(u:X.N.Nodup)(hi:PI X tg c k)(B:gN X scope v m n tg elt f g s te)(h:X.N[i]?=some x:=by rfl)(l:Loc X.env.scope x:=by first|exact Or.inl rfl|exact Or.inr rfl)(r:X.calm=true:=by rfl) (j:swapsWith (.ListComp elt [⟨tg,c,f,0⟩] scope pos) (some (.Name x pos')) d.line X.env=pure true:=by rfl)(t:X.fn x=true\/X.env.scope.names.lookup x=some .local:=by first|exact .inl rfl|exact .inr rfl|assumption) (q:∀x,foldedSetIterable c X.env x=pure x:=by intro _;rfl):PS X (.Assign [.Name x pos'] (.ListComp elt [⟨tg,c,f,0⟩] scope pos) d) (fD (vG k m n g s te) (jE i)):=JW u h l r hi B j t q
end
section
variable{P:Program}{w:World}{K:PySem.W.Frag}{mg:Str->Option Value}{base:Heap}{x q:Str}{st:Stmt}{C:Addr}{CX:jt}{k:Nat}{ps:List Str}{sp:Sp}
abbrev De(K:PySem.W.Frag)(x:Str)(st:Stmt):Prop:=∃f a,qL K x st f a
abbrev Dm(K:PySem.W.Frag)(C:Addr)(x q:Str)(st:Stmt):Prop:=∃f a,MethAt K C x q st f a
abbrev Bd(x q:Str)(st:Stmt)(ps:List Str):Prop:=∀(kV a f:Value)(e:Option Addr)(b d:Value)(c:List Value),c.length=ps.length->bindArgs (PySem.W.fnOf x q (rT st) (nX st) (dJ st) .none kV a f e b d) ⟨c,[]⟩=pure (ps.zip c)
def xi:Nat->(List Value->Prop)->Prop|0,P=>P []|n+1,P=>∀a,xi n fun l=>P (a::l)
theorem Aq{P:List Value->Prop}:∀us:List Value,xi us.length P->P us|[],h=>h|a::us,h=>Aq (P:=fun l=>P (a::l)) us (h a)
theorem L7(h:∀(kV a f:Value)(e:Option Addr)(b d:Value),xi ps.length fun c=>bindArgs (PySem.W.fnOf x q (rT st) (nX st) (dJ st) .none kV a f e b d) ⟨c,[]⟩=pure (ps.zip c):=by intro _ _ _ _ _ _;first|exact fun _=>rfl|exact fun _ _=>rfl|exact fun _ _ _=>rfl|exact fun _ _ _ _=>rfl|exact fun _ _ _ _ _=>rfl):Bd x q st ps:=fun a b c d e f us g=>Aq us (g▸h a b c d e f)
theorem hD(T:∃h:Heap,K.In h/\h.Ns mainGlobals mg)(d:De K x st)(h:∀f fd,ju K x x st f fd->b_ P w K mg base CX k f fd ps sp) (b:Bd x x st ps:=by exact L7):tf P w K mg base CX k x ps sp:=by obtain⟨f,fd,D⟩:=d;obtain⟨_,X,G⟩:=T;exact D.has X G (h f fd D.fn) (D.fn.binds b)
theorem hC(c:PySem.W.makesIn K C=true/\PySem.W.keepIn K (.ref C)=true)(e:mg y=some (.ref C))(d:Dm K C "__init__" q st)(h:∀f fd,ju K "__init__" q st f fd->b_ P w K mg base CX k f fd ps sp) (b:Bd "__init__" q st ps:=by exact L7):rz P w K mg base CX k y C ps sp:=by obtain⟨f,fd,D⟩:=d;exact D.Ae c.1 c.2 e (h f fd D.fn) (D.fn.binds b)
end
end L2
namespace PM
open PySem PyProof.Rows L2
section
variable{P:Program}{w:World}{K:PySem.W.Frag}{mg:Str->Option Value}{base:Heap}{x q:Str}{st:Stmt}{f:Addr}{fd:FuncData}{k np nv:Nat}{ps N:List Str}{KK:Kx}{XO:cX}
abbrev B0(P:Program)(w:World)(K:PySem.W.Frag)(mg:Str->Option Value)(base:Heap)(N:List Str)(q:Str)(st:Stmt)(f:Addr)(k:Nat)(S:(L2.St->XK)->TS->Prop):Prop:=∀(a:Value)(A:Around)(b:List Env)(s:Shared)(H:Hp)(E:XK),cN k (A.deeper (envOfC q (dJ st) s.heap.objs.size f a))->(A.deeper (envOfC q (dJ st) s.heap.objs.size f a)).units+1<cLine->N.Nodup-> ∃t,km (mP iR P w K mg base N q (dJ st) f a A b s H E).wk (nX st) t/\S (fun _=>E) t
abbrev B1(P:Program)(w:World)(K:PySem.W.Frag)(mg:Str->Option Value)(base:Heap)(N:List Str)(q:Str)(st:Stmt)(f:Addr)(k:Nat)(S:(L2.St->XK)->TS->Prop):Prop:=∀(a:Value)(A:Around)(b:List Env)(s:Shared)(H:Hp)(E:XK),cN k (A.deeper (envOfC q (dJ st) s.heap.objs.size f a))->(A.deeper (envOfC q (dJ st) s.heap.objs.size f a)).units+1<cLine->N.Nodup-> ∃t,km (tq P w K mg base N q (dJ st) f a A b s H E) (nX st) t/\S (fun _=>E) t
theorem kS(N:List Str)(F:ju K x q st f fd)(h:B0 P w K mg base N q st f k fun E t=>SS KK XO E t m)(S:cb N ps (dJ st):=by exact kR)(l:np=ps.length:=by rfl)(j:N.length=np+nv:=by rfl):b_ P w K mg base iR (k+1) f fd ps (qc KK XO (cf np nv m)):= F.ok S (fun _ _ _ _ h=>(EI h).trans l) fun a b c d e v _ g i z=>let⟨t,p,r⟩:=h a b c d e g i (sY i) S.nd;⟨t,p,BO r j z⟩
theorem Ar(N:List Str)(F:ju K x q st f fd)(h:B1 P w K mg base N q st f k fun E t=>SS KK XO E t m)(S:cb N ps (dJ st):=by exact kR)(l:np=ps.length:=by rfl)(j:N.length=np+nv:=by rfl):b_ P w K mg base (rV P w) (k+1) f fd ps (qc KK XO (cf np nv m)):= F.Ka S (fun _ _ _ _ h=>(EI h).trans l) fun a b c d e v _ g i z=>let⟨t,p,r⟩:=h a b c d e g i (sY i) S.nd;⟨t,p,BO r j z⟩
theorem uq(N:List Str)(F:ju K x q st f fd)(h:B0 P w K mg base N q st f k fun E t=>SS KK XO E t m)(S:cb N ps (dJ st):=by exact kR)(l:np=ps.length:=by rfl)(j:N.length=np+nv:=by rfl):b_ P w K mg base iR (k+1) f fd ps (wQ KK XO (fi np nv m)):= F.ok S (fun _ _ _ _ h=>(Kz h).trans l) fun a b c d e v _ g i z=>let⟨t,p,r⟩:=h a b c d e g i (sY i) S.nd;⟨t,p,Ky r j z⟩
theorem vh(N:List Str)(F:ju K x q st f fd)(h:B1 P w K mg base N q st f k fun E t=>SS KK XO E t m)(S:cb N ps (dJ st):=by exact kR)(l:np=ps.length:=by rfl)(j:N.length=np+nv:=by rfl):b_ P w K mg base (rV P w) (k+1) f fd ps (wQ KK XO (fi np nv m)):= F.Ka S (fun _ _ _ _ h=>(Kz h).trans l) fun a b c d e v _ g i z=>let⟨t,p,r⟩:=h a b c d e g i (sY i) S.nd;⟨t,p,Ky r j z⟩
end
section
variable{K:Kx}{XO:cX}{E:L2.St->XK}{ta tb tc:TE}{ma mb mc:En->R D}
theorem eK(h:SE K XO E ta ma):SA K XO E (dE ta bZ) (ai ma ae):=cJ h gf
theorem dI(h:SE K XO E ta ma)(g:SE K XO E tb mb):SA K XO E (dE ta (dE tb bZ)) (ai ma (ai mb ae)):=cJ h (cJ g gf)
theorem bS(h:kP K XO E ta ma):uO K XO E (dE ta bZ) (ai ma ae):=zB h BC
theorem As(h:kP K XO E ta ma)(g:kP K XO E tb mb):uO K XO E (dE ta (dE tb bZ)) (ai ma (ai mb ae)):=zB h (zB g BC)
theorem sI:kP K XO E (tC (.int i)) (mC (.int i)):=aS.r
end
end PM
namespace L2
open PySem PySem.Spec PyProof.Rows
section
variable{P:Program}{w:World}{A:Around}{E:Value->Shared->Prop}{s:Shared}{it d v:Addr}{od:Obj}{es:Array DictEntry}{i ep:Nat}{ok ov:Value}
theorem U0(hd:(d==sysModules)=false): MeetsIn P w (Builtin.«dict.items» ⟨[.ref d],[]⟩) (fun _ R s=>s.TypeIs (.ref d) "dict"/\ R (.ok (.ret (.ref s.heap.objs.size))) {s with heap:=s.heap.push {cls:=.type "dict_items",data:=.fields #[.ref d]}}):=by refine .of_wp fun A R s h=>(ah (ah (wpAny_notOrdered_dict h.1 (au ?_))));unfold Builtin.Dict.showsAll;rw[ao (by simp_all)];exact ah (au (ah (gF (au ⟨_,rfl,h.2⟩))))
theorem U1(c:s.heap.IsItemsView v d)(b:s.heap.get? d=some od)(hd:od.data=.dict es ep) (q:Q (.ref s.heap.objs.size) {s with heap:=s.heap.push {cls:=.type "dict_itemiterator",data:=.fields #[.none,.bool false,.ref d,.int 0 0,.int es.size 0,.int ep 0,.none,.none]}}):wpAny (model P w) A (pyIter (.ref v)) Q E s:=by have a:=c.typeIs;obtain⟨h,f,g,e⟩:=c;refine wpAny_pyIter_slot a F.slot_dict_items_iter (iH F.slot_dict_items_iter a F.entry_dict_items_iter (ah (au (ah (ah (eV f e rfl (au (ah (ah (pK b hd (ah (wpAny_dictEpoch b hd ?_))))))))))) (F.args_dict_items_iter_1 _));simp only[show Builtin.Dict_items.ownsTuple "dict_itemiterator"=true by decide];refine gF (au ⟨_,rfl,_,_,⟨_,cu _ rfl,rfl⟩,nD.lookup,?_⟩) (by simp[sizeOk,Builtin.Dict_items.ownedTupleFields,fu]);simpa[rawInt,Builtin.Dict_items.ownedTupleFields] using q
theorem U2(a:IsItemIter s.heap it d i es.size ep ok ov)(y:s.heap.get? d=some od)(hd:od.data=.dict es ep)(S:es[i]?=some x) (q:∀h',IsItemIterOut h' it d (i+1) es.size ep x.key x.val s.heap.objs.size->h'.get? s.heap.objs.size=some {cls:=.type "tuple",data:=.seq #[x.key,x.val]}-> (∀b o,b≠it->s.heap.get? b=some o->h'.get? b=some o)->Q (some (.ref s.heap.objs.size)) {s with heap:=h'}):wpAny (model P w) A (pyNext (.ref it)) Q E s:=by
 have g:s.TypeIs (.ref it) "dict_itemiterator":=⟨_,a,rfl⟩;have N:Builtin.Dict_items.ownsTuple "dict_itemiterator"=true:=by decide
 unfold pyNext;refine ah (wpAny_attempt (pG (name:=Str.ofString "__next__") g nD (iH nD g F.entry_dict_itemiterator_next ?_ (F.args_dict_itemiterator_next_1 _))));refine ah (au (ah (ah (ah (mK g (au (ah (wpAny_fieldsOf a rfl ?_))))))));simp only[N,iG];show wpAny _ _ (if(Value.ref d==Value.none)=true then _ else _) _ _ _;rw[ao (show¬(Value.ref d==Value.none)=true from nofun)];refine ah (au (ah (pK y hd ?_)));rw[ao (by simp)];refine ah (au (ah (wpAny_dictEpoch y hd ?_)));rw[ao (by simp)];refine au ?_;simp only[ao (show¬(i:Int)<0 by lia),nE,S];refine ah (ah (mK g (au (ah (pL g ?_)))));show wpAny _ _ (setField (.ref it) 3 (rawInt ((i:Int)+1))>>=_) _ _ s;refine ah (kM a (by simp) fun f r (k:Heap.SameBut it s.heap f)=>?_);have u:Shared.TypeIs {s with heap:=f} (.ref it) "dict_itemiterator":=⟨_,r,rfl⟩;refine ah (fv (ah (pL u (ah (pL u ?_)))));show wpAny _ _ (Builtin.Dict_items.pairFromOwner (.ref it) 6 x.key x.val) _ _ {s with heap:=f};unfold Builtin.Dict_items.pairFromOwner;refine ah (wpAny_newTuple (hsz:=by show 2<=sizeLine;decide) ?_);obtain⟨c,j⟩:∃c,c=f.push {cls:=.type "tuple",data:=.seq #[x.key,x.val]}:=⟨_,rfl⟩;have h:IsItemIter c it d (i+1) es.size ep ok ov:=by
  have:((i+1:Nat):Int)=(i:Int)+1:=by lia
  rw[j];unfold IsItemIter;rw[this];exact bu _ (by simpa[rawInt] using r)
 have L:it<s.heap.objs.size:=aQ a;have O:c.get? s.heap.objs.size=some {cls:=.type "tuple",data:=.seq #[x.key,x.val]}:=by rw[j,<-k.1];exact cu _ rfl
 have D:∀b o,b≠it->s.heap.get? b=some o->c.get? b=some o:=fun b o n e=>by rw[j];exact bu _ (k.extBut b o n e)
 show wpAny _ _ (Builtin.Dict_items.ownedTupleIsFree (.ref it)>>=_) _ _ {s with heap:=f.push {cls:=.type "tuple",data:=.seq #[x.key,x.val]}};rw[<-j,show f.objs.size=s.heap.objs.size from k.1];unfold Builtin.Dict_items.ownedTupleIsFree;refine ah (ah (eV h rfl (x:=.none) rfl (au ?_)));simp only[iG];refine ah (eV h rfl (x:=ok) rfl (ah (eV h rfl (x:=ov) rfl ?_)));refine ah (kM h (by simp) fun B J (T:Heap.SameBut it c B)=>ah (kM J (by simp) fun z H (R:Heap.SameBut it B z)=> ah (kM H (by simp) fun m I (C:Heap.SameBut it z m)=>ah (kM I (by simp) fun l M (G:Heap.SameBut it m l)=>?_))));have p:∀b o,b≠it->c.get? b=some o->l.get? b=some o:=fun b o n e=>G.extBut b o n (C.extBut b o n (R.extBut b o n (T.extBut b o n e)));exact ah (jC (au (au ⟨_,rfl,au (q l M (p _ _ (mr L) O) fun b o n e=>p b o n (D b o n e))⟩)))
theorem U3(h:A.handled=none)(c:IsItemIter s.heap it d i es.size ep ok ov)(f:s.heap.get? d=some od)(hd:od.data=.dict es ep)(g:es.size<=i) (q:∀h',Heap.ExtBut it s.heap h'->Q none {s with heap:=h'}):wpAny (model P w) A (pyNext (.ref it)) Q E s:=by have e:s.TypeIs (.ref it) "dict_itemiterator":=⟨_,c,rfl⟩;refine ah (wpAny_attempt (pG (name:=Str.ofString "__next__") e nD (iH nD e F.entry_dict_itemiterator_next ?_ (F.args_dict_itemiterator_next_1 _))));refine ah (au (ah (ah (ah (mK e (au (ah (wpAny_fieldsOf c rfl ?_))))))));refine ah (au (ah (pK f hd ?_)));rw[ao (by simp)];refine ah (au (ah (wpAny_dictEpoch f hd ?_)));rw[ao (by simp)];refine au ?_;simp only[ao (show¬(i:Int)<0 by lia),nE,Array.getElem?_eq_none g];refine ah (ah (mK e (au ?_)));show wpAny _ _ (setField (.ref it) 2 .none>>=_) _ _ s;refine ah (mH c rfl (by simp) ?_);refine ah (ah (gF (ah (m:=firstArgMember _ _) (wpAny_of_eq (a:=Value.none) (by rfl) (gF ?_ (by size_fits)))) (by size_fits)));refine ah (wpAny_handled ?_);rw[show A.in1.handled=none from h];refine ah (au (wpAny_throw ?_));exact ah (mE (T:="StopIteration") (b:=true) ⟨_,cu _ rfl,rfl⟩ isSubtype_stop (au (q _ (((Heap.SameBut.update ..).extBut.push _).push _))))
end
section
variable{X:Cx}{pins:List (Addr×Obj)}{σ:St}{H:Hp}{s:Shared}{a:Addr}{kvs:List (List Key×V)}
theorem Inv.FJ(I:Inv X pins σ H s)(c:H a=some (.dT kvs)):∃o es ep,o.data=.dict es ep/\es.size=kvs.length/\s.heap.get? a=some o/\(a==sysModules)=false/\s.TypeIs (.ref a) "dict"/\Inv X pins σ (upd H a (.fB o (.dT kvs))) s:=by
 have e:=I.bF a _ c;obtain⟨z,y,k,r,o,es,ep,d,i,h,g,j⟩:=id e;have f:es.size=kvs.length:=by rw[<-si,g,aI,r.length]
 refine⟨o,_,_,h,f,d,y,⟨o,d,i.1⟩,I.write (by rw[c];exact True.intro) (.inl rfl) (fun _ _ _ q=>q) ⟨o,d⟩ ⟨d,(e.i_ (fun _ _ _ q=>q) (fun b q=>?_) fun b l q=>?_)⟩⟩;.rw[a9 (AV q c (fun z=>nomatch z))];exact q
 .rw[a9 (AV q c (fun z=>nomatch z))];exact q
theorem L8:∀{l:List c}{m:List d},Paired R l m->∀{i:Nat}{x:c},l[i]?=some x->∃y,m[i]?=some y/\R x y |_,_,.nil,i,x,h=>by simp at h |_,_,.cons r t,0,x,h=>by simp_all |_,_,.cons r t,i+1,x,h=>L8 t h
theorem Inv.FK{ep i:Nat}(I:Inv X pins σ H s)(l:H a=some (.fB o (.dT kvs)))(hd:o.data=.dict es ep)(hi:kvs[i]?=some (k,x)):∃(b:Addr) (u:Value) (e:DictEntry),es[i]?=some e/\e.key=.ref b/\e.val=u/\H b=some (.tup (k.map kV))/\RelV x u:=by obtain⟨h,z,y,t,r,v,n,p,d,C,c,m,w⟩:=I.bF a _ l;rw[h] at d;cases d;rw[hd] at c;cases c;obtain⟨⟨A,b,u⟩,f,g⟩:=L8 r hi;obtain⟨B,j,q⟩:=g;exact⟨b,u,_,by rw[<-wa,m,bB,f];rfl,rfl,rfl,j,q⟩
end
def Au(a:Addr)(o:Obj)(kvs:List (List Key×V)):It:= ⟨fun i H=>H a=some (.fB o (.dT kvs))/\i<kvs.length,fun i H v c=>∃p b k x,v=.ref p/\H p=none/\H b=some (.tup (k.map kV))/\c=upd H p (.tup [.ref b,x])/\kvs[i]?=some (k,x),fun i H=>H a=some (.fB o (.dT kvs))/\kvs.length<=i⟩
theorem U4{K:PySem.W.Frag}(a it:Addr)(o:Obj)(kvs:List (List Key×V))(hd:o.data=.dict p ep)(hl:p.size=kvs.length): Turn P w K (.Tuple es k pos) (Au a o kvs) [it] it (fun i h=>∃j g,IsItemIter h it a i p.size ep j g) where
 mem:=by simp
 obj:=fun i h st b hb=>by obtain⟨j,g,d⟩:=st;rw[bc.mp hb];exact⟨_,d,fun v z=>by simp_all⟩
 keep:=fun i h y st k=>by obtain⟨j,g,d⟩:=st;exact⟨j,g,k it (by simp) _ d⟩
 item:=by
  intro X N M S f i m s Z H E I r st B;obtain⟨t,G⟩:=B;obtain⟨j,g,d⟩:=st;obtain⟨⟨C,x⟩,J⟩:∃q,kvs[i]?=some q:=⟨_,bx G⟩;obtain⟨b,u,e,g1,O,R,T,Q⟩:=I.FK t hd J;have U:H s.heap.objs.size=none:=I.bF.fresh (aB _);have D:it≠s.heap.objs.size:=bC (aQ d);refine U2 d (I.bF a _ t).1 hd g1 fun y a1 L kp=>⟨_,rfl,?_⟩;refine wpAny_letOwnedTupleGo_items a1 fun A b1 n=>?_;have l:Heap.SameBut it y A:=n;rw[O,R] at L;refine⟨.ref s.heap.objs.size,upd H s.heap.objs.size (.tup [.ref b,x]),?_,rfl,⟨_,b,C,x,rfl,U,T,rfl,J⟩,⟨_,_,b1⟩,fun c f=>?_⟩;.exact I.zV (t':=s.toks) [it] r (fun c o f q=>(l.2 c (fun z=>f (by simp[z]))).trans (kp c o (fun z=>f (by simp[z])) q)) (by show 2<=sizeLine;decide) (.cons rfl (.cons Q .nil)) ((l.2 _ (aJ D)).trans L)
  .rw[bc.mp f,a9 D];exact(r _ (by simp)).1
 done:=by intro X N M S f i m s Z H E I r st B;obtain⟨t,G⟩:=B;obtain⟨j,g,d⟩:=st;refine U3 (I.ok.hd f) d (I.bF a _ t).1 hd (by lia) fun y Y=>⟨rfl,?_⟩;exact I.uY _ r fun c o f q=>Y c o (fun z=>f (by simp[z])) q
 self:=fun _ _ _ _ _ st h=>by obtain⟨j,g,d⟩:=st;exact PySem.W.kcp_self d h
def L9(d:TE):TI:=fun e H R=>d e H fun x c=>∃a b,x=.ref a/\c a=some (.dT b)/\∀o,R (Au a o b) (upd c a (.fB o (.dT b)))
theorem U5(J:PE X l T)(i:attributeBase l "items" X.env (eval l X.env)=eval l X.env:=by rfl)(f:(E.endLine==Q.line)=true:=by rfl): PI X (.Tuple es k Z) (.Call (.Attribute l "items" E) [] [] Q) (L9 T):=by
 intro m s N H R I h;refine wpAny_Call_method0_late i f (bW (J m s N H _ I h) fun v g ⟨x,H1,t,M,a,j,G,w,q⟩=>?_);subst G;obtain rfl:v=Value.ref a:=M;obtain⟨B,A,D⟩:=DQ t (.inr ⟨j,.inl w⟩);obtain⟨o,n,L,z,O,S,Y,r,p⟩:=t.FJ w;refine⟨"dict","dict.items",PySem.F.plainAttrs_dict,PySem.F.slot_dict_items,PySem.F.type_dict_items,B,A,qz rfl (PySem.evalArgs_none ?_)⟩;refine call_meetsIn PySem.F.slot_dict_items r PySem.F.entry_dict_items (PySem.F.args_dict_items_1 _) (U0 D) ⟨r,?_⟩;refine U1 (v:=g.heap.objs.size) (d:=a) ⟨_,cu _ rfl,rfl,rfl⟩ (bu _ S) z ?_;have U:∀b u,g.heap.get? b=some u->((g.heap.push {cls:=.type "dict_items",data:=.fields #[.ref a]}).push {cls:=.type "dict_itemiterator",data:=.fields #[.none,.bool false,.ref a,.int 0 0,.int n.size 0,.int L 0,.none,.none]}).get? b=some u:=fun b u e=>bu _ (bu _ e);have y:g.heap.objs.size<=(g.heap.push {cls:=.type "dict_items",data:=.fields #[.ref a]}).objs.size:=by simp
 refine⟨_,[(g.heap.push {cls:=.type "dict_items",data:=.fields #[.ref a]}).objs.size],_,_,_,rfl,p.kept (t':=g.toks) U,U4 a _ o j z O,⟨.none,.none,cu _ rfl⟩,fun c C=>?_,q o⟩;rw[bc.mp C];exact p.lE y (p.bF.fresh y)
def L_:V->List V->Hp->VK->Prop:=fun x b H Q=>∃(p:Addr) (a:List Int) (i:Int),x=.ref p/\b=[.int i]/\Rd H p (.lst (a.map V.int))/\Q (.int (a.count i:Nat)) H
theorem U6:wC X "list.count" L_:=by intro a s l H x j v k Q I g c h;obtain⟨p,m,i,rfl,rfl,d,q⟩:=h;cases g;obtain⟨u,rfl,t,rfl⟩:=c.one;obtain⟨_,f,n,b,e⟩:=d.ok I.bF;exact count_list_ints ⟨_,e,rfl,n,rfl⟩ (E_ b) ⟨.int _,H,I.tok _,⟨_,rfl⟩,q⟩
end L2
namespace PM
open PySem L2
abbrev PX:=List (List Int×Int)
def gv(xs:PX)(k:List Int):Option Int:=(xs.find? fun e=>decide (e.1=k)).map (·.2)
def nh(xs:PX)(k:List Int)(v:Int):PX:=if(xs.any fun e=>decide (e.1=k))=true then xs.map fun e=>if e.1=k then(k,v) else e else xs++[(k,v)]
def ki(xs:PX)(c:List Int×Int):PX:=nh xs c.1 (if(gv xs c.1).getD c.2<c.2 then(gv xs c.1).getD c.2 else c.2)
def rD(d:Int->Int->Int)(e:List Int×Int):PX:=(List.range (e.1.length-1)).map fun j=>(cV e.1 (j+1),e.2+d (e.1.getD 0 0) (e.1.getD (j+1) 0))
def sd(d:Int->Int->Int)(xs:PX):PX:=xs.flatMap (rD d)
def po(d:Int->Int->Int)(xs:PX):PX:=(sd d xs).foldl ki []
def lK:List Int->Int |[]=>0 |x::l=>l.foldl (fun a b=>if b<a then b else a) x
def lL(d:Int->Int->Int):Nat->List Int->Int |0,_=>0 |m+1,rest=>lK ((List.range (rest.length-1)).map fun j=>d (rest.getD 0 0) (rest.getD (j+1) 0)+lL d m (cV rest (j+1)))
theorem FN:∀(l:List Int)(x:Int),(l.foldl (fun a b=>if b<a then b else a) x∈x::l)/\∀y∈x::l,l.foldl (fun a b=>if b<a then b else a) x<=y
  |[],x=>by simp |b::l,x=>by
    obtain⟨g,f⟩:=FN l _;simp only[lP];constructor
    . rcases aR.mp g with e|e;.rw[e];split<;>simp
      simp_all
    . intro y d;have h:=f _ (lS ..);rcases aR.mp d with e|d;.lia
      . rcases aR.mp d with e|d;.omega
        .exact f y (bz _ d)
theorem U7(h:l≠[]):lK l∈l:=by cases l with |nil=>simp_all |cons x l=>exact(FN l x).1
theorem Ma(h:y∈l):lK l<=y:=by cases l with |nil=>cases h |cons x l=>exact(FN l x).2 y h
theorem Mc(h:gv xs k=some v):(k,v)∈xs:=by obtain⟨e,a,b⟩:=mv.mp h;have:=List.mem_of_find?_eq_some a;rw[show(k,v)=e by grind];omega
theorem Md(a:(xs.map (·.1)).Nodup)(h:e∈xs):gv xs e.1=some e.2:=by induction xs with |nil=>cases h |cons x xs d=>
    rw[b7,fQ] at a;unfold gv;rw[sH];by_cases q:x.1=e.1
    . rcases aR.mp h with z|z;.simp_all
      .exact absurd (by simp_all) a.1
    . simp only[q,decide_false];rcases aR.mp h with z|z;.grind
      .exact d a.2 z
theorem any_keys{xs:PX}:(xs.any fun e=>decide (e.1=k))=true↔k∈xs.map (·.1):=by simp
theorem kT:e∈nh xs k v↔e=(k,v)\/e∈xs/\e.1≠k:=by
  unfold nh;by_cases q:(xs.any fun e=>decide (e.1=k))=true
  . rw[ak q,c8];constructor
    . rintro⟨a,b,rfl⟩;split;.simp
      simp_all
    . rintro(rfl|⟨b,f⟩);.grind
      .exact⟨e,b,by grind⟩
  . rw[ao q,cD,bc];have c:∀e∈xs,e.1≠k:=fun e d z=>q (any_keys.mpr (by rw[<-z];exact List.mem_map_of_mem d));constructor
    . rintro(h|h);.exact .inr ⟨h,c e h⟩
      .exact .inl h
    . rintro(h|h);.exact .inr h
      .exact .inl h.1
theorem U8(d:(xs.map (·.1)).Nodup):((nh xs k v).map (·.1)).Nodup:=by
  unfold nh;split
  . have:(xs.map fun e=>if e.1=k then(k,v) else e).map (·.1)=xs.map (·.1):=by
      rw[bX];apply i9;intro e _;simp[Function.comp];split;.simp_all
      .rfl
    grind
  .rename_i q;rw[dC,l_];refine⟨d,by simp,fun a f b c=>?_⟩;simp[b7,qF,bc] at c;rw[c];intro z;exact q (any_keys.mpr (by simp_all))
theorem U9:(nh xs k v).length<=xs.length+1:=by unfold nh;grind
theorem U_(b:(xs.map (·.1)).Nodup): ((ki xs c).map (·.1)).Nodup/\(ki xs c).length<=xs.length+1/\(∀e∈ki xs c,e∈xs\/e=c)/\∀e,e∈xs\/e=c->∃f∈ki xs c,f.1=e.1/\f.2<=e.2:=by
  obtain⟨k,v⟩:=c;refine⟨U8 b,U9,fun e a=>?_,fun e a=>?_⟩
  . rcases kT.mp a with z|⟨z,_⟩;.cases q:gv xs k with |none=>simp_all |some y=>
        rw[q] at z;split at z;.left;rw[z];exact Mc q
        simp_all
    simp_all
  . by_cases q:e.1=k
    . refine⟨_,kT.mpr (.inl rfl),q.symm,?_⟩;rcases a with z|z;.have g:=Md b z;rw[q] at g;simp[g,o9];lia
      .subst z;lia
    . rcases a with z|z;.exact⟨e,kT.mpr (.inr ⟨z,q⟩),rfl,iZ _⟩
      simp_all
theorem FO:∀(cs a:PX),(a.map (·.1)).Nodup-> ((cs.foldl ki a).map (·.1)).Nodup/\(cs.foldl ki a).length<=a.length+cs.length/\(∀e∈cs.foldl ki a,e∈a\/e∈cs)/\∀e,e∈a\/e∈cs->∃f∈cs.foldl ki a,f.1=e.1/\f.2<=e.2
  |[],a,d=>⟨d,aB _,fun e h=>.inl h,fun e h=>h.elim (fun h=>⟨e,h,rfl,iZ _⟩) fun h=>by cases h⟩ |c::cs,a,d=>by
    obtain⟨m1,m2,s,q⟩:=U_ d;obtain⟨u,v,t,p⟩:=FO _ _ m1;refine⟨u,?_,fun e i=>?_,fun e i=>?_⟩;.simp[lP,ef];lia
    . rcases t e i with z|z
      . rcases s e z with y|y;.grind
        .exact .inr (by grind)
      .exact .inr (bz _ z)
    . have:e∈a\/e=c\/e∈cs:=by
        rcases i with z|z;.exact .inl z
        . rcases aR.mp z with y|y;.exact .inr (.inl y)
          .exact .inr (.inr y)
      rcases this with z|z|z;.obtain⟨f,m,o,j⟩:=q e (.inl z);obtain⟨g,b,k,n⟩:=p f (.inl m);exact⟨g,b,k.trans o,Int.le_trans n j⟩
      .obtain⟨f,m,o,j⟩:=q e (.inr z);obtain⟨g,b,k,n⟩:=p f (.inl m);exact⟨g,b,k.trans o,Int.le_trans n j⟩
      .exact p e (.inr z)
theorem Me:(rD d e).length=e.1.length-1:=by simp[rD]
theorem FP:∀{xs:PX},(∀e∈xs,e.1.length=n)->(sd d xs).length=xs.length*(n-1) |[],_=>by simp[sd] |x::xs,h=>by have:=FP (d:=d) fun e c=>h e (bz _ c);unfold sd at this⊢;rw[lO,bO,Me,this,h x (lS ..),ef,Nat.succ_mul,Nat.add_comm]
structure gS(d:Int->Int->Int)(ns:List Int)(T:Int)(m:Nat)(xs:PX):Prop where
 nd:(xs.map (·.1)).Nodup
 ln:∀e∈xs,e.1.length=2*m
 sub:∀e∈xs,∀i∈e.1,i∈ns
 lo:∀e∈xs,T<=e.2+lL d m e.1at_:∃e∈xs,e.2+lL d m e.1=T
theorem gS.first(d:Int->Int->Int)(h:ns.length=2*m):gS d ns (lL d m ns) m [(ns,0)]:= ⟨by simp,by simp[h],by simp,by simp,by simp⟩
theorem gS.next{T:Int}{m:Nat}(L:gS d ns T (m+1) xs):gS d ns T m (po d xs)/\(po d xs).length<=xs.length*(2*m+1):=by
  obtain⟨s,w,v,C⟩:=FO (sd d xs) [] (by simp);have b:∀e∈po d xs,∃x∈xs,∃j,j<x.1.length-1/\e=(cV x.1 (j+1),x.2+d (x.1.getD 0 0) (x.1.getD (j+1) 0)):=fun e g=>by
    rcases v e g with z|z;.cases z
    .obtain⟨x,n,p⟩:=kC.mp z;obtain⟨j,A,t⟩:=c8.mp p;exact⟨x,n,j,cF.mp A,t.symm⟩
  have h:∀x∈xs,∀j,j<x.1.length-1->d (x.1.getD 0 0) (x.1.getD (j+1) 0)+lL d m (cV x.1 (j+1))∈(List.range (x.1.length-1)).map fun j=>d (x.1.getD 0 0) (x.1.getD (j+1) 0)+lL d m (cV x.1 (j+1)):= fun x a j c=>c8.mpr ⟨j,cF.mpr c,rfl⟩;refine⟨⟨s,fun e g=>?_,fun e g i o=>?_,fun e g=>?_,?_⟩,?_⟩;.obtain⟨x,a,j,c,rfl⟩:=b e g;have:=L.ln x a;have:=Fw (rest:=x.1) (k:=j+1) (by lia) (by lia);show(cV x.1 (j+1)).length=2*m;lia
  .obtain⟨x,a,j,c,rfl⟩:=b e g;exact L.sub x a i (Ca i o)
  .obtain⟨x,a,j,c,rfl⟩:=b e g;have n:=L.lo x a;have p:lL d (m+1) x.1<=_:=Ma (h x a j c);show T<=x.2+d (x.1.getD 0 0) (x.1.getD (j+1) 0)+lL d m (cV x.1 (j+1));lia
  . obtain⟨x,a,J⟩:=L.at_;have K:=L.ln x a;have E:lL d (m+1) x.1∈_:=U7 (l:=(List.range (x.1.length-1)).map fun j=>d (x.1.getD 0 0) (x.1.getD (j+1) 0)+lL d m (cV x.1 (j+1))) (by simp;lia);obtain⟨j,c,I⟩:=c8.mp E;obtain⟨f,r,H,u⟩:=C (cV x.1 (j+1),x.2+d (x.1.getD 0 0) (x.1.getD (j+1) 0)) (.inr (kC.mpr ⟨x,a,c8.mpr ⟨j,c,rfl⟩⟩));refine⟨f,r,?_⟩;obtain⟨y,q,i,o,e⟩:=b f r;have n:=L.lo y q;have p:lL d (m+1) y.1<=_:=Ma (h y q i o);have G:f.1=cV y.1 (i+1):=by rw[e]
    have M:f.2=y.2+d (y.1.getD 0 0) (y.1.getD (i+1) 0):=by rw[e]
    have B:f.2<=x.2+d (x.1.getD 0 0) (x.1.getD (j+1) 0):=u;grind
  .refine bV w ?_;rw[FP L.ln,nM,Nat.zero_add,show 2*(m+1)-1=2*m+1 by lia];lia
theorem gS.last(L:gS d ns T 0 xs):gv xs []=some T:=by obtain⟨e,b,f⟩:=L.at_;have g:=L.ln e b;have c:=i7.mp (by omega);have:=Md L.nd b;rw[c] at this;rw[this,<-f];simp[lL]
theorem gS.xj(L:gS d ns T (m+1) xs):gv xs []=none:=by cases q:gv _ _ with |none=>rfl |some v=> have:=L.ln _ (Mc q);simp_all
def dS(xs:PX):List (List Key×V):=xs.map fun e=>(e.1.map Sum.inl,V.int e.2)
theorem Mf(xs:PX)(k:List Int):di (dS xs) (k.map Sum.inl)=(gv xs k).map V.int:=by induction xs with |nil=>rfl |cons x xs d=>
 unfold di gv dS at*;rw[b7,sH,sH];by_cases q:x.1=k;.simp[q]
 .have b:¬(x.1.map _=k.map _):=fun z=>q (Cc z);simp only[q,b];exact d
theorem U'(xs:PX)(k:List Int)(v:Int):putK (dS xs) (k.map Sum.inl) (V.int v)=dS (nh xs k v):=by
  have a:((dS xs).any fun b=>decide (b.1=k.map Sum.inl))=(xs.any fun e=>decide (e.1=k)):=by unfold dS;rw[List.any_map];congr 1;funext e;simp only[Function.comp];rw[kJ];exact⟨fun z=>Cc z,fun z=>by rw[z]⟩
  unfold putK nh;rw[a];split
  . unfold dS;rw[bX,bX];apply i9;intro e _;simp[Function.comp];by_cases q:e.1=k;.grind
    .rw[ao q,ao (fun z=>q (Cc z))]
  .unfold dS;simp
section
variable{K:Kx}{XO:cX}{E:L2.St->XK}{tl te:TE}{ml me:En->R D}
def xn(x y:D):Option D:=match x,y with|.lst l,.int i=>(c5 l).bind fun a=>some (.int (a.count i:Nat))|_,_=>none
theorem Va(h:xn x y=some d):∃(ns:List Int) (i:Int),x=.lst (ns.map .int)/\y=.int i/\d=.int (ns.count i:Nat):=by
 unfold xn at h;split at h;.rename_i l i;cases z:c5 l with |none=>simp_all |some ns=> rw[z] at h;cases h;exact⟨_,i,by rw[rq z],rfl,rfl⟩
 simp_all
def Av(ml me:En->R D)(a:En):R D:=(ml a).bind fun x=>match x with|.lst l=>(me a).bind fun y=>R.of (xn (.lst l) y)|_=>.no
theorem Vb(s:kP K XO E tl ml)(t:SE K XO E te me):SE K XO E (vF K.f "list" L_ tl (dE te bZ)) (Av ml me):=by intro B A M F H G C Q I a;refine s _ _ _ F H _ _ _ I (a.bind.imp fun d w v m c x o=>?_);cases d with
 |lst l=> obtain⟨p,r,rfl,f,u⟩:=o;refine⟨.inl ⟨rfl,r,.inl f⟩,(t _ _ _ _ _ _ _ _ (I.grow m) (c.bind.imp fun k N L e b y g=>?_))⟩;cases q:xn _ k with |none=>rw[q] at b;exact b.elim |some z=> rw[q] at b;obtain⟨J,i,n,rfl,rfl⟩:=Va q;cases n;have h:=ql u;subst h;subst g;exact⟨p,_,i,rfl,rfl,aD.rd e.hh f,b _ _ (.refl e.fh) _ rfl⟩
 |_=>exact c.elim
end
section
variable {K : Kx}
abbrev Vc(K:Kx):List V->Hp->VK->Prop:=fun b H Q=>∃p a,b=[.ref p]/\(gh K.f H p a\/jo K.f H p a)/\Q (.int a.length) H
def Aw(K:Kx):TS:= iM (fD JB (jE 2)) (iM (sT (L9 (bh 1)) (uE K.f 2 (xG (jE 3) (xG (jE 4) uD))) (sT (A2 (dE (tC (.int 1)) (dE (k9 (Vc K) (dE (bh 3) bZ)) bZ))) (jE 5) (iM (fD (iN (Ab K.f) (wA (rf K.f) (bh 3) (vD (tC (.int 1))) (vD (bh 5))) (wA (rf K.f) (bh 3) (vD (iN (mO fun i j=>.int (i+j)) (bh 5) (tC (.int 1)))) A_)) (jE 6)) (iM (fD (iN (mO fun i j=>.int (i+j)) (bh 4) (iN (nV K.f) (iN (nV K.f) (bh 0) (iN (ka K.f) (bh 3) (tC (.int 0)))) (iN (ka K.f) (bh 3) (bh 5)))) (jE 7)) (Bg (bh 2) (bh 6) (k9 (fun a H Q=>∃i j,a=[.int i,.int j]/\Q (.int (if j<i then j else i)) H) (dE (bh 7) (dE (DR (bh 2) (bh 6) (bh 7)) bZ)))))))) (jD (bh 2)))
variable(K) in
def tY:Sp:=fun i H Q _=>∃(a:Addr) (h:V) (F:Hp) (L:D) (d:Int->Int->Int) (f:PX) (n:Nat),i=[h,.ref a]/\aD F H/\Rep K F L h/\H a=some (.dT (dS f))/\F a=none/\(∀e∈f,e.1.length=n/\uo L d e.1)/\n<=100/\f.length*(n-1)<=100000/\ ∀(g:Hp)(b:Addr),(∀c u,c≠a->H c=some u->g c=some u)->H b=none->g b=some (.dT (dS (po d f)))->Q (.ref b) g
theorem Vd(h:tY K vs H Q E):vs.length=2:=by obtain⟨a,c,F,L,d,b,n,rfl,_⟩:=h;rfl
theorem Ve{rest:List Int}(hi:a[i]?=some (.v (.tup (rest.map .int))))(d:a[j]?=some (.v (.int k)))(h1:1<=k)(h2:k<rest.length)(h3:rest.length<=1000): m2 wZ (lJ (ag i) (cz (mC (.int 1))) (cz (af j))) (lJ (ag i) (cz (m2 bo (ag j) (mC (.int 1)))) bG) a=.ok (.tup ((cV rest k).map .int)):=by
 have:=LS (s0:=.no) (s3:=.no) (s4:=.no) h1 h2 h3;have e:ag i a=ag 1 [.no,.v (.tup (rest.map .int)),.v (.int k),.no,.no]:=by unfold ag;simp_all
 have g:ag j a=ag 2 [.no,.v (.tup (rest.map .int)),.v (.int k),.no,.no]:=by unfold ag;simp_all
 have c:af j a=af 2 [.no,.v (.tup (rest.map .int)),.v (.int k),.no,.no]:=by unfold af;rw[d];rfl
 have f:∀x,mC x a=mC x [.no,.v (.tup (rest.map .int)),.v (.int k),.no,.no]:=fun _=>rfl;rw[<-this];simp only[oG,lJ,cz,bG,e,g,c,f]
theorem Mg{a:Type}{l:List a}{x:a}(h:l[i]?=some x):l.take (i+1)=l.take i++[x]:=by rw[oW,h];rfl
theorem aD.Ax(s:aD F H)(h:F a=none):aD F (upd H a o):=fun b u q=>by rw[a9 (eF q h)];exact s b u q
theorem Vf(h:tY K vs H Q E):Aw K {nx:=fun _ H'=>Q .non H',rt:=Q} (L2.start ["lengths","layer","later","rest","length","k","smaller","longer"] vs) H:=by
 obtain⟨a,T,F,L,d,g,n,rfl,s,rl,ha,fa,hx,hn,hb,fin⟩:=h;show Aw K _ [some T,some (.ref a),none,none,none,none,none,none] H;refine fun b J=>?_;have ab:a≠b:=fun e=>by simp_all
 have fb:F b=none:=s.free J;refine⟨.ref a,rfl,a,dS g,rfl,by rw[a9 ab];exact ha,fun o=>?_⟩;have xl:(dS g).length=g.length:=by simp[dS]
 have cl:∀i,(sd d (g.take i)).length<=g.length*(n-1):=fun i=>by rw[FP (n:=n) fun e he=>(hx e (List.mem_of_mem_take he)).1];exact oZ _ (by grind)
 refine⟨fun i m σ Z=>m=g.length-i/\i<=g.length/\∃x3 x4 N S M,aD F Z/\(∀c u,c≠a->H c=some u->Z c=some u)/\Z a=some (.fB o (.dT (dS g)))/\Z b=some (.dT (dS (po d (g.take i))))/\σ=[some T,some (.ref a),some (.ref b),x3,x4,N,S,M], ⟨_,rfl,cG _,none,none,none,none,none,(aD.Ax (aD.Ax s fb) fa),fun c u n e=>?_,b9,?_,rfl⟩,?_⟩;.rw[a9 n,a9 (eF e J)];exact e
 .rw[a9 (aJ ab),b9];rfl
 rintro i m σ Z ⟨rfl,Kt,x3,x4,N,S,M,s2,k2,a2,b2,rfl⟩;by_cases uk:i<g.length;case neg=> refine .inl ⟨⟨a2,by lia⟩,?_⟩;refine⟨_,rfl,fin Z b k2 J ?_⟩;rw[b2,kF (by lia)]
 obtain⟨⟨rest,v⟩,he⟩:∃e,g[i]?=some e:=⟨_,bx uk⟩;obtain⟨FQ,tb⟩:=hx _ (eg he);have FQ:rest.length=n:=FQ;refine .inr ⟨⟨a2,by lia⟩,fun C H'=>∃x3 x4 N S M,aD F H'/\(∀c u,c≠a->H c=some u->H' c=some u)/\H' a=some (.fB o (.dT (dS g)))/\H' b=some (.dT (dS (po d (g.take (i+1)))))/\C=[some T,some (.ref a),some (.ref b),x3,x4,N,S,M],fun C H' w=>⟨_,by lia,rfl,uk,w⟩,?_⟩;rintro x H' ⟨p,c,kk,y,rfl,hp,hc,rfl,hk⟩;rw[dS,bB,he] at hk;cases hk;have pa:a≠p:=eF a2 hp;have pb:b≠p:=eF b2 hp;have pc:c≠p:=eF hc hp;refine⟨p,_,rfl,.inl (.inl b9),rfl,_,_,rfl,_,_,rfl,rfl,?_⟩;dsimp only[jE,List.set_cons_succ,List.set_cons_zero];have By:upd Z p (.tup [.ref c,.int v]) c=some (.tup (rest.map V.int)):=by rw[a9 pc,hc,bX];rfl
 have U:(rest.map V.int).length=n:=by rw[aI,FQ]
 refine⟨.ref c,rfl,c,rest.map V.int,rfl,.inr (.inl (.inl By)),1,_,rfl,⟨by decide,by decide,by rw[U];lia,by rw[U];lia⟩,?_⟩;have nn:(((rest.map V.int).length:Int)-1).toNat=n-1:=by rw[U];lia
 rw[nn];have c1:(rD d (rest,v)).length=n-1:=by rw[Me];show rest.length-1=_;lia
 have X:∀j,j<n-1->(rD d (rest,v)).take (j+1)=(rD d (rest,v)).take j++[(cV rest (j+1),v+d (rest.getD 0 0) (rest.getD (j+1) 0))]:=fun j hj=>Mg (by unfold rD;rw[bB,List.getElem?_range (by show j<rest.length-1;lia)];rfl);refine⟨fun j m σ A=>m=n-1-j/\j<=n-1/\∃N S M,aD F A/\(∀c u,c≠a->H c=some u->A c=some u)/\A a=some (.fB o (.dT (dS g)))/\A c=some (.tup (rest.map V.int))/\A b=some (.dT (dS ((sd d (g.take i)++(rD d (rest,v)).take j).foldl ki [])))/\σ=[some T,some (.ref a),some (.ref b),some (.ref c),some (.int v),N,S,M], ⟨_,rfl,cG _,N,S,M,s2.trans (aD.upd hp),fun c u n e=>?_,by rw[a9 pa];exact a2,By,?_,rfl⟩,?_⟩;.have:=k2 c u n e;rw[a9 (eF this hp)];exact this
 .rw[a9 pb,b2,List.take_zero,f_];rfl
 rintro j m σ A ⟨rfl,hjl,y5,y6,y7,s3,k3,a3,c3,b3,rfl⟩;by_cases Y:j<n-1;case neg=> refine .inl ⟨by show n-1<=j;lia,_,_,_,_,_,s3,k3,a3,?_,rfl⟩;rw[b3,show(rD d (rest,v)).take j=rD d (rest,v) from kF (by lia),Mg he,po,sd,sd,List.flatMap_append,lO,List.flatMap_nil,f_]
 refine .inr ⟨Y,fun C H'=>∃N S M,aD F H'/\(∀c u,c≠a->H c=some u->H' c=some u)/\H' a=some (.fB o (.dT (dS g)))/\H' c=some (.tup (rest.map V.int))/\H' b=some (.dT (dS ((sd d (g.take i)++(rD d (rest,v)).take (j+1)).foldl ki [])))/\C=[some T,some (.ref a),some (.ref b),some (.ref c),some (.int v),N,S,M],fun C H' w=>⟨_,by lia,rfl,Y,w⟩,?_⟩;rintro x H' ⟨eH,rfl⟩;rw[eH];clear eH H';dsimp only[jE,List.set_cons_succ,List.set_cons_zero];rw[show(1:Int)+(j:Int)=((j+1:Nat):Int) by lia];obtain⟨G,hG⟩:∃G,G=upd F c (.tup (rest.map V.int)):=⟨_,rfl⟩;have sG:aD G A:=fun q u z=>by
  rw[hG] at z;by_cases e:q=c;.subst e;rw[b9] at z;rw[<-z];exact c3
  .rw[a9 e] at z;exact s3 q u z
 have FG:aD F G:=fun q u z=>by
  rw[hG];by_cases e:q=c;.subst e;rw[b9];have:=s3 q u z;rw[c3] at this;exact this
  .rw[a9 e];exact z
 have rG:Rep K G (.tup (rest.map .int)) (.ref c):=by simp only[Rep];exact⟨c,_,rfl,by rw[hG,b9],aF.ints⟩
 have I1:aA K [] G A G A [some T,some (.ref a),some (.ref b),some (.ref c),some (.int v),some (.int ((j+1:Nat):Int)),y6,y7] [.v L,.no,.no,.v (.tup (rest.map .int)),.v (.int v),.v (.int ((j+1:Nat):Int)),.no,.no]:=Ai sG rfl fun i t q=>by match i,q with |0,q=>cases q;exact .inr ⟨_,_,rfl,rfl,Rep.mono FG _ rl⟩ |1,q=>cases q;exact .inl rfl |2,q=>cases q;exact .inl rfl |3,q=>cases q;exact .inr ⟨_,_,rfl,rfl,rG⟩ |4,q=>cases q;exact .inr ⟨_,_,rfl,rfl,by simp only[Rep]⟩ |5,q=>cases q;exact .inr ⟨_,_,rfl,rfl,by simp only[Rep]⟩ |6,q=>cases q;exact .inl rfl |7,q=>cases q;exact .inl rfl |n+8,q=>cases q
 refine az (XO:=vT) (E:=vU) (Fq (K:=K)) (Cb ar (fP aS) (fP aN)).r (Cb ar (fP (az fO ar aS.r)) gY).r [] G A G A _ _ _ I1 ?_;rw[Ve (rest:=rest) (k:=j+1) rfl rfl (by lia) (by lia) (by lia)];intro G4 H4 e4 v4 r4;have Mh:=r4;simp only[Rep] at Mh;obtain⟨r0,ws,rfl,_,_⟩:=Mh;have Vg:=Cd e4.fh r4;dsimp only[iM,fD,jE,List.set_cons_succ,List.set_cons_zero];have I2:aA K [] G4 H4 G4 H4 [some T,some (.ref a),some (.ref b),some (.ref c),some (.int v),some (.int ((j+1:Nat):Int)),some (.ref r0),y7] [.v L,.no,.no,.v (.tup (rest.map .int)),.v (.int v),.v (.int ((j+1:Nat):Int)),.no,.no]:=Ai e4.fh rfl fun i t q=>by match i,q with |0,q=>cases q;exact .inr ⟨_,_,rfl,rfl,Rep.mono e4.ff _ (Rep.mono FG _ rl)⟩ |1,q=>cases q;exact .inl rfl |2,q=>cases q;exact .inl rfl |3,q=>cases q;exact .inr ⟨_,_,rfl,rfl,Rep.mono e4.ff _ rG⟩ |4,q=>cases q;exact .inr ⟨_,_,rfl,rfl,by simp only[Rep]⟩ |5,q=>cases q;exact .inr ⟨_,_,rfl,rfl,by simp only[Rep]⟩ |6,q=>cases q;exact .inl rfl |7,q=>cases q;exact .inl rfl |n+8,q=>cases q
 refine az (XO:=vT) (E:=vU) fO ar (az cE (az cE ar (az fm ar aS.r).r).r (az fm ar ar).r).r [] G4 H4 G4 H4 _ _ _ I2 ?_;have g0:rest[0]?=some (rest.getD 0 0):=by rw[bN,bx (by lia)];rfl
 have gj:rest[j+1]?=some (rest.getD (j+1) 0):=by rw[bN,bx (by lia)];rfl
 obtain⟨row,w1,w2⟩:=tb _ (eg g0) _ (eg gj);have ev:m2 bo (ag 4) (m2 aw (m2 aw (ag 0) (m2 aL (ag 3) (mC (.int 0)))) (m2 aL (ag 3) (ag 5))) [.v L,.no,.no,.v (.tup (rest.map .int)),.v (.int v),.v (.int ((j+1:Nat):Int)),.no,.no]=.ok (.int (v+d (rest.getD 0 0) (rest.getD (j+1) 0))):=by have i0:aL (.tup (rest.map .int)) (.int 0)=some (.int (rest.getD 0 0)):=eL (k:=0) (by rw[bB,g0];rfl);have i1:aL (.tup (rest.map .int)) (.int ((j+1:Nat):Int))=some (.int (rest.getD (j+1) 0)):=eL (by rw[bB,gj];rfl);simp only[oG,ag,mC,ec,c6,R.aC,i0,i1,R.bj,w1,w2,tN]
 rw[ev];intro G5 H5 e5 v5 r5;simp only[Rep] at r5;subst r5;have Mi:=e5.hh _ _ Vg;have b5:=e5.hh _ _ (e4.hh _ _ b3);obtain⟨f,I⟩:∃f,f=(sd d (g.take i)++(rD d (rest,v)).take j).foldl ki []:=⟨_,rfl⟩;obtain⟨B,Mj⟩:∃B,B=v+d (rest.getD 0 0) (rest.getD (j+1) 0):=⟨_,rfl⟩;have al:f.length<200000:=by rw[I];have:=(FO (sd d (g.take i)++(rD d (rest,v)).take j) [] (by simp)).2.1;have l1:=cl i;rw[bO,gB] at this;simp only[nM] at this;lia
 rw[<-I] at b5;have g5:=gp.t (k:=(cV rest (j+1)).map Sum.inl) b5 Mi;rw[Mf] at g5;rw[<-Mj];have gd:((gv f (cV rest (j+1))).map V.int).getD (.int B)=V.int ((gv f (cV rest (j+1))).getD B):=by cases gv f (cV rest (j+1))<;>rfl
 refine⟨.int B,rfl,.ref b,rfl,b,rfl,.inr ⟨_,.inl b5⟩,.ref r0,rfl,.int B,rfl,_,g5,B,(gv f (cV rest (j+1))).getD B,by rw[gd],.ref b,rfl,.ref r0,rfl,b,_,rfl,mQ.t b5 Mi (by rw[dS,aI,fu];lia),?_⟩;have kk:∀q u,q≠b->A q=some u->upd H5 b (.dT (putK (dS f) ((cV rest (j+1)).map Sum.inl) (.int (if(gv f (cV rest (j+1))).getD B<B then(gv f (cV rest (j+1))).getD B else B)))) q=some u:=fun q u n z=>by rw[a9 n];exact e5.hh _ _ (e4.hh _ _ z)
 refine⟨_,_,_,fun q u z=>kk q u (fun e=>by rw[e,fb] at z;cases z) (s3 q u z),fun q u n z=>kk q u (fun e=>by rw[e,J] at z;cases z) (k3 q u n z),kk a _ ab a3,kk c _ (fun e=>by rw[e,b3] at c3;cases c3) c3,?_,rfl⟩;rw[b9,U',X j Y,<-sr,List.foldl_append,<-I,<-Mj];rfl
def df:Nat->Nat |0=>1 |m+1=>(2*m+1)*df m
theorem Vh:∀m,m<=6->df m<=20000 |0,_=>by decide |1,_=>by decide |2,_=>by decide |3,_=>by decide |4,_=>by decide |5,_=>by decide |6,_=>by decide |n+7,h=>by omega
theorem Ml:∀m,1<=df m |0=>aB _ |m+1=>Nat.mul_pos (by lia) (Ml m)
def Ay(ds:List D):R D:=match ds with |[L,.lst l]=>(match c5 l with |some a=>dt (a.length%2=0/\a.length<=12/\uo L (j_ L) a) (.ok (.int (lL (j_ L) (a.length/2) a))) .no |none=>.no) |_=>.no
def Az(K:Kx)(E:XK):TS:= iM (fD (Fu (k9 (fun b H Q=>∃p a,b=[.ref p]/\((gh K.f H p a/\∀l,H l=none->Q (.ref l) (upd H l (.tup a)))\/(jo K.f H p a/\Q (.ref p) H))) (dE (bh 1) bZ)) (tC (.int 0))) (jE 2)) (iM (Dr (tB (Bf (lF bZ) (bh 2))) (fD (wx (tY K) [] E (dE (bh 0) (dE (bh 2) bZ))) (jE 2))) (jD (zm (bh 2) (lF bZ))))
theorem Vi(sp:qc K XO Ay vs H Q E):vs.length=2:=by
 obtain⟨F,b,s,r,a⟩:=sp;unfold Ay at a;split at a;.rw[r.length];rfl
 .exact a.elim
theorem Vj(sp:qc K XO Ay vs H Q E):Az K E' {nx:=fun _ H'=>Q .non H',rt:=Q} (L2.start ["lengths","some","layer"] vs) H:=by
 obtain⟨F,ds,s,r,d⟩:=sp;unfold Ay at d;split at d;case h_2=>exact d.elim
 rename_i L l;split at d;case h_2=>exact d.elim
 rename_i n qn;rw[rq qn] at r;unfold dt at d;split at d;case isFalse=>exact d.elim
 rename_i hc;obtain⟨M,h12,ht⟩:=hc;obtain⟨y,v1,rfl,rl,r1⟩:=aF.two r;simp only[Rep] at r1;obtain⟨v,ws,rfl,x,X⟩:=r1;rw[ql X] at x;show Az K _ _ [some y,some (.ref v),none] H;refine fun a J=>?_;have fa:F a=none:=s.free J;have pa:v≠a:=fun e=>by simp_all
 refine⟨.ref v,rfl,v,n.map V.int,rfl,.inl ⟨.inl (.inl (by rw[a9 pa];exact s _ _ x)),fun t G=>?_⟩⟩;have ta:a≠t:=fun e=>by rw[<-e,b9] at G;cases G
 have S:H t=none:=by rw[a9 (aJ ta)] at G;exact G
 obtain⟨T,hT⟩:∃T,T=lL (j_ L) (n.length/2) n:=⟨_,rfl⟩;rw[<-hT] at d;refine⟨by rw[a9 ta,b9],n.map Sum.inl,t,.int 0,rfl,by rw[b9,bX];rfl,?_⟩;dsimp only[jE,List.set_cons_succ,List.set_cons_zero];have C:∀{g:Hp}{p b:Addr}{f:PX},g p=none->g b=some (.dT (dS f))->gp (upd g p (.tup [])) b (.ref p) ((gv f []).map V.int):=fun{g p b f} h1 M=>by rw[<-Mf];exact gp.t (k:=[]) (by rw[a9 (eF M h1)];exact M) b9
 refine⟨fun m σ g=>∃b f,σ=[some y,some (.ref v),some (.ref b)]/\aD H g/\H b=none/\g b=some (.dT (dS f))/\gS (j_ L) n T m f/\m<=6/\f.length*df m<=20000, ⟨n.length/2,a,[(n,0)],rfl,fun c u z=>?_,J,by rw[b9];rfl,by rw[hT];exact .first _ (by lia),by lia,by have:=Vh (n.length/2) (by lia);simp_all⟩,?_⟩;.rw[a9 (eF z J),a9 (eF z S),a9 (eF z J)];exact z
 rintro m σ g ⟨b,f,rfl,I,hb,Z,o,m6,hl⟩
 refine⟨by decide,fun p hp=>⟨.ref b,rfl,b,_,rfl,C hp Z,_,rfl,?_⟩⟩;have A:aD g (upd g p (.tup [])):=aD.upd hp;have b3:=A _ _ Z;cases m with |zero=>
  rw[o.last];show(if false=true then _ else _);rw[ao cW];refine⟨.ref b,rfl,by decide,fun q Y=>⟨b,.int T,rfl,?_,?_⟩⟩;.have:=C Y b3;rw[o.last] at this;simp_all
  .have s4:=(I.trans A).trans (show aD _ (upd (upd g p (.tup [])) q (.tup [])) from aD.upd Y);exact d F _ ⟨.refl _,s4,s.trans s4,fun _ _ h _=>h⟩ _ (by rfl) |succ m=>
  rw[o.xj];show(if true=true then _ else _);rw[ak rfl];obtain⟨nx,nl⟩:=o.next;have dm:df (m+1)=(2*m+1)*df m:=rfl;have dp:=Ml m;have xm:f.length*(2*m+1)*df m<=20000:=by rw[Nat.mul_assoc,<-dm];exact hl
  have xl:f.length*(2*m+1)<=20000:=bV (Nat.le_mul_of_pos_right _ dp) xm;refine⟨fun B H'=>∃b f,B=[some y,some (.ref v),some (.ref b)]/\aD H H'/\H b=none/\H' b=some (.dT (dS f))/\gS (j_ L) n T m f/\m<=6/\f.length*df m<=20000,fun B H' w=>⟨m,fq _,w⟩,?_⟩;refine⟨y,rfl,.ref b,rfl,b,y,F,L,j_ L,f,2*(m+1),rfl,s.trans (I.trans A),rl,b3,s.free hb,fun e U=>⟨o.ln e U,fun i hi j hj=>ht i (o.sub e U i hi) j (o.sub e U j hj)⟩,by lia,by rw[show 2*(m+1)-1=2*m+1 by lia];lia,fun H' b' k' f' h'=>?_⟩;refine⟨b',po (j_ L) f,rfl,fun c u z=>k' c u (eF z hb) (A _ _ (I _ _ z)),(I.trans A).free f',h',nx,by lia,bV (oZ _ nl) xm⟩
end
end PM
namespace L2
open PySem PySem.W PySem.Spec PyProof.Rows
section
variable{cmp:Nat->Nat->(Bool->Shared->Prop)->Shared->Prop}{s:Shared}{r:Nat->Int}{n:Nat}{p:Array Nat}
def vk(cmp:Nat->Nat->(Bool->Shared->Prop)->Shared->Prop)(s:Shared)(r:Nat->Int)(n:Nat):Prop:=∀(i j:Nat)(C:Bool->Shared->Prop),i<n->j<n->C (decide (r i<r j)) s->cmp i j C s
structure Pm(r:Nat->Int)(n:Nat)(p:Array Nat):Prop where
 perm:p.Perm (List.range n).toArray
 inj:∀i j,i<n->j<n->r i=r j->i=j
def rk(r:Nat->Int)(p:Array Nat)(k:Nat):Int:=r (p.getD k 0)
theorem Pm.size(h:Pm r n p):p.size=n:=by have:=h.perm.size_eq;simp_all
theorem Pm.lt(h:Pm r n p)(b:k<n):p.getD k 0<n:=by have a:=h.size;have:p[k]'(by lia)∈(List.range n).toArray:=h.perm.mem_iff.mp (Array.getElem_mem _);simp_all
theorem Pm.ne(h:Pm r n p){i j:Nat}(hi:i<n)(a:j<n)(f:i≠j):rk r p i≠rk r p j:=fun e=>by
 have c:=h.size;have b:=h.inj _ _ (h.lt hi) (h.lt a) e;have d:=(uz.mp h.perm).nodup_iff.mpr (by simpa using mf);have g:∀k,k<n->p.toList[k]?=some (p.getD k 0):=fun k l=>by simp_all
 have:=(nK (by simpa[c] using hi) d).mp ((g i hi).trans ((bT _ b).trans (g j a).symm));lia
def qT(r:Nat->Int)(p:Array Nat)(k:Nat):Prop:=∀i j,i<j->j<k->rk r p i<rk r p j
def Cf(r:Nat->Int)(p:Array Nat)(k:Nat):Prop:=∀i j,i<j->j<k->rk r p j<rk r p i
theorem FR(hA:vk cmp s r n)(l:Pm r n p):∀(f m:Nat),1<=m->m+f<=n->qT r p m-> (∀m',m<=m'->m'<=m+f->qT r p m'->(m'=m+f\/rk r p m'<rk r p (m'-1))->Q m' s)->(kas_asc p f m).kasWp cmp Q s
  |0,m,_,_,g,h=>h m (aB _) (aB _) g (.inl rfl) |f+1,m,t,x,g,h=>by
    refine hA _ _ _ (l.lt (by lia)) (l.lt (by lia)) ?_;by_cases c:r (p.getD m 0)<r (p.getD (m-1) 0);.rw[bg c];exact h m (aB _) (by lia) g (.inr c)
    . rw[bf c];refine FR hA l f _ (by lia) (by lia) (fun i j o v=>?_) fun m' a b c d=>h _ (by lia) (by lia) c (by lia);by_cases q:j<m;.exact g i j o q
      . have e:j=m:=by lia
        subst e;have u:=l.ne (i:=j) (j:=j-1) (by lia) (by lia) (by lia);have w:¬rk r p j<rk r p _:=c;by_cases z:i=j-1;.grind
        .have:=g i (j-1) (by lia) (by lia);lia
theorem Mm(hA:vk cmp s r n)(d:Pm r n p):∀(f m:Nat),1<=m->m+f<=n->Cf r p m-> (∀m',m<=m'->m'<=m+f->Cf r p m'->Q (p,m',0) s)->(kas_desc f p m 0).kasWp cmp Q s
  |0,m,_,_,g,h=>h m (aB _) (aB _) g |f+1,m,u,v,g,h=>by
    refine hA _ _ _ (d.lt (by lia)) (d.lt (by omega)) ?_;have w:=d.ne (i:=m) (j:=m-1) (by lia) (by lia) (by lia);by_cases c:r (p.getD m 0)<r (p.getD (m-1) 0)
    . rw[bg c];refine Mm hA d f (m+1) (by omega) (by omega) (fun i j l x=>?_) fun m' a b c=>h _ (by omega) (by omega) c;by_cases q:j<m;.exact g i j l q
      . have e:j=m:=by omega
        subst e;have t:rk r p j<rk r p _:=c;by_cases z:i=j-1;.simp_all
        .have:=g i (j-1) (by omega) (by omega);lia
    . rw[bf c];refine hA _ _ _ (d.lt (by lia)) (d.lt (by lia)) ?_;have t:¬rk r p m<rk r p _:=c;have o:r _<r _:=show rk r p (m-1)<rk r p m by lia
      rw[bg o];exact h m (aB _) (by omega) g
theorem Mn(a:m<=p.size):(kas_rev p 0 m).getD k 0=if k<m then p.getD (m-1-k) 0 else p.getD k 0:=by
 have e:=getElem?_mirror_all (i:=0) a k;unfold kas_rev;rw[oO,e];by_cases h:k<m;.rw[ak ⟨cG _,h⟩,ak h,Nat.zero_add,oO]
 .rw[ao (fun z=>h z.2),ao h,oO]
theorem Pm.rev(h:Pm r n p)(m:Nat):Pm r n (kas_rev p 0 m):=⟨(mirror_perm _ _ _ _).trans h.perm,h.inj⟩
theorem Vk (hA : vk cmp s r n) (hp : Pm r n p) {m : Nat} (h1 : 1 ≤ m) (hm : m ≤ n) (hd : Cf r p m) {Q : Nat × Array Nat → Shared → Prop}
    (h : ∀ m' p', Pm r n p' → 1 ≤ m' → m' ≤ n → qT r p' m' → Q (m', p') s) : (kas_tail3 m n p).kasWp cmp Q s := by
  unfold kas_tail3
  rw [nF]
  have hs := hp.size
  refine FR hA (hp.rev m) _ m h1 (by lia) (fun i j Vl hj => ?_) fun m' a b c _ => h _ _ (hp.rev m) (by lia) (by lia) c
  unfold rk
  rw [Mn (by lia), Mn (by lia), ak (by lia), ak hj]
  exact hd _ _ (by lia) (by lia)
theorem Vm(hA:vk cmp s r n)(e:Pm r n p)(f:m+1<=n)(hd:Cf r p (m+1))(h:∀m' d,Pm r n d->1<=m'->m'<=n->qT r d m'->Q (m',d) s):(kas_descPart m n p).kasWp cmp Q s:=by unfold kas_descPart;rw[nF];exact Mm hA e _ _ (by lia) (by lia) hd fun m' a b c=>Vk hA e (by lia) (by lia) c h
theorem Vn(hA:vk cmp s r n)(f:Pm r n p)(o:1<=n)(h:∀m' k,Pm r n k->1<=m'->m'<=n->qT r k m'->Q (m',k) s):(kas_count n p).kasWp cmp Q s:=by
  unfold kas_count;rw[nF];refine FR hA f _ 1 (aB _) (by lia) (fun i j _ _=>by lia) fun m a b c d=>?_;by_cases q:m=n;.rw[ak (by simp_all)];exact h m p f a (by lia) c
  . rw[ao (by simp_all)];by_cases g:m>1;.rw[ak g];refine hA _ _ _ (f.lt (by lia)) (f.lt (by lia)) ?_;have z:r _<r _:=c 0 (m-1) (by lia) (by lia);rw[bg z];exact h m p f a (by lia) c
    . rw[ao g];have e:m=1:=by lia
      refine Vm hA f (by lia) (fun i j l u=>?_) h;have t:j=1:=by lia
      simp_all
theorem FT(hA:vk cmp s r n)(e:Pm r n p)(o:k<n)(q:qT r p k)(h:∀l,l<=k->(∀i,i<l->rk r p i<rk r p k)->(∀i,l<=i->i<k->rk r p k<rk r p i)->Q l s):∀(f l u:Nat),l<=u->u<=k->u-l<=f->(∀i,i<l->rk r p i<rk r p k)->(∀i,u<=i->i<k->rk r p k<rk r p i)->(kas_place p k f l u).kasWp cmp Q s
  |0,l,u,w,t,x,lo,m=>h l (by lia) lo fun i a b=>m i (by lia) b |f+1,l,u,w,t,x,lo,m=>by
    unfold kas_place;by_cases g:l≥u;.rw[ak g];exact h l (by lia) lo fun i a b=>m i (by lia) b
    . rw[ao g];refine hA _ _ _ (e.lt o) (e.lt (by lia)) ?_;have y:=e.ne (i:=k) (j:=(l+u)/2) o (by lia) (by lia);by_cases c:r (p.getD k 0)<r (p.getD ((l+u)/2) 0)
      . rw[bg c];refine FT hA e o q h f l ((l+u)/2) (by lia) (by lia) (by lia) lo fun i a b=>?_;have v:rk r p k<rk r p ((l+u)/2):=c;by_cases z:i=(l+u)/2;.simp_all
        .have:=q ((l+u)/2) i (by lia) b;lia
      . rw[bf c];have v:¬rk r p k<rk r p ((l+u)/2):=c;refine FT hA e o q h f _ u (by lia) t (by lia) (fun i a=>?_) m;by_cases z:i=(l+u)/2;.rw[z];lia
        .have:=q i ((l+u)/2) (by lia) (by lia);lia
theorem Mo{k l i:Nat}(c:k<p.size)(d:l<=k):(bubble p k (k-l)).getD i 0=if i=l then p.getD k 0 else if l<i/\i<=k then p.getD (i-1) 0 else p.getD i 0:=by
  have e:=getElem?_bubble c (k-l) (by lia) i;rw[show k-(k-l)=l by lia] at e;rw[oO,e];by_cases a:i=l;.rw[ak a,ak a,oO]
  . rw[ao a,ao a];by_cases b:l<i/\i<=k;.rw[ak b,ak b,oO]
    .rw[ao b,ao b,oO]
theorem Mp(hA:vk cmp s r n)(h:∀m,Pm r n m->qT r m n->Q m s):∀(f:Nat)(p:Array Nat)(k:Nat),k+f=n->Pm r n p->qT r p k->(kas_bin f p k).kasWp cmp Q s
  |0,p,k,y,c,d=>h p c (by simp_all) |f+1,p,k,y,c,d=>by
    unfold kas_bin;rw[nF];refine FT hA c (by lia) d (fun l t lo x=>?_) k 0 k (cG _) (aB _) (by lia) (fun i z=>by lia) fun i a b=>by lia
    refine Mp hA h f _ (k+1) (by lia) ⟨(bubble_perm _ _ _).trans c.perm,c.inj⟩ fun i j g B=>?_;have u:k<p.size:=by rw[c.size];lia
    unfold rk;rw[Mo u t,Mo u t];by_cases w:i=l;.rw[ak w,ao (show¬j=l by lia),ak (show l<j/\j<=k by lia)];exact x (j-1) (by lia) (by lia)
    . rw[ao w];by_cases o:j=l;.rw[ak o,ao (show¬(l<i/\i<=k) by lia)];exact lo i (by lia)
      . rw[ao o];by_cases v:l<i/\i<=k;.rw[ak v,ak (show l<j/\j<=k by lia)];exact d (i-1) (j-1) (by lia) (by lia)
        . rw[ao v];by_cases q:l<j/\j<=k
          . rw[ak q];by_cases A:i=j-1;.lia
            .exact d i (j-1) (by lia) (by lia)
          .rw[ao q];exact d i j g (by lia)
theorem Vo(hA:vk cmp s r n)(g:2<=n)(b:∀i j,i<n->j<n->r i=r j->i=j)(h:∀a,Pm r n a->qT r a n->Q a s):(kas_sort n).kasWp cmp Q s:=by
  unfold kas_sort;rw[nF];refine Vn hA ⟨.refl _,b⟩ (by lia) fun m p f k l d=>?_;by_cases c:m<n;.rw[ak c,show max m 1=m by lia];exact Mp hA h _ p m (by lia) f d
  . rw[ao c];have e:m=n:=by lia
    rw[e] at d;exact h p f d
end
section
variable{prog:Program}{w:World}{A:Around}{E:Value->Shared->Prop}{s:Shared}
def Mq(h:Heap)(v:Value)(t:List Int):Prop:=∃(a:Addr) (b:List Value),v=.ref a/\h.IsTuple a b.toArray/\IntsAre b t
inductive ou(h:Heap):List Value->List (List Int)->Prop |nil:ou h [] [] |cons{v:Value}{t:List Int}{vs:List Value}{ts:List (List Int)}:Mq h v t->ou h vs ts->ou h (v::vs) (t::ts)
theorem ou.len(x:ou h vs ts):vs.length=ts.length:=by induction x with |nil=>rfl |cons _ _ b=>simp[b]
theorem ou.get(x:ou h vs ts):∀{i:Nat},i<vs.length->Mq h (vs.getD i .none) (ts.getD i []):=by induction x with |nil=>simp |cons t _ f=> intro i e;cases i with |zero=>exact t |succ i=>simp_all
theorem ou.keep(k:∀a xs,h.IsTuple a xs->h'.IsTuple a xs)(x:ou h vs ts):ou h' vs ts:=by induction x with |nil=>exact .nil |cons t _ f=> obtain⟨a,g,rfl,d,c⟩:=t;exact .cons ⟨a,_,rfl,k _ _ d,c⟩ f
theorem ou.aY(x:ou h vs ts)(f:∀t∈ts,t≠[]):vV h vs (ts.map fun t=>t.headD 0):=by induction x with |nil=>exact .nil |@cons v t vs ts i _ j=> refine .cons ?_ (j fun t d=>f t (bz _ d));obtain⟨a,g,rfl,d,e⟩:=i;cases e with |nil=>simp_all |cons m k e=>exact⟨a,_,_,rfl,d⟩
theorem Mr{Q:Bool->Shared->Prop}{c:Bool}:∀{xs ys:List Value}{x y:List Int}(i:Nat),IntsAre xs x->IntsAre ys y->c=decide (x.length<y.length)->Q (decide (x<y)) s->KatLex prog w A true c Q (xs.zip ys) i s
  |_,_,_,_,i,.nil,.nil,f,h=>by refine kat_nil ?_;simp_all |_,_,_,_,i,.nil,.cons m t g,f,h=>by refine kat_nil ?_;simp_all |_,_,_,_,i,.cons m t j,.nil,f,h=>by refine kat_nil ?_;simp_all |_,_,_,_,i,@IntsAre.cons a t p l j,@IntsAre.cons b u o n g,f,h=>by
    refine kat_cons (wpAny_eqBool_int ?_);by_cases e:a=b;.subst e;rw[pE];refine kat_yes (Mr (i+1) j g (by simp_all) ?_);simp_all
    . rw[iD.mpr e];have q:decide (a::l<b::n)=decide (a<b):=kJ.mpr (by rw[List.cons_lt_cons_iff];simp[e]);rw[q] at h;refine kat_no ?_;by_cases z:i=0;.subst z;exact oneLt_int h
      . have k:(true&&i==0)=false:=by simpa using z
        rw[k];exact kat_one _ _ (lt_int h)
theorem Ms{c:Type}{p q:c->Bool}(h:∀x,p x=true->q x=true):∀{l:List c},(∃x∈l,q x=true/\p x=false)->l.countP p<l.countP q
  |[],⟨x,b,_⟩=>by cases b |y::l,⟨x,b,d,f⟩=>by
    have g:l.countP p<=l.countP q:=List.countP_mono_left fun x _=>h x;rw[List.countP_cons,List.countP_cons];rcases aR.mp b with e|e;.subst e;rw[ak d,ao (by simp_all)];lia
    . have:=Ms h ⟨x,e,d,f⟩;by_cases z:p y=true;.simp_all
      grind
def ni(ts:List (List Int))(i:Nat):Int:=(ts.countP fun t=>decide (t<ts.getD i []):Nat)
theorem Cg(hi:i<ts.length)(f:j<ts.length):ni ts i<ni ts j↔ts.getD i []<ts.getD j []:=by
  have b:∀{i j:Nat},i<ts.length->ts.getD i _<ts.getD j _->ni _ i<ni _ j:=fun{i j} hi h=>by
    refine Int.ofNat_lt.mpr (Ms (fun x d=>?_) ⟨_,?_,bg h,bf (List.lt_irrefl _)⟩);.exact bg (List.lt_trans (kK d) h)
    .rw[bN,bx hi];simp
  refine⟨fun h=>?_,b hi⟩;apply dO;intro n;rcases List.le_total (ts.getD i []) (ts.getD j []) with a|a
  . by_cases e:ts.getD i []=ts.getD j [];.unfold ni at h;rw[e] at h;lia
    grind
  . by_cases e:ts.getD i []=ts.getD j [];.unfold ni at h;rw[e] at h;lia
    .have:=dO fun z=>e (sL z n);have:=b f this;lia
theorem Vp(f:ts.Nodup)(hi:i<ts.length)(a:j<ts.length)(e:ni ts i=ni ts j):i=j:=by
 have c:¬ts.getD i _<ts.getD j _:=fun z=>by have:=(Cg hi a).mpr z;lia
 have b:¬ts.getD j _<ts.getD i _:=fun z=>by have:=(Cg a hi).mpr z;lia
 have d:=sL b c;have g:∀k,k<ts.length->ts[k]?=some (ts.getD k []):=fun k h=>by rw[bN,bx h];rfl
 exact(nK hi f).mp ((g i hi).trans ((bT _ d).trans (g j a).symm))
theorem Vq(x:ou s.heap vs ts):vk (kas_cmp prog w A (tuples' true) (pairsOf vs)) s (ni ts) vs.length:=by
 rw[<-kas_ask_eq];intro i j C z y h;have I:=x.len;obtain⟨a,e,p,v,f⟩:=x.get z;obtain⟨b,g,r,u,d⟩:=x.get y;unfold kas_ask;rw[p,r];obtain⟨L,q,_,G,m⟩:=v;obtain⟨D,o,_,H,n⟩:=u;have J:e.length=(ts.getD i []).length:=by clear p q m h;generalize ts.getD i _=t at f;induction f with |nil=>rfl |cons _ _ _ l=>simp[l]
 have B:g.length=(ts.getD j []).length:=by clear r o n h;generalize ts.getD j _=t at d;induction d with |nil=>rfl |cons _ _ _ l=>simp[l]
 refine kat_lt q m o n (Mr 0 f d (by simp_all) ?_);rw[kJ.mpr (Cg (by lia) (by lia)).symm];exact h
theorem Vr(y:s.heap.get? a=some (seqObj "list" vs.toArray n))(x:ou s.heap vs ts)(nd:ts.Nodup)(H:∀t∈ts,t≠[])(O:vs.length<64) (g:∀p,Pm (ni ts) vs.length p->qT (ni ts) p vs.length->P (.done (.ret .none)) {s with heap:=sortedHeap s.heap a vs (p.toList.map fun i=>vs.getD i .none).toArray}):wpAny (model prog w) A (Builtin.«list.sort» ⟨[.ref a],[]⟩) P E s:=by
  rw[list_sort_plain];have ha:a<s.heap.objs.size:=aQ y;refine ah (listItems_at y rfl (ah (listUpdate_at y rfl ?_)));obtain⟨T,u⟩:∃T,(s.heap.update a (Obj.mapSeq fun _=>#[])).get? a=some (seqObj "list" #[] T):=⟨_,get?_update_seq y (fun _=>#[])⟩;refine ah (seqEpoch_at u rfl (ah (wpAny_newTuple (ah (wpAny_newList (fv ?_))))));obtain⟨f,C⟩:∃f,f=((s.heap.update a (Obj.mapSeq fun _=>#[])).push (seqObj "tuple" vs.toArray 0)).push (seqObj "list" #[] 0):=⟨_,rfl⟩;have h:f.get? a=some (seqObj "list" #[] T):=by rw[C];exact bu _ (bu _ u)
  have kp:∀b I,s.heap.IsTuple b I->f.IsTuple b I:=fun b I hb=>by
    obtain⟨o,q,hc,r⟩:=hb;refine⟨o,?_,hc,r⟩;have H:b≠a:=fun z=>by rw[z,y] at q;cases q;simp_all
    rw[C];exact bu _ (bu _ (by rw[Heap.get?_update_ne _ _ _ _ H];exact q))
  show wpAny (model prog w) A _ P E {s with heap:=((s.heap.update a (Obj.mapSeq fun _=>#[])).push (seqObj "tuple" vs.toArray 0)).push (seqObj "list" #[] 0)};unfold sortedHeap at g;rw[<-C] at g⊢;dsimp only;have x6:ou f vs ts:=x.keep kp;have ln:=x.len;by_cases d:vs.toArray.size<2
  . have h1:vs.length<=1:=by rw[bI] at d;lia
    rw[ak d,ak d];refine ah (au ?_);rw[StateT.run_pure];have e:(vs.toArray.zip vs.toArray).map (·.2)=((List.range vs.length).toArray.toList.map fun i=>vs.getD i Value.none).toArray:=by rw[<-Array.toList_inj];match vs,h1 with |[],_=>simp |[v],_=>simp
    refine ah (au (ah (seqEpoch_at h rfl (ah (listUpdate_at h rfl ?_ (hsz2:=?_))))));.simp only[bne_self_eq_false,oQ,gE];refine au ?_;show P _ {s with heap:=f.update a (Obj.mapSeq fun _=>(vs.toArray.zip vs.toArray).map (·.2))};rw[e];exact g _ ⟨.refl _,fun i j hi hj _=>by lia⟩ fun i j Vl hj=>by lia
    .show((vs.toArray.zip vs.toArray).map (·.2)).size<=_;rw[e,bI,aI,fu];simp;lia
  have D:2<=vs.length:=by rw[bI] at d;lia
  rw[ao d,ao d];obtain⟨v,B,Y⟩:∃v B,vs=v::B:=by cases vs with |nil=>simp at D |cons v B=>exact⟨v,B,rfl⟩
  refine ah ?_;have U:=US (prog:=prog) (w:=w) (A:=A) (E:=E) (s:={s with heap:=f}) (v:=v) (vs:=B) (ns:=ts.map fun t=>t.headD 0) (Q:=fun k m=>k=tuples' true/\m={s with heap:=f}) (by rw[<-Y];exact x6.aY H) ⟨rfl,rfl⟩;rw[<-Y] at U;refine cw U ?_ fun _ _ e=>e;rintro k m ⟨rfl,rfl⟩;have M:SortSt.mk' (tuples' true) (vs.toArray.zip vs.toArray) #[] 7 none=kas_st (tuples' true) (pairsOf vs) (List.range vs.length).toArray:=by have e:=kas_range (pairsOf vs);rw[pairsOf_size] at e;show SortSt.mk' (tuples' true) (pairsOf vs) #[] 7 none=SortSt.mk' (tuples' true) ((List.range vs.length).toArray.map (kas_item (pairsOf vs))) #[] 7 none;rw[e]
  have run:=kas_runs (prog:=prog) (w:=w) (A:=A) (E:=E) (κ:=tuples' true) (it:=pairsOf vs) (s:={s with heap:=f}) (G:=fun p m=>m={s with heap:=f}/\Pm (ni ts) vs.length p/\qT (ni ts) p vs.length) (Q:=fun _ c m=>∃p:Array Nat,m={s with heap:=f}/\p.size=vs.length/\arrOf c=p.map (kas_item (pairsOf vs))/\failedOf c=none/\Pm (ni ts) vs.length p/\qT (ni ts) p vs.length) D O (fun p' c m a1 a2 a3 a4=>⟨p',a4.1,a1,a2,a3,a4.2⟩) (Vo (Vq x6) D (fun i j hi hj e=>Vp nd (by lia) (by lia) e) fun p' b1 b2=>⟨rfl,b1,b2⟩);rw[<-M] at run;refine ah (cw run ?_ fun _ _ e=>e);rintro⟨⟨⟩,c⟩ m ⟨p,rfl,hp,J,hf,pm,L⟩;dsimp only;have l:(arrOf c).map (·.2)=(p.toList.map fun i=>vs.getD i Value.none).toArray:=by apply Array.toList_inj.mp;rw[J,Array.map_map,Array.toList_map];exact i9 fun i _=>by show(kas_item (pairsOf vs) i).2=_;rw[kas_item_eq]
  have N:(p.toList.map fun i=>vs.getD i Value.none).toArray.size=vs.length:=by rw[bI,aI,si,hp]
  refine ah (seqEpoch_at h rfl (ah (listUpdate_at h rfl ?_ (hsz2:=?_))));.rw[hf];simp only[bne_self_eq_false,oQ,gE];refine au ?_;show P _ {s with heap:=f.update a (Obj.mapSeq fun _=>(arrOf c).map (·.2))};rw[l];exact g p pm L
  .show((arrOf c).map (·.2)).size<=_;rw[l,N,fu];lia
theorem Vs(z:s.heap.IsList l vs.toArray)(x:ou s.heap vs ts)(u:ts.Nodup)(q:∀t∈ts,t≠[])(f:vs.length<64) (h:∀p,Pm (ni ts) vs.length p->qT (ni ts) p vs.length->Q (.ref (s.heap.objs.size+1)) {s with heap:=sortedAll s.heap vs (p.toList.map fun i=>vs.getD i .none).toArray}):wpAny (model prog w) A (call (.builtin "sorted") [.ref l]) Q E s:=by
 refine Calls.call_function_entry kind_sorted plain_sorted entry_sorted (args_sorted1 _) ?_;refine ah (m:=checkCount "sorted" 1 1 _) (au (ah (collect_list z (ah (wpAny_newList ?_)))));obtain⟨a,g⟩:∃a,a=(s.heap.push (seqObj "list" #[] 0)).update s.heap.objs.size (Obj.mapSeq (.++vs.toArray)):=⟨_,rfl⟩;have c:a.objs.size=s.heap.objs.size+1:=by simp_all
 have e:(a.push (seqObj "list" vs.toArray 0)).get? (s.heap.objs.size+1)=some (seqObj "list" vs.toArray 0):=by rw[<-c];exact cu _ rfl
 have v:∀b j,s.heap.IsTuple b j->(a.push (seqObj "list" vs.toArray 0)).IsTuple b j:=fun b j y=>by obtain⟨o,d,r⟩:=y;refine⟨o,bu _ ?_,r⟩;rw[g,Heap.get?_update_ne _ _ _ _ (bC (aQ d))];exact bu _ d
 unfold sortedAll at h;rw[<-g] at h;rw[<-g,c];refine ah (fv (iH slot_list_sort ⟨_,e,rfl⟩ entry_list_sort (Vr (s:={s with heap:=a.push _}) e (x.keep v) u q f fun p k n=>⟨_,rfl,?_⟩) (args_list_sort _)));exact au ⟨_,rfl,h p k n⟩
end
end L2
namespace PM
open PySem L2
def kU(ts:List (List Int)):List (List Int):=ts.mergeSort fun a b=>decide (a<=b)
theorem Mt(ts:List (List Int)):(kU ts).Pairwise fun a b=>a<=b:= (mq (le:=fun a b=>decide (a<=b)) (fun a b c d e=>bg (List.le_trans (kK d) (kK e))) (fun a b=>by grind) _).imp fun h=>kK h
theorem FU(ts:List (List Int)):(kU ts).Perm ts:=l9 ..
theorem Vt(e:Pm (ni ts) ts.length p)(f:qT (ni ts) p ts.length):(p.toList.map fun i=>ts.getD i [])=kU ts:=by
 have c:(List.range ts.length).map (fun i=>ts.getD i [])=ts:=by
  apply nJ;intro i;by_cases h:i<ts.length;.simp_all
  simp_all
 have o:=by simpa using uz.mp e.perm
 refine sq (fun a b _ _ q r=>sL q r) ?_ (Mt _) (((o.map _).trans (by rw[c])).trans (FU ts).symm);rw[List.pairwise_iff_getElem];intro i j n m d;have s:=e.size;simp[aI,si] at n m;simp[List.getElem_map];have a:=f i j d (by lia);have g:∀k(h:k<p.size),p.getD k 0=p.toList[k]'(by omega):=fun k h=>by simp[h]
 unfold rk at a;rw[g i n,g j m] at a;have l:∀k(h:k<p.size),p.toList[k]'(by omega)<ts.length:=fun k h=>by rw[<-g k h];exact e.lt (by lia)
 exact fun z=>by have b:=(Cg (l j _) (l i _)).mpr z;omega
def yp:List D->Option D |[.lst l]=>(m8 l).bind fun a=>dt (a.Nodup/\a.length<64/\∀t∈a,t≠[]) (some (.lst ((kU a).map encC))) none |_=>none
theorem Vu(h1:ts.Nodup)(h2:ts.length<64)(h3:∀t∈ts,t≠[]):yp [.lst (ts.map encC)]=some (.lst ((kU ts).map encC)):=by show(m8 _).bind _=_;rw[L3];simp_all
end PM
namespace L2
open PySem PySem.W PySem.Spec PyProof.Rows PM
section
variable{X:Cx}{ca:Nat->Addr}{an:Nat->Str}
def Mu(K:Kx):List V->Hp->VK->Prop:=fun e H Q=>∃(p:Addr) (F:Hp) (c:List V) (b:List (List Int)),e=[.ref p]/\Rd H p (.lst c)/\aD F H/\aF K F (b.map encC) c/\b.Nodup/\b.length<64/\(∀t∈b,t≠[])/\∀a d,H a=none->aF K F ((kU b).map encC) d->Q (.ref a) (upd H a (.lst d))
theorem Mv(I:Inv X pins o H s)(g:aD F H):∀{ts:List (List Int)}{vs:List V}{us:List Value},aF ⟨X.K,ca,an⟩ F (ts.map encC) vs->Vals vs us->ou s.heap us ts |[],vs,us,r,b=>by subst r;cases b;exact .nil |t::ts,vs,us,r,b=>by obtain⟨v,p,rfl,h,j⟩:=r;cases b with |cons b d=> refine .cons ?_ (Mv I g j d);obtain⟨a,n,rfl,i,l⟩:=h;cases b;obtain⟨k,e,m,_⟩:=I.tuple (.inl (.inl (g _ _ i)));rw[ql l] at e;exact⟨a,_,rfl,m,QQ e⟩
theorem Mx(r:Vals vs us):∀{ks:List Nat},(∀k∈ks,k<vs.length)->Vals (ks.map fun i=>vs.getD i .non) (ks.map fun i=>us.getD i .none) |[],_=>.nil |k::ks,h=>by refine .cons ?_ (Mx r fun j c=>h j (bz _ c));have b:=h k (by simp);obtain⟨u,e,d⟩:=r.get (show vs[k]?=some (vs.getD k .non) by rw[bN,bx b];rfl);show RelV _ (us.getD k _);rw[bN (l:=us),e];exact d
theorem Mz{K:Kx}{ts:List (List Int)}(r:aF K F (ts.map encC) vs):∀{ks:List Nat},(∀k∈ks,k<ts.length)->aF K F ((ks.map fun i=>ts.getD i []).map encC) (ks.map fun i=>vs.getD i .non) |[],_=>.nil |k::ks,h=>by have b:=h k (by simp);obtain⟨u,e,c⟩:=r.get (d:=encC (ts.getD k [])) (by rw[bB,bN,bx b];rfl);refine .cons ?_ (Mz r fun j f=>h j (bz _ f));show Rep K F _ (vs.getD k _);rw[bN (l:=vs),e];exact c
theorem Vv:cj X (.builtin "sorted") (Mu ⟨X.K,ca,an⟩):=by
 intro x s σ H xs us Q I r h;obtain⟨p,F,U,v,rfl,C,J,l,B,y,E,q⟩:=h;obtain⟨u,rfl,T⟩:=lW r;cases T;obtain⟨z,f,n,g,e⟩:=C.ok I.bF;have G:=g.length;have uQ:=l.length;rw[aI] at uQ;have A:=Mv I J l g;refine Vs ⟨_,e,rfl,n,rfl⟩ A B E (by lia) fun m d w=>?_;have M:f.length=v.length:=by lia
 rw[M] at d w;obtain⟨c,L⟩:=sortedAll_at _ _ _;have a:∀k∈m.toList,k<v.length:=fun k j=>by have:=(uz.mp d.perm).mem_iff.mp j;simp_all
 have t:=Mz l a;rw[Vt d w] at t;have N:(m.toList.map fun i=>U.getD i V.non).length<=sizeLine:=by rw[aI,si,d.size];lia
 refine⟨.ref _,_,?_,rfl,q _ _ (I.bF.fresh (fo _)) t⟩;exact I.laid (fun b o Y=>sortedAll_old Y) (fo _) ⟨N,_,c,Mx g (fun k j=>by have:=a k j;lia),L⟩
end
end L2
namespace PM
open PySem L2
section
variable{K:Kx}
theorem Vw:BR K (Mu K) yp:=by
 intro F H o n d Q s r e q;unfold yp at e;split at e;.rename_i l;cases z:m8 l with |none=>simp_all |some k=>
  rw[z] at e;simp[o8] at e;unfold dt at e;split at e;.rename_i b;cases e;rw[LZ z] at r;cases r with |cons r i=> cases i;obtain⟨a,m,rfl,h,j⟩:=r;exact⟨a,F,_,_,rfl,h,s,j,b.1,b.2.1,b.2.2,fun p t c g=>q p F _ (.eM s c) (s.free c) c ⟨_,b9,g⟩⟩
  simp_all
 simp_all
end
end PM
namespace My
open PySem L2 PM
def MA:Nat→Bool
 | 2=>true
 | _=>false
def FV (c:Nat):Bool:=MA (c%16)
def MB:Nat→Bool
 | 2=>true
 | _=>false
def FW (c:Nat):Bool:=MB (c%16)
def MC:Nat→Option Bool
 | 2=>some false
 | _=>none
def MD (c:Nat):Option Bool:=MC (c%16)
def ME:Nat→Option Bool
 | 2=>some false
 | _=>none
def MF (c:Nat):Option Bool:=ME (c%16)
def MG:Nat→Option Bool
 | 2=>some false
 | _=>none
def MH (c:Nat):Option Bool:=MG (c%16)
def MI:Nat→Option Bool
 | 2=>some false
 | _=>none
def MJ (c:Nat):Option Bool:=MI (c%16)
def MK:Nat→Option Bool
 | 2=>some false
 | _=>none
def ML (c:Nat):Option Bool:=MK (c%16)
def MN:Nat→Option Bool
 | 2=>some true
 | _=>none
def MO (c:Nat):Option Bool:=MN (c%16)
def Vx:Nat→Bool
 | _=>false
def zwp (c:Nat):Bool:=Vx (c%16)
def Vy:Nat→Bool
 | _=>false
def zv7 (c:Nat):Bool:=Vy (c%16)
def Vz:Nat→Bool
 | 7=>true
 | _=>false
def VA:Nat→Bool
 | 7=>true
 | _=>false
def zrx:Nat→Option Bool
 | 7=>some true
 | _=>none
def FX:En→O:=(aq (a_ (aV (m2 oLt (ag 1) (bp aW (ai (ag 0) ae))))
 (aT (m2 aw (ag 0) (ag 1)))
 cU)
 (aT (mC (.int 0))))
def oy:List D→R D:=cf 2 0 FX
def MP:En→O:=(aT (m2 oMod (m2 fe (m2 bo (m2 bo (m2 oMod (ag 0) (m2 lG (mC (.int 10)) (mC (.int 20)))) (m2 fe (ag 1) (ag 1))) (mC (.int 1))) (m2 bo (mC (.int 48271)) (m2 fe (mC (.int 2)) (ag 1)))) (mC (.int 2147483647))))
def vX:List D→R D:=cf 2 0 MP
def VB:En→O:=(aq (a_ (aV (m2 oEq (ag 1) (ag 2)))
 (aT (mC (.int 0)))
 cU)
 (aq (av (bp zX (ai (ag 1) (ai (ag 2) ae))) (aG 4))
 (aq (av (bp zW (ai (ag 1) (ai (ag 2) ae))) (aG 5))
 (aq (av (m2 bo (m2 bo (m2 aL (m2 aw (ag 0) (ag 4)) (mC (.int 1))) (m2 fe (mC (.int 7)) (m2 aL (m2 aw (ag 0) (ag 5)) (mC (.int 0))))) (m2 fe (ag 4) (ag 5))) (aG 6))
 (aT (m2 bo (ag 3) (m2 oMod (ag 6) (m2 bo (ag 3) (mC (.int 1))))))))))
def FY:List D→R D:=cf 4 3 VB
def MQ:En→O:=(aq (av (bD vX (ai (bD oy (ai (af 0) (ai (af 4) ae))) (ai (m2 bo (ag 4) (mC (.int 300))) ae))) (aG 5))
 (aq (av (m2 aw (aU (ai (mC (.int 3)) (ai (mC (.int 50)) (ai (m2 lG (mC (.int 10)) (mC (.int 8))) (ai (m2 lG (mC (.int 10)) (mC (.int 17))) ae))))) (m2 oMod (ag 5) (mC (.int 4)))) (aG 6))
 (oH 3 (bL (ai (m2 oMod (m2 fe (m2 oDiv (ag 5) (mC (.int 4))) (mC (.int 48271))) (ag 6)) (ai (m2 oMod (m2 fe (m2 oMod (m2 fe (m2 oDiv (ag 5) (mC (.int 4))) (mC (.int 69621))) (mC (.int 2147483629))) (mC (.int 40692))) (ag 6)) ae))))))
def MR:En→O:=dA (bM (ai (af 1) ae)) (aG 4) MQ
def MS:En→R D:=ly (bM (ai (af 2) ae)) [0,3,1] 1 (eD 3) none (tL FY (ai (ag 0) (ai (af 1) (ai (af 3) (ai (af 2) ae)))))
def FZ:En→R D:=ly (bM (ai (af 1) ae)) [3,7,1] 1 (eD 3) none MS
def MT:En→R D:=ly (cP (ag 0)) [1] 1 (eD 1) none (m2 bo (bp tM (ai (m2 jf (m2 aL (ag 0) (mC (.int 0))) (m2 aL (ag 1) (mC (.int 0)))) ae)) (bp tM (ai (m2 jf (m2 aL (ag 0) (mC (.int 1))) (m2 aL (ag 1) (mC (.int 1)))) ae)))
def MU:En→R D:=ly (cP (ag 3)) [3] 1 (eD 1) none MT
def VC:En→O:=(aq (av (aU ae) (dw 3))
 (aq MR
 (aq (a_ (aV (m2 oEq (m2 oMod (ag 2) (mC (.int 3))) (mC (.int 0))))
 (aq (av (m2 bo (mC (.int 1)) (m2 aL (m2 aw (ag 3) (mC (.int 0))) (mC (.int 0)))) (aG 7))
 (gR FZ))
 cU)
 (gR MU))))
def AA:List D→R D:=fi 3 5 VC
def vl:En→O:=(a_ (aV (m2 uj (m2 aw (m2 aw (ag 0) (ag 2)) (ag 2)) (mC (.int 0))))
 (yh 2 (ai (mC (.str "a place is away from itself")) ae))
 cU)
def Ci:En→O:=dA (bM (ai (af 1) ae)) (aG 2) vl
def vm:En→O:=(a_ (aV (m2 uj (m2 aw (m2 aw (ag 0) (ag 2)) (ag 3)) (m2 aw (m2 aw (ag 0) (ag 3)) (ag 2))))
 (yh 2 (ai (mC (.str "two places have two unlike lengths")) ae))
 cU)
def VD:En→O:=dA (bM (ai (af 2) ae)) (aG 3) vm
def AB:En→O:=VD
def Cj:En→O:=dA (bM (ai (af 1) ae)) (aG 2) AB
def vn:En→O:=(a_ (aV (m2 oLt (m2 bo (m2 aw (m2 aw (ag 0) (ag 2)) (ag 3)) (m2 aw (m2 aw (ag 0) (ag 3)) (ag 4))) (m2 aw (m2 aw (ag 0) (ag 2)) (ag 4))))
 (yh 2 (ai (mC (.str "a way by a third place is shorter than the straight one")) ae))
 cU)
def VE:En→O:=dA (bM (ai (af 1) ae)) (aG 4) vn
def AD:En→O:=VE
def VF:En→O:=dA (bM (ai (af 1) ae)) (aG 3) AD
def AE:En→O:=VF
def Ck:En→O:=dA (bM (ai (af 1) ae)) (aG 2) AE
def MV:En→O:=(aq (av (bp aW (ai (ag 0) ae)) (aG 1))
 (aq Ci
 (aq Cj
 Ck)))
def se:List D→R D:=cf 1 4 MV
def F_:En→O:=(oH 3 (bL (ai (m2 aw (m2 aw (ag 0) (ag 5)) (ag 4)) (ai (af 4) (ai (af 5) ae)))))
def MW:En→O:=dA (cP (af 1)) (aG 5) F_
def Ga:En→O:=MW
def MX:En→O:=dA (cP (af 2)) (aG 4) Ga
def VG:En→O:=(aq (av (aU ae) (dw 3))
 (aq MX
 (aq (av (bp z6 (ai (ag 3) ae)) (aG 6))
 (aT (bL (ai (m2 aL (ag 6) (mC (.int 2))) (ai (m2 aL (ag 6) (mC (.int 1))) ae)))))))
def Cm:List D→R D:=cf 3 4 VG
def Cn:En→R Bool:=(aV (m2 n6 (bp aW (ai (ag 2) ae)) (mC (.int 0))))
def Gd:En→O:=(aq (av (tL Cm (ai (af 0) (ai (ag 1) (ai (ag 2) ae)))) (aG 4))
 (aq (oH 3 (af 4))
 (aq (oH 1 (m2 aL (ag 4) (mC (.int 1))))
 (ym 2 (m2 aL (ag 4) (mC (.int 1)))))))
def MY:En→O:=x_ Cn Gd
def VH:En→O:=(aq (mW (iV se (ai (af 0) ae)))
 (aq (av (aU (ai (mC (.int 0)) ae)) (dw 1))
 (aq (av (B8 (ai (mC (.int 1)) (ai (bp aW (ai (ag 0) ae)) ae))) (dw 2))
 (aq (av (aU ae) (dw 3))
 (aq MY
 (vK 3))))))
def yq:List D→R D:=fi 1 4 VH
def MZ:En→O:=(yb 1 (af 3) (vJ (wU (ag 1) (af 3) (mC (.bl false)))))
def M0:En→O:=dA (zG (af 2)) (aG 3) MZ
def Ge:En→O:=M0
def M1:En→O:=dA (cP (af 0)) (aG 2) Ge
def Gf:En→R D:=ly (LF (af 1)) [1] 1 (eD 1) (some (aV (m2 vd (af 0) (af 1)))) (af 1)
def VI:En→O:=(aq (av (mC (.c9 [] [])) (dw 1))
 (aq M1
 (FF 1 (gR (bp oi (ai Gf ae))))))
def rE:List D→R D:=fi 1 3 VI
def VJ:En→O:=(aq (mW (iV se (ai (af 0) ae)))
 (gR Ce))
def ur:List D→R D:=fi 2 0 VJ
def xo:En→O:=(a_ (aV (m2 yj (ag 1) (ag 3)))
 (aT (af 2))
 cU)
def VL:En→O:=dA (x5 (ai (af 0) ae)) (dn 2 (dv (aG 2) (dv (aG 3) dG))) xo
def VM:En→O:=(aq VL
 (aT (mC .non)))
def yr:List D→R D:=cf 2 2 VM
def Gg:En→O:=(aT (xY (aV (m2 oEq (m2 aL (ag 0) (mC (.int 0))) (ag 1))) (m2 aL (ag 0) (mC (.int 1))) (m2 aL (ag 0) (mC (.int 0)))))
def Co:List D→R D:=cf 2 0 Gg
def Cp:En→R Bool:=(aV (m2 n6 (bp aW (ai (ag 2) ae)) (mC (.int 0))))
def Cq:En→O:=(aq (av (m2 aw (ag 2) (m1 jM (mC (.int 1)))) (aG 4))
 (aq (av (tL yr (ai (ag 1) (ai (af 4) ae))) (aG 5))
 (a_ (aV (m2 tI (ag 5) (mC .non)))
 (Am 3 2)
 (aq (zZ 1 (af 5) (aG 6))
 (oH 2 (bD Co (ai (af 6) (ai (af 4) ae))))))))
def VN:En→O:=x_ Cp Cq
def VO:En→O:=(aq (av (bp kq (ai (ag 0) ae)) (dw 1))
 (aq (av (aU (ai (mC (.int 0)) ae)) (dw 2))
 (aq (av (aU ae) (dw 3))
 (aq VN
 (vK 3)))))
def Cr:List D→R D:=fi 1 6 VO
def VP:En→O:=(aq (av (iV yq (ai (af 0) ae)) (aG 1))
 (gR (bD Cr (ai (m2 bU (ag 1) (iV ur (ai (af 0) (ai (bD rE (ai (af 1) ae)) ae)))) ae))))
def Gh:List D→R D:=fi 1 1 VP
def M3:En→O:=(yb 1 (af 2) (mC (.bl true)))
def M4:En→O:=dA (cP (iV Gh (ai (af 0) ae))) (aG 2) M3
def VQ:En→O:=(aq (av (mC (.c9 [] [])) (dw 1))
 (aq M4
 (gR (LK LI (ag 1)))))
def yt:List D→R D:=fi 1 2 VQ
def Gi:En→O:=(aq (av (m2 oMod (m2 oDiv (ag 1) (mC (.int 8))) (bp aW (ai (ag 0) ae))) (aG 3))
 (aq (av (m2 oMod (m2 oDiv (ag 1) (mC (.int 64))) (bp aW (ai (ag 0) ae))) (aG 4))
 (aq (a_ (aV (m2 oEq (m2 oMod (ag 1) (mC (.int 8))) (mC (.int 0))))
 (gR (m2 bU (dg (ag 0) bG (cz (af 3))) (dg (ag 0) (cz (m2 bo (ag 3) (mC (.int 1)))) bG)))
 cU)
 (aq (a_ (aV (m2 oEq (m2 oMod (ag 1) (mC (.int 8))) (mC (.int 1))))
 (gR (m2 bU (m2 bU (dg (ag 0) bG (cz (af 3))) (aU (ai (m2 aw (ag 0) (ag 4)) ae))) (dg (ag 0) (cz (af 3)) bG)))
 cU)
 (aq (a_ (aV (m2 oEq (m2 oMod (ag 1) (mC (.int 8))) (mC (.int 2))))
 (gR (m2 bU (m2 bU (dg (ag 0) bG (cz (af 3))) (aU (ai (m2 aw (aU (ai (af 2) (ai (m1 jM (mC (.int 1))) (ai (m2 aw (ag 0) (ag 4)) ae)))) (m2 oMod (m2 oDiv (ag 1) (mC (.int 512))) (mC (.int 3)))) ae))) (dg (ag 0) (cz (m2 bo (ag 3) (mC (.int 1)))) bG)))
 cU)
 (aq (a_ (aV (m2 oEq (m2 oMod (ag 1) (mC (.int 8))) (mC (.int 3))))
 (gR (m2 bU (dg (ag 0) (cz (af 3)) bG) (dg (ag 0) bG (cz (af 3)))))
 cU)
 (aq (av (bp kq (ai (ag 0) ae)) (dw 5))
 (aq (Af 5 (af 3) (af 4) (bL (ai (m2 aw (ag 0) (ag 4)) (ai (m2 aw (ag 0) (ag 3)) ae))))
 (vK 5)))))))))
def Cs:List D→R D:=fi 3 3 Gi
def M5:En→O:=(aq (av (m2 bo (m2 oMod (m2 fe (ag 0) (mC (.int 48271))) (mC (.int 2147483647))) (mC (.int 5))) (aG 0))
 (oH 2 (bL (ai (m2 oMod (ag 0) (m2 bo (ag 3) (mC (.int 1)))) (ai (m2 bo (ag 3) (mC (.int 1))) ae)))))
def M6:En→O:=dA (bM (ai (m2 jf (ag 1) (mC (.int 1))) ae)) (aG 3) M5
def VR:En→O:=(aq (av (aU ae) (dw 2))
 (aq M6
 (vK 2)))
def Ct:List D→R D:=fi 2 2 VR
def Gj:En→O:=(aq (a_ (iU (aV (m2 oEq (m2 oMod (ag 1) (mC (.int 8))) (mC (.int 7)))) (aV (m2 gr (ag 0) (aU ae))))
 (gR (m2 bU (bD Ct (ai (m2 oDiv (ag 1) (mC (.int 8))) (ai (af 2) ae))) (dg (aU (ai (bL (ai (mC (.int 0)) (ai (mC (.int 0)) ae))) ae)) bG (cz (m2 oMod (m2 oDiv (ag 1) (mC (.int 16))) (mC (.int 2)))))))
 cU)
 (aq (av (m2 oMod (m2 oDiv (ag 1) (mC (.int 8))) (bp aW (ai (ag 0) ae))) (aG 3))
 (aq (av (m2 aw (ag 0) (ag 3)) (dn 2 (dv (aG 4) (dv (aG 5) dG))))
 (aq (a_ (aV (m2 oEq (m2 oMod (ag 1) (mC (.int 8))) (mC (.int 0))))
 (gR (m2 bU (dg (ag 0) bG (cz (af 3))) (dg (ag 0) (cz (m2 bo (ag 3) (mC (.int 1)))) bG)))
 cU)
 (aq (a_ (aV (m2 oEq (m2 oMod (ag 1) (mC (.int 8))) (mC (.int 1))))
 (gR (m2 bU (m2 bU (dg (ag 0) bG (cz (af 3))) (aU (ai (m2 aw (ag 0) (ag 3)) ae))) (dg (ag 0) (cz (af 3)) bG)))
 cU)
 (aq (a_ (aV (m2 oEq (m2 oMod (ag 1) (mC (.int 8))) (mC (.int 2))))
 (gR (m2 bU (m2 bU (dg (ag 0) bG (cz (af 3))) (aU (ai (bL (ai (af 5) (ai (af 4) ae))) ae))) (dg (ag 0) (cz (m2 bo (ag 3) (mC (.int 1)))) bG)))
 cU)
 (aq (a_ (aV (m2 oEq (m2 oMod (ag 1) (mC (.int 8))) (mC (.int 3))))
 (gR (m2 bU (m2 bU (dg (ag 0) bG (cz (af 3))) (aU (ai (bL (ai (af 4) (ai (m2 aw (aU (ai (af 2) (ai (m1 jM (mC (.int 1))) ae))) (m2 oMod (m2 oDiv (ag 1) (mC (.int 64))) (mC (.int 2)))) ae))) ae))) (dg (ag 0) (cz (m2 bo (ag 3) (mC (.int 1)))) bG)))
 cU)
 (aq (a_ (aV (m2 oEq (m2 oMod (ag 1) (mC (.int 8))) (mC (.int 4))))
 (gR (m2 bU (dg (ag 0) (cz (af 3)) bG) (dg (ag 0) bG (cz (af 3)))))
 cU)
 (gR (m2 bU (m2 bU (dg (ag 0) bG (cz (af 3))) (aU (ai (bL (ai (m2 oMod (m2 oDiv (ag 1) (mC (.int 64))) (ag 2)) (ai (af 5) ae))) ae))) (dg (ag 0) (cz (m2 bo (ag 3) (mC (.int 1)))) bG)))))))))))
def Cu:List D→R D:=fi 3 3 Gj
def Gk:En→O:=(aq (a_ (iU (aV (m2 gr (ag 0) (aU ae))) (aV (m2 oEq (m2 oMod (ag 1) (mC (.int 5))) (mC (.int 0)))))
 (gR (m2 bU (ag 0) (aU (ai (bL (ai (m2 oMod (m2 oDiv (ag 1) (mC (.int 5))) (ag 2)) (ai (m2 oMod (m2 oDiv (ag 1) (mC (.int 40))) (ag 2)) ae))) ae))))
 cU)
 (aq (av (m2 oMod (m2 oDiv (ag 1) (mC (.int 8))) (bp aW (ai (ag 0) ae))) (aG 3))
 (aq (av (m2 oMod (m2 oDiv (ag 1) (mC (.int 64))) (bp aW (ai (ag 0) ae))) (aG 4))
 (aq (a_ (aV (m2 oEq (m2 oMod (ag 1) (mC (.int 5))) (mC (.int 1))))
 (gR (m2 bU (dg (ag 0) bG (cz (af 3))) (dg (ag 0) (cz (m2 bo (ag 3) (mC (.int 1)))) bG)))
 cU)
 (aq (a_ (aV (m2 oEq (m2 oMod (ag 1) (mC (.int 5))) (mC (.int 2))))
 (gR (m2 bU (m2 bU (dg (ag 0) bG (cz (af 3))) (aU (ai (bL (ai (m2 aL (m2 aw (ag 0) (ag 3)) (mC (.int 1))) (ai (m2 aL (m2 aw (ag 0) (ag 3)) (mC (.int 0))) ae))) ae))) (dg (ag 0) (cz (m2 bo (ag 3) (mC (.int 1)))) bG)))
 cU)
 (aq (a_ (mU (aV (m2 oEq (m2 oMod (ag 1) (mC (.int 5))) (mC (.int 3)))) (aV (m2 uj (ag 3) (ag 4))))
 (aq (av (bp kq (ai (ag 0) ae)) (dw 5))
 (aq (ya 5 (af 3) (bL (ai (m2 aL (m2 aw (ag 0) (ag 3)) (mC (.int 0))) (ai (m2 aL (m2 aw (ag 0) (ag 4)) (mC (.int 0))) ae))))
 (aq (ya 5 (af 4) (bL (ai (m2 aL (m2 aw (ag 0) (ag 3)) (mC (.int 1))) (ai (m2 aL (m2 aw (ag 0) (ag 4)) (mC (.int 1))) ae))))
 (vK 5))))
 cU)
 (gR (m2 bU (m2 bU (dg (ag 0) bG (cz (af 3))) (aU (ai (bL (ai (m2 oMod (m2 oDiv (ag 1) (mC (.int 5))) (ag 2)) (ai (m2 aL (m2 aw (ag 0) (ag 3)) (mC (.int 1))) ae))) ae))) (dg (ag 0) (cz (m2 bo (ag 3) (mC (.int 1)))) bG)))))))))
def Cv:List D→R D:=fi 3 3 Gk
def M7:En→O:=(FH 1 (af 2))
def M8:En→O:=dA (cP (af 0)) (aG 2) M7
def VS:En→O:=(aq (av (aU ae) (dw 1))
 (aq M8
 (vK 1)))
def yu:List D→R D:=fi 1 2 VS
def M9:En→R D:=ly (cP (ag 0)) [1] 1 (eD 1) none (z9 oLe oLt (mC (.int 0)) (ag 1) (ag 0))
def VT:En→O:=(aT (bp tS (ai M9 ae)))
def zev:List D→R D:=cf 2 0 VT
def M_:En→R D:=ly (cP (ag 2)) [6,5] 1 (eD 2) none (xY (aV (m2 oEq (ag 2) (ag 1))) (af 0) (af 2))
def M':En→O:=(aq (av (m2 aw (ag 2) (ag 3)) (aG 5))
 (aq (av (m2 aw (ag 2) (ag 4)) (aG 6))
 (av M_ (aG 2))))
def Na:En→O:=dA (cP (af 1)) (dn 2 (dv (aG 3) (dv (aG 4) dG))) M'
def VU:En→O:=(aq (av (oJ (ai (af 0) ae)) (aG 2))
 (aq Na
 (aT (m2 oEq (bp wV (ai (ag 2) ae)) (mC (.int 1))))))
def vo:List D→R D:=cf 2 5 VU
def VW:En→O:=(aT (rn (m2 oEq (bp aW (ai (ag 1) ae)) (m2 jf (ag 0) (mC (.int 1)))) (rn (bD zev (ai (bD yu (ai (af 1) ae)) (ai (af 0) ae))) (bD vo (ai (af 0) (ai (af 1) ae))))))
def Cw:List D→R D:=cf 2 0 VW
def AF:En→O:=(a_ (mU (aV (m2 oLt (m2 aw (m2 aw (ag 0) (ag 5)) (ag 6)) (ag 4))) (aV (bD vo (ai (af 3) (ai (m2 bU (ag 1) (aU (ai (bL (ai (af 5) (ai (af 6) ae))) ae))) ae)))))
 (aT (mC (.bl true)))
 cU)
def VX:En→O:=dA (bM (ai (af 5) ae)) (aG 6) AF
def Gm:En→O:=VX
def Nb:En→O:=dA (bM (ai (af 3) ae)) (aG 5) Gm
def VY:En→O:=(aq (av (bp aW (ai (ag 0) ae)) (aG 3))
 (aq (av (m2 aw (m2 aw (ag 0) (m2 aL (ag 2) (mC (.int 0)))) (m2 aL (ag 2) (mC (.int 1)))) (aG 4))
 (aq Nb
 (aT (mC (.bl false))))))
def Cy:List D→R D:=cf 3 4 VY
def Cz:En→O:=(a_ (aV (bD Cy (ai (af 0) (ai (m2 bU (dg (ag 1) bG (cz (af 2))) (dg (ag 1) (cz (m2 bo (ag 2) (mC (.int 1)))) bG)) (ai (m2 aw (ag 1) (ag 2)) ae)))))
 (aT (mC (.bl false)))
 cU)
def Nc:En→O:=dA (bM (ai (bp aW (ai (ag 1) ae)) ae)) (aG 2) Cz
def VZ:En→O:=(aq Nc
 (aT (mC (.bl true))))
def CA:List D→R D:=cf 2 1 VZ
def Nd:En→R D:=ly (cP (ag 1)) [0] 2 (dn 2 (dv (eD 1) (dv (eD 2) dG))) none (m2 aw (m2 aw (ag 0) (ag 1)) (ag 2))
def V0:En→O:=(aT (bp kQ (ai Nd ae)))
def vY:List D→R D:=cf 2 0 V0
def yw:List D→R D:=Ay
def Nf:En→R D:=ly (bM (ai (m2 jf (bp aW (ai (ag 1) ae)) (mC (.int 1))) ae)) [0,1] 1 (eD 2) none (m2 aw (m2 aw (ag 0) (m2 aw (ag 1) (ag 2))) (m2 aw (ag 1) (m2 bo (ag 2) (mC (.int 1)))))
def V1:En→O:=(aT (bp kQ (ai Nf ae)))
def CB:List D→R D:=cf 2 0 V1
def V2:En→O:=(aq (a_ (aV (m2 oEq (bp aW (ai (ag 1) ae)) (mC (.int 1))))
 (aT (mC (.int 0)))
 cU)
 (aT (m2 bo (bD CB (ai (af 0) (ai (af 1) ae))) (m2 aw (m2 aw (ag 0) (m2 aw (ag 1) (m1 jM (mC (.int 1))))) (m2 aw (ag 1) (mC (.int 0)))))))
def AG:List D→R D:=cf 2 0 V2
def Ng:En→O:=(aq (mW (iV se (ai (af 0) ae)))
 (aq (a_ (aV (m2 ig (bp oi (ai (ag 1) ae)) (oJ (ai (bp aW (ai (ag 0) ae)) ae))))
 (aT (mC (.str "round")))
 cU)
 (aq (a_ (iO (aV (bD Cw (ai (bp aW (ai (ag 0) ae)) (ai (af 2) ae)))))
 (aT (mC (.str "tree")))
 cU)
 (aq (a_ (iO (aV (bD CA (ai (af 0) (ai (af 2) ae)))))
 (aT (mC (.str "shorter")))
 cU)
 (aq (av (bD rE (ai (af 2) ae)) (aG 4))
 (aq (a_ (aV (m2 ig (bp oi (ai (bD yu (ai (af 3) ae)) ae)) (ag 4)))
 (aT (mC (.str "pairs")))
 cU)
 (aq (av (bD vY (ai (af 0) (ai (af 3) ae))) (aG 5))
 (aq (a_ (aV (m2 n6 (ag 5) (bD yw (ai (af 0) (ai (af 4) ae)))))
 (aT (mC (.str "fewer")))
 cU)
 (aq (a_ (aV (m2 n6 (bD AG (ai (af 0) (ai (af 1) ae))) (m2 bo (bD vY (ai (af 0) (ai (af 2) ae))) (ag 5))))
 (aT (mC (.str "share")))
 cU)
 (aT (mC .non)))))))))))
def sf:List D→R D:=cf 4 2 Ng
def Nh:En→R D:=ly (cP (ag 0)) [0,2,3] 1 (eD 3) none (m2 aw (aU (ai (af 3) (ai (m2 aw (ag 0) (ag 1)) ae))) (bp qq (ai (m2 oEq (ag 3) (ag 2)) ae)))
def V3:En→O:=(aq (av (m2 aw (ag 0) (ag 1)) (aG 3))
 (gR Nh))
def AH:List D→R D:=fi 3 1 V3
def Ni:En→O:=(aq (a_ (iU (aV (m2 oLt (ag 3) (mC (.int 0)))) (iU (aV (m2 yd (ag 3) (ag 1))) (iU (aV (m2 oLt (ag 4) (mC (.int 0)))) (aV (m2 yd (ag 4) (ag 1))))))
 (aT (mC (.bl false)))
 cU)
 (av (bD AH (ai (af 2) (ai (af 3) (ai (af 4) ae)))) (aG 2)))
def Nj:En→O:=dA (cP (af 0)) (dn 2 (dv (aG 3) (dv (aG 4) dG))) Ni
def CC:En→R D:=ly (cP (ag 2)) [2] 1 (eD 1) none (m2 aw (ag 0) (mC (.int 0)))
def V4:En→O:=(aq (av (oJ (ai (af 1) ae)) (aG 2))
 (aq Nj
 (aT (rn (m2 oEq (bp aW (ai (ag 0) ae)) (m2 jf (ag 1) (mC (.int 1)))) (m2 gr (ag 2) CC)))))
def CD:List D→R D:=cf 2 3 V4
def V5:En→R D:=ly (cP (ag 1)) [0] 2 (dn 2 (dv (eD 1) (dv (eD 2) dG))) none (m2 aw (m2 aw (ag 0) (ag 1)) (ag 2))
def V6:En→O:=(aT (bp kQ (ai V5 ae)))
def qU:List D→R D:=cf 2 0 V6
def Nk:En→R D:=ly (bM (ai (af 5) ae)) [5,0] 1 (eD 2) none (bL (ai (m2 aw (m2 aw (ag 1) (ag 0)) (ag 2)) (ai (af 0) (ai (af 2) ae))))
def Nl:En→O:=(av (m2 bU (ag 4) Nk) (aG 4))
def Nm:En→O:=dA (bM (ai (af 1) ae)) (aG 5) Nl
def CF:En→O:=(a_ (aV (m2 uj (m2 aw (ag 2) (ag 5)) (m2 aw (ag 2) (ag 7))))
 (aq (av (bD AH (ai (af 2) (ai (af 5) (ai (af 7) ae)))) (aG 2))
 (av (m2 bo (ag 3) (ag 6)) (aG 3)))
 cU)
def Nn:En→O:=dA (cP (bp yp (ai (ag 4) ae))) (dn 3 (dv (aG 6) (dv (aG 5) (dv (aG 7) dG)))) CF
def V7:En→O:=(aq (av (bp aW (ai (ag 0) ae)) (aG 1))
 (aq (av (oJ (ai (af 1) ae)) (aG 2))
 (aq (av (mC (.int 0)) (aG 3))
 (aq (av (aU ae) (aG 4))
 (aq Nm
 (aq Nn
 (aT (af 3))))))))
def CG:List D→R D:=cf 1 7 V7
def Np (tZ:List D→R D):En→O:=(aq (av (m2 bo (m2 aw (m2 aw (ag 0) (m2 aw (ag 1) (mC (.int 0)))) (m2 aw (ag 1) (ag 3))) (bD tZ (ai (af 0) (ai (m2 bU (dg (ag 1) (cz (mC (.int 1))) (cz (af 3))) (dg (ag 1) (cz (m2 bo (ag 3) (mC (.int 1)))) bG)) ae)))) (aG 4))
 (a_ (iU (aV (m2 tI (ag 2) (mC .non))) (aV (m2 oLt (ag 4) (ag 2))))
 (av (af 4) (aG 2))
 cU))
def Nq (tZ:List D→R D):En→O:=dA (bM (ai (mC (.int 1)) (ai (bp aW (ai (ag 1) ae)) ae))) (aG 3) (Np tZ)
def Gn (tZ:List D→R D):En→O:=(aq (a_ (aV (m2 gr (ag 1) (aU ae)))
 (aT (mC (.int 0)))
 cU)
 (aq (av (mC .non) (aG 2))
 (aq (Nq tZ)
 (aT (af 2)))))
def rF:Nat→List D→R D
 | 0,_=>.no
 | n+1,ds=>cf 2 3 (Gn (rF n)) ds
def tZ:List D→R D:=rF 8
def Nr:En→O:=(av (m2 bU (ag 3) (aU (ai (af 4) (ai (af 5) ae)))) (aG 3))
def Nt:En→O:=dA (cP (af 1)) (dn 2 (dv (aG 4) (dv (aG 5) dG))) Nr
def Gp:En→R D:=ly (bM (ai (bp aW (ai (ag 0) ae)) ae)) [3] 1 (eD 1) (some (aV (m2 oEq (m2 oMod (Av (ag 0) (af 1)) (mC (.int 2))) (mC (.int 1))))) (af 1)
def Nu:En→O:=(av (m2 bU (ag 7) (aU (ai (af 4) (ai (af 5) ae)))) (aG 7))
def Nv:En→O:=dA (cP (af 2)) (dn 2 (dv (aG 4) (dv (aG 5) dG))) Nu
def V8:En→O:=(aq (av (aU ae) (aG 3))
 (aq Nt
 (aq (av Gp (aG 6))
 (aq (av (aU ae) (aG 7))
 (aq Nv
 (aq (a_ (aV (m2 ig (bp oi (ai (ag 7) ae)) (ag 6)))
 (aT (mC (.str "pairs")))
 cU)
 (aq (a_ (aV (m2 n6 (bD qU (ai (af 0) (ai (af 2) ae))) (bD tZ (ai (af 0) (ai (af 6) ae)))))
 (aT (mC (.str "fewer")))
 cU)
 (aT (mC .non)))))))))
def AI:List D→R D:=cf 3 5 V8
def Nw:En→R D:=ly (x5 (ai (ag 1) ae)) [0,1] 2 (dn 2 (dv (eD 2) (dv (eD 3) dG))) none (m2 aw (m2 aw (ag 0) (ag 3)) (m2 aw (ag 1) (m2 oMod (m2 bo (ag 2) (mC (.int 1))) (bp aW (ai (ag 1) ae)))))
def V9:En→O:=(aT (bp kQ (ai Nw ae)))
def AJ:List D→R D:=cf 2 0 V9
def V_:En→O:=(aq (av (bp aW (ai (ag 0) ae)) (aG 4))
 (aq (a_ (aV (m2 ig (bp oi (ai (ag 1) ae)) (oJ (ai (af 4) ae))))
 (aT (mC (.str "round")))
 cU)
 (aq (a_ (iO (aV (bD CD (ai (af 2) (ai (af 4) ae)))))
 (aT (mC (.str "tree")))
 cU)
 (aq (a_ (aV (m2 n6 (bD qU (ai (af 0) (ai (af 2) ae))) (bD CG (ai (af 0) ae))))
 (aT (mC (.str "shorter")))
 cU)
 (aq (av (bD AI (ai (af 0) (ai (af 2) (ai (af 3) ae)))) (aG 5))
 (aq (a_ (aV (m2 Kr (ag 5) (mC .non)))
 (aT (af 5))
 cU)
 (aq (a_ (aV (m2 n6 (bD AJ (ai (af 0) (ai (af 1) ae))) (m2 bo (bD qU (ai (af 0) (ai (af 2) ae))) (bD qU (ai (af 0) (ai (af 3) ae))))))
 (aT (mC (.str "share")))
 cU)
 (aT (mC .non)))))))))
def AK:List D→R D:=cf 4 2 V_
def Gq:En→R D:=ly (cP (ag 0)) [] 1 (eD 0) none (bp kq (ai (ag 0) ae))
def V':En→O:=(aq (av (af 1) (dn 3 (dv (aG 3) (dv (aG 4) (dv (aG 5) dG)))))
 (aq (av (bp aW (ai (ag 0) ae)) (aG 6))
 (aq (av (m2 oMod (ag 2) (mC (.int 8))) (aG 7))
 (aq (av (m2 oDiv (ag 2) (mC (.int 8))) (aG 8))
 (aq (a_ (iU (aV (m2 oLt (ag 7) (mC (.int 3)))) (aV (m2 oEq (ag 7) (mC (.int 6)))))
 (av (bD Cs (ai (af 3) (ai (af 8) (ai (af 6) ae)))) (aG 3))
 cU)
 (aq (a_ (mU (aV (m2 n6 (ag 7) (mC (.int 1)))) (aV (m2 oLt (ag 7) (mC (.int 5)))))
 (av (bD Cu (ai (af 4) (ai (m2 oDiv (ag 8) (mC (.int 3))) (ai (af 6) ae)))) (aG 4))
 cU)
 (aq (a_ (iU (aV (m2 oEq (ag 7) (mC (.int 3)))) (iU (aV (m2 oEq (ag 7) (mC (.int 5)))) (aV (m2 oEq (ag 7) (mC (.int 6))))))
 (av (bD Cv (ai (af 5) (ai (m2 oDiv (ag 8) (mC (.int 7))) (ai (af 6) ae)))) (aG 5))
 cU)
 (aq (av (bL (ai (bp kq (ai (ag 3) ae)) (ai (bp kq (ai (ag 4) ae)) (ai (bp kq (ai (ag 5) ae)) (ai Gq ae))))) (aG 9))
 (aq (av (bD sf (ai (m2 aL (ag 9) (mC (.int 3))) (ai (m2 aL (ag 9) (mC (.int 0))) (ai (m2 aL (ag 9) (mC (.int 1))) (ai (m2 aL (ag 9) (mC (.int 2))) ae))))) (aG 10))
 (aq (a_ (aV (m2 ig (ag 9) (bL (ai (af 3) (ai (af 4) (ai (af 5) (ai (af 0) ae)))))))
 (aT (mC (.bl false)))
 cU)
 (aq (av (bD AK (ai (af 0) (ai (af 3) (ai (af 4) (ai (af 5) ae))))) (aG 11))
 (aq (a_ (aV (m2 tI (ag 11) (mC .non)))
 (aT (m2 tI (ag 10) (mC .non)))
 cU)
 (aT (rn (m1 (zL "str") (ag 10)) (m2 oEq (ag 10) (ag 11))))))))))))))))
def CH:List D→R D:=cf 3 9 V'
def CI:En→R (List (List Int)):=Fh (cP (ag 0)) [] 1 (eD 0) (bp kq (ai (ag 0) ae))
def CJ:En→R D:=ly (cP (ag 0)) [] 1 (eD 0) none (bp (uZ ij) (ai (ag 0) ae))
def Wa:En→O:=(aq (av (bp aW (ai (ag 0) ae)) (aG 2))
 (aq (B4 CI 3)
 (aq (av (m2 oMod (m2 oDiv (ag 1) (mC (.int 3))) (ag 2)) (aG 4))
 (aq (av (m2 oMod (m2 oDiv (ag 1) (mC (.int 30))) (ag 2)) (aG 5))
 (aq (a_ (aV (m2 oEq (ag 4) (ag 5)))
 (r_ 3 (af 4) (af 4) (m2 bo (mC (.int 1)) (m2 oMod (m2 oDiv (ag 1) (mC (.int 300))) (mC (.int 9)))))
 (a_ (aV (m2 oEq (m2 oMod (ag 1) (mC (.int 3))) (mC (.int 0))))
 (r_ 3 (af 4) (af 5) (yn (m2 bo (m2 aw (m2 aw (ag 3) (ag 4)) (ag 5)) (mC (.int 1)))))
 (aq (av (m2 bo (m2 fe (mC (.int 3)) (bp (uZ ij) (ai CJ ae))) (mC (.int 1))) (aG 6))
 (aq (r_ 3 (af 4) (af 5) (af 6))
 (r_ 3 (af 5) (af 4) (m2 aw (aU (ai (af 6) (ai (m2 bo (ag 6) (mC (.int 1))) ae))) (bp qq (ai (m2 oEq (ag 2) (mC (.int 2))) ae))))))))
 (B6 3))))))
def AL:List D→R D:=fi 2 5 Wa
def Wb:En→O:=(aq (av (mC .non) (aG 2))
 (aq (tO (mW (iV sf (ai (af 0) (ai (m2 aL (ag 1) (mC (.int 0))) (ai (m2 aL (ag 1) (mC (.int 1))) (ai (m2 aL (ag 1) (mC (.int 2))) ae)))))) FW 3 (av (af 3) (aG 2)))
 (aq (a_ (iU (aV (m2 tI (ag 2) (mC .non))) (iU (iO (aV (m1 (vQ MO) (ag 2)))) (aV (m1 (vQ MD) (ag 2)))))
 (aT (mC (.bl false)))
 cU)
 (aq (a_ (iU (aV (m1 (vQ MF) (ag 2))) (aV (m1 (vQ MH) (ag 2))))
 (aT (mC (.bl false)))
 cU)
 (aT (rn (vJ (m1 (vQ MJ) (ag 2))) (vJ (m1 (vQ ML) (ag 2)))))))))
def CK:List D→R D:=cf 2 2 Wb
def Wc:En→O:=(aq (z5 (mW (iV sf (ai (af 0) (ai (m2 aL (ag 1) (mC (.int 0))) (ai (m2 aL (ag 1) (mC (.int 1))) (ai (m2 aL (ag 1) (mC (.int 2))) ae)))))) FV (aT (mC (.bl true))))
 (aT (mC (.bl false))))
def CL:List D→R D:=cf 2 0 Wc
def Gs:En→R D:=ly (cP (ag 2)) [] 1 (eD 0) none (bp kq (ai (ag 0) ae))
def Gu:En→O:=(a_ (iO (aV (bD CH (ai (af 2) (ai (af 5) (ai (bD vX (ai (bD oy (ai (af 0) (ai (af 6) ae))) (ai (m2 fe (mC (.int 7)) (ag 6)) ae))) ae))))))
 (aT (mC (.bl false)))
 cU)
def Nx:En→O:=dA (bM (ai (mC (.int 1)) (ai (mC (.int 4)) ae))) (aG 6) Gu
def Ny:En→O:=(aq (av (m2 bo (mC (.int 1)) (m2 oMod (bD oy (ai (af 0) (ai (mC (.int 0)) ae))) (mC (.int 7)))) (aG 1))
 (aq (av (bD AA (ai (dg (ag 0) (cz (mC (.int 5))) bG) (ai (af 1) (ai (m2 oDiv (bD oy (ai (af 0) (ai (mC (.int 0)) ae))) (mC (.int 7))) ae)))) (aG 2))
 (aq (av Gs (aG 3))
 (aq (av (bD yq (ai (af 2) ae)) (aG 4))
 (aq (av (bL (ai (bD yt (ai (af 2) ae)) (ai (af 4) (ai (bD ur (ai (af 2) (ai (bD rE (ai (af 4) ae)) ae))) ae)))) (aG 5))
 (aq Nx
 (aq (a_ (aV (m2 oEq (m2 oMod (bD oy (ai (af 0) (ai (mC (.int 4)) ae))) (mC (.int 6))) (mC (.int 1))))
 (aq (av (bD AL (ai (af 2) (ai (bD vX (ai (bD oy (ai (af 0) (ai (mC (.int 4)) ae))) (ai (mC (.int 4)) ae))) ae))) (aG 7))
 (aq (av (bL (ai (dg (m2 aL (ag 5) (mC (.int 0))) bG (cz (mC (.int 1)))) (ai (aU ae) (ai (m2 aL (ag 5) (mC (.int 2))) ae)))) (aG 8))
 (a_ (iU (iO (aV (bD CK (ai (af 7) (ai (af 8) ae))))) (iO (aV (bD CL (ai (af 7) (ai (af 5) ae))))))
 (aT (mC (.bl false)))
 cU)))
 cU)
 (aT (m2 gr (ag 2) (ag 3))))))))))
def Nz:List D→R D:=cf 1 8 Ny
noncomputable def aX(n:Nat):List Int:=(List.range n).map fun(k:Nat)=>(k:Int)
theorem aE:t∈aX n↔0<=t/\t<(n:Int):=by
 unfold aX;rw[c8];constructor;.rintro⟨a,h,rfl⟩;simp_all
 .rintro⟨b,c⟩;exact⟨t.toNat,cF.mpr (by lia),by lia⟩
theorem gx:(aX n).length=n:=by simp[aX]
theorem AM(n:Nat):(aX n).Nodup:=List.Pairwise.map _ (fun a b h e=>h (Int.ofNat.inj e)) mf
theorem kX{n:Nat}(h:n<=1000):nq [.int (n:Int)]=some ((aX n).map .int):=by rw[EX (by lia) (by lia),Sg,aX,bX];rfl
def gA(L:List Int)(i:Int):Int:=L.getD i.toNat 0
theorem Gv(h:i.toNat<L.length):L[i.toNat]?=some (gA L i):=by simp[gA,h]
theorem We{α:Type}(enc:α->D)(p:α->Bool)(g:α->D)(l:List α)(h:∀x∈l,f (enc x)=.ok (if p x=true then some (g x) else none)):n_ f (l.map enc)=.ok ((l.filter p).map g):=by induction l with |nil=>rfl |cons a l i=>
 have c:=h a (by simp);have d:=i fun x k=>h x (by simp[k]);rw[b7,n_,c,d];by_cases e:p a=true;.simp[e]
 simp_all
theorem NA(ns:List Int):kQ [iL ns]=some (.int ns.sum):=by simp[kQ,iL,qO]
theorem uu(h0:0<=k)(h1:k.toNat<L.length):aw (iL L) (.int k)=some (.int (gA L k)):= vO h0 (by simp[Gv h1])
theorem NB(h:δ[i]?=some (.o (iL L)))(b:me δ=.ok (.int y))(a:L.length<=100000):oH i me δ=.nx (δ.set i (.o (iL (L++[y])))):=by unfold oH;rw[h];simp only[iL,b,R.fT];rw[gq (by rw[aI];exact iB a (by decide))];simp
theorem NC{α:Type}{f:α->Int}{l r:List α}(h:l.Perm r):(l.map f).sum=(r.map f).sum:=by induction h with |nil=>rfl |cons x _ d=>simp[b7,kE,d] |swap x y l=>simp[b7,kE];lia |trans _ _ e g=>lia
theorem Wf:lG (.int 10) (.int 20)=some (.int 100000000000000000000):=EV ⟨by decide,by decide,by decide⟩
theorem Wg(ns:List Int)(k:Nat):oy [.du ns,.int k]=.ok (.int (ns.getD k 0)):=by
  by_cases h:k<ns.length
  . have e:aw (.du ns) (.int (k))=some (.int (ns.getD k 0)):=by show(jY _ _).map _=_;rw[eL (d:=ns.getD k 0) (by simp_all)];rfl
    simp[oy,cf,rY,FX,aq,a_,aV,aT,ag,bp,ai,ae,aW,h,e]
  .simp[oy,cf,rY,FX,aq,a_,aV,aT,ag,mC,bp,ai,ae,aW,h,cU]
theorem kY(h:m δ=.rt d):aq m n δ=.rt d:=by unfold aq;rw[h]
theorem CM(h:δ[i]?=some (.o (.lst l)))(b:me δ=.ok d)(a:l.length<=100000):oH i me δ=.nx (δ.set i (.o (.lst (l++[d])))):=by unfold oH;rw[h];simp[b,R.fT];rw[gq (iB a (by decide))]
theorem nz(a:Int)(h:0<b):0<=a%b:=Int.emod_nonneg _ (by omega)
theorem oz(a:Int)(h:0<b):a%b<b:=Int.emod_lt_of_pos _ h
def num(c k:Int):Int:=(c%100000000000000000000+k*k+1)*(48271+2*k)%2147483647
theorem Gx(c k:Int)(h0:0<=k)(h1:k<=1000):vX [.int c,.int k]=.ok (.int (num c k)):=by have g:=Int.mul_nonneg h0 h0;have f:=Int.mul_le_mul h1 h1 h0 (by decide);have d:fc k:=dH 1000 (by lia);have b:fc 2:=dH 1000 (by decide);have e:fc (c%100000000000000000000+k*k+1):=dH (10^21) (by lia);have a:fc (48271+2*k):=dH (10^21) (by lia);simp[vX,cf,rY,MP,aT,ag,mC,Wf,lz,uW,d,b,e,a,num]
theorem Gy(c k:Int):0<=num c k:=nz _ (by decide)
theorem ND(c k:Int):num c k<2147483647:=oz _ (by decide)
abbrev Fr:=Int×Int
def gy(f:Fr):D:=.tup [.int f.1,.int f.2]
def iz(ts:List Fr):D:=.lst (ts.map gy)
noncomputable def th(ts:List Fr)(k:Int):Fr:=ts.getD k.toNat (0,1)
theorem Gz(h:k.toNat<ts.length):ts[k.toNat]?=some (th ts k):=by simp[th,h]
theorem GA(h0:0<=k)(h1:k<ts.length):th ts k∈ts:=eg (Gz (by lia))
theorem GB(h0:0<=k)(h1:k<ts.length):aw (iz ts) (.int k)=some (gy (th ts k)):= vO h0 (by rw[bB,Gz (by omega)];rfl)
theorem GC(h:m a=.ro d):aq m n a=.ro d:=by unfold aq;rw[h]
def aH(n:Nat)(d:Int->Int->Int):List (List Int):=(aX n).map fun a=>(aX n).map (d a)
theorem vp(h:k<m):(aX m)[k]?=some (k:Int):=by unfold aX;rw[bB,List.getElem?_range h];rfl
theorem lB{n:Nat}{b:Int}(h0:0<=b)(h1:b<n):aw (iL ((aX n).map f)) (.int b)=some (.int (f b)):=by refine vO h0 ?_;rw[bB,bB,vp (by omega)];simp[show(b.toNat:Int)=b by omega]
theorem t6{n:Nat}{a:Int}(h0:0<=a)(h1:a<n):aw (aM (aH n d)) (.int a)=some (iL ((aX n).map (d a))):=by unfold aM aH;refine vO h0 ?_;rw[bB,bB,vp (by omega)];simp[show(a.toNat:Int)=a by omega]
theorem uv:aW [aM (aH n d)]=some (.int n):=by simp[aM,aH,gx]
def dB(d:Int->Int->Int)(a b v:Int):Int->Int->Int:=fun x y=>if x=a/\y=b then v else d x y
theorem Wh{n:Nat}{b v:Int}(h0:0<=b)(h1:b<n):((aX n).map f).set b.toNat v=(aX n).map fun y=>if y=b then v else f y:=by
  apply nJ;intro i;by_cases a:i<n
  . rw[bB,vp a];by_cases e:b.toNat=i
    . rw[e,bH (by rw[aI,gx];exact a)];have:i=b:=by lia
      simp_all
    . rw[aO e,bB,vp a];have:¬i=b:=by lia
      simp_all
  .rw[kA.mpr (by rw[sM,aI,gx];lia),kA.mpr (by rw[aI,gx];lia)]
theorem Wi{n:Nat}{a b v:Int}(j:0<=a)(k:a<n)(g:0<=b)(h:b<n):(aH n d).set a.toNat (((aX n).map (d a)).set b.toNat v)=aH n (dB d a b v):=by
  rw[Wh g h];unfold aH;apply nJ;intro i;by_cases f:i<n
  . rw[bB,vp f];by_cases e:a.toNat=i
    . rw[e,bH (by rw[aI,gx];exact f)];have:i=a:=by lia
      simp[dB,this]
    . rw[aO e,bB,vp f];have:¬i=a:=by lia
      simp[dB,this]
  .rw[kA.mpr (by rw[sM,aI,gx];lia),kA.mpr (by rw[aI,gx];lia)]
def ji(n:Nat)(d:Int->Int->Int):Tr:=jP (aH n d)
theorem Wj:tabOf (some (.p (ji n d)))=some (aH n d):=by simp[ji]
theorem CN{i:Nat}{mk mj me:En->R D}{δ:En}(h:δ[i]?=some (.p (ji n d)))(j:mk δ=.ok (.int a))(f:mj δ=.ok (.int b))(hv:me δ=.ok (.int v))(l:0<=a)(o:a<n)(c:0<=b)(e:b<n): r_ i mk mj me δ=.nx (δ.set i (.p (ji n (dB d a b v)))):=by
 have q:(aH n d).length=n:=by simp[aH,gx]
 have g:gm (aH n d).length a=some a.toNat:=by unfold gm;simp_all
 have k:(aH n d)[a.toNat]?=some ((aX n).map (d a)):=by unfold aH;rw[bB,vp (by lia)];simp[show(a.toNat:Int)=a by lia]
 have m:gm ((aX n).map (d a)).length b=some b.toNat:=by unfold gm;rw[ak c,aI,gx,ak e]
 unfold r_;rw[h,Wj];simp only[hv,j,f,R.fT,g,k,m,Wi l o c e,ji]
structure dQ(n:Nat)(B:Int)(d:Int->Int->Int):Prop where
 nn:∀a b:Int,0<=a->a<n->0<=b->b<n->0<=d a b/\d a b<=B
 self:∀a:Int,0<=a->a<n->d a a=0sym:∀a b:Int,0<=a->a<n->0<=b->b<n->d a b=d b a
 Wk:∀a b c:Int,0<=a->a<n->0<=b->b<n->0<=c->c<n->d a c<=d a b+d b c
theorem sg(h:mi δ=.ok ((aX n).map .int)):dA mi b m δ=gX b m ((aX n).map .int) δ:=lA h
theorem GD{B:Int}(hn:n<=100)(X:dQ n B d):se [aM (aH n d)]=.ok .non:=by
 obtain⟨T,Y⟩:∃T,T=aM (aH n d):=⟨_,rfl⟩;have p:∀a:Int,0<=a->a<n->aw T (.int a)=some (iL ((aX n).map (d a))):=fun a h0 A=>by rw[Y];exact t6 h0 A
 rw[<-Y];have G:=kX (show n<=1000 by lia);have l1:∀k j e:Option D,∃g,Ci [.v T,.v (.int n),sv k,sv j,sv e]=.nx [.v T,.v (.int n),sv g,sv j,sv e]:=fun k j e=>by obtain⟨h,A,g,rfl⟩:=lZ (b:=aG 2) (m:=vl) D.int (fun _ h=>∃g,h=[.v T,.v (.int n),sv g,sv j,sv e]) (aX n) (by rintro H a w h x ⟨g,rfl⟩;obtain⟨t,q⟩:=aE.mp (show a∈aX n by simp_all);have r:=lB (n:=n) (f:=d a) t q;rw[X.self a t q] at r;refine⟨[.v T,.v (.int n),.v (.int a),sv j,sv e],[.v T,.v (.int n),.v (.int a),sv j,sv e],fF rfl,.inl ?_,some _,rfl⟩;unfold vl;rw[fM (by simp[aV,ag,mC,p a t q,r])];rfl) [.v T,.v (.int n),sv k,sv j,sv e] ⟨k,rfl⟩;exact⟨g,(sg (by simp[bM,ai,ae,af,G])).trans A⟩
 have l3:∀k j e:Option D,∃g i,Cj [.v T,.v (.int n),sv k,sv j,sv e]=.nx [.v T,.v (.int n),sv g,sv i,sv e]:=fun k j e=>by obtain⟨h,A,g,i,rfl⟩:=lZ (b:=aG 2) (m:=AB) D.int (fun _ h=>∃g i,h=[.v T,.v (.int n),sv g,sv i,sv e]) (aX n) (by rintro H a w h x ⟨g,i,rfl⟩;obtain⟨t,q⟩:=aE.mp (show a∈aX n by simp_all);obtain⟨S,U,l,rfl⟩:=lZ (b:=aG 3) (m:=vm) D.int (fun _ h=>∃l,h=[.v T,.v (.int n),.v (.int a),sv l,sv e]) (aX a.toNat) (by rintro E b z h o ⟨l,rfl⟩;obtain⟨C,K⟩:=aE.mp (show b∈aX a.toNat by simp_all);have L:=lB (n:=n) (f:=d a) C (by lia);have I:=lB (n:=n) (f:=d b) t q;rw[X.sym a b t q C (by lia)] at L;refine⟨[.v T,.v (.int n),.v (.int a),.v (.int b),sv e],[.v T,.v (.int n),.v (.int a),.v (.int b),sv e],fF rfl,.inl ?_,some _,rfl⟩;unfold vm;rw[fM (by simp[aV,ag,mC,p a t q,p b C (by lia),L,I])];rfl) [.v T,.v (.int n),.v (.int a),sv i,sv e] ⟨i,rfl⟩;refine⟨[.v T,.v (.int n),.v (.int a),sv i,sv e],[.v T,.v (.int n),.v (.int a),sv l,sv e],fF rfl,.inl ?_,some _,l,rfl⟩;have ra:=kX (show a.toNat<=1000 by lia);rw[show((a.toNat:Nat):Int)=a by lia] at ra;exact(sg (n:=a.toNat) (by simp[bM,ai,ae,af,ra])).trans U) [.v T,.v (.int n),sv k,sv j,sv e] ⟨k,j,rfl⟩;exact⟨g,i,(sg (by simp[bM,ai,ae,af,G])).trans A⟩
 have l6:∀k j e:Option D,∃g i u,Ck [.v T,.v (.int n),sv k,sv j,sv e]=.nx [.v T,.v (.int n),sv g,sv i,sv u]:=fun k j e=>by
  obtain⟨h,A,g,i,u,rfl⟩:=lZ (b:=aG 2) (m:=AE) D.int (fun _ h=>∃g i u,h=[.v T,.v (.int n),sv g,sv i,sv u]) (aX n)
   (by rintro H a w h x ⟨g,i,u,rfl⟩;obtain⟨t,q⟩:=aE.mp (show a∈aX n by simp_all);obtain⟨S,U,l,s,rfl⟩:=lZ (b:=aG 3) (m:=AD) D.int (fun _ h=>∃l s,h=[.v T,.v (.int n),.v (.int a),sv l,sv s]) (aX n) (by rintro E b z h o ⟨l,s,rfl⟩;obtain⟨C,K⟩:=aE.mp (show b∈aX n by rw[o];simp);obtain⟨E7,k1,J,rfl⟩:=lZ (b:=aG 4) (m:=vn) D.int (fun _ h=>∃J,h=[.v T,.v (.int n),.v (.int a),.v (.int b),sv J]) (aX n) (by
    rintro Z c M h y ⟨J,rfl⟩;obtain⟨Q,N⟩:=aE.mp (show c∈aX n by rw[y];simp);have L:=lB (n:=n) (f:=d a) C K;have I:=lB (n:=n) (f:=d b) Q N;have r5:=lB (n:=n) (f:=d a) Q N;have tr:¬d a b+d b c<d a c:=by have:=X.Wk a b c t q C K Q N;lia
    refine⟨[.v T,.v (.int n),.v (.int a),.v (.int b),.v (.int c)],[.v T,.v (.int n),.v (.int a),.v (.int b),.v (.int c)],fF rfl,.inl ?_,some _,rfl⟩;unfold vn;rw[fM (by simp[aV,ag,mC,p a t q,p b C K,L,I,r5,tr])];rfl) [.v T,.v (.int n),.v (.int a),.v (.int b),sv s] ⟨s,rfl⟩;refine⟨[.v T,.v (.int n),.v (.int a),.v (.int b),sv s],[.v T,.v (.int n),.v (.int a),.v (.int b),sv J],fF rfl,.inl ?_,some _,J,rfl⟩;exact(sg (by simp[bM,ai,ae,af,G])).trans k1) [.v T,.v (.int n),.v (.int a),sv i,sv u] ⟨i,u,rfl⟩;refine⟨[.v T,.v (.int n),.v (.int a),sv i,sv u],[.v T,.v (.int n),.v (.int a),sv l,sv s],fF rfl,.inl ?_,some _,l,s,rfl⟩;exact(sg (by simp[bM,ai,ae,af,G])).trans U) [.v T,.v (.int n),sv k,sv j,sv e] ⟨k,j,e,rfl⟩;exact⟨g,i,u,(sg (by simp[bM,ai,ae,af,G])).trans A⟩
 have lT:aW [T]=some (.int n):=by rw[Y];exact uv
 obtain⟨g,e1⟩:=l1 none none none;obtain⟨q2,q3,e2⟩:=l3 g none none;obtain⟨I,l,s,e3⟩:=l6 q2 q3 none;refine Si (δ:=[.v T,.v (.int n),sv I,sv l,sv s]) ?_;show aq _ _ [.v T,.no,.no,.no,.no]=_;have s1:av (bp aW (ai (ag 0) ae)) (aG 1) [.v T,.no,.no,.no,.no]=.nx [.v T,.v (.int n),sv none,sv none,sv none]:=cB (d:=.int n) (by simp[bp,ai,ae,ag,lT]) rfl;exact(bA s1).trans ((bA e1).trans ((bA e2).trans e3))
theorem Wl(cs:List Int)(h0:0<=k):∃c:Int,oy [iL cs,.int k]=.ok (.int c):=by
  by_cases h:k<cs.length;.refine⟨gA cs k,jO ?_⟩;show aq _ _ [.v _,.v _]=_;refine kY ?_;rw[gg (by simp[aV,ag,bp,ai,ae,h])];have:=uu (L:=cs) h0 (by lia);simp[aT,ag,this]
  . refine⟨0,jO ?_⟩;have q:a_ (aV (m2 oLt (ag 1) (bp aW (ai (ag 0) ae)))) (aT (m2 aw (ag 0) (ag 1))) cU [.v (iL cs),.v (.int k)]=.nx [.v (iL cs),.v (.int k)]:=by rw[fM (by simp[aV,ag,bp,ai,ae,h])];rfl
    exact(bA q).trans rfl
theorem Wm(h0:0<=i)(h1:i<4):∃x,(x=a\/x=b\/x=c\/x=e)/\aw (.lst [.int a,.int b,.int c,.int e]) (.int i)=some (.int x):=by
 rcases(show i=0\/i=1\/i=2\/i=3 by lia) with h|h|h|h<;>subst h;.exact⟨a,.inl rfl,rfl⟩
 .exact⟨b,.inr (.inl rfl),rfl⟩
 .exact⟨c,.inr (.inr (.inl rfl)),rfl⟩
 .exact⟨e,.inr (.inr (.inr rfl)),rfl⟩
structure vq(p:Fr):Prop where l1:0<=p.1h1:p.1<=100000000000000000l2:0<=p.2h2:p.2<=100000000000000000
theorem p8:lG (.int 10) (.int 8)=some (.int 100000000):=EV ⟨by decide,by decide,by decide⟩
theorem Wn:lG (.int 10) (.int 17)=some (.int 100000000000000000):=EV ⟨by decide,by decide,by decide⟩
theorem Wo{α:Type}(ts:List Fr)(f:Fr->α):ts.map f=(aX ts.length).map fun k=>f (th ts k):=by
 apply nJ;intro i;by_cases a:i<ts.length;.rw[bB,bB,vp a];have:=Gz (ts:=ts) (k:=i) (by lia);simp_all
 .rw[kA.mpr (by simp_all),kA.mpr (by rw[aI,gx];lia)]
def oA(sp:List Fr)(l a b:Int):Int:=if a=b then 0 else l+((th sp (if b<a then b else a)).2+7*(th sp (if b>a then b else a)).1+(if b<a then b else a)*(if b>a then b else a))%(l+1)
def rH(sp:List Fr)(a b:Int):Int:=(if(th sp a).1-(th sp b).1<0 then-((th sp a).1-(th sp b).1) else(th sp a).1-(th sp b).1)+(if(th sp a).2-(th sp b).2<0 then-((th sp a).2-(th sp b).2) else(th sp a).2-(th sp b).2)
theorem Wq(o:0<l)(r:l<=1000000000000000000):dQ n 2000000000000000000 (oA sp l):=by
  have g:∀a b:Int,a≠b->l<=oA sp l a b/\oA sp l a b<=2*l:=fun a b p=>by unfold oA;obtain⟨X,j⟩:∃X,X=((th sp (if b<a then b else a)).2+7*(th sp (if b>a then b else a)).1+(if b<a then b else a)*(if b>a then b else a)):=⟨_,rfl⟩;rw[<-j];have:=nz X (show 0<l+1 by lia);have:=oz X (show 0<l+1 by lia);lia
  have d:∀a:Int,oA sp l a a=0:=fun a=>ak rfl;have f:∀a b:Int,0<=oA sp l a b/\oA sp l a b<=2*l:=fun a b=>by
    by_cases e:a=b;.grind
    grind
  refine⟨fun a b _ _ _ _=>by have:=f a b;lia,fun a _ _=>d a,fun a b _ _ _ _=>?_,fun a b c _ _ _ _ _ _=>?_⟩
  . by_cases e:a=b;.rw[e]
    . have h:(if b<a then b else a)=(if a<b then a else b):=by lia
      have i:(if b>a then b else a)=(if a>b then a else b):=by lia
      unfold oA;rw[ao e,h,i,ao (show¬b=a from fun z=>e z.symm)]
  . by_cases h:a=b;.rw[h,d];lia
    . by_cases i:b=c;.simp_all
      .have m:=g a b h;have q:=g b c i;have k:=f a c;lia
theorem Wr(h:∀p∈sp,vq p):dQ sp.length 2000000000000000000 (rH sp):=by
 have i:∀a:Int,0<=a->a<sp.length->vq _:=fun a d e=>h _ (GA d e);refine⟨fun a b d e g f=>?_,fun a d e=>?_,fun a b d e g f=>?_,fun a b c d e g f k m=>?_⟩;.obtain⟨r,l,q,n⟩:=i a d e;obtain⟨o,t,s,j⟩:=i b g f;unfold rH;omega
 .unfold rH;lia
 .unfold rH;lia
 .unfold rH;omega
theorem Ws{sp:List Fr}{l a b:Int}(y:sp.length<=100)(A:0<l)(h:∀p∈sp,vq p)(z:0<=a)(B:a<sp.length)(x:0<=b)(w:b<sp.length):FY [iz sp,.int a,.int b,.int l]=.ok (.int (oA sp l a b)):=by
  refine jO ?_;show aq _ _ [.v (iz sp),.v (.int a),.v (.int b),.v (.int l),.no,.no,.no]=_;unfold oA;by_cases e:a=b;.rw[ak e];refine kY ?_;rw[gg (by simp[aV,ag,e])];rfl
  . rw[ao e];have n1:a_ (aV (m2 oEq (ag 1) (ag 2))) (aT (mC (.int 0))) cU [.v (iz sp),.v (.int a),.v (.int b),.v (.int l),.no,.no,.no]=.nx [.v (iz sp),.v (.int a),.v (.int b),.v (.int l),.no,.no,.no]:=by rw[fM (by simp[aV,ag,e])];rfl
    refine(bA n1).trans ?_;obtain⟨d,g⟩:∃d,d=if b<a then b else a:=⟨_,rfl⟩;obtain⟨c,f⟩:∃c,c=if b>a then b else a:=⟨_,rfl⟩;have mn:zX [.int a,.int b]=some (.int d):=by rw[g];rfl
    have mx:zW [.int a,.int b]=some (.int c):=by rw[f];rfl
    have k:0<=d/\d<sp.length:=by lia
    have i:0<=c/\c<sp.length:=by lia
    rw[<-g,<-f];have n:=GB (ts:=sp) k.1 k.2;have i2:=GB (ts:=sp) i.1 i.2;have m:=h _ (GA i.1 i.2);obtain⟨T,u⟩:∃T,T=iz sp:=⟨_,rfl⟩;rw[<-u] at n i2⊢;have o:av (bp zX (ai (ag 1) (ai (ag 2) ae))) (aG 4) [.v T,.v (.int a),.v (.int b),.v (.int l),.no,.no,.no]=.nx [.v T,.v _,.v _,.v _,.v (.int d),.no,.no]:=cB (by simp[bp,ai,ae,ag,mn]) rfl;have q:av (bp zW (ai (ag 1) (ai (ag 2) ae))) (aG 5) [.v T,.v (.int a),.v (.int b),.v (.int l),.v (.int d),.no,.no]=.nx [.v T,.v _,.v _,.v _,.v _,.v (.int c),.no]:=cB (by simp[bp,ai,ae,ag,mx]) rfl;have r:fc 7:=dH 10 (by decide);have t:fc (th sp c).1:=dH (10^18) (by have:=m.l1;have:=m.h1;lia);have fl:fc d:=dH 1000 (by lia);have j:fc c:=dH 1000 (by lia);have s:av (m2 bo (m2 bo (m2 aL (m2 aw (ag 0) (ag 4)) (mC (.int 1))) (m2 fe (mC (.int 7)) (m2 aL (m2 aw (ag 0) (ag 5)) (mC (.int 0))))) (m2 fe (ag 4) (ag 5))) (aG 6) [.v T,.v (.int a),.v (.int b),.v (.int l),.v (.int d),.v (.int c),.no]=.nx [.v T,.v (.int a),.v (.int b),.v (.int l),.v (.int d),.v (.int c),.v (.int ((th sp d).2+7*(th sp c).1+d*c))]:=by refine cB ?_ rfl;simp[ag,mC,n,i2,gy,uW r t,uW fl j]
    refine(bA o).trans ((bA q).trans ((bA s).trans ?_));simp[aT,ag,mC,lz (show 0<l+1 by lia)]
theorem Wt(cs:List Int)(n0:0<n)(n1:n<=8)(w:Int):∃d:Int->Int->Int,dQ n 2000000000000000000 d/\AA [iL cs,.int n,.int w]=.ok (aM (aH n d)):=by
  obtain⟨C,S⟩:∃C,C=iL cs:=⟨_,rfl⟩;have H:=kX (show n<=1000 by lia);have f4:fc 4:=dH 10 (by decide);obtain⟨M,h1,f,i,h,g,rfl,t,B⟩:=lZ (b:=aG 4) (m:=MQ) D.int (fun j M=>∃(f:List Fr) (i h g:Option D),M=[.v C,.v (.int n),.v (.int w),.o (iz f),sv i,sv h,sv g,.no]/\f.length=j.length/\∀p∈f,vq p) (aX n) (by
      rintro j x post M s ⟨f,i,h,g,rfl,t,B⟩;obtain⟨x0,x1⟩:=aE.mp (show x∈aX n by simp_all);have pl:j.length<=8:=by have:=bT List.length s;rw[gx,bO,ef] at this;lia
      obtain⟨c,hc⟩:=Wl cs (k:=x) x0;rw[<-S] at hc;have Z:=Gx c (x+300) (by lia) (by lia);obtain⟨z,ez⟩:∃z,z=num c (x+300):=⟨_,rfl⟩;have z0:=Gy c (x+300);have z1:=ND c (x+300);rw[<-ez] at Z z0 z1;obtain⟨r,hr,ir⟩:=Wm (a:=3) (b:=50) (c:=100000000) (e:=100000000000000000) (nz z (show(0:Int)<4 by decide)) (oz z (show(0:Int)<4 by decide));have u:0<r/\r<=100000000000000000:=by lia
      have fz:fc (z/4):=dH (10^10) (by lia);have fk:fc 48271:=dH (10^10) (by decide);have J:fc 69621:=dH (10^10) (by decide);have N:fc 40692:=dH (10^10) (by decide);obtain⟨y,Y⟩:∃y,y=z/4*69621%2147483629:=⟨_,rfl⟩;have y0:=nz (z/4*69621) (show(0:Int)<2147483629 by decide);have y1:=oz (z/4*69621) (show(0:Int)<2147483629 by decide);have fy:fc y:=dH (10^10) (by lia);have E:=nz (z/4*48271) u.1;have a2:=oz (z/4*48271) u.1;have a3:=nz (y*40692) u.1;have a4:=oz (y*40692) u.1;have I:av (bD vX (ai (bD oy (ai (af 0) (ai (af 4) ae))) (ai (m2 bo (ag 4) (mC (.int 300))) ae))) (aG 5) [.v C,.v (.int n),.v (.int w),.o (iz f),.v (.int x),sv h,sv g,.no]=.nx [.v C,.v (.int n),.v (.int w),.o (iz f),.v (.int x),.v (.int z),sv g,.no]:=cB (d:=.int z) (by simp[bD,ai,ae,af,ag,mC,hc,Z]) (fF rfl);have q2:av (m2 aw (aU (ai (mC (.int 3)) (ai (mC (.int 50)) (ai (m2 lG (mC (.int 10)) (mC (.int 8))) (ai (m2 lG (mC (.int 10)) (mC (.int 17))) ae))))) (m2 oMod (ag 5) (mC (.int 4)))) (aG 6) [.v C,.v (.int n),.v (.int w),.o (iz f),.v (.int x),.v (.int z),sv g,.no]=.nx [.v C,.v (.int n),.v (.int w),.o (iz f),.v (.int x),.v (.int z),.v (.int r),.no]:=cB (d:=.int r) (by simp[aU,ai,ae,ag,mC,p8,Wn,sizeLine,lz,ir]) (fF rfl);have q3:oH 3 (bL (ai (m2 oMod (m2 fe (m2 oDiv (ag 5) (mC (.int 4))) (mC (.int 48271))) (ag 6)) (ai (m2 oMod (m2 fe (m2 oMod (m2 fe (m2 oDiv (ag 5) (mC (.int 4))) (mC (.int 69621))) (mC (.int 2147483629))) (mC (.int 40692))) (ag 6)) ae))) [.v C,.v (.int n),.v (.int w),.o (iz f),.v (.int x),.v (.int z),.v (.int r),.no]=.nx [.v C,.v (.int n),.v (.int w),.o (iz (f++[(z/4*48271%r,y*40692%r)])),.v (.int x),.v (.int z),.v (.int r),.no]:=by
        refine(CM (l:=f.map gy) (d:=gy (z/4*48271%r,y*40692%r)) rfl ?_ (by grind)).trans ?_;.rw[Y] at fy;simp[bL,ai,ae,ag,mC,um,f4,uW fz fk,uW fz J,lz,uW fy N,lz u.1,gy,sizeLine,Y]
        .simp[iz]
      refine⟨[.v C,.v (.int n),.v (.int w),.o (iz f),.v (.int x),sv h,sv g,.no],_,fF rfl,.inl ((bA I).trans ((bA q2).trans q3)),_,some (.int x),some (.int z),some (.int r),rfl,by simp[t],fun p hp=>?_⟩;rcases cD.mp hp with m|m;.simp_all
      .rw[bc.mp m];exact⟨E,by lia,a3,by lia⟩) [.v C,.v (.int n),.v (.int w),.o (iz []),.no,.no,.no,.no] ⟨[],none,none,none,rfl,rfl,fun _ z=>by cases z⟩;rw[gx] at t;have st:av (aU ae) (dw 3) [.v C,.v (.int n),.v (.int w),.no,.no,.no,.no,.no]=.nx [.v C,.v (.int n),.v (.int w),.o (iz []),.no,.no,.no,.no]:=cB (d:=iz []) (by simp[aU,ae,iz,sizeLine]) rfl;have lp:MR [.v C,.v (.int n),.v (.int w),.o (iz []),.no,.no,.no,.no]=_:=(lA (l:=(aX n).map .int) (by simp[bM,ai,ae,af,H])).trans h1;rw[<-S];have run:∀X,_->AA [C,.int n,.int w]=.ok X:=fun X hX=>qQ ((bA st).trans ((bA lp).trans hX));obtain⟨TS,q⟩:∃TS,TS=iz f:=⟨_,rfl⟩;by_cases c:w%3=0
  . obtain⟨l,el⟩:∃l,l=1+(th f 0).1:=⟨_,rfl⟩;have s0:=B _ (GA (ts:=f) (k:=0) (by decide) (by lia));have i0:=GB (ts:=f) (k:=0) (by decide) (by lia);rw[<-q] at i0;have U:0<l:=by have:=s0.l1;lia
    have l1:l<=1000000000000000000:=by have:=s0.h1;lia
    refine⟨oA f l,Wq U l1,run _ ?_⟩;refine GC ?_;rw[gg (by simp[aV,ag,mC,lz,c]),<-q];have I:av (m2 bo (mC (.int 1)) (m2 aL (m2 aw (ag 3) (mC (.int 0))) (mC (.int 0)))) (aG 7) [.v C,.v (.int n),.v (.int w),.o TS,sv i,sv h,sv g,.no]=.nx [.v C,.v (.int n),.v (.int w),.o TS,sv i,sv h,sv g,.v (.int l)]:=cB (d:=.int l) (by simp[ag,mC,i0,gy,el]) rfl;refine(bA I).trans ?_;have k1:∀a:Int,0<=a->a<n->MS [.l TS,.v (.int l),.v (.int n),.v (.int a)]=.ok (iL ((aX n).map (oA f l a))):=fun a Q E=>by refine nC (oI (l:=(aX n).map .int) (r:=(aX n).map fun b=>.int (oA f l a b)) (by simp[bM,ai,ae,af,H]) (by rw[aI,gx];lia) ?_) (by simp[iL]);refine qP .int (fun b=>.int (oA f l a b)) _ fun b hb=>?_;obtain⟨b0,b1⟩:=aE.mp hb;have bt:=Ws (sp:=f) (l:=l) (by lia) U B Q (show a<f.length by lia) b0 (show b<f.length by lia);rw[<-q] at bt;have e:eJ [.l TS,.v (.int l),.v (.int n),.v (.int a)] [0,3,1] 1=[.l TS,.v (.int a),.v (.int l),.no]:=rfl;rw[e];simp[jN,eD,tL,ai,ae,af,ag,bt,uT]
    have k2:FZ [.v C,.v (.int n),.v (.int w),.o TS,sv i,sv h,sv g,.v (.int l)]=.ok (aM (aH n (oA f l))):=by refine nC (oI (l:=(aX n).map .int) (r:=(aX n).map fun a=>iL ((aX n).map (oA f l a))) (by simp[bM,ai,ae,af,H]) (by rw[aI,gx];lia) ?_) (by simp[aM,aH]);refine qP .int (fun a=>iL ((aX n).map (oA f l a))) _ fun a ha=>?_;obtain⟨Q,E⟩:=aE.mp ha;have e:eJ [.v C,.v (.int n),.v (.int w),.o TS,sv i,sv h,sv g,.v (.int l)] [3,7,1] 1=[.l TS,.v (.int l),.v (.int n),.no]:=rfl;rw[e];simp[jN,eD,k1 a Q E]
    simp[gR,k2]
  . have G:a_ (aV (m2 oEq (m2 oMod (ag 2) (mC (.int 3))) (mC (.int 0)))) (aq (av (m2 bo (mC (.int 1)) (m2 aL (m2 aw (ag 3) (mC (.int 0))) (mC (.int 0)))) (aG 7)) (gR FZ)) cU [.v C,.v (.int n),.v (.int w),.o (iz f),sv i,sv h,sv g,.no]=.nx [.v C,.v (.int n),.v (.int w),.o (iz f),sv i,sv h,sv g,.no]:=by rw[fM (by simp[aV,ag,mC,lz,c])];rfl
    have A:=Wr B;rw[t] at A;refine⟨rH f,A,run _ ((bA G).trans ?_)⟩;have K:∀x:Int,tM [.int x]=some (.int (if x<0 then-x else x)):=fun _=>rfl;have L:=Wo f gy;rw[t] at L;have k3:∀a:Int,MT [.l (iz f),.v (gy (th f a))]=.ok (iL ((aX n).map (rH f a))):=fun a=>by refine nC (oI (l:=(aX n).map fun k=>gy (th f k)) (r:=(aX n).map fun b=>.int (rH f a b)) (by rw[<-L];simp[cP,ag,iz]) (by rw[aI,gx];lia) ?_) (by simp[iL]);refine qP (fun k=>gy (th f k)) (fun b=>.int (rH f a b)) _ fun b hb=>?_;have e:eJ [.l (iz f),.v (gy (th f a))] [1] 1=[.v (gy (th f a)),.no]:=rfl;rw[e];simp[jN,eD,bp,ai,ae,ag,mC,gy,K,rH]
    have k4:MU [.v C,.v (.int n),.v (.int w),.o (iz f),sv i,sv h,sv g,.no]=.ok (aM (aH n (rH f))):=by refine nC (oI (l:=(aX n).map fun k=>gy (th f k)) (r:=(aX n).map fun a=>iL ((aX n).map (rH f a))) (by rw[<-L];simp[cP,ag,iz]) (by rw[aI,gx];lia) ?_) (by simp[aM,aH]);refine qP (fun k=>gy (th f k)) (fun a=>iL ((aX n).map (rH f a))) _ fun a ha=>?_;have e:eJ [.v C,.v (.int n),.v (.int w),.o (iz f),sv i,sv h,sv g,.no] [3] 1=[.l (iz f),.no]:=rfl;rw[e];have b1:eD 1 (gy (th f a)) [.l (iz f),.no]=some [.l (iz f),.v (gy (th f a))]:=rfl;simp[jN,b1,k3 a]
    show gR _ _=_;simp[gR,k4]
theorem GF:∀{x y z:List Int},PM.lexLt x y=true->PM.lexLt y z=true->PM.lexLt x z=true
 |[],[],_,h,_=>by lia |[],_::_,[],_,h=>by simp[PM.lexLt] at h |[],_::_,_::_,_,_=>rfl |_::_,[],_,h,_=>by simp[PM.lexLt] at h |_::_,_::_,[],_,h=>by simp[PM.lexLt] at h |a::x,b::y,c::z,f,e=>by
  unfold PM.lexLt at f e⊢;split at f<;>split at e<;>rename_i g i;.rw[ak (g.trans i)];exact GF f e
  .rw[ao (by lia),g];exact e
  .rw[ao (by lia),<-i];exact f
  .grind
theorem GG:∀{x y:List Int},PM.lexLt x y=false->PM.lexLt y x=false->x=y
 |[],[],_,_=>rfl |[],_::_,h,_=>by simp[PM.lexLt] at h |_::_,[],_,h=>by simp[PM.lexLt] at h |a::x,b::y,d,f=>by
  unfold PM.lexLt at d f;split at d;.rename_i e;rw[ak e.symm] at f;rw[e,GG d f]
  .grind
def xp:List (List Int)->List Int |[]=>[] |t::l=>gu l t
theorem NF:∀(l:List (List Int))(m:List Int),(gu l m=m\/gu l m∈l)/\PM.lexLt m (gu l m)=false/\∀x∈l,PM.lexLt x (gu l m)=false
  |[],m=>⟨.inl rfl,by show PM.lexLt m m=false;induction m with |nil=>rfl |cons a m o=>simp[PM.lexLt,o],fun _ h=>by cases h⟩ |t::l,m=>by
    obtain⟨g,b,j⟩:=NF l (if PM.lexLt t m=true then t else m);show(gu l _=m\/gu l _∈t::l)/\PM.lexLt m (gu l _)=false/\∀x∈t::l,PM.lexLt x (gu l _)=false;by_cases c:PM.lexLt t m=true
    . rw[ak c] at g b j⊢;refine⟨.inr ?_,?_,fun x d=>?_⟩
      . rcases g with e|e;.simp_all
        simp_all
      .cases z:PM.lexLt m _ with |false=>rfl |true=>rw[GF c z] at b;cases b
      . rcases aR.mp d with rfl|d;.exact b
        simp_all
    . rw[ao c] at g b j⊢;refine⟨?_,b,fun x d=>?_⟩
      . rcases g with e|e;.simp_all
        .simp_all
      . rcases aR.mp d with rfl|d;.cases z:PM.lexLt x _ with |false=>rfl |true=>
            rcases g with e|e;.simp_all
            . have k:PM.lexLt x m=false:=by simp_all
              -- m is not below the least, x is below it: then m is not below x; Wu are alike or x is below m
              cases w:PM.lexLt m x with |true=>rw[GF w z] at b;cases b |false=> have p:=GG k w;grind
        simp_all
theorem xq(h:ts≠[]):xp ts∈ts/\∀x∈ts,PM.lexLt x (xp ts)=false:=by cases ts with |nil=>simp_all |cons t l=>
    obtain⟨c,d,g⟩:=NF l t;refine⟨?_,fun x a=>?_⟩
    . rcases c with e|e;.show gu l t∈_;simp_all
      .exact bz _ e
    . rcases aR.mp a with rfl|a;.exact d
      .exact g x a
theorem Wv(h:ts≠[])(e:∀x,x∈ts↔x∈us):xp ts=xp us:=by
 have a:us≠[]:=fun z=>by have:=(e _).mp (xq h).1;simp_all
 exact GG ((xq a).2 _ ((e _).mp (xq h).1)) ((xq h).2 _ ((e _).mpr (xq a).1))
def fV(x:List Int):D:=.tup (x.map .int)
theorem Ww(h:ts≠[]):z6 [.lst (ts.map fV)]=some (fV (xp ts)):=by cases ts with |nil=>simp_all |cons t l=>
 have c:∀t,om (fV t)=some t:=fun t=>qO t;have d:∀l,oo (l.map fV)=some l:=fun l=>by induction l with |nil=>rfl |cons t l e=>simp[oo,c,e]
 show(om _).bind _=_;rw[c,d];rfl
def qt(n:Nat)(d:Int->Int->Int)(W V:List Int):List (List Int):=V.flatMap fun i=>((aX n).filter fun o=>o∉W).map fun o=>[d i o,o,i]
def fG(d:Int->Int->Int)(W U:List Int):List (List Int):=U.flatMap fun o=>W.map fun i=>[d i o,o,i]
theorem kZ{W V x}:x∈qt n d W V↔∃i o,i∈V/\(0<=o/\o<(n:Int))/\o∉W/\x=[d i o,o,i]:=by
 simp only[qt,kC,c8,jV,decide_eq_true_eq];constructor;.rintro⟨i,b,o,⟨a,c⟩,rfl⟩;exact⟨i,o,b,aE.mp a,by omega,rfl⟩
 .rintro⟨i,o,b,a,c,rfl⟩;exact⟨i,b,o,⟨aE.mpr a,by omega⟩,rfl⟩
theorem Wx:x∈fG d W U↔∃i o,i∈W/\o∈U/\x=[d i o,o,i]:=by
 simp only[fG,kC];constructor;.grind
 .grind
theorem NG(d:Int->Int->Int)(W:List Int):∀U:List Int,(fG d W U).length=U.length*W.length |[]=>by simp[fG] |o::U=>by have:=NG d W U;unfold fG at this⊢;rw[lO,bO,aI,ef,Nat.succ_mul];lia
def nt(n:Nat)(d:Int->Int->Int)(W:List Int):List Int:=xp (qt n d W W)
def nI(n:Nat)(d:Int->Int->Int)(W:List Int):Int:=(nt n d W).getD 2 0
def nO(n:Nat)(d:Int->Int->Int)(W:List Int):Int:=(nt n d W).getD 1 0
theorem CO(h:W≠[])(s:W.length<n):qt n d W W≠[]/\nt n d W=[d (nI n d W) (nO n d W),nO n d W,nI n d W]/\nI n d W∈W/\(0<=nO n d W/\nO n d W<n)/\nO n d W∉W:=by
 have k:qt n d W W≠[]:=fun e=>by
  obtain⟨o,b,f⟩:∃o∈aX n,o∉W:=by apply dO;intro a;have:=qC (AM n) (fun q j=>dO fun z=>a ⟨q,j,z⟩);rw[gx] at this;lia
  cases W with |nil=>simp_all |cons i W=> have:[d i o,o,i]∈qt n d _ (i::W):=kZ.mpr ⟨i,o,by simp,aE.mp b,f,rfl⟩;simp_all
 obtain⟨i,o,t,b,f,e⟩:=kZ.mp (xq k).1;have m:nt n d W=[d i o,o,i]:=e;have p:nI n d W=i:=by unfold nI;simp_all
 have r:nO n d W=o:=by unfold nO;simp_all
 simp_all
def fX(n:Nat)(d:Int->Int->Int):Nat->List Int |0=>[0] |k+1=>fX n d k++[nO n d (fX n d k)]
def j'(n:Nat)(d:Int->Int->Int):Nat->List (Int×Int) |0=>[] |k+1=>j' n d k++[(nI n d (fX n d k),nO n d (fX n d k))]
theorem yx(n:Nat)(d:Int->Int->Int)(k:Nat):(fX n d k).length=k+1:=by induction k with |zero=>rfl |succ k c=>simp[fX,c]
theorem GH(n:Nat)(d:Int->Int->Int)(k:Nat):(j' n d k).length=k:=by induction k with |zero=>rfl |succ k c=>simp[j',c]
theorem CP(n:Nat)(d:Int->Int->Int)(k:Nat):fX n d k≠[]:=fun e=>by have:=yx n d k;simp_all
theorem GI(c:0<n):∀k,k<n->∀q∈fX n d k,0<=q/\q<(n:Int)
 |0,_,q,b=>by rw[bc.mp b];lia |k+1,h,q,b=>by
  rcases cD.mp b with z|z;.exact GI c k (by lia) q z
  .rw[bc.mp z];exact(CO (CP n d k) (by rw[yx];omega)).2.2.2.1
theorem GJ(f:0<n):∀k,k<n->∀p∈j' n d k,(0<=p.1/\p.1<(n:Int))/\(0<=p.2/\p.2<(n:Int))
 |0,_,q,e=>by cases e |k+1,h,q,e=>by
  rcases cD.mp e with z|z;.exact GJ f k (by lia) q z
  .rw[bc.mp z];obtain⟨_,_,a,b,_⟩:=CO (CP n d k) (by rw[yx];omega);exact⟨GI f k (by lia) _ a,b⟩
def aj(p:Int×Int):D:=.tup [.int p.1,.int p.2]
def odd(E:List Int)(k:Int):Bool:=decide (E.count k%2=1)
def kj(L:List Int)(t:Int):List Int:=if t∈L then L else L++[t]
def aY(E:List Int):List Int:=E.foldl kj []
theorem NH(E:List Int)(x:Int):aY (E++[x])=kj (aY E) x:=by simp[aY]
theorem vr:∀E:List Int,(aY E).Nodup/\∀x,x∈aY E↔x∈E:=by
 have c:∀(E L:List _),L.Nodup->(E.foldl kj L).Nodup/\∀x,x∈E.foldl kj L↔x∈L\/x∈E:=by intro E;induction E with |nil=>simp |cons a E f=>
  intro L h;have i:(kj L a).Nodup:=by
   unfold kj;split;.exact h
   .refine l_.mpr ⟨h,by simp,fun x l y k e=>?_⟩;simp_all
  have m2:∀x,x∈kj L a↔x∈L\/x=a:=fun x=>by
   unfold kj;split;.exact⟨.inl,fun w=>w.elim id fun e=>by simp_all⟩
   .simp
  obtain⟨g,i2⟩:=f _ i;refine⟨g,fun x=>?_⟩;rw[lP,i2,m2,aR,or_assoc]
 intro E;obtain⟨a,b⟩:=c E _ List.nodup_nil;exact⟨a,fun x=>by rw[show aY E=E.foldl _ _ from rfl,b];simp⟩
theorem CQ(E:List Int):(aY E).length<=E.length:=by have:=vr E;exact qC this.1 fun x b=>(this.2 x).mp b
def dF(E:List Int):D:=.c9 ((aY E).map .inl) ((aY E).map fun k=>.bl (odd E k))
theorem get_map(ks:List Int)(f:Int->D)(t:Int):jL (ks.map .inl) (ks.map f) (.inl t)=if t∈ks then some (f t) else none:=by induction ks with |nil=>rfl |cons a l c=>
    simp only[b7,jL,c];by_cases h:a=t;.simp_all
    . have g:¬(Sum.inl a:Key)=Sum.inl t:=fun e=>h (Sum.inl.inj e);rw[ao g];by_cases z:t∈l;.rw[ak z,ak (bz _ z)]
      .rw[ao z,ao (fun w=>by simp_all)]
theorem NI(ks:List Int)(f:Int->D)(t:Int)(v:D)(d:ks.Nodup):putL (ks.map .inl) (ks.map f) (.inl t) v=ks.map fun k=>if k=t then v else f k:=by induction ks with |nil=>rfl |cons a l e=>
 simp only[b7,putL];by_cases h:a=t;.simp_all
 .simp_all
theorem CS(E:List Int)(x k:Int):odd (E++[x]) k=if k=x then !odd E k else odd E k:=by
 unfold odd;by_cases h:k=x;.grind
 .have:=iD.mpr fun e=>h e.symm;simp_all
theorem Wy(E:List Int)(x:Int):putD ((aY E).map .inl) ((aY E).map fun k=>.bl (odd E k)) (.inl x) (.bl (!odd E x))=dF (E++[x]):=by
  have a:=vr E;unfold putD dF;rw[NH];by_cases h:x∈aY E
  . rw[ak (by simp_all),NI _ _ _ _ a.1];simp only[kj,ak h];congr 1;refine i9 fun k _=>?_;rw[CS];by_cases e:k=x;.simp_all
    simp_all
  . rw[ao (by simp_all)];simp only[kj,ao h,dC,b7,qF];congr 2;.refine i9 fun k b=>?_;rw[CS,ao (fun e=>h (by simp_all))]
    .rw[CS,ak rfl]
def ends(R:List (Int×Int)):List Int:=R.flatMap fun p=>[p.1,p.2]
theorem vZ(R:List (Int×Int)):(ends R).length=2*R.length:=by induction R with |nil=>rfl |cons p R c=>simp[ends,lO,bO,ef,nM] at*;lia
def ik(R:List (Int×Int)):List Int:=(aY (ends R)).filter (odd (ends R))
theorem GK{R:List (Int×Int)}(S:R.length<=30):rE [.lst (R.map aj)]=.ok (iL (eZ (ik R))):=by
  obtain⟨A,q⟩:∃A,A=D.lst (R.map aj):=⟨_,rfl⟩;have step:∀(E:List Int)(x:Int)(d:Sl),E.length<=100->MZ [.v A,.o (dF E),d,.v (.int x)]=.nx [.v A,.o (dF (E++[x])),d,.v (.int x)]:=fun E x d Q=>by
    have g:wU (ag 1) (af 3) (mC (.bl false)) [.v A,.o (dF E),d,.v (.int x)]=.ok (.bl (odd E x)):=by
      have f:=get_map (aY E) (fun k=>D.bl (odd E k)) x;by_cases h:x∈aY E;.rw[ak h] at f;simp[wU,ag,af,mC,dF,ui,f,E8]
      . rw[ao h] at f;have z:odd E x=false:=by unfold odd;have:x∉E:=fun w=>h ((vr E).2 x|>.mpr w);grind
        simp[wU,ag,af,mC,dF,ui,f,z,E8]
    have fl:=CQ E;show yb 1 (af 3) (vJ (wU (ag 1) (af 3) (mC (.bl false)))) _=_;unfold yb;have s:vJ (wU (ag 1) (af 3) (mC (.bl false))) [.v A,.o (dF E),d,.v (.int x)]=.ok (.bl (!odd E x)):=by unfold vJ;simp_all
    show(PM.R.gW (vJ _ _) _ _)=_;rw[s];simp only[PM.R.fT];show(PM.R.gW (af 3 _) _ _)=_;have G:af 3 [.v A,.o (dF E),d,.v (.int x)]=.ok (.int x):=rfl;rw[G];simp only[PM.R.fT,ui];rw[gq (by rw[aI];exact KL (by lia)),Wy];rfl
  obtain⟨J,I,i,c,rfl⟩:=lZ (b:=aG 2) (m:=Ge) aj (fun a j=>∃i c,j=[.v A,.o (dF (ends a)),sv i,sv c]) R (by
      rintro a p r j n ⟨i,c,rfl⟩;have N:a.length<=30:=by grind
      have u:=vZ a;have y:=step (ends a) p.1 (.v (aj p)) (by lia);have d:=step (ends a++[p.1]) p.2 (.v (aj p)) (by grind);refine⟨[.v A,.o (dF (ends a)),.v (aj p),sv c],_,fF rfl,.inl ?_,some (aj p),some (.int p.2),rfl⟩;have e:ends (a++[p])=ends a++[p.1]++[p.2]:=by simp[ends]
      rw[e];unfold Ge M0;refine(lA (l:=[.int p.1,.int p.2]) rfl).trans ?_;unfold gX;rw[show aG 3 (.int p.1) [.v A,.o (dF (ends a)),.v (aj p),sv c]=some [.v A,.o (dF (ends a)),.v (aj p),.v (.int p.1)] from fF rfl];simp only[y];unfold gX;rw[show aG 3 (.int p.2) [.v A,.o (dF (ends a++[p.1])),.v (aj p),.v (.int p.1)]=some [.v A,.o (dF (ends a++[p.1])),.v (aj p),.v (.int p.2)] from rfl];simp only[d];rfl) [.v A,.o (dF []),.no,.no] ⟨none,none,rfl⟩;have L:av (mC (.c9 [] [])) (dw 1) [.v A,.no,.no,.no]=.nx [.v A,.o (dF []),.no,.no]:=rfl;have M:M1 [.v A,.o (dF []),.no,.no]=_:=(lA (l:=R.map aj) (by rw[q];rfl)).trans I;have fl:=CQ (ends R);have u:=vZ R;have k:Gf [.v A,.v (.fd ((aY (ends R)).map .inl) ((aY (ends R)).map fun k=>.bl (odd (ends R) k))),sv i,sv c]=.ok (iL (ik R)):=by
    refine oI (l:=(aY (ends R)).map .int) ?_ (by rw[aI];lia) ?_;.show PM.R.ok (((aY (ends R)).map .inl).map kD)=_;rw[bX];rfl
    .refine Sh .int _ _ fun x t=>?_;have e:eJ [.v A,.v (.fd ((aY (ends R)).map .inl) ((aY (ends R)).map fun k=>.bl (odd (ends R) k))),sv i,sv c] [1] 1=[.v (.fd ((aY (ends R)).map .inl) ((aY (ends R)).map fun k=>.bl (odd (ends R) k))),.no]:=rfl;rw[e];have f:=get_map (aY (ends R)) (fun k=>D.bl (odd (ends R) k)) x;rw[ak t] at f;have H:vd (.fd ((aY (ends R)).map .inl) ((aY (ends R)).map fun k=>.bl (odd (ends R) k))) (.int x)=some (.bl (odd (ends R) x)):=f;cases z:odd (ends R) x<;>simp[jN,eD,aV,af,H,z]
  have C:(ik R).length<64:=iB (List.length_filter_le ..) (by lia);refine qQ ?_;rw[<-q];refine(bA L).trans ((bA M).trans ?_);show gR (bp oi (ai Gf ae)) [.v A,.v (.fd ((aY (ends R)).map .inl) ((aY (ends R)).map fun k=>.bl (odd (ends R) k))),sv i,sv c]=_;have K:oi [iL (ik R)]=some (iL (eZ (ik R))):=by unfold oi iL;simp only[qO,Option.bind];rw[gq C];rfl
  simp only[gR,bp,ai,ae,k,PM.R.aC,K,PM.R.bj];rfl
theorem flip:∀{K:List Int},K.Nodup->((K.filter (odd (E++[x]))).length+(K.filter (odd E)).length)%2=if x∈K then 1 else 0
 |[],_=>rfl |a::K,h=>by
  have b:=fQ.mp h;have c:=flip (x:=x) (E:=E) b.2;rw[sE,CS];by_cases e:a=x;.grind
  .grind
theorem Wz:∀(n:Nat)(E:List Int),E.length=n->∀K:List Int,K.Nodup->(∀x∈E,x∈K)->(K.filter (odd E)).length%2=E.length%2:=by intro n;induction n with
 |zero=>
  intro E c K _ _;rw[i7.mp c];have:K.filter (odd [])=[]:=List.filter_eq_nil_iff.mpr fun a _=>by simp[odd]
  rw[this] |succ n m=>
  intro E c K g j;have o:E≠[]:=fun e=>by simp_all
  obtain⟨b,x,rfl⟩:∃b x,E=b++[x]:=⟨_,E.getLast o,(List.dropLast_concat_getLast _).symm⟩;have l:b.length=n:=by simp_all
  have i:=m b l K g fun y p=>j y (by simp[p]);have f:=flip (x:=x) (E:=b) g;rw[ak (j x (by simp))] at f;rw[bO,iw];lia
theorem NJ(R:List (Int×Int)):(ik R).length%2=0:=by have a:=vr (ends R);have:=Wz _ _ rfl _ a.1 fun x c=>(a.2 x).mpr c;rw[vZ] at this;unfold ik;lia
theorem WA{R:List (Int×Int)}(h:x∈ik R):x∈ends R:=((vr _).2 x).mp (jV.mp h).1
theorem NK(R:List (Int×Int)):(ik R).Nodup:=(vr _).1.filter _
theorem NL{c d:Type}(f:c->d):∀(l:List c)(k:Nat),(l.map f).eraseIdx k=(l.eraseIdx k).map f |[],_=>rfl |_::_,0=>rfl |a::l,k+1=>by simp[NL f l k]
theorem WB{S:List (Int×Int)}(K:S.length<=100)(x:Int):(∃(k:Nat) (p:Int×Int),S[k]?=some p/\(x=p.1\/x=p.2)/\yr [.lst (S.map aj),.int x]=.ok (.int k))\/((∀p∈S,x≠p.1/\x≠p.2)/\yr [.lst (S.map aj),.int x]=.ok .non):=by
  obtain⟨A,s⟩:∃A,A=D.lst (S.map aj):=⟨_,rfl⟩;let a:(Int×Int)×Nat->D:=fun q=>.tup [.int q.2,aj q.1];have J:uR (S.map aj)=S.zipIdx.map a:=by rw[KP,List.zipIdx_map,bX];rfl
  have w:x5 (ai (af 0) ae) [.v A,.v (.int x),.no,.no]=.ok (S.zipIdx.map a):=by rw[s];show R.of (some (uR (S.map aj)))=_;simp_all
  have H:∀(q:(Int×Int)×Nat),aV (m2 yj (ag 1) (ag 3)) [.v A,.v (.int x),.v (.int q.2),.v (aj q.1)]=.ok (decide (x=q.1.1\/x=q.1.2)):=fun q=>by simp[aV,ag,yj,aj,c5]
  have run:∀(l:List ((Int×Int)×Nat))(b c:Option D),(∃q∈l,(x=q.1.1\/x=q.1.2)/\gX (dn 2 (dv (aG 2) (dv (aG 3) dG))) xo (l.map a) [.v A,.v (.int x),sv b,sv c]=.rt (.int q.2))\/((∀q∈l,¬(x=q.1.1\/x=q.1.2))/\∃m j,gX (dn 2 (dv (aG 2) (dv (aG 3) dG))) xo (l.map a) [.v A,.v (.int x),sv b,sv c]=.nx [.v A,.v (.int x),sv m,sv j]):=by intro l;induction l with |nil=>intro b c;exact .inr ⟨by simp,b,c,rfl⟩ |cons q l C=>
      intro b c;have B:dn 2 (dv (aG 2) (dv (aG 3) dG)) (a q) [.v A,.v (.int x),sv b,sv c]=some [.v A,.v (.int x),.v (.int q.2),.v (aj q.1)]:=by rcases b with _|b<;>rcases c with _|c<;>rfl
      have i:=H q;by_cases h:x=q.1.1\/x=q.1.2;.rw[bg h] at i;unfold gX;have:xo [.v A,.v (.int x),.v (.int q.2),.v (aj q.1)]=.rt (.int q.2):=(gg i).trans rfl;grind
      . rw[bf h] at i;have G:xo [.v A,.v (.int x),.v (.int q.2),.v (aj q.1)]=.nx [.v A,.v (.int x),.v (.int q.2),.v (aj q.1)]:=(fM i).trans rfl;have u:gX (dn 2 (dv (aG 2) (dv (aG 3) dG))) xo ((q::l).map a) [.v A,.v (.int x),sv b,sv c]=gX (dn 2 (dv (aG 2) (dv (aG 3) dG))) xo (l.map a) [.v A,.v (.int x),sv (some (.int q.2)),sv (some (aj q.1))]:=by
          rw[b7];conv=>lhs;unfold gX
          rw[B];simp only[G];rfl
        rcases C (some (.int q.2)) (some (aj q.1)) with⟨I,d,n,f⟩|⟨d,m,j,f⟩;.exact .inl ⟨I,bz _ d,n,u.trans f⟩
        .exact .inr ⟨fun z r=>by rcases aR.mp r with rfl|r;exact h;exact d z r,m,j,u.trans f⟩
  rw[<-s];rcases run S.zipIdx none none with⟨q,d,n,f⟩|⟨d,m,j,f⟩
  . obtain⟨p,k⟩:=q;have o:S[k]?=some p:=by have:=sO.mp d;omega
    exact .inl ⟨k,p,o,n,jO (kY ((lA w).trans f))⟩
  .refine .inr ⟨fun p y=>?_,jO ((bA ((lA w).trans f)).trans rfl)⟩;obtain⟨k,o,e⟩:=kB y;have:=d (p,k) (sO.mpr (by simp[bx o,e]));exact⟨fun z=>this (.inl z),fun z=>this (.inr z)⟩
def yy(p:Int×Int)(x:Int):Int:=if p.1=x then p.2 else p.1
theorem WC(p:Int×Int)(x:Int):Co [aj p,.int x]=.ok (.int (yy p x)):=by refine jO ?_;show Gg [.v _,.v _]=_;unfold Gg yy;by_cases h:p.1=x<;>simp[aT,xY,aV,ag,mC,aj,h]
theorem WD{S:List (Int×Int)}(w:S.length<=100)(H:G.length<=1000)(I:W.length<=1000): (∃(k:Nat) (p:Int×Int) (b a j:Option D),S[k]?=some p/\(x=p.1\/x=p.2)/\Cq [.v A,.o (.lst (S.map aj)),.o (iL (G++[x])),.o (iL W),sv o4,sv o5,sv o6]=.nx [.v A,.o (.lst ((S.eraseIdx k).map aj)),.o (iL (G++[x]++[yy p x])),.o (iL W),sv b,sv a,sv j])\/ (∃(b a:Option D),(∀p∈S,x≠p.1/\x≠p.2)/\Cq [.v A,.o (.lst (S.map aj)),.o (iL (G++[x])),.o (iL W),sv o4,sv o5,sv o6]=.nx [.v A,.o (.lst (S.map aj)),.o (iL G),.o (iL (W++[x])),sv b,sv a,sv o6]):=by
  have n:av (m2 aw (ag 2) (m1 jM (mC (.int 1)))) (aG 4) [.v A,.o (.lst (S.map aj)),.o (iL (G++[x])),.o (iL W),sv o4,sv o5,sv o6]=.nx [.v A,.o (.lst (S.map aj)),.o (iL (G++[x])),.o (iL W),.v (.int x),sv o5,sv o6]:=by
    refine cB (d:=.int x) ?_ (fF rfl);have z:aw (iL (G++[x])) (.int (-1))=some (.int x):=by
      show jY ((G++[x]).map D.int) (-1)=_;unfold jY gm;rw[ao (by decide),aI,bO,iw];rw[ak (by lia)];have:((-1:Int)+((G.length+1:Nat):Int)).toNat=G.length:=by lia
      simp_all
    simp[ag,mC,z]
  have s:(iL (G++[x]))=.lst ((G++[x]).map .int):=rfl;rcases WB w x with⟨k,p,m,f,h⟩|⟨f,h⟩
  . have i:av (tL yr (ai (ag 1) (ai (af 4) ae))) (aG 5) [.v A,.o (.lst (S.map aj)),.o (iL (G++[x])),.o (iL W),.v (.int x),sv o5,sv o6]=.nx [.v A,.o (.lst (S.map aj)),.o (iL (G++[x])),.o (iL W),.v (.int x),.v (.int k),sv o6]:=by refine cB (d:=.int k) ?_ (fF rfl);simp[tL,ai,ae,ag,af,h,uT]
    have E:=(cI.mp m).1;have l:aV (m2 tI (ag 5) (mC .non)) [.v A,.o (.lst (S.map aj)),.o (iL (G++[x])),.o (iL W),.v (.int x),.v (.int k),sv o6]=.ok false:=rfl;have c:zZ 1 (af 5) (aG 6) [.v A,.o (.lst (S.map aj)),.o (iL (G++[x])),.o (iL W),.v (.int x),.v (.int k),sv o6]=.nx [.v A,.o (.lst ((S.eraseIdx k).map aj)),.o (iL (G++[x])),.o (iL W),.v (.int x),.v (.int k),.v (aj p)]:=by
      have g:[Sl.v A,.o (.lst (S.map aj)),.o (iL (G++[x])),.o (iL W),.v (.int x),.v (.int k),sv o6][1]?=some (.o (.lst (S.map aj))):=rfl;have v:af 5 [Sl.v A,.o (.lst (S.map aj)),.o (iL (G++[x])),.o (iL W),.v (.int x),.v (.int k),sv o6]=.ok (.int k):=rfl;have e:(S.map aj)[k]?=some (aj p):=by simp_all
      have t:(S.map aj).eraseIdx k=(S.eraseIdx k).map aj:=NL _ _ _;unfold zZ;rw[g];simp only[v,R.fT];show(match(S.map aj)[k]? with|some d=>if k<2^63 then O.of (aG 6 d _) else O.no|none=>O.no)=_;rw[e];simp only;rw[ak (by lia),t];rcases o6 with _|o6<;>rfl
    have q:oH 2 (bD Co (ai (af 6) (ai (af 4) ae))) [.v A,.o (.lst ((S.eraseIdx k).map aj)),.o (iL (G++[x])),.o (iL W),.v (.int x),.v (.int k),.v (aj p)]=.nx [.v A,.o (.lst ((S.eraseIdx k).map aj)),.o (iL (G++[x]++[yy p x])),.o (iL W),.v (.int x),.v (.int k),.v (aj p)]:= NB (L:=G++[x]) (y:=yy p x) rfl (by simp[bD,ai,ae,af,WC]) (by simp;lia);exact .inl ⟨k,p,some (.int x),some (.int k),some (aj p),m,f,(bA n).trans ((bA i).trans ((fM l).trans ((bA c).trans q)))⟩
  . have i:av (tL yr (ai (ag 1) (ai (af 4) ae))) (aG 5) [.v A,.o (.lst (S.map aj)),.o (iL (G++[x])),.o (iL W),.v (.int x),sv o5,sv o6]=.nx [.v A,.o (.lst (S.map aj)),.o (iL (G++[x])),.o (iL W),.v (.int x),.v .non,sv o6]:=by refine cB (d:=.non) ?_ (fF rfl);simp[tL,ai,ae,ag,af,h,uT]
    have l:aV (m2 tI (ag 5) (mC .non)) [.v A,.o (.lst (S.map aj)),.o (iL (G++[x])),.o (iL W),.v (.int x),.v .non,sv o6]=.ok true:=rfl;have c:Am 3 2 [.v A,.o (.lst (S.map aj)),.o (iL (G++[x])),.o (iL W),.v (.int x),.v .non,sv o6]=.nx [.v A,.o (.lst (S.map aj)),.o (iL G),.o (iL (W++[x])),.v (.int x),.v .non,sv o6]:=by
      have C:[Sl.v A,.o (.lst (S.map aj)),.o (iL (G++[x])),.o (iL W),.v (.int x),.v .non,sv o6][3]?=some (.o (.lst (W.map .int))):=rfl;have r:[Sl.v A,.o (.lst (S.map aj)),.o (iL (G++[x])),.o (iL W),.v (.int x),.v .non,sv o6][2]?=some (.o (.lst ((G++[x]).map .int))):=rfl;have e:((G++[x]).map D.int)[((G++[x]).map D.int).length-1]?=some (.int x):=by simp
      have u:((G++[x]).map D.int).dropLast=G.map .int:=by rw[dC];simp
      have B:W.map D.int++[.int x]=(W++[x]).map .int:=by simp
      unfold Am;rw[C,r];simp only[e];rw[ao (by decide),ak (by rw[aI];lia),u,B];rcases o6 with _|o6<;>rfl
    exact .inr ⟨some (.int x),some .non,f,(bA n).trans ((bA i).trans ((gg l).trans c))⟩
theorem WE:∀(j:Nat)(S:List (Int×Int))(G W:List Int)(o4 o5 o6:Option D),2*S.length+G.length=j->S.length+G.length+W.length<=101-> ∃(S':List (Int×Int)) (W':List Int) (z y B:Option D),(W'.length<=S.length+G.length+W.length/\G.length+W.length<=W'.length)/\qi Cp Cq (j+1) [.v A,.o (.lst (S.map aj)),.o (iL G),.o (iL W),sv o4,sv o5,sv o6]=.nx [.v A,.o (.lst (S'.map aj)),.o (iL []),.o (iL W'),sv z,sv y,sv B]:=by intro j;induction j with |zero=> intro S G W o4 o5 o6 h r;obtain rfl:G=[]:=i7.mp (by lia);refine⟨S,W,o4,o5,o6,by simp,?_⟩;rfl |succ j s=>
    intro S G W o4 o5 o6 h r;rcases sC G with rfl|⟨a,x,n⟩;.refine⟨S,W,o4,o5,o6,by simp,?_⟩;rfl
    . rw[su] at n;subst n;rw[bO,iw] at h r;have t:Cp [.v A,.o (.lst (S.map aj)),.o (iL (a++[x])),.o (iL W),sv o4,sv o5,sv o6]=.ok true:=by simp only[Cp,aV,oG,bp,ai,ae,ag,mC,c6,bO];simp
      unfold qi;rw[t,R.fT];rcases WD (A:=A) (S:=S) (G:=a) (x:=x) (W:=W) (o4:=o4) (o5:=o5) (o6:=o6) (by lia) (by lia) (by lia) with⟨k,p,i,d,u,w,_,e⟩|⟨i,d,_,e⟩;.rw[e];have C:=(cI.mp w).1;have E:(S.eraseIdx k).length=S.length-1:=vx C;obtain⟨S',W',c,l,f,g,b⟩:=s (S.eraseIdx k) (a++[x]++[yy p x]) W i d u (by simp[bO,iw];lia) (by simp[bO,iw];lia);refine⟨S',W',c,l,f,?_,b⟩;simp[bO,iw] at g⊢;lia
      .rw[e];obtain⟨S',W',c,l,f,g,b⟩:=s S a (W++[x]) i d o6 (by lia) (by simp[bO,iw];lia);refine⟨S',W',c,l,f,?_,b⟩;simp[bO] at g⊢;lia
theorem WG{S:List (Int×Int)}(l:S.length<=100):∃W:List Int,(W.length<=S.length+1/\W≠[])/\Cr [.lst (S.map aj)]=.ok (iL W):=by obtain⟨A,a⟩:∃A,A=D.lst (S.map aj):=⟨_,rfl⟩;obtain⟨m,i,n,k,p,j,f⟩:=WE _ S [0] [] none none none rfl (by simp_all);have c:=KJ f (by simp);refine⟨i,⟨by simp_all,fun e=>by simp_all⟩,qQ ?_⟩;rw[<-a];have g:av (bp kq (ai (ag 0) ae)) (dw 1) [.v A,.no,.no,.no,.no,.no,.no]=.nx _:=cB (by rw[a];rfl) rfl;have b:av (aU (ai (mC (.int 0)) ae)) (dw 2) [.v A,.o (.lst (S.map aj)),.no,.no,.no,.no,.no]=.nx [.v A,.o _,.o (iL [0]),.no,.no,.no,.no]:=cB (by simp[aU,ai,ae,mC,sizeLine,iL]) rfl;have h:av (aU ae) (dw 3) [.v A,.o (.lst (S.map aj)),.o (iL [0]),.no,.no,.no,.no]=.nx [.v A,.o _,.o _,.o (iL []),.no,.no,.no]:=cB (d:=.lst _) (by simp[aU,ae]) rfl;exact(bA g).trans ((bA b).trans ((bA h).trans ((bA c).trans rfl)))
theorem GL{n:Nat}(h:∀q∈ns,0<=q/\q<(n:Int)):uo (aM (aH n d)) (j_ (aM (aH n d))) ns:=by intro i c j e;have a:=t6 (d:=d) (h i c).1 (h i c).2;have b:=lB (f:=d i) (h j e).1 (h j e).2;unfold j_;simp_all
theorem WH(a b c:Int):aL (fV [a,b,c]) (.int 1)=some (.int b):=rfl
theorem WI(a b c:Int):aL (fV [a,b,c]) (.int 2)=some (.int c):=rfl
theorem WJ(hW:W≠[])(J:W.length<n)(hn:n<=100)(N:∀q∈W,0<=q/\q<(n:Int))(y:∀q,q∈U↔(0<=q/\q<(n:Int))/\q∉W)(ul:U.length<=100): Cm [aM (aH n d),iL W,iL U]=.ok (aj (nI n d W,nO n d W)):=by
 obtain⟨T,C⟩:∃T,T=aM (aH n d):=⟨_,rfl⟩;have z:∀a:Int,0<=a->a<n->aw T (.int a)=some (iL ((aX n).map (d a))):=fun a Z B=>by rw[C];exact t6 Z B
 obtain⟨H,M,hi,ho,hw⟩:=CO (d:=d) hW J;have k:∀x,x∈qt n d W W↔x∈fG d W U:=fun x=>by
  rw[kZ,Wx];constructor;.rintro⟨i,o,a,b,c,e⟩;exact⟨i,o,a,(y o).mpr ⟨b,c⟩,e⟩
  .rintro⟨i,o,a,b,e⟩;exact⟨i,o,a,((y o).mp b).1,((y o).mp b).2,e⟩
 have ms:xp (fG d W U)=nt n d W:=(Wv H k).symm;have A:fG d W U≠[]:=fun e=>by have:=(k _).mp (xq H).1;simp_all
 obtain⟨p,B,t,j,rfl⟩:=lZ (b:=aG 4) (m:=Ga) D.int (fun g p=>∃t j:Option D,p=[.v T,.v (iL W),.v (iL U),.o (.lst ((fG d W g).map fV)),sv t,sv j,.no]) U (by
   rintro g o G p u ⟨t,j,rfl⟩;have oU:o∈U:=by simp_all
   obtain⟨⟨o0,Y⟩,_⟩:=(y o).mp oU;obtain⟨L,Q,w,rfl⟩:=lZ (b:=aG 5) (m:=F_) D.int (fun s p=>∃w:Option D,p=[.v T,.v (iL W),.v (iL U),.o (.lst ((fG d W g++s.map fun i=>[d i o,o,i]).map fV)),.v (.int o),sv w,.no]) W (by
    rintro s i qw p h ⟨w,rfl⟩;have K:i∈W:=by rw[h];simp
    obtain⟨i0,i1⟩:=N i K;have r:=lB (n:=n) (f:=d i) o0 Y;refine⟨[.v T,.v (iL W),.v (iL U),.o (.lst ((fG d W g++s.map fun i=>[d i o,o,i]).map fV)),.v (.int o),.v (.int i),.no],[.v T,.v (iL W),.v (iL U),.o (.lst ((fG d W g++(s++[i]).map fun i=>[d i o,o,i]).map fV)),.v (.int o),.v (.int i),.no],fF rfl,.inl ?_,some _,rfl⟩;unfold F_;have tr:bL (ai (m2 aw (m2 aw (ag 0) (ag 5)) (ag 4)) (ai (af 4) (ai (af 5) ae))) [.v T,.v (iL W),.v (iL U),.o (.lst ((fG d W g++s.map fun i=>[d i o,o,i]).map fV)),.v (.int o),.v (.int i),.no]=.ok (fV [d i o,o,i]):=by simp[bL,ai,ae,af,ag,z i i0 i1,r,fV,sizeLine]
    refine(CM (i:=3) rfl tr ?_).trans ?_;.have X:=bT List.length u;have S:=bT List.length h;simp only[bO,ef] at X S;rw[aI,bO,aI,NG];have:g.length*W.length<=100*100:=Nat.mul_le_mul (by lia) (by lia);lia
    simp) [.v T,.v (iL W),.v (iL U),.o (.lst ((fG d W g).map fV)),.v (.int o),sv j,.no] ⟨j,by simp⟩;refine⟨[.v T,.v (iL W),.v (iL U),.o (.lst ((fG d W g).map fV)),.v (.int o),sv j,.no],[.v T,.v (iL W),.v (iL U),.o (.lst ((fG d W (g++[o])).map fV)),.v (.int o),sv w,.no],fF rfl,.inl ?_,some _,w,rfl⟩;have e:fG d W (g++[o])=fG d W g++W.map fun i=>[d i o,o,i]:=by unfold fG;simp
   rw[e];unfold Ga MW;refine(lA (l:=W.map .int) ?_).trans Q;rfl) [.v T,.v (iL W),.v (iL U),.o (.lst []),.no,.no,.no] ⟨none,none,rfl⟩;refine jO ?_;rw[<-C];have q1:av (aU ae) (dw 3) [.v T,.v (iL W),.v (iL U),.no,.no,.no,.no]=.nx [.v T,.v (iL W),.v (iL U),.o (.lst []),.no,.no,.no]:=cB (d:=.lst []) (by simp[aU,ae,sizeLine]) rfl;have q2:MX [.v T,.v (iL W),.v (iL U),.o (.lst []),.no,.no,.no]=_:=(lA (l:=U.map .int) (by rfl)).trans B;have E:=Ww A;rw[ms,M] at E;have I:av (bp z6 (ai (ag 3) ae)) (aG 6) [.v T,.v (iL W),.v (iL U),.o (.lst ((fG d W U).map fV)),sv t,sv j,.no]=.nx [.v T,.v (iL W),.v (iL U),.o (.lst ((fG d W U).map fV)),sv t,sv j,.v (fV [d (nI n d W) (nO n d W),nO n d W,nI n d W])]:=cB (by simp only[bp,ai,ae,ag,ec,c6,R.aC,E,R.bj]) rfl;refine(bA q1).trans ((bA q2).trans ((bA I).trans ?_));simp only[aT,bL,ai,ae,oG,ag,mC,ec,c6,R.aC,WH,WI,R.bj];rw[gq (show([D.int (nI n d W),D.int (nO n d W)]:List D).length<=sizeLine from by show 2<=sizeLine;decide)];rfl
theorem NM(ok:dQ n B d)(C:0<n)(Q:n<=100):yq [aM (aH n d)]=.ok (.lst ((j' n d (n-1)).map aj)):=by
 obtain⟨T,m⟩:∃T,T=aM (aH n d):=⟨_,rfl⟩;have lT:aW [T]=some (.int n):=by rw[m];exact uv
 have f:=GD Q ok;rw[<-m] at f;have run:∀(j k:Nat)(U:List Int)(h:Option D),j+k+1=n->(∀q,q∈U↔(0<=q/\q<(n:Int))/\q∉fX n d k)->U.Nodup->U.length=j-> ∃p:Option D,qi Cn Gd (j+1) [.v T,.o (iL (fX n d k)),.o (iL U),.o (.lst ((j' n d k).map aj)),sv h]=.nx [.v T,.o (iL (fX n d (n-1))),.o (iL []),.o (.lst ((j' n d (n-1)).map aj)),sv p]:=by
  intro j
  induction j with |zero=>
   intro k U h G w x s;obtain rfl:U=[]:=i7.mp s;obtain rfl:k=n-1:=by omega
   refine⟨h,?_⟩;rfl |succ j ih=>
   intro k U h G w x s;have t:Cn [.v T,.o (iL (fX n d k)),.o (iL U),.o (.lst ((j' n d k).map aj)),sv h]=.ok true:=by
    have:(0:Int)<((j+1:Nat):Int):=by omega
    simp only[Cn,aV,oG,bp,ai,ae,ag,mC,ec,c6,R.aC,BU,s,R.bj,wR,Se];simp
   obtain⟨I,N⟩:∃I,I=nI n d (fX n d k):=⟨_,rfl⟩;obtain⟨O,l⟩:∃O,O=nO n d (fX n d k):=⟨_,rfl⟩;have K:=WJ (d:=d) (U:=U) (CP n d k) (show(fX n d k).length<n by rw[yx];omega) Q (GI C k (by lia)) w (by omega);obtain⟨_,_,hi,J,u⟩:=CO (d:=d) (CP n d k) (show(fX n d k).length<n by rw[yx];omega);rw[<-m,<-N,<-l] at K;rw[<-l] at J u;have X:O∈U:=(w O).mpr ⟨J,u⟩;have E:av (tL Cm (ai (af 0) (ai (ag 1) (ai (ag 2) ae)))) (aG 4) [.v T,.o (iL (fX n d k)),.o (iL U),.o (.lst ((j' n d k).map aj)),sv h]=.nx [.v T,.o (iL (fX n d k)),.o (iL U),.o (.lst ((j' n d k).map aj)),.v (aj (I,O))]:=by refine cB (d:=aj (I,O)) ?_ (fF rfl);simp[tL,ai,ae,af,ag,K,aj,uT,zJ]
   have H:oH 3 (af 4) [.v T,.o (iL (fX n d k)),.o (iL U),.o (.lst ((j' n d k).map aj)),.v (aj (I,O))]=.nx [.v T,.o (iL (fX n d k)),.o (iL U),.o (.lst ((j' n d (k+1)).map aj)),.v (aj (I,O))]:=by refine(CM (i:=3) (d:=aj (I,O)) rfl rfl (by rw[aI,GH];omega)).trans ?_;rw[j',dC,<-N,<-l];rfl
   have A:oH 1 (m2 aL (ag 4) (mC (.int 1))) [.v T,.o (iL (fX n d k)),.o (iL U),.o (.lst ((j' n d (k+1)).map aj)),.v (aj (I,O))]=.nx [.v T,.o (iL (fX n d (k+1))),.o (iL U),.o (.lst ((j' n d (k+1)).map aj)),.v (aj (I,O))]:=by refine(NB (i:=1) (L:=fX n d k) (y:=O) rfl (by simp[ag,mC,aj]) (by rw[yx];lia)).trans ?_;rw[fX,<-l];rfl
   have Y:ym 2 (m2 aL (ag 4) (mC (.int 1))) [.v T,.o (iL (fX n d (k+1))),.o (iL U),.o (.lst ((j' n d (k+1)).map aj)),.v (aj (I,O))]=.nx [.v T,.o (iL (fX n d (k+1))),.o (iL (U.erase O)),.o (.lst ((j' n d (k+1)).map aj)),.v (aj (I,O))]:=by
    have g:([.v T,.o (iL (fX n d (k+1))),.o (.lst (U.map .int)),.o (.lst ((j' n d (k+1)).map aj)),.v (aj (I,O))]:En)[2]?=some (.o (.lst (U.map .int))):=rfl;have v:m2 aL (ag 4) (mC (.int 1)) [.v T,.o (iL (fX n d (k+1))),.o (.lst (U.map .int)),.o (.lst ((j' n d (k+1)).map aj)),.v (aj (I,O))]=.ok (.int O):=by simp[ag,mC,aj]
    have ix:U.idxOf O<U.length:=List.idxOf_lt_length_iff.mpr X;show ym 2 _ [.v T,.o (iL (fX n d (k+1))),.o (.lst (U.map .int)),.o (.lst ((j' n d (k+1)).map aj)),.v (aj (I,O))]=_;unfold ym;rw[g];simp only[v,R.fT,qO,ak ix];rw[List.erase_eq_eraseIdx_of_idxOf rfl];rfl
   obtain⟨p,hh⟩:=ih (k+1) (U.erase O) (some (aj (I,O))) (by lia) (fun q=>by
     rw[List.Nodup.mem_erase_iff x,w,fX,cD,bc,<-l];constructor;.rintro⟨a,b,c⟩;exact⟨b,fun z=>z.elim c a⟩
     .rintro⟨b,c⟩;exact⟨fun z=>c (.inr z),b,fun z=>c (.inl z)⟩) (x.erase O) (by rw[List.length_erase_of_mem X,s];rfl);refine⟨p,?_⟩;unfold qi;rw[t,R.fT,ak rfl];have bd:Gd [.v T,.o (iL (fX n d k)),.o (iL U),.o (.lst ((j' n d k).map aj)),sv h]=.nx [.v T,.o (iL (fX n d (k+1))),.o (iL (U.erase O)),.o (.lst ((j' n d (k+1)).map aj)),.v (aj (I,O))]:=(bA E).trans ((bA H).trans ((bA A).trans Y));rw[bd];exact hh
 obtain⟨U,r⟩:∃U:List Int,U=(List.range (n-1)).map fun k:Nat=>1+(k:Int):=⟨_,rfl⟩;obtain⟨p,hr⟩:=run (n-1) 0 U none (by lia) (fun q=>by
   rw[r,c8];constructor;.rintro⟨k,G,rfl⟩;have:=cF.mp G;refine⟨⟨by omega,by omega⟩,fun z=>?_⟩;have:=bc.mp z;lia
   .rintro⟨⟨a,b⟩,c⟩;have:q≠0:=fun z=>c (bc.mpr z);exact⟨(q-1).toNat,cF.mpr (by lia),by lia⟩) (by rw[r,List.Nodup,oV];exact mf.imp fun{a b} Z e=>Z (by lia)) (by rw[r,aI,nP]);have u:MY [.v T,.o (iL (fX n d 0)),.o (iL U),.o (.lst ((j' n d 0).map aj)),sv none]=_:=KJ hr (by intro z;cases z);refine qQ ?_;rw[<-m];show aq _ _ [.v T,.no,.no,.no,.no]=_;have q0:mW (iV se (ai (af 0) ae)) [.v T,.no,.no,.no,.no]=.nx [.v T,.no,.no,.no,.no]:=by simp[mW,iV,ai,ae,af,f]
 have E:av (aU (ai (mC (.int 0)) ae)) (dw 1) [.v T,.no,.no,.no,.no]=.nx [.v T,.o (iL (fX n d 0)),.no,.no,.no]:=cB (d:=iL [0]) (by simp[aU,ai,ae,mC,sizeLine,iL]) rfl;have H:av (B8 (ai (mC (.int 1)) (ai (bp aW (ai (ag 0) ae)) ae))) (dw 2) [.v T,.o (iL (fX n d 0)),.no,.no,.no]=.nx [.v T,.o (iL (fX n d 0)),.o (iL U),.no,.no]:=by
  refine cB (d:=iL U) ?_ rfl;have ml:ai (mC (.int 1)) (ai (bp aW (ai (ag 0) ae)) ae) [.v T,.o (iL (fX n d 0)),.no,.no,.no]=.ok [.int 1,.int n]:=by simp[ai,ae,mC,bp,ag,lT]
  unfold B8;rw[ml,R.aC];unfold z7;simp only;rw[gq ⟨by decide,by lia,by lia⟩,r];unfold iL;rw[bX,show((n:Int)-1).toNat=n-1 by lia];rfl
 have A:av (aU ae) (dw 3) [.v T,.o (iL (fX n d 0)),.o (iL U),.no,.no]=.nx [.v T,.o (iL (fX n d 0)),.o (iL U),.o (.lst ((j' n d 0).map aj)),sv none]:=cB (d:=.lst []) (by simp[aU,ae,sizeLine]) rfl;exact(bA q0).trans ((bA E).trans ((bA H).trans ((bA A).trans ((bA u).trans rfl))))
def Ed(L:List (Int×Int))(x y:Int):Prop:=(x,y)∈L\/(y,x)∈L
inductive eN(L:List (Int×Int))(W:List Int):Int->Prop |base{x:Int}:x∈W->eN L W x |step{x y:Int}:Ed L x y->eN L W y->eN L W x
inductive v7(L:List (Int×Int))(W:List Int)(o:Int):Int->Prop |base:v7 L W o o |step{x y:Int}:v7 L W o x->Ed L x y->y∉W->v7 L W o y
theorem Ed.symm(h:Ed L x y):Ed L y x:=h.elim .inr .inl
theorem eN.mono(b:∀p∈L,p∈L')(d:∀q∈W,q∈W')(h:eN L W x):eN L' W' x:=by induction h with |base h=>exact .base (d _ h) |step e _ c=>exact .step (e.elim (fun z=>.inl (b _ z)) fun z=>.inr (b _ z)) c
theorem eN.trans(h:eN L W x)(k:∀q∈W,eN L W' q):eN L W' x:=by induction h with |base h=>simp_all |step e _ b=>exact .step e b
theorem eN.symm(h:eN L [a] b):eN L [b] a:=by suffices c:∀x,eN L _ x->eN L [b] x->eN L _ a from c b h (.base (by simp));intro x g;induction g with |base h=>simp_all |step e _ f=>intro k;exact f (.step e.symm k)
theorem v7.t8(b:o∉W)(h:v7 L W o x):x∉W:=by cases h with |base=>exact b |step _ _ c=>exact c
theorem WK(b:o∉W)(h:eN L W x):v7 L W o x->∃u w,v7 L W o u/\w∈W/\Ed L u w:=by induction h with |base h=>intro c;exact absurd h (c.t8 b) |@step x y e _ f=>
 intro c;by_cases d:y∈W;.grind
 .exact f (.step c e d)
theorem NN{W:List Int}(m:o∉W){V:Int->Prop}(t:V o)(q:∀x,V x->eN L W x): ∃u w f,w∈W/\u∉W/\f∈L/\(f=(u,w)\/f=(w,u))/\∀x,V x->eN (L.erase f) (W++[o]) x:=by
  obtain⟨u,w,B,v,e⟩:=WK m (q o t) .base;have s:=B.t8 m;obtain⟨f,A,a⟩:∃f,f∈L/\(f=(u,w)\/f=(w,u)):=by
    rcases e with e|e;.grind
    grind
  have d:∀x y,x∉W->y∉W->Ed L x y->Ed _ x y:=fun x y b n e=>by
    have j:(x,y)≠f:=fun z=>by grind
    have l:(y,x)≠f:=fun z=>by
      rcases a with a|a<;>rw[a] at z<;>cases z;.simp_all
      simp_all
    rcases e with e|e;.exact .inl ((qH j).mpr e)
    .exact .inr ((qH l).mpr e)
  have k:∀x,v7 L W o x->eN (L.erase f) (W++[o]) x:=fun x b=>by induction b with |base=>exact .base (by simp) |@step x y c e n i=>exact .step (d x y (c.t8 m) n e).symm i
  refine⟨u,w,f,v,s,A,a,fun x b=>?_⟩;have:=q x b;clear b;induction this with |base h=>exact .base (dq _ h) |@step x y e _ i=>
    by_cases b:x∈W;.exact .base (dq _ b)
    . by_cases r:x=u;.simp_all
      . have j:(x,y)≠f:=fun z=>by
          rcases a with a|a<;>rw[a] at z<;>cases z;.lia
          simp_all
        have l:(y,x)≠f:=fun z=>by
          rcases a with a|a<;>rw[a] at z<;>cases z;.simp_all
          omega
        rcases e with e|e;.exact .step (.inl ((qH j).mpr e)) i
        .exact .step (.inr ((qH l).mpr e)) i
def dc(d:Int->Int->Int)(L:List (Int×Int)):Int:=(L.map fun p=>d p.1 p.2).sum
theorem WL(d:Int->Int->Int)(L M:List (Int×Int)):dc d (L++M)=dc d L+dc d M:=by unfold dc;simp
theorem GN(d:Int->Int->Int):∀{L:List (Int×Int)},f∈L->dc d L=d f.1 f.2+dc d (L.erase f)
 |p::L,h=>by
  by_cases e:p=f;.subst e;rw[List.erase_cons_head];rfl
  .have c:=(aR.mp h).elim (fun z=>absurd z.symm e) id;have b:=GN d c;rw[List.erase_cons_tail (by simp_all)];simp[dc,b7,kE] at b⊢;lia
theorem GO(g:dQ n B d):∀{L:List (Int×Int)},(∀p∈L,(0<=p.1/\p.1<(n:Int))/\(0<=p.2/\p.2<(n:Int)))->0<=dc d L |[],_=>iZ _ |p::L,h=>by have j:=GO g fun q i=>h q (bz _ i);obtain⟨⟨a,b⟩,c,e⟩:=h p (by simp);have:=(g.nn _ _ a b c e).1;simp[dc,b7,kE] at j⊢;lia
def eO(n:Nat)(L:List (Int×Int)):Prop:=∀p∈L,(0<=p.1/\p.1<(n:Int))/\(0<=p.2/\p.2<(n:Int))
def jX(n:Nat)(L:List (Int×Int)):Prop:=∀x:Int,0<=x/\x<(n:Int)->eN L [0] x
theorem eN.NO(b:eO n L)(c:∀w∈W,0<=w/\w<(n:Int))(h:eN L W x):0<=x/\x<(n:Int):=by cases h with |base h=>simp_all |step e _=>
 rcases e with e|e;.exact(b _ e).1
 .exact(b _ e).2
theorem jX.sub(h:jX n L)(s:∀p∈L,Ed L' p.1 p.2):jX n L':=fun x b=>by have:=h x b;clear b;induction this with |base h=>exact .base h |@step x y e _ d=>
 refine .step ?_ d;rcases e with e|e;.simp_all
 .exact(s _ e).symm
theorem GP(U:0<n)(hC:eO n C)(m:jX n (C++L))(A:0<=a/\a<(n:Int))(N:0<=b/\b<(n:Int))(K:¬eN C [a] b): ∃f∈L,¬eN C [f.1] f.2/\jX n ((a,b)::C++L.erase f):=by
  have M:∀x,Decidable (eN C [a] x):=fun x=>Classical.propDecidable _;obtain⟨W,Q⟩:∃W,W=(aX n).filter fun x=>decide (eN C [a] x):=⟨_,rfl⟩;have k:∀x,x∈W↔(0<=x/\x<(n:Int))/\eN C [a] x:=fun x=>by rw[Q,jV,aE];simp
  have X:a∈W:=(k a).mpr ⟨A,.base (by simp)⟩;have T:b∉W:=fun h=>K ((k b).mp h).2;have S:eN (C++L) [0] a:=m a A;have B:∀x:Int,0<=x/\x<(n:Int)->eN (C++L) W x:=fun x o=>(m x o).trans fun q d=>by rw[bc.mp d];exact S.symm.mono (fun _ z=>z) fun q d=>by simp_all
  obtain⟨u,w,f,t,v,J,E,G⟩:=NN T N B;have r:=(k w).mp t;have g:∀p∈C,(p.1∈W↔p.2∈W):=fun p j=>by
    have i:=hC p j;rw[k,k];constructor;.rintro⟨_,h⟩;exact⟨i.2,.step (.inr j) h⟩
    .rintro⟨_,h⟩;exact⟨i.1,.step (.inl j) h⟩
  have H:f∉C:=fun h=>by
    have:=g f h;rcases E with e|e<;>rw[e] at this;.exact v (this.mpr t)
    .exact v (this.mp t)
  have I:=(cD.mp J).elim (fun h=>absurd h H) id;refine⟨f,I,fun h=>v ?_,?_⟩
  . have:eN C [a] u:=by
      rcases E with e|e<;>rw[e] at h;.exact h.symm.trans fun q d=>by rw[bc.mp d];exact r.2
      .exact h.trans fun q d=>by rw[bc.mp d];exact r.2
    exact(k u).mpr ⟨this.NO hC (by simpa using A),this⟩
  . rw[List.erase_append_right _ H] at G;have s:∀p∈C++L.erase f,p∈(a,b)::C++L.erase f:=fun p j=>bz _ j;have l:∀x:Int,0<=x/\x<n->eN _ _ x:=fun x o=>by
      refine((G x o).mono s fun _ z=>z).trans fun q d=>?_;rcases cD.mp d with z|z;.exact((k q).mp z).2.mono (fun p j=>s p (dq _ j)) fun _ z=>z
      .rw[bc.mp z];exact .step (y:=a) (.inr (by simp)) (.base (by simp))
    intro x o;exact(l x o).trans fun q d=>by rw[bc.mp d];exact(l 0 (by lia)).symm
theorem NP:∀(j:Nat)(L:List (Int×Int))(W:List Int),W.length+j=n->W.Nodup->(∀w∈W,0<=w/\w<(n:Int))->(∀x:Int,0<=x/\x<(n:Int)->eN L W x)->j<=L.length
 |0,_,_,_,_,_,_=>cG _ |j+1,L,W,C,r,s,t=>by
  obtain⟨o,l,m⟩:∃o,(0<=o/\o<(n:Int))/\o∉W:=by apply dO;intro h;have:=qC (AM n) fun q i=>dO fun z=>h ⟨q,aE.mp i,z⟩;rw[gx] at this;lia
  obtain⟨u,w,f,p,y,k,A,g⟩:=NN m l t;have:=NP j _ _ (by rw[bO,iw];lia) (by rw[l_];exact⟨r,by simp,fun a B b v e=>m (by simp_all)⟩) (fun q i=>by
   rcases cD.mp i with z|z;.exact s q z
   .rw[bc.mp z];exact l) g;rw[List.length_erase_of_mem k] at this;have:=List.length_pos_of_mem k;lia
theorem jX.len(a:0<n)(h:jX n L):n<=L.length+1:=by have:=NP (n-1) L [0] (by grind) (by simp) (by simp_all) h;lia
def NQ(n:Nat)(d:Int->Int->Int)(R:List (Int×Int)):Prop:=∀e∈R,∀a b:Int,0<=b->b<a->a<(n:Int)->d a b<d e.1 e.2->¬jX n (R.erase e++[(a,b)])
theorem WM(Z:dQ n B d)(E:0<n){R:List (Int×Int)}(I:eO n R)(o:jX n R)(len:R.length=n-1)(j:NQ n d R): ∀(S C L:List (Int×Int)),(C++S).Perm R->S.Pairwise (fun p q=>d p.1 p.2<=d q.1 q.2)->eO n L->jX n (C++L)->dc d S<=dc d L:=by intro S;induction S with |nil=>intro C L _ _ s _;exact GO Z s |cons e S i=>
    intro C L w eZ s cL;have b:∀p,p∈C++e::S↔p∈R:=fun p=>w.mem_iff;have hC:eO n C:=fun p c=>I p ((b p).mp (dq _ c));have M:e∈R:=(b e).mp (by simp);have nc:¬eN C [e.1] e.2:=fun h=>by
      have c2:jX n (C++S):=fun x t=>by have:=o x t;clear t;have H:∀p∈C,p∈C++S:=fun p c=>dq _ c;induction this with |base h=>exact .base h |@step x y m _ i=>
          have l:∀p:Int×Int,p∈R->p∈C++S\/p=e:=fun p c=>by
            rcases cD.mp ((b p).mpr c) with z|z;.simp_all
            . rcases aR.mp z with z|z;.simp_all
              .exact .inl (c7 _ z)
          have u:eN (C++S) [e.1] e.2:=h.mono H fun _ z=>z;rcases m with m|m
          . rcases l _ m with z|z;.exact .step (.inl z) i
            .rw[<-z] at u;exact u.symm.trans fun q A=>by rw[bc.mp A];exact i
          . rcases l _ m with z|z;.exact .step (.inr z) i
            .rw[<-z] at u;exact u.trans fun q A=>by rw[bc.mp A];exact i
      have l2:=c2.len E;have l3:=w.length_eq;simp only[bO,ef] at l2 l3;lia
    obtain⟨f,X,r,c3⟩:=GP E hC cL (I e M).1 (I e M).2 nc;have a:=s f X;have le:d e.1 e.2<=d f.1 f.2:=by
      apply dO;intro uk;obtain⟨g,Q,J,Y⟩:=GP E hC (L:=e::S) (fun x t=>(o x t).mono (fun p c=>(b p).mpr c) fun _ z=>z) a.1 a.2 r;have T:g∈R:=(b g).mp (c7 _ Q);have ge:d e.1 e.2<=d g.1 g.2:=by
        rcases aR.mp Q with z|z;.rw[z];exact iZ _
        .exact(oS.mp eZ).1 g z
      have ne:f.1≠f.2:=fun z=>r (by rw[z];exact .base (by simp));have gC:g∉C:=fun z=>J (.step (y:=g.1) (.inr z) (.base (by simp)));have v:(C++(e::S).erase g).Perm (R.erase g):=by have:=w.erase g;rwa[List.erase_append_right _ gC] at this
      have K:=Z.sym f.1 f.2 a.1.1 a.1.2 a.2.1 a.2.2;rcases qB ne with lt|gt
      . refine j g T f.2 f.1 a.1.1 lt a.2.2 (by lia) (Y.sub fun p c=>?_);rcases cD.mp c with z|z
        . rcases aR.mp z with z|z;.rw[z];exact .inr (by simp)
          .exact .inl (dq _ (v.mem_iff.mp (dq _ z)))
        .exact .inl (dq _ (v.mem_iff.mp (c7 _ z)))
      . refine j g T f.1 f.2 a.2.1 gt a.1.2 (by lia) (Y.sub fun p c=>?_);rcases cD.mp c with z|z
        . rcases aR.mp z with z|z;.rw[z];exact .inl (by simp)
          .exact .inl (dq _ (v.mem_iff.mp (dq _ z)))
        .exact .inl (dq _ (v.mem_iff.mp (c7 _ z)))
    have G:=i (C++[e]) (L.erase f) (by rw[sr];exact w) (oS.mp eZ).2 (fun p c=>s p (List.mem_of_mem_erase c)) (c3.sub fun p c=>by
      rcases cD.mp c with z|z
      . rcases aR.mp z with z|z;.rw[z];exact .inl (by simp)
        .exact .inl (by simp[z])
      .exact .inl (by simp[z]));have te:=GN d X;show((e::S).map _).sum<=_;rw[b7,kE];unfold dc at G te⊢;lia
theorem WN{d:Int->Int->Int}(o:dQ n B d)(k:0<n){R L:List (Int×Int)}(s:eO n R)(f:jX n R)(g:R.length=n-1)(h:NQ n d R)(m:eO n L)(j:jX n L):dc d R<=dc d L:=by
 obtain⟨S,i⟩:∃S,S=R.mergeSort fun p q=>decide (d p.1 p.2<=d q.1 q.2):=⟨_,rfl⟩;have r:S.Perm R:=by rw[i];exact l9 ..
 have l:S.Pairwise fun p q=>d p.1 p.2<=d q.1 q.2:=by have:=mq (le:=fun p q:Int×Int=>decide (d p.1 p.2<=d q.1 q.2)) (fun a b c u t=>by grind) (fun a b=>by grind) R;simp_all
 have:=WM o k s f g h S [] L (by simp_all) l m j;have e:dc d S=dc d R:=NC r;lia
def jn(g:List Int)(a b:Int):List Int:=g.map fun m=>if m=gA g a then gA g b else m
def Gr(n:Nat)(g:List Int)(C:List (Int×Int)):Prop:=g.length=n/\∀x y:Int,0<=x/\x<(n:Int)->0<=y/\y<(n:Int)->(gA g x=gA g y↔eN C [x] y)
theorem NR{n:Nat}(h:0<=x/\x<(n:Int)):gA (aX n) x=x:=by have:=vp (m:=n) (k:=x.toNat) (by lia);unfold gA;rw[bN,this];show(x.toNat:Int)=x;lia
theorem Gr.first(n:Nat):Gr n (aX n) []:=by
 refine⟨gx,fun x y b c=>?_⟩;rw[NR b,NR c];constructor;.intro e;rw[e];exact .base (by simp)
 .intro h;cases h with |base h=>simp_all |step e _=>rcases e with e|e<;>cases e
theorem NS {n : Nat} {g : List Int} {a b x : Int} (hl : g.length = n) (hx : 0 ≤ x ∧ x < (n : Int)) : gA (jn g a b) x = if gA g x = gA g a then gA g b else gA g x := by
  have h := Gv (L := g) (i := x) (by lia)
  show (g.map _).getD _ 0 = _
  rw [bN, bB, h]; rfl
theorem CT(g:List Int)(a b:Int):(jn g a b).length=g.length:=by simp[jn]
theorem Gr.join(h:Gr n g C)(hC:eO n C)(I:0<=a/\a<(n:Int))(A:0<=b/\b<(n:Int)):Gr n (jn g a b) ((a,b)::C):=by
  obtain⟨t,d⟩:=h;refine⟨by rw[CT,t],fun x y l c=>?_⟩;have s:∀p∈C,p∈(a,b)::C:=fun p m=>bz _ m;have k:∀{u v:Int},eN C [u] v->eN ((a,b)::C) [u] v:=fun h=>h.mono s fun _ z=>z;have E:eN ((a,b)::C) [a] b:=.step (y:=a) (.inr (by simp)) (.base (by simp));have o:∀{u v w:Int},eN ((a,b)::C) [u] v->eN ((a,b)::C) [v] w->eN ((a,b)::C) [u] w:=fun j f=>f.trans fun q M=>by simp_all
  rw[NS t l,NS t c];constructor
  . intro e;by_cases j:gA g x=gA g a<;>by_cases f:gA g y=gA g a;.exact k ((d x y l c).mp (j.trans f.symm))
    .rw[ak j,ao f] at e;exact o (k ((d x a l I).mp j)) (o E (k ((d b y A c).mp e)))
    .rw[ao j,ak f] at e;exact o (k ((d x b l A).mp e)) (o E.symm (k ((d a y I c).mp f.symm)))
    .rw[ao j,ao f] at e;exact k ((d x y l c).mp e)
  . intro h;have r:eO n ((a,b)::C):=fun p m=>by
      rcases aR.mp m with z|z;.rw[z];lia
      .exact hC p z
    clear c;induction h with |base h=>rw[bc.mp h] |@step z y e c J=>
      have K:=c.NO r (by simpa using l);have L:0<=z/\z<n:=by
        rcases e with e|e;.exact(r _ e).1
        .exact(r _ e).2
      rw[J];have B:∀p:Int×Int,p∈(a,b)::C->(if gA g p.1=gA g a then gA g b else gA g p.1)=(if gA g p.2=gA g a then gA g b else gA g p.2):=fun p m=>by
        rcases aR.mp m with w|w;.rw[w];show(if gA g a=gA g a then gA g b else gA g a)=_;rw[ak rfl];split<;>rfl
        .have i:=hC p w;have:gA g p.1=gA g p.2:=(d _ p.2 i.1 i.2).mpr (.step (y:=p.1) (.inr w) (.base (by simp)));rw[this]
      rcases e with e|e;.exact(B _ e).symm
      .exact B _ e
def mk(n:Nat)(R:List (Int×Int)):List Int:=R.foldl (fun g p=>jn g p.1 p.2) (aX n)
theorem NT(n:Nat)(R:List (Int×Int))(p:Int×Int):mk n (R++[p])=jn (mk n R) p.1 p.2:=by simp[mk]
theorem Gr.fold{n:Nat}:∀(R:List (Int×Int))(g:List Int)(C:List (Int×Int)),Gr n g C->eO n C->eO n R->∃a,Gr n (R.foldl (fun g p=>jn g p.1 p.2) g) a/\eO n a/\∀p,p∈a↔p∈C\/p∈R
 |[],g,C,d,b,_=>⟨C,d,b,fun p=>by simp⟩ |q::R,g,C,d,b,h=>by
  have e:=h q (by simp);obtain⟨a,i,j,f⟩:=Gr.fold R _ _ (d.join b e.1 e.2) (fun p c=>by
   rcases aR.mp c with z|z;.simp_all
   .exact b p z) fun p c=>h p (bz _ c);grind
theorem Gr.xr(R:List (Int×Int))(h:eO n R):∃C,Gr n (mk n R) C/\eO n C/\∀p,p∈C↔p∈R:=by obtain⟨C,c,b,d⟩:=Gr.fold R _ _ (Gr.first n) (fun p a=>nomatch a) h;exact⟨C,c,b,fun p=>by simp_all⟩
theorem NU(r:0<n){R:List (Int×Int)}(h:eO n R):(∀x∈mk n R,x=gA (mk n R) 0)↔jX n R:=by
  obtain⟨C,⟨o,g⟩,q,f⟩:=Gr.xr R h;have a:∀{x y:Int},eN C [x] y↔eN R _ y:=⟨fun z=>z.mono (fun p d=>(f p).mp d) fun _ w=>w,fun z=>z.mono (fun p d=>(f p).mpr d) fun _ w=>w⟩;constructor;.intro l x c;refine a.mp ((g 0 x (by lia) c).mp ?_);have:=Gv (L:=mk n R) (i:=x) (by lia);exact(l _ (eg this)).symm
  . intro k x c;obtain⟨i,m,e⟩:=kB c;have j:(0:Int)<=i/\(i:Int)<n:=by lia
    have:=(g 0 _ (by lia) j).mpr (a.mpr (k _ j));rw[this];unfold gA;rw[nE,bN,bx _,<-e];rfl
def kr(d:Int->Int->Int):List Int->List (Int×Int)->Int |_,[]=>0 |g,e::E=>if gA g e.1≠gA g e.2 then d e.1 e.2+kr d (jn g e.1 e.2) E else kr d g E
theorem WO(K:dQ n B d)(X:0<n):∀(E:List (Int×Int))(g:List Int)(C:List (Int×Int)),Gr n g C->eO n C->eO n E->E.Pairwise (fun p q=>d p.1 p.2<=d q.1 q.2)-> (∀x y:Int,0<=x/\x<(n:Int)->0<=y/\y<(n:Int)->¬eN C [x] y->(x,y)∈E\/(y,x)∈E)-> (∀L,eO n L->jX n (C++L)->kr d g E<=dc d L)/\∃L,eO n L/\jX n (C++L)/\dc d L=kr d g E:=by intro E;induction E with |nil=> intro g C _ _ _ _ i;refine⟨fun L r _=>GO K r,[],(fun p b=>nomatch b),fun x t=>?_,rfl⟩;rw[f_];simp_all |cons e E J=>
    intro g C s hC M U i;have c:=M e (by simp);have l:eO n E:=fun p b=>M p (bz _ b);obtain⟨m,o⟩:=oS.mp U;unfold kr;by_cases q:gA g e.1=gA g e.2
    . rw[ao (fun z=>z q)];have k:=(s.2 _ _ c.1 c.2).mp q;refine J g C s hC l o fun x y t u h=>?_;rcases i x y t u h with z|z
      . rcases aR.mp z with w|w;.grind
        .exact .inl w
      . rcases aR.mp z with w|w;.rw[<-w] at k;exact absurd k.symm h
        .exact .inr w
    . rw[ak q];have Q:¬eN C [e.1] e.2:=fun z=>q ((s.2 _ _ c.1 c.2).mpr z);have hN:eO n ((e.1,e.2)::C):=fun p b=>by
        rcases aR.mp b with z|z;.rw[z];exact c
        .exact hC p z
      have I:eN ((e.1,e.2)::C) [e.1] e.2:=.step (y:=e.1) (.inr (by simp)) (.base (by simp));obtain⟨T,Z,l1,l2,N⟩:=J (jn g e.1 e.2) ((e.1,e.2)::C) (s.join hC c.1 c.2) hN l o fun x y t u h=>by
        have S:¬eN C [x] y:=fun z=>h (z.mono (fun p b=>bz _ b) fun _ w=>w);rcases i x y t u S with z|z
        . rcases aR.mp z with w|w;.subst w;exact absurd I h
          .exact .inl w
        . rcases aR.mp z with w|w;.subst w;exact absurd I.symm h
          .exact .inr w
      refine⟨fun L r cL=>?_,e::Z,fun p b=>?_,?_,?_⟩
      . obtain⟨f,A,v,Y⟩:=GP X hC cL c.1 c.2 Q;have a:=r f A;have le:d e.1 e.2<=d f.1 f.2:=by
          have j:=K.sym f.1 f.2 a.1.1 a.1.2 a.2.1 a.2.2;rcases i f.1 f.2 a.1 a.2 v with z|z
          . rcases aR.mp z with w|w;.rw[<-w];exact iZ _
            .exact m _ w
          . rcases aR.mp z with w|w;.rw[<-w,j];exact iZ _
            .have:=m _ w;rw[j];exact this
        have:=T (L.erase f) (fun p b=>r p (List.mem_of_mem_erase b)) Y;have te:=GN d A;lia
      . rcases aR.mp b with z|z;.rw[z];exact c
        .exact l1 p z
      . refine l2.sub fun p b=>.inl ?_;rcases cD.mp b with z|z
        . rcases aR.mp z with z|z;.rw[z];simp
          .exact dq _ z
        .exact c7 _ (bz _ z)
      .rw[<-N];simp[dc]
theorem CU(l:List Int):(eZ l).length=l.length:=List.length_mergeSort l
theorem kv:x∈eZ l↔x∈l:=sN
theorem NV(L:D)(ns:List Int):(yo L ns).length<=ns.length/2:=Fz _ _ _
theorem NW(i:dQ n B d)(f:n<=100)(h:∀q∈ns,0<=q/\q<(n:Int))(g:ns.length%2=0)(c:ns.length<=12): ur [aM (aH n d),iL ns]=.ok (.lst ((yo (aM (aH n d)) ns).map aj)):=by
 have a:=GD f i;have b:=GL (d:=d) h;obtain⟨T,j⟩:∃T,T=aM (aH n d):=⟨_,rfl⟩;rw[<-j] at a b⊢;refine qQ ?_;have e:mW (iV se (ai (af 0) ae)) [.v T,.v (iL ns)]=.nx [.v T,.v (iL ns)]:=by simp[mW,iV,ai,ae,af,a]
 refine(bA e).trans ?_;have p:Ce [.v T,.v (iL ns)]=.ok (.lst ((yo T ns).map aj)):=by show(match c5 _ with|some _=>dt _ (PM.R.ok _) _|none=>.no)=_;rw[qO];exact gq ⟨g,c,b⟩
 unfold gR;simp_all
theorem NX{R:List (Int×Int)}(h:x∈ends R):∃p∈R,x=p.1\/x=p.2:=by unfold ends at h;simp_all
theorem WQ(h:dQ n B d)(a:0<n)(H:n<=12):∃W:List Int,(W.length<=30/\W≠[])/\Gh [aM (aH n d)]=.ok (iL W):=by
 have e:=NM h a (by lia);have g:=GJ (d:=d) a (n-1) (by lia);have r:=GH n d (n-1);obtain⟨R,t⟩:∃R,R=j' n d (n-1):=⟨_,rfl⟩;rw[<-t] at e g r;have A:=GK (R:=R) (by lia);have i:∀q∈eZ (ik R),0<=q/\q<(n:Int):=fun q c=>by
  obtain⟨p,E,w⟩:=NX (WA (kv.mp c));rcases w with rfl|rfl;.grind
  .exact(g p E).2
 have l:(eZ (ik R)).length<=12:=by rw[CU];have:=qC (l₂:=aX n) (NK R) fun q c=>aE.mpr (i q (kv.mpr c));rw[gx] at this;lia
 have f:=NW h (by lia) i (by rw[CU];exact NJ R) l;obtain⟨P,j⟩:∃P,P=yo (aM (aH n d)) (eZ (ik R)):=⟨_,rfl⟩;have G:P.length<=6:=by rw[j];have:=NV (aM (aH n d)) (eZ (ik R));lia
 rw[<-j] at f;obtain⟨T,C⟩:∃T,T=aM (aH n d):=⟨_,rfl⟩;rw[<-C] at f e⊢;obtain⟨W,k,m⟩:=WG (S:=R++P) (by grind);refine⟨W,⟨by have:=k.1;rw[bO] at this;lia,k.2⟩,qQ ?_⟩;show aq _ _ [.v T,.no]=_;have y:av (iV yq (ai (af 0) ae)) (aG 1) [.v T,.no]=.nx [.v T,.v (.lst (R.map aj))]:=cB (d:=.lst (R.map aj)) (by simp[iV,ai,ae,af,e]) rfl;refine(bA y).trans ?_;have u:bU (.lst (R.map aj)) (.lst (P.map aj))=some (.lst ((R++P).map aj)):=by unfold bU;simp only;rw[gq (by rw[aI,aI];exact bV (show R.length+P.length<=100 by lia) (by decide)),dC]
 have o:bD rE (ai (af 1) ae) [.v T,.v (.lst (R.map aj))]=.ok (iL (eZ (ik R))):=by simp[bD,ai,ae,af,A]
 have z:iV ur (ai (af 0) (ai (bD rE (ai (af 1) ae)) ae)) [.v T,.v (.lst (R.map aj))]=.ok (.lst (P.map aj)):=by simp only[iV,ai,o,ae,af,c6,PM.R.aC,f]
 have x:m2 bU (ag 1) (iV ur (ai (af 0) (ai (bD rE (ai (af 1) ae)) ae))) [.v T,.v (.lst (R.map aj))]=.ok (.lst ((R++P).map aj)):=by simp only[oG,z,ag,ec,c6,PM.R.aC,u,PM.R.bj]
 have s:bD Cr (ai (m2 bU (ag 1) (iV ur (ai (af 0) (ai (bD rE (ai (af 1) ae)) ae)))) ae) [.v T,.v (.lst (R.map aj))]=.ok (iL W):=by simp only[bD,ai,x,ae,PM.R.aC,m,PM.R.jK]
 unfold gR;rw[s];rfl
theorem WR(E:List Int)(x:Int):putD ((aY E).map .inl) ((aY E).map fun _=>.bl true) (.inl x) (.bl true)=.c9 ((aY (E++[x])).map .inl) ((aY (E++[x])).map fun _=>.bl true):=by
 have a:=vr E;unfold putD;rw[NH];by_cases h:x∈aY E;.rw[ak (by simp_all),NI _ _ _ _ a.1];simp only[kj,ak h];simp
 .simp[kj,ao h,dC,b7,qF]
theorem WS(y:dQ n B d)(h:0<n)(s:n<=12):∃W:List Int,(W.length<=30/\W≠[])/\yt [aM (aH n d)]=.ok (iL W):=by
 obtain⟨W,w,l⟩:=WQ y h s;obtain⟨T,z⟩:∃T,T=aM (aH n d):=⟨_,rfl⟩;rw[<-z] at l⊢;obtain⟨g,t,i,rfl⟩:=lZ (b:=aG 2) (m:=M3) D.int (fun c g=>∃i:Option D,g=[.v T,.o (.c9 ((aY c).map .inl) ((aY c).map fun _=>.bl true)),sv i]) W (by
  rintro c x p g f ⟨i,rfl⟩;refine⟨_,[.v T,.o _,.v (.int x)],fF rfl,.inl ?_,some _,rfl⟩;have A:(aY c).length<=101:=by have a:=bT List.length f;rw[bO] at a;have:=CQ c;lia
  rw[<-WR];show(dt _ (O.nx _) _)=_;rw[gq (by rw[aI];exact cA (show(aY _).length<200 by lia) (by decide))];rfl) _ ⟨none,rfl⟩;refine⟨_,⟨bV (CQ W) w.1,fun e=>?_⟩,qQ ?_⟩;.cases W with |nil=>simp_all |cons x W=> have:=((vr (x::W)).2 x).mpr (by simp);simp_all
 have q:av (mC (.c9 [] [])) (dw 1) [.v T,.no,.no]=.nx _:=rfl;have r:M4 _=_:=(lA (by simp[cP,iV,ai,ae,af,l])).trans t;refine(bA q).trans ((bA r).trans ?_);have:((aY W).map .inl).map kD=(aY W).map .int:=by rw[bX];rfl
 show O.ro _=_;rw[this];rfl
theorem WT(f:l.length<=1000):zev [iL l,.int c]=.ok (.bl (decide (∀q∈l,0<=q/\q<c))):=by
  have k:M9 [.v (iL l),.v (.int c)]=.ok (.lst ((l.map fun q=>decide (0<=q/\q<c)).map .bl)):=by
    refine oI rfl (by grind) ?_;rw[bX];refine qP _ _ _ fun q _=>?_;have e:eJ [.v (iL l),.v (.int c)] [1] 1=[.v _,.no]:=rfl;rw[e];by_cases a:0<=q
    . by_cases d:q<c;.simp[jN,eD,z9,mC,ag,a]
      .simp[jN,eD,z9,mC,ag,a]
    .simp[jN,eD,z9,mC,ag,a]
  have b:tS [.lst ((l.map fun q=>decide (0<=q/\q<c)).map .bl)]=some (.bl (decide (∀q∈l,0<=q/\q<c))):=by simp only[tS,TY,o_];congr 2;rw[f9];grind
  refine jO ?_;show aT _ [.v _,.v _]=_;simp only[aT,bp,ai,ae,k,R.aC,b];rfl
theorem CV{k:Type}{m:En->O}(enc:k->D)(P:List k->En->Prop)(d:k->Prop)(r:D)(c:List k) (step:∀pre x post f,c=pre++x::post->P pre f->∃i,b (enc x) f=some i/\(d x->m i=.rt r)/\(¬d x->∃a,m i=.nx a/\P (pre++[x]) a))(f:En)(h:P [] f): ((∃x∈c,d x)->gX b m (c.map enc) f=.rt r)/\((¬∃x∈c,d x)->∃a,gX b m (c.map enc) f=.nx a/\P c a):=by
  have n:∀(post pre:List _)(f:En),c=pre++post->P pre f->((∃x∈post,d x)->gX b m (post.map enc) f=.rt r)/\((¬∃x∈post,d x)->∃a,gX b m (post.map enc) f=.nx a/\P c a):=by intro post;induction post with |nil=>intro pre f e h;exact⟨fun⟨x,_,_⟩=>by grind,fun _=>⟨_,rfl,by grind⟩⟩ |cons x post w=>
      intro pre f e h;obtain⟨i,q,u,v⟩:=step _ x _ _ e h;rw[b7];unfold gX;rw[q];by_cases l:d x;.refine⟨fun _=>by simp[u l],fun z=>absurd ⟨x,by simp,l⟩ z⟩
      . obtain⟨a,t,A⟩:=v l;obtain⟨p,i2⟩:=w _ _ (by rw[e];simp) A;simp only[t];refine⟨fun⟨y,j,g⟩=>p ⟨y,?_,g⟩,fun z=>i2 fun⟨y,j,g⟩=>z ⟨y,bz _ j,g⟩⟩;rcases aR.mp j with rfl|j;.exact absurd g l
        omega
  exact n _ _ _ rfl h
theorem GQ{n:Nat}{d:Int->Int->Int}(o:l.length<=1000)(i:∀p∈l,(0<=p.1/\p.1<(n:Int))/\(0<=p.2/\p.2<(n:Int))):vY [aM (aH n d),.lst (l.map aj)]=.ok (.int (dc d l)):=by
 have g:n_ (jN (dn 2 (dv (eD 1) (dv (eD 2) dG))) none (m2 aw (m2 aw (ag 0) (ag 1)) (ag 2)) [.v (aM (aH n d)),.no,.no]) (l.map aj)=.ok ((l.map fun p=>d p.1 p.2).map .int):=by rw[bX];refine qP aj _ _ fun p a=>?_;obtain⟨⟨c,m⟩,h,b⟩:=i p a;have t:=t6 (n:=n) (d:=d) c m;have r:=lB (f:=d p.1) h b;have e:dn 2 (dv (eD 1) (dv (eD 2) dG)) (aj p) [.v (aM (aH n d)),.no,.no]=some [.v (aM (aH n d)),.v (.int p.1),.v (.int p.2)]:=rfl;simp[jN,e];simp[ag,t,r]
 have k:Nd [.v (aM (aH n d)),.v (.lst (l.map aj))]=.ok (.lst ((l.map fun p=>d p.1 p.2).map .int)):=oI rfl (by grind) g;have j:kQ [.lst ((l.map fun p=>d p.1 p.2).map .int)]=some (.int (dc d l)):=by simp only[kQ,qO];rfl
 refine jO ?_;show aT _ [.v (aM _),.v (.lst _)]=_;simp only[aT,bp,ai,ae,k,R.aC,j];rfl
def path(d:Int->Int->Int):List Int->Int |a::b::l=>d a b+path d (b::l) |_=>0
theorem NY(d:Int->Int->Int):∀(l:List Int)(a x y:Int),path d (a::(l++[x,y]))=path d (a::(l++[x]))+d x y |[],a,x,y=>by simp[path] |c::l,a,x,y=>by have:=NY d l c x y;show d a c+path d (c::(l++[x,y]))=d a c+path d (c::(l++[x]))+d x y;lia
def sh(d:Int->Int->Int):List Int->Int |[]=>0 |a::l=>path d (a::(l++[a]))
def cp:List Int->List (Int×Int) |a::b::l=>(a,b)::cp (b::l) |_=>[]
theorem GR(d:Int->Int->Int):∀l:List Int,dc d (cp l)=path d l |[]=>rfl |[_]=>rfl |a::b::l=>by have:=GR d (b::l);show d a b+dc d _=d a b+path d _;rw[this]
theorem NZ(d:Int->Int->Int)(l:List Int)(w:Int):sh d (l++[w])=path d (l++[w])+d w ((l++[w]).headD 0):=by cases l with |nil=>show d w w+0=0+d w w;lia |cons a l=>show path d (a::((l++[w])++[a]))=path d _+d w a;rw[sr];exact NY d l a w a
theorem WU:aw (iL (l++[w])) (.int (-1))=some (.int w):=by
 show jY _ _=_;unfold jY gm;rw[ao (by decide),aI,bO,iw,ak (by lia)];have:(-1+(l.length+1:Int)).toNat=l.length:=by lia
 simp_all
theorem WV:aw (iL (a::l)) (.int 0)=some (.int a):=by show jY _ 0=_;unfold jY gm;simp
theorem WW:aw (iL (l++[w])) (.int 0)=some (.int ((l++[w]).headD 0)):=by cases l with |nil=>rfl |cons a l=>exact WV
theorem GS:∀l:List Int,cp l=(List.range (l.length-1)).map fun k=>(l.getD k 0,l.getD (k+1) 0) |[]=>rfl |[_]=>rfl |a::b::l=>by have:=GS (b::l);show(a,b)::cp _=_;rw[this];show _=(List.range (l.length+1)).map _;rw[List.range_succ_eq_map,b7,bX];rfl
theorem GU{l:List Int}(h:k<l.length):aw (iL l) (.int k)=some (.int (l.getD k 0)):=by show jY (l.map _) k=_;unfold jY gm;simp[h]
theorem WX{n:Nat}(C:l≠[])(I:l.length<=100)(c:∀v∈l,0<=v/\v<(n:Int)):CB [aM (aH n d),iL l]=.ok (.int (path d l)):=by
 obtain⟨T,m⟩:∃T,T=aM (aH n d):=⟨_,rfl⟩;have h:∀a:Int,0<=a->a<n->aw T (.int a)=some (iL ((aX n).map (d a))):=fun a A y=>by rw[m];exact t6 A y
 rw[<-m];have G:0<l.length:=nN.mpr C;have u:aW [iL l]=some (.int l.length):=by simp
 have x:bM (ai (m2 jf (bp aW (ai (ag 1) ae)) (mC (.int 1))) ae) [.v T,.v (iL l)]=.ok ((List.range (l.length-1)).map fun k:Nat=>.int k):=by
  have B:=kX (show l.length-1<=1000 by lia);have e:(l.length:Int)-1=((l.length-1:Nat):Int):=by lia
  simp[bM,ai,ae,mC,bp,ag,oG,ec,c6,u,R.aC,R.bj,BS];rw[e];refine(bT R.of B).trans ?_;unfold aX;simp
 have E:Nf [.v T,.v (iL l)]=.ok (iL ((cp l).map fun p=>d p.1 p.2)):=by
  unfold iL;rw[GS,bX,bX];refine oI (l:=(List.range (l.length-1)).map fun k:Nat=>.int k) x (by grind) ?_;have e:eJ [.v T,.v (iL l)] [0,1] 1=[.v T,.v (iL l),.no]:=rfl;unfold iL at e;rw[e];refine qP (fun k:Nat=>.int k) _ _ fun k z=>?_;have H:=cF.mp z;have q:=GU (l:=l) (k:=k) (by lia);have i:=GU (l:=l) (k:=k+1) (by lia);rw[show((k+1:Nat):Int)=(k:Int)+1 by lia] at i;have g:∀j,j<l.length->l.getD j 0∈l:=fun j w=>by rw[bN,bx w];simp
  have o:=c _ (g k (by lia));have m1:=c _ (g (k+1) (by lia));have t:=h _ o.1 o.2;have r:=lB (n:=n) (f:=d (l.getD k 0)) m1.1 m1.2;have b:eD 2 (.int k) [.v T,.v (.lst (l.map .int)),.no]=some [.v T,.v (.lst (l.map .int)),.v (.int k)]:=rfl;unfold iL at q i;simp only[jN,b];simp only[oG,ag,mC,ec,c6,R.aC,q,i,R.bj,t,tN,r];rfl
 refine jO ?_;show aT _ [.v T,.v (iL l)]=_;have s:=NA ((cp l).map fun p=>d p.1 p.2);have e:((cp l).map _).sum=path d l:=GR d l;simp only[aT,bp,ai,ae,E,R.aC,s,R.bj,e];rfl
theorem WY(J:dQ n B d)(M:l≠[])(H:l.length<=100)(i:∀v∈l,0<=v/\v<(n:Int)):AG [aM (aH n d),iL l]=.ok (.int (sh d l)):=by
  have o:=WX (d:=d) M H i;rcases sC l with e|⟨g,w,e⟩;.simp_all
  rw[su] at e;subst e;obtain⟨a,p⟩:∃a,a=(g++[w]).headD 0:=⟨_,rfl⟩;have G:a∈g++[w]:=by rw[p];cases g with |nil=>simp |cons b g=>simp
  have u:=i a G;have k:=i w (by simp);have t:=t6 (d:=d) k.1 k.2;have s:=lB (n:=n) (f:=d w) u.1 u.2;have r:=NZ d g w;rw[<-p] at r;have m:=WW (l:=g) (w:=w);rw[<-p] at m;have y:=WU (l:=g) (w:=w);have j:aW [iL (g++[w])]=some (.int (g.length+1:Nat)):=by simp
  have z:g.length=0->sh d (g++[w])=0:=fun h=>by have:g=[]:=i7.mp h;subst this;have:=J.self w k.1 k.2;show d w w+0=0;lia
  obtain⟨X,C⟩:∃X,X=g++[w]:=⟨_,rfl⟩;rw[<-C] at o r m y j z⊢;obtain⟨T,K⟩:∃T,T=aM (aH n d):=⟨_,rfl⟩;rw[<-K] at o t⊢;refine jO ?_;show aq _ _ [.v T,.v (iL X)]=_;by_cases c:g.length=0
  . have q:a_ (aV (m2 oEq (bp aW (ai (ag 1) ae)) (mC (.int 1)))) (aT (mC (.int 0))) cU [.v T,.v (iL X)]=.rt (.int 0):=by rw[c] at j;rw[gg (by simp[aV,bp,ai,ae,ag,mC,j])];rfl
    have I:=z c;rw[I];unfold aq;rw[q]
  . have q:a_ (aV (m2 oEq (bp aW (ai (ag 1) ae)) (mC (.int 1)))) (aT (mC (.int 0))) cU [.v T,.v (iL X)]=.nx [.v T,.v (iL X)]:=by rw[fM (by simp[aV,bp,ai,ae,ag,mC,j];lia)];rfl
    refine(bA q).trans ?_;have L:bD CB (ai (af 0) (ai (af 1) ae)) [.v T,.v (iL X)]=.ok (.int (path d X)):=by simp[bD,ai,ae,af,o]
    simp only[aT,oG,L,RX,ag,mC,ec,c6,R.aC,R.bj,Sd,m,y,t,s,tN,r];rfl
theorem CW(h:ma a=.ok (.bl true)):rn ma b a=b a:=by unfold rn;simp_all
theorem GV(h:ma a=.ok (.bl false)):rn ma b a=.ok (.bl false):=by unfold rn;simp_all
theorem xt(b:a c=.ok x)(d:f [x]=.ok r):bD f (ai a ae) c=.ok r:=by simp[bD,ai,ae,b,d]
theorem jv(g:a c=.ok x)(d:b c=.ok y)(e:f [x,y]=.ok r):bD f (ai a (ai b ae)) c=.ok r:=by simp[bD,ai,ae,g,d,e]
theorem vt {f : List D → PM.R D} {a b c : En → PM.R D} {δ : En} {x y z r : D} (ha : a δ = .ok x) (hb : b δ = .ok y) (hc : c δ = .ok z) (hf : f [x, y, z] = .ok r) : bD f (ai a (ai b (ai c ae))) δ = .ok r := by simp [bD, ai, ae, ha, hb, hc, hf]
theorem N0(k:a d=.ok x)(g:b d=.ok y)(j:c d=.ok z)(i:e d=.ok u)(h:f [x,y,z,u]=.ok r):bD f (ai a (ai b (ai c (ai e ae)))) d=.ok r:=by simp[bD,ai,ae,k,g,j,i,h]
theorem t9(b:a c=.ok x)(d:f [x]=some r):bp f (ai a ae) c=.ok r:=by simp[bp,ai,ae,b,d]
theorem b8 {o : D → D → Option D} {a b : En → PM.R D} {δ : En} {x y z : D} (ha : a δ = .ok x) (hb : b δ = .ok y) (h : o x y = some z) : m2 o a b δ = .ok z := by rw [oG, ha, PM.R.aC, hb, PM.R.aC, h]; rfl
theorem iA(h:a c=.ok (.bl b)):aV a c=.ok b:=by unfold aV;simp_all
theorem yz(h:t a=.ok b):iO t a=.ok (!b):=by unfold iO;simp_all
theorem N1(R S:List (Int×Int)):ends (R++S)=ends R++ends S:=by unfold ends;simp
theorem N2{R:List (Int×Int)}(l:R.length<=100):yu [.lst (R.map aj)]=.ok (iL (ends R)):=by obtain⟨A,f⟩:∃A,A=D.lst (R.map aj):=⟨_,rfl⟩;obtain⟨c,i,d,rfl⟩:=lZ (b:=aG 2) (m:=M7) aj (fun a c=>∃d:Option D,c=[.v A,.o (iL (ends a)),sv d]) R (by rintro a p g c e ⟨d,rfl⟩;have k:=vZ a;refine⟨[.v A,.o (iL (ends a)),.v (aj p)],[.v A,.o (iL (ends (a++[p]))),.v (aj p)],fF rfl,.inl ?_,some _,rfl⟩;show(dt (((ends a).map D.int).length+([D.int p.1,.int p.2]:List D).length<=sizeLine) (O.nx [.v A,.o (.lst ((ends a).map D.int++[.int p.1,.int p.2])),.v (aj p)]) .no)=_;rw[gq (by rw[fu];grind),N1];show _=O.nx [.v A,.o (.lst ((ends a++ends [p]).map D.int)),.v (aj p)];rw[dC];rfl) [.v A,.o (iL []),.no] ⟨none,rfl⟩;refine qQ ?_;rw[<-f];show aq _ _ [.v A,.no,.no]=_;have h:av (aU ae) (dw 1) [.v A,.no,.no]=.nx [.v A,.o (iL []),.no]:=cB (by simp[aU,ae,iL]) rfl;have j:M8 _=_:=(lA (by rw[f];rfl)).trans i;exact(bA h).trans ((bA j).trans rfl)
theorem AN{n:Nat}(a:n<=1000):tQ [.int (n:Int)]=some (iL (aX n)):=by show dt _ _ _=_;rw[gq (by lia),iL,aX,bX];rfl
theorem WZ(X:n<=100){R:List (Int×Int)}(E:eO n R):vo [.int n,.lst (R.map aj)]=.ok (.bl (decide ((uniq (mk n R)).length=1))):=by
 obtain⟨A,t⟩:∃A,A=D.lst (R.map aj):=⟨_,rfl⟩;have T:∀S:List (Int×Int),(mk n S).length=n:=fun S=>by
  have r:∀(S:List (Int×Int))(g:List Int),(S.foldl (fun g p=>jn g p.1 p.2) g).length=g.length:=by intro S;induction S with |nil=>simp |cons p S B=>intro g;rw[lP,B,CT]
  unfold mk;rw[r,gx]
 obtain⟨o,M,h,i,j,f,rfl⟩:=lZ (b:=dn 2 (dv (aG 3) (dv (aG 4) dG))) (m:=M') aj (fun a o=>∃h i j f:Option D,o=[.v (.int n),.v A,.v (iL (mk n a)),sv h,sv i,sv j,sv f]) R (by
   rintro a p w o u ⟨h,i,j,f,rfl⟩;obtain⟨⟨J,U⟩,K,N⟩:=E p (by simp_all);obtain⟨g,I⟩:∃g,g=mk n a:=⟨_,rfl⟩;have Q:g.length=n:=by simp_all
   have C:=uu (L:=g) J (by lia);have y:=uu (L:=g) K (by lia);have q:av (m2 aw (ag 2) (ag 3)) (aG 5) [.v (.int n),.v A,.v (iL g),.v (.int p.1),.v (.int p.2),sv j,sv f]=.nx [.v (.int n),.v A,.v (iL g),.v (.int p.1),.v (.int p.2),.v (.int (gA g p.1)),sv f]:=cB (d:=.int (gA g p.1)) (by simp[ag,C]) (fF rfl);have k:av (m2 aw (ag 2) (ag 4)) (aG 6) [.v (.int n),.v A,.v (iL g),.v (.int p.1),.v (.int p.2),.v (.int (gA g p.1)),sv f]=.nx [.v (.int n),.v A,.v (iL g),.v (.int p.1),.v (.int p.2),.v (.int (gA g p.1)),.v (.int (gA g p.2))]:=cB (d:=.int (gA g p.2)) (by simp[ag,y]) (fF rfl);have z:M_ [.v (.int n),.v A,.v (iL g),.v (.int p.1),.v (.int p.2),.v (.int (gA g p.1)),.v (.int (gA g p.2))]=.ok (iL (jn g p.1 p.2)):=by
    unfold iL jn;rw[bX];refine oI (l:=g.map .int) (by rfl) (by grind) ?_;refine qP .int _ _ fun x _=>?_;have e:eJ [.v (.int n),.v A,.v (iL g),.v (.int p.1),.v (.int p.2),.v (.int (gA g p.1)),.v (.int (gA g p.2))] [6,5] 1=[.v (.int (gA g p.2)),.v (.int (gA g p.1)),.no]:=rfl;unfold iL at e;rw[e];by_cases c:x=gA g p.1;.simp[jN,eD,xY,aV,ag,af,c]
    .simp[jN,eD,xY,aV,ag,af,c]
   refine⟨[.v (.int n),.v A,.v (iL (mk n a)),.v (.int p.1),.v (.int p.2),sv j,sv f],[.v (.int n),.v A,.v (iL (mk n (a++[p]))),.v (.int p.1),.v (.int p.2),.v (.int (gA g p.1)),.v (.int (gA g p.2))],?_,.inl ?_,some _,some _,some _,some _,rfl⟩;.rcases h with _|h<;>rcases i with _|i<;>rfl
   .rw[NT,<-I];exact(bA q).trans ((bA k).trans (cB z rfl))) [.v (.int n),.v A,.v (iL (aX n)),.no,.no,.no,.no] ⟨none,none,none,none,rfl⟩;refine jO ?_;rw[<-t];have q:av (oJ (ai (af 0) ae)) (aG 2) [.v (.int n),.v A,.no,.no,.no,.no,.no]=.nx [.v (.int n),.v A,.v (iL (aX n)),.no,.no,.no,.no]:=cB (d:=iL (aX n)) (by simp[oJ,ai,ae,af,AN (show n<=1000 by lia)]) rfl;have k:Na [.v (.int n),.v A,.v (iL (aX n)),.no,.no,.no,.no]=_:=(lA (l:=R.map aj) (by rw[t];rfl)).trans M;refine(bA q).trans ((bA k).trans ?_);have H:wV [iL (mk n R)]=some (.int (uniq (mk n R)).length):=by unfold wV iL;simp only[qO,Option.bind];rw[gq (by grind)]
 simp only[aT,oG,bp,ai,ae,ag,mC,ec,c6,PM.R.aC,H,PM.R.bj,rZ];show O.rt (.bl (decide (((uniq (mk n R)).length:Int)=1)))=_;congr 2;grind
theorem W0:∀(l:List Int),(uniq (a::l)).length=1↔∀x∈l,x=a:=by
  have m:∀(l b:List Int),b.length<=(l.foldl PyProof.Rows.step_dedup b).length:=by intro l;induction l with |nil=>simp |cons x l f=> intro b;refine bV ?_ (f _);unfold PyProof.Rows.step_dedup;grind
  intro l;have k:uniq (a::l)=l.foldl PyProof.Rows.step_dedup [a]:=rfl;rw[k];induction l with |nil=>simp |cons x l f=>
    rw[lP];by_cases c:x=a
    . have e:PyProof.Rows.step_dedup [a] x=[a]:=by simp[PyProof.Rows.step_dedup,c]
      rw[e];have:=f rfl;simp_all
    . have e:PyProof.Rows.step_dedup [a] x=[a,x]:=by have j:¬a=x:=fun z=>c z.symm;simp[PyProof.Rows.step_dedup,j]
      rw[e];have:=m l [a,x];simp only[ef,nM] at this;constructor;.lia
      .intro h;exact absurd (h x (by simp)) c
theorem GW(n:Nat)(S:List (Int×Int)):(mk n S).length=n:=by
 have a:∀(S:List (Int×Int))(g:List _),(S.foldl (fun g p=>jn g p.1 p.2) g).length=g.length:=by intro S;induction S with |nil=>simp |cons p S c=>intro g;rw[lP,c,CT]
 unfold mk;rw[a,gx]
open Classical in
def qu(n:Nat)(R:List (Int×Int)):Bool:=decide (jX n R)
theorem AO{R:List (Int×Int)}:qu n R=true↔jX n R:=by unfold qu;simp
theorem W2(d:0<n){R:List (Int×Int)}(e:eO n R):decide ((uniq (mk n R)).length=1)=qu n R:=by apply oP.mpr;rw[AO,decide_eq_true_iff,<-NU d e];have l:=GW n R;cases q:mk n R with |nil=>simp_all |cons a g=> rw[W0];have f:gA (a::g) 0=a:=rfl;simp_all
theorem N3(a:0<n)(c:n<=100){R:List (Int×Int)}(b:eO n R):vo [.int n,.lst (R.map aj)]=.ok (.bl (qu n R)):=by rw[WZ c b,W2 a b]
open Classical in
def oM(n:Nat)(R:List (Int×Int)):Bool:=decide (eO n R/\R.length+1=n/\jX n R)
theorem jj{R:List (Int×Int)}:oM n R=true↔eO n R/\R.length+1=n/\jX n R:=by unfold oM;simp
theorem gZ{R:List (Int×Int)}:oM n R=false↔¬(eO n R/\R.length+1=n/\jX n R):=by unfold oM;simp
theorem jk{n:Nat}{R:List (Int×Int)}:(∀q∈ends R,0<=q/\q<(n:Int))↔eO n R:=by
  constructor;.intro h p a;exact⟨h _ (kC.mpr ⟨p,a,by simp⟩),h _ (kC.mpr ⟨p,a,by simp⟩)⟩
  . intro h q c;obtain⟨p,a,b⟩:=NX c;rcases b with rfl|rfl;.exact(h p a).1
    .exact(h p a).2
theorem W3{n:Nat}(f:0<n)(r:n<=100){R:List (Int×Int)}(o:R.length<=100):Cw [.int n,.lst (R.map aj)]=.ok (.bl (oM n R)):=by
 have k:=N2 o;have q:=WT (l:=ends R) (c:=(n:Int)) (by rw[vZ];lia);have fl:aW [.lst (R.map aj)]=some (.int R.length):=by simp
 refine jO ?_;obtain⟨A,j⟩:∃A,A=D.lst (R.map aj):=⟨_,rfl⟩;rw[<-j] at k fl⊢;show aT _ [.v (.int n),.v A]=_;have e:m2 oEq (bp aW (ai (ag 1) ae)) (m2 jf (ag 0) (mC (.int 1))) [.v (.int n),.v A]=.ok (.bl (decide (R.length+1=n))):=by simp[oG,bp,ai,ae,ag,mC,ec,c6,PM.R.aC,fl,PM.R.bj,BS,rZ];congr 2;grind
 have d:bD _ (ai (bD _ (ai (af 1) _)) (ai (af 0) _)) [.v _,.v A]=.ok _:=jv (xt rfl k) rfl q;have m:eO n R->bD vo (ai (af 0) (ai (af 1) ae)) [.v (.int n),.v A]=.ok (.bl (qu n R)):=fun h=>by have:=N3 f r h;rw[<-j] at this;simp[bD,ai,ae,af,this]
 have p:rn (m2 oEq (bp aW (ai (ag 1) ae)) (m2 jf (ag 0) (mC (.int 1)))) (rn (bD zev (ai (bD yu (ai (af 1) ae)) (ai (af 0) ae))) (bD vo (ai (af 0) (ai (af 1) ae)))) [.v (.int n),.v A]=.ok (.bl (oM n R)):=by
  by_cases i:R.length+1=n;case neg=> rw[bf i] at e;rw[GV e,gZ.mpr fun z=>i z.2.1]
  rw[bg i] at e;rw[CW e];by_cases b:eO n R;case neg=> rw[bf (fun z=>b (jk.mp z))] at d;rw[GV d,gZ.mpr fun z=>b z.1]
  rw[bg (jk.mpr b)] at d;rw[CW d,m b];congr 2;apply oP.mpr;rw[AO,jj];simp_all
 unfold aT;simp_all
theorem N4(q:g.length<=100)(i:0<=a)(o:a.toNat<g.length)(l:0<=b)(h:b.toNat<g.length):AH [iL g,.int a,.int b]=.ok (iL (jn g a b)):=by
 have j:=uu i o;have f:=uu l h;refine qQ ?_;have k:av (m2 aw (ag 0) (ag 1)) (aG 3) [.v (iL g),.v (.int a),.v (.int b),.no]=.nx [.v _,.v _,.v _,.v (.int (gA g a))]:=cB (by simp[ag,j]) rfl;refine(bA k).trans ?_;have r:Nh [.v (iL g),.v (.int a),.v (.int b),.v (.int (gA g a))]=.ok (iL (jn g a b)):=by
  have e:eJ [.v (iL g),.v (.int a),.v (.int b),.v (.int (gA g a))] [0,2,3] 1=[.v _,.v _,.v _,.no]:=rfl;have d:iL (jn g a b)=.lst (g.map fun m=>.int (if m=gA g a then gA g b else m)):=by unfold iL jn;simp
  rw[d];refine oI rfl (by grind) ?_;rw[e];refine qP _ _ _ fun x _=>?_;by_cases c:x=gA g a;.simp[jN,eD,aU,ai,ae,ag,af,bp,f,c,sizeLine];rfl
  .have p:aw (.lst [.int x,.int (gA g b)]) (.int 0)=some _:=rfl;have n:qq [.bl false]=some _:=rfl;simp[jN,eD,aU,ai,ae,ag,af,bp,f,c,n,p,sizeLine]
 unfold gR;simp_all
theorem W4{n:Nat}(r:0<n)(hn:n<=100)(hl:S.length<=100):CD [.lst (S.map aj),.int n]=.ok (.bl (oM n S)):=by
  have fl:aW [.lst (S.map aj)]=some (.int S.length):=by simp
  obtain⟨A,T⟩:∃A,A=D.lst (S.map aj):=⟨_,rfl⟩;obtain⟨h1,h2⟩:=CV (b:=dn 2 (dv (aG 3) (dv (aG 4) dG))) (m:=Ni) aj (fun f C=>∃o q:Option D,C=[.v A,.v (.int n),.v (iL (mk n f)),sv o,sv q]) (fun p=>¬((0<=p.1/\p.1<(n:Int))/\(0<=p.2/\p.2<(n:Int)))) (.bl false) S (by
      rintro f p Z C X ⟨o,q,rfl⟩;refine⟨[.v A,.v (.int n),.v (iL (mk n f)),.v (.int p.1),.v (.int p.2)],?_,fun u=>?_,fun u=>⟨[.v A,.v (.int n),.v (iL (mk n (f++[p]))),.v (.int p.1),.v (.int p.2)],?_,some _,some _,rfl⟩⟩;.rcases o with _|o<;>rcases q with _|q<;>rfl
      . refine kY ?_;rw[gg];rfl;by_cases s:p.1<0;.simp[iU,aV,ag,mC,s]
        . by_cases E:(n:Int)<=p.1;.simp[iU,aV,ag,mC,s,E]
          . by_cases U:p.2<0;.simp[iU,aV,ag,mC,s,E,U]
            . have a4:(n:Int)<=p.2:=by lia
              simp[iU,aV,ag,mC,s,E,U,a4]
      . have I:(0<=p.1/\p.1<(n:Int))/\(0<=p.2/\p.2<(n:Int)):=dO u;obtain⟨⟨a0,s⟩,b0,b1⟩:=I;have n1:¬p.1<0:=by omega
        have n2:¬(n:Int)<=p.1:=by omega
        have n3:¬p.2<0:=by omega
        have n4:¬(n:Int)<=p.2:=by omega
        have K:=GW n f;have jq:=N4 (g:=mk n f) (a:=p.1) (b:=p.2) (by lia) a0 (by lia) b0 (by lia);have H:a_ (iU (aV (m2 oLt (ag 3) (mC (.int 0)))) (iU (aV (m2 yd (ag 3) (ag 1))) (iU (aV (m2 oLt (ag 4) (mC (.int 0)))) (aV (m2 yd (ag 4) (ag 1)))))) (aT (mC (.bl false))) cU [.v A,.v (.int n),.v (iL (mk n f)),.v (.int p.1),.v (.int p.2)]=.nx [.v A,.v (.int n),.v (iL (mk n f)),.v (.int p.1),.v (.int p.2)]:=by rw[fM (by simp[iU,aV,ag,mC,n1,n2,n3,n4])];rfl
        rw[NT];exact(bA H).trans (cB (vt rfl rfl rfl jq) rfl)) [.v A,.v (.int n),.v (iL (aX n)),.no,.no] ⟨none,none,rfl⟩;refine jO ?_;rw[<-T] at fl⊢;show aq _ _ [.v A,.v (.int n),.no,.no,.no]=_;have H:av (oJ (ai (af 1) ae)) (aG 2) [.v A,.v (.int n),.no,.no,.no]=.nx [.v A,.v (.int n),.v (iL (aX n)),.no,.no]:=cB (d:=iL (aX n)) (by simp[oJ,ai,ae,af,AN (show n<=1000 by lia)]) rfl;have Y:Nj [.v A,.v (.int n),.v (iL (aX n)),.no,.no]=_:=lA (l:=S.map aj) (by rw[T];rfl);refine(bA H).trans ?_;by_cases c:eO n S;case neg=> have ex:∃x∈S,¬((0<=x.1/\x.1<(n:Int))/\(0<=x.2/\x.2<(n:Int))):=dO fun z=>c fun p hp=>dO fun y=>z ⟨p,hp,y⟩;rw[gZ.mpr fun z=>c z.1];exact kY (Y.trans (h1 ex))
  obtain⟨C,h3,o,q,rfl⟩:=h2 fun⟨x,t,u⟩=>u (c x t);refine(bA (Y.trans h3)).trans ?_;have K:=GW n S;obtain⟨g,Q⟩:∃g,g=mk n S:=⟨_,rfl⟩;rw[<-Q] at K⊢;have B:m2 oEq (bp aW (ai (ag 0) ae)) (m2 jf (ag 1) (mC (.int 1))) [.v A,.v (.int n),.v (iL g),sv o,sv q]=.ok (.bl (decide (S.length+1=n))):=by simp only[oG,bp,ai,ae,ag,mC,ec,c6,R.aC,fl,R.bj,BS,rZ];congr 2;rw[kJ];omega
  have i0:=uu (L:=g) (k:=0) (iZ _) (by rw[K];exact r);have k1:CC [.v A,.v (.int n),.v (iL g),sv o,sv q]=.ok (iL (g.map fun _=>gA g 0)):=by
    have G:iL (g.map fun _=>gA g 0)=.lst (g.map fun _=>.int (gA g 0)):=by unfold iL;rw[bX];rfl
    rw[G];refine oI (l:=g.map .int) (by simp[cP,ag]) (by rw[aI];lia) ?_;refine qP .int _ _ fun x _=>?_;have e:eJ [.v A,.v (.int n),.v (iL g),sv o,sv q] [2] 1=[.v (iL g),.no]:=rfl;rw[e];simp[jN,eD,ag,mC,i0]
  have N:∀l:List Int,fE 8 (iL l)=true:=fun l=>by show(l.map D.int).all (fE 7)=true;rw[f9,d_];intro x _;rfl
  have t2:m2 gr (ag 2) CC [.v A,.v (.int n),.v (iL g),sv o,sv q]=.ok (.bl (qu n S)):=by
    refine b8 rfl k1 ?_;unfold gr;rw[gq ⟨N _,N _⟩];congr 2;have:=NU r c;rw[<-Q] at this;apply oP.mpr;rw[AO,<-this];refine Iff.trans (@decide_eq_true_iff _ (Classical.propDecidable _)) ?_;constructor;.intro h x t;have e:g.map D.int=(g.map fun _=>gA g 0).map D.int:=D.lst.inj h;obtain⟨i,hi,ei⟩:=kB t;have:=bT (.[i]?) e;simp only[bB,bx hi] at this;have:=eU this;rw[ei] at this;exact D.int.inj this
    . intro h;unfold iL;congr 1;congr 1;conv=>lhs;rw[<-List.map_id g]
      exact i9 fun x t=>h x t
  have M:rn (m2 oEq (bp aW (ai (ag 0) ae)) (m2 jf (ag 1) (mC (.int 1)))) (m2 gr (ag 2) CC) [.v A,.v (.int n),.v (iL g),sv o,sv q]=.ok (.bl (oM n S)):=by
    by_cases w:S.length+1=n;case neg=> rw[bf w] at B;rw[GV B,gZ.mpr fun z=>w z.2.1]
    rw[bg w] at B;rw[CW B,t2];congr 2;apply oP.mpr;rw[AO,jj];exact⟨fun z=>⟨c,w,z⟩,fun z=>z.2.2⟩
  unfold aT;rw[M];rfl
theorem GX(b:l.length<=1000)(a:eO n l):qU [aM (aH n d),.lst (l.map aj)]=.ok (.int (dc d l)):=GQ b a
theorem yA(h:l.length+r.length<=100000):bU (.lst l) (.lst r)=some (.lst (l++r)):=by unfold bU;simp;rw[gq (bV h (by decide))]
open Classical in
def uw(n:Nat)(d:Int->Int->Int)(S:List (Int×Int))(e:Int×Int)(a b:Int):Bool:=decide (d a b<d e.1 e.2/\jX n (S++[(a,b)]))
theorem kz:uw n d S e a b=true↔d a b<d e.1 e.2/\jX n (S++[(a,b)]):=by unfold uw;simp
open Classical in
def ux(n:Nat)(d:Int->Int->Int)(S:List (Int×Int))(e:Int×Int):Bool:=decide (∃a b:Int,(0<=b/\b<a/\a<(n:Int))/\uw n d S e a b=true)
theorem nj:ux n d S e=true↔∃a b:Int,(0<=b/\b<a/\a<(n:Int))/\uw n d S e a b=true:=by unfold ux;simp
theorem rJ:ux n d S e=false↔¬∃a b:Int,(0<=b/\b<a/\a<(n:Int))/\uw n d S e a b=true:=by unfold ux;simp
theorem GY {n : Nat} (hn : n ≤ 1000) {a : Int} (h : a = n) : nq [.int a] = some ((aX n).map .int) := by rw [h]; exact kX hn
theorem W5{n:Nat}{d:Int->Int->Int}(w:0<n)(hn:n<=100){S:List (Int×Int)}(Y:eO n S)(hl:S.length<=100){e:Int×Int}(t:(0<=e.1/\e.1<(n:Int))/\(0<=e.2/\e.2<(n:Int))): Cy [aM (aH n d),.lst (S.map aj),aj e]=.ok (.bl (ux n d S e)):=by
 obtain⟨T,u⟩:∃T,T=aM (aH n d):=⟨_,rfl⟩;obtain⟨A,U⟩:∃A,A=D.lst (S.map aj):=⟨_,rfl⟩;have s:∀a:Int,0<=a->a<n->aw T (.int a)=some (iL ((aX n).map (d a))):=fun a h0 M=>by rw[u];exact t6 h0 M
 have tl:aW [T]=some (.int n):=by rw[u];exact uv
 obtain⟨L,C⟩:∃L,L=d e.1 e.2:=⟨_,rfl⟩;have K:∀a b:Int,0<=b->b<a->a<(n:Int)->(uw n d S e a b=true->AF [.v T,.v A,.v (aj e),.v (.int n),.v (.int L),.v (.int a),.v (.int b)]=.rt (.bl true))/\(uw n d S e a b=false->AF [.v T,.v A,.v (aj e),.v (.int n),.v (.int L),.v (.int a),.v (.int b)]=.nx [.v T,.v A,.v (aj e),.v (.int n),.v (.int L),.v (.int a),.v (.int b)]):=fun a b b0 ba an=>by
  have hN:eO n (S++[(a,b)]):=fun p hp=>by
   rcases cD.mp hp with z|z;.exact Y p z
   .rw[bc.mp z];omega
  have hc:=N3 w hn hN;have X:=s a (by omega) an;have ra:=lB (n:=n) (f:=d a) b0 (show b<n by omega);have t1:aV (m2 oLt (m2 aw (m2 aw (ag 0) (ag 5)) (ag 6)) (ag 4)) [.v T,.v A,.v (aj e),.v (.int n),.v (.int L),.v (.int a),.v (.int b)]=.ok (decide (d a b<L)):=by simp[aV,ag,X,ra]
  have ap:m2 bU (ag 1) (aU (ai (bL (ai (af 5) (ai (af 6) ae))) ae)) [.v T,.v A,.v (aj e),.v (.int n),.v (.int L),.v (.int a),.v (.int b)]=.ok (.lst ((S++[(a,b)]).map aj)):=by refine b8 (x:=A) (y:=.lst [aj (a,b)]) rfl (by simp[aU,bL,ai,ae,af,sizeLine,aj]) ?_;rw[U,yA (by grind),dC];rfl
  have t2:aV (bD vo (ai (af 3) (ai (m2 bU (ag 1) (aU (ai (bL (ai (af 5) (ai (af 6) ae))) ae))) ae))) [.v T,.v A,.v (aj e),.v (.int n),.v (.int L),.v (.int a),.v (.int b)]=.ok (qu n (S++[(a,b)])):=iA (jv rfl ap hc);have Q:mU (aV (m2 oLt (m2 aw (m2 aw (ag 0) (ag 5)) (ag 6)) (ag 4))) (aV (bD vo (ai (af 3) (ai (m2 bU (ag 1) (aU (ai (bL (ai (af 5) (ai (af 6) ae))) ae))) ae)))) [.v T,.v A,.v (aj e),.v (.int n),.v (.int L),.v (.int a),.v (.int b)]=.ok (uw n d S e a b):=by
   unfold mU;rw[t1,R.aC];by_cases c:d a b<L;.rw[bg c,ak rfl,t2];congr 1;apply oP.mpr;rw[AO,kz,<-C];exact⟨fun z=>⟨c,z⟩,fun z=>z.2⟩
   .rw[bf c,ao (by decide)];congr 1;symm;apply sj.mpr;intro z;rw[kz,<-C] at z;exact c z.1
  unfold AF;exact⟨fun h=>by rw[gg (by rw[Q,h])];rfl,fun h=>by rw[fM (by rw[Q,h])];rfl⟩
 obtain⟨M,h2⟩:=CV (b:=aG 5) (m:=Gm) D.int (fun _ k=>∃B g:Option D,k=[.v T,.v A,.v (aj e),.v (.int n),.v (.int L),sv B,sv g]) (fun a=>∃b,(0<=b/\b<a)/\uw n d S e a b=true) (.bl true) (aX n) (by
   rintro I a l k i ⟨B,g,rfl⟩;have J:=aE.mp (show a∈aX n by rw[i];simp);obtain⟨g1,g2⟩:=CV (b:=aG 6) (m:=AF) D.int (fun _ k=>∃g:Option D,k=[.v T,.v A,.v (aj e),.v (.int n),.v (.int L),.v (.int a),sv g]) (fun b=>uw n d S e a b=true) (.bl true) (aX a.toNat) (by rintro I b l k i ⟨g,rfl⟩;have o:=aE.mp (show b∈aX a.toNat by rw[i];simp);obtain⟨o1,o2⟩:=K a b o.1 (by omega) J.2;exact⟨[.v T,.v A,.v (aj e),.v (.int n),.v (.int L),.v (.int a),.v (.int b)],fF rfl,o1,fun z=>⟨_,o2 (by simpa using z),some _,rfl⟩⟩) [.v T,.v A,.v (aj e),.v (.int n),.v (.int L),.v (.int a),sv g] ⟨g,rfl⟩;have G:bM (ai (af 5) ae) [.v T,.v A,.v (aj e),.v (.int n),.v (.int L),.v (.int a),sv g]=.ok ((aX a.toNat).map .int):=by have:=GY (n:=a.toNat) (by omega) (show a=(a.toNat:Nat) by lia);simp[bM,ai,ae,af,this]
   have q:Gm [.v T,.v A,.v (aj e),.v (.int n),.v (.int L),.v (.int a),sv g]=_:=lA G;refine⟨[.v T,.v A,.v (aj e),.v (.int n),.v (.int L),.v (.int a),sv g],fF rfl,fun⟨b,o,j⟩=>q.trans (g1 ⟨b,aE.mpr (by omega),j⟩),fun E=>?_⟩;obtain⟨H,g3,p7,rfl⟩:=g2 fun⟨b,o,j⟩=>E ⟨b,by have:=aE.mp o;lia,j⟩;exact⟨_,q.trans g3,some _,p7,rfl⟩) [.v T,.v A,.v (aj e),.v (.int n),.v (.int L),.no,.no] ⟨none,none,rfl⟩;refine jO ?_;rw[<-u,<-U];show aq _ _ [.v T,.v A,.v (aj e),.no,.no,.no,.no]=_;have x1:aL (aj e) (.int 0)=some (.int e.1):=rfl;have x2:aL (aj e) (.int 1)=some (.int e.2):=rfl;have te:=s e.1 t.1.1 t.1.2;have re:=lB (n:=n) (f:=d e.1) t.2.1 t.2.2;have q1:av (bp aW (ai (ag 0) ae)) (aG 3) [.v T,.v A,.v (aj e),.no,.no,.no,.no]=.nx [.v T,.v A,.v (aj e),.v (.int n),.no,.no,.no]:=cB (d:=.int n) (by simp[bp,ai,ae,ag,tl]) rfl;have q2:av (m2 aw (m2 aw (ag 0) (m2 aL (ag 2) (mC (.int 0)))) (m2 aL (ag 2) (mC (.int 1)))) (aG 4) [.v T,.v A,.v (aj e),.v (.int n),.no,.no,.no]=.nx [.v T,.v A,.v (aj e),.v (.int n),.v (.int L),.no,.no]:=cB (d:=.int L) (by simp[ag,mC,x1,x2,te,re,C]) rfl;have G:bM (ai (af 3) ae) [.v T,.v A,.v (aj e),.v (.int n),.v (.int L),.no,.no]=.ok ((aX n).map .int):=by have:=kX (show n<=1000 by lia);simp[bM,ai,ae,af,this]
 have N:Nb [.v T,.v A,.v (aj e),.v (.int n),.v (.int L),.no,.no]=_:=lA G;refine(bA q1).trans ((bA q2).trans ?_);cases c:ux n d S e with |true=> obtain⟨a,b,W6,j⟩:=nj.mp c;exact kY (N.trans (M ⟨a,aE.mpr (by omega),b,by omega,j⟩)) |false=> obtain⟨H,Z,B,g,rfl⟩:=h2 fun⟨a,J,b,o,j⟩=>(rJ.mp c) ⟨a,b,by have:=aE.mp J;lia,j⟩;exact(bA (N.trans Z)).trans rfl
theorem N5{l:List D}(h:k<=l.length):cutD l none (some (k:Int))=l.take k:=by unfold cutD;rw[xb _ _ _ h,show HT.eY _ 0 _=0 from rfl,List.drop_zero,Nat.sub_zero]
theorem W7{l:List D}(h:k<=l.length):cutD l (some (k:Int)) none=l.drop k:=by unfold cutD;rw[xb _ _ _ h,show HT.eY _ _ _=l.length from rfl,kF (by simp)]
theorem N6(hi:ag i a=.ok (.lst l))(b:mh a=.ok (some (k:Int)))(h:k<=l.length):dg (ag i) bG mh a=.ok (.lst (l.take k)):=by unfold dg;rw[hi,R.aC,show bG _=.ok _ from rfl,R.aC,b,R.aC];show R.bind (R.of (some l)) _=_;rw[R.bj,R.aC,N5 h]
theorem CY(hi:ag i a=.ok (.lst l))(b:ml a=.ok (some (k:Int)))(h:k<=l.length):dg (ag i) ml bG a=.ok (.lst (l.drop k)):=by unfold dg;rw[hi,R.aC,b,R.aC,show bG _=.ok _ from rfl,R.aC];show R.bind (R.of (some l)) _=_;rw[R.bj,R.aC,W7 h]
def dU(d:Int->Int->Int)(l:List Int):List (List Int):=l.flatMap fun a=>(aX a.toNat).map fun b=>[d a b,a,b]
def ed(t:List Int):Int×Int:=(t.getD 1 0,t.getD 2 0)
def yB(n:Nat)(d:Int->Int->Int):List (Int×Int):=(kU (dU d (aX n))).map ed
def jQ(n:Nat)(d:Int->Int->Int):Int:=kr d (aX n) (yB n d)
theorem k6:t∈dU d (aX n)↔∃a b:Int,(0<=b/\b<a/\a<(n:Int))/\t=[d a b,a,b]:=by
 unfold dU;rw[kC];constructor;.rintro⟨a,e,h⟩;obtain⟨b,c,rfl⟩:=c8.mp h;have:=aE.mp e;have:=aE.mp c;grind
 .rintro⟨a,b,h,rfl⟩;exact⟨a,aE.mpr (by lia),c8.mpr ⟨b,aE.mpr (by lia),rfl⟩⟩
theorem W8(d:Int->Int->Int)(n:Nat):(dU d (aX n)).Nodup:=by
 unfold dU;rw[List.Nodup,List.pairwise_flatMap];refine⟨fun a _=>List.Pairwise.map _ (fun x y h e=>h ?_) (AM _),(AM n).imp fun{x y} h t f u b e=>h ?_⟩;.simp_all
 .obtain⟨c,_,rfl⟩:=c8.mp b;simp_all
theorem N7(d:Int->Int->Int):∀{l:List Int},(∀a∈l,a.toNat<=m)->(dU d l).length<=l.length*m |[],_=>by simp[dU] |a::l,h=>by have f:=h a (by simp);have e:=N7 d fun x c=>h x (bz _ c);unfold dU at e⊢;rw[lO,bO,aI,gx,ef,Nat.succ_mul];lia
theorem W9(A:dQ n B d)(r:0<n):(∀L,eO n L->jX n L->jQ n d<=dc d L)/\∃L,eO n L/\jX n L/\dc d L=jQ n d:=by
 have G:=FU (dU d (aX n));have c:∀t,t∈kU (dU d (aX n))↔∃a b:Int,(0<=b/\b<a/\a<(n:Int))/\t=[d a b,a,b]:=fun t=>by rw[G.mem_iff,k6]
 have j:eO n (yB n d):=fun p l=>by obtain⟨t,s,rfl⟩:=c8.mp l;obtain⟨a,b,h,rfl⟩:=(c t).mp s;show(0<=a/\a<(n:Int))/\(0<=b/\b<(n));lia
 have E:(yB n d).Pairwise fun p q=>d p.1 p.2<=d q.1 q.2:=by unfold yB;rw[oV];refine(Mt _).imp_of_mem fun{x y} i f h=>?_;obtain⟨a,b,_,rfl⟩:=(c x).mp i;obtain⟨m,v,_,rfl⟩:=(c y).mp f;show d a b<=d m v;apply dO;intro z;exact h (List.cons_lt_cons_iff.mpr (.inl (by lia)))
 have k:=WO A r (yB n d) (aX n) _ (Gr.first n) (fun p l=>nomatch l) j E fun x y i f h=>by
  have o:x≠y:=fun e=>h (by rw[e];exact .base (by simp));have g:∀a b:Int,0<=b->b<a->a<(n:Int)->(a,b)∈yB n d:=fun a b C u w=>c8.mpr ⟨_,(c _).mpr ⟨a,b,⟨C,u,w⟩,rfl⟩,rfl⟩;rcases qB o with z|z;.grind
  .exact .inl (g x y f.1 z i.2)
 exact k
theorem W_(wJ:0<n)(hn:n<=7):CG [aM (aH n d)]=.ok (.int (jQ n d)):=by
 have tl:aW [aM (aH n d)]=some (.int n):=uv;obtain⟨T,eT⟩:∃T,T=aM (aH n d):=⟨_,rfl⟩;have J:∀a:Int,0<=a->a<n->aw T (.int a)=some (iL ((aX n).map (d a))):=fun a h0 S=>by rw[eT];exact t6 h0 S
 have wl:∀{l:List Int},(∀a∈l,0<=a/\a<(n:Int))->(dU d l).length<=l.length*7:=fun h=>N7 d fun a I=>by grind
 obtain⟨w,S,r,j,o,rfl⟩:=lZ (b:=aG 5) (m:=Nl) D.int (fun i w=>∃r j o:Option D,w=[.v T,.v (.int n),.v (iL (aX n)),.v (.int 0),.v (.lst ((dU d i).map encC)),sv r,sv j,sv o]) (aX n) (by
   rintro i a q w p ⟨r,j,o,rfl⟩;have I:=aE.mp (show a∈aX n by simp_all);have pl:i.length<=n:=by have:=bT List.length p;rw[gx,bO] at this;lia
   have pw:=wl (l:=i) fun x hx=>aE.mp (by simp_all);have ta:=J a I.1 I.2;have G:bM (ai (af 5) ae) [.v T,.v (.int n),.v (iL (aX n)),.v (.int 0),.v (.lst ((dU d i).map encC)),.v (.int a),sv j,sv o]=.ok ((aX a.toNat).map .int):=by have:=GY (n:=a.toNat) (by lia) (show a=(a.toNat:Nat) by lia);simp[bM,ai,ae,af,this]
   have k1:Nk [.v T,.v (.int n),.v (iL (aX n)),.v (.int 0),.v (.lst ((dU d i).map encC)),.v (.int a),sv j,sv o]=.ok (.lst (((aX a.toNat).map fun b=>[d a b,a,b]).map encC)):=by rw[bX];refine oI G (by rw[aI,gx];lia) ?_;have e:eJ [.v T,.v (.int n),.v (iL (aX n)),.v (.int 0),.v (.lst ((dU d i).map encC)),.v (.int a),sv j,sv o] [5,0] 1=[.v (.int a),.v T,.no]:=rfl;rw[e];refine qP .int _ _ fun b hb=>?_;have M:=aE.mp hb;have ra:=lB (n:=n) (f:=d a) M.1 (show b<n by lia);simp[jN,eD,bL,ai,ae,ag,af,ta,ra,sizeLine,encC]
   refine⟨[.v T,.v (.int n),.v (iL (aX n)),.v (.int 0),.v (.lst ((dU d i).map encC)),.v (.int a),sv j,sv o],[.v T,.v (.int n),.v (iL (aX n)),.v (.int 0),.v (.lst ((dU d (i++[a])).map encC)),.v (.int a),sv j,sv o],fF rfl,.inl ?_,some _,j,o,rfl⟩;refine cB (d:=.lst ((dU d (i++[a])).map encC)) (b8 rfl k1 ?_) rfl;rw[yA (by simp only[aI,gx];lia),<-dC];unfold dU;rw[List.flatMap_append,lO,List.flatMap_nil,f_]) [.v T,.v (.int n),.v (iL (aX n)),.v (.int 0),.v (.lst ((dU d []).map encC)),.no,.no,.no] ⟨none,none,none,rfl⟩;have U:∀t∈kU (dU d (aX n)),∃a b:Int,(0<=b/\b<a/\a<(n:Int))/\t=[d a b,a,b]:=fun t Q=>k6.mp ((FU _).mem_iff.mp Q);obtain⟨A,eA⟩:∃A,A=D.lst ((dU d (aX n)).map encC):=⟨_,rfl⟩;have X:yp [A]=some (.lst ((kU (dU d (aX n))).map encC)):=by
  rw[eA];refine Vu (W8 d n) ?_ fun t Q=>?_;.have:=wl (l:=aX n) fun x hx=>aE.mp hx;rw[gx] at this;lia
  .obtain⟨a,b,_,rfl⟩:=k6.mp Q;simp
 obtain⟨W,eW⟩:∃W,W=kU (dU d (aX n)):=⟨_,rfl⟩;have kW:jQ n d=kr d (aX n) (W.map ed):=by rw[eW];rfl
 rw[<-eW] at X U;obtain⟨K,Y⟩:∃K,K=kr d (aX n) (W.map ed):=⟨_,rfl⟩;obtain⟨w,h2,g,s,q5,q6,q7,N,C,rfl⟩:=lZ (b:=dn 3 (dv (aG 6) (dv (aG 5) (dv (aG 7) dG)))) (m:=CF) encC (fun i w=>∃(g:List Int) (s:Int) (r j o:Option D),g.length=n/\s+kr d g ((W.drop i.length).map ed)=K/\w=[.v T,.v (.int n),.v (iL g),.v (.int s),.v A,sv r,sv j,sv o]) W (by
   rintro i t q w p ⟨g,s,r,j,o,N,C,rfl⟩;obtain⟨a,b,W6,rfl⟩:=U t (by rw[p];simp);have dr:W.drop i.length=[d a b,a,b]::q:=by rw[p];simp
   have E:W.drop (i++[[d a b,a,b]]).length=q:=by rw[p];simp
   rw[dr,b7] at C;rw[E];have y:s+(if gA g a≠gA g b then d a b+kr d (jn g a b) (q.map ed) else kr d g (q.map ed))=K:=C;have ia:=uu (L:=g) (k:=a) (by lia) (by lia);have ib:=uu (L:=g) (k:=b) (by lia) (by lia);have Z:dn 3 (dv (aG 6) (dv (aG 5) (dv (aG 7) dG))) (encC [d a b,a,b]) [.v T,.v (.int n),.v (iL g),.v (.int s),.v A,sv r,sv j,sv o]=some [.v T,.v (.int n),.v (iL g),.v (.int s),.v A,.v (.int a),.v (.int (d a b)),.v (.int b)]:=by rcases r with _|r<;>rcases j with _|j<;>rcases o with _|o<;>rfl
   have te:aV (m2 uj (m2 aw (ag 2) (ag 5)) (m2 aw (ag 2) (ag 7))) [.v T,.v (.int n),.v (iL g),.v (.int s),.v A,.v (.int a),.v (.int (d a b)),.v (.int b)]=.ok (!decide (gA g a=gA g b)):=by simp[aV,ag,ia,ib]
   by_cases c:gA g a=gA g b;.rw[ao (fun z=>z c)] at y;refine⟨_,[.v T,.v (.int n),.v (iL g),.v (.int s),.v A,.v (.int a),.v (.int (d a b)),.v (.int b)],Z,.inl ?_,g,s,some _,some _,some _,N,y,rfl⟩;unfold CF;rw[fM (by rw[te,bg c];rfl)];rfl
   .rw[ak c] at y;refine⟨_,[.v T,.v (.int n),.v (iL (jn g a b)),.v (.int (s+d a b)),.v A,.v (.int a),.v (.int (d a b)),.v (.int b)],Z,.inl ?_,jn g a b,s+d a b,some _,some _,some _,by rw[CT,N],by lia,rfl⟩;unfold CF;rw[gg (by rw[te,bf c];rfl)];have jq:=N4 (g:=g) (a:=a) (b:=b) (by lia) (by lia) (by lia) (by lia) (by lia);have z1:av (bD AH (ai (af 2) (ai (af 5) (ai (af 7) ae)))) (aG 2) [.v T,.v (.int n),.v (iL g),.v (.int s),.v A,.v (.int a),.v (.int (d a b)),.v (.int b)]=.nx [.v T,.v (.int n),.v (iL (jn g a b)),.v (.int s),.v A,.v (.int a),.v (.int (d a b)),.v (.int b)]:=cB (vt rfl rfl rfl jq) rfl;exact(bA z1).trans (cB (d:=.int (s+d a b)) (by simp[ag]) rfl)) [.v T,.v (.int n),.v (iL (aX n)),.v (.int 0),.v A,sv r,sv j,sv o] ⟨aX n,0,r,j,o,gx,by rw[Y];simp,rfl⟩;have fs:s=jQ n d:=by have e:W.drop W.length=[]:=qD ..;rw[e] at C;rw[kW,<-Y,<-C];show s=s+0;lia
 refine jO ?_;rw[<-eT] at tl⊢;show aq _ _ [.v T,.no,.no,.no,.no,.no,.no,.no]=_;have q1:av (bp aW (ai (ag 0) ae)) (aG 1) [.v T,.no,.no,.no,.no,.no,.no,.no]=.nx [.v T,.v (.int n),.no,.no,.no,.no,.no,.no]:=cB (d:=.int n) (by simp[bp,ai,ae,ag,tl]) rfl;have q2:av (oJ (ai (af 1) ae)) (aG 2) [.v T,.v (.int n),.no,.no,.no,.no,.no,.no]=.nx [.v T,.v (.int n),.v (iL (aX n)),.no,.no,.no,.no,.no]:=cB (d:=iL (aX n)) (by simp[oJ,ai,ae,af,AN (show n<=1000 by lia)]) rfl;have q3:av (mC (.int 0)) (aG 3) [.v T,.v (.int n),.v (iL (aX n)),.no,.no,.no,.no,.no]=.nx [.v T,.v (.int n),.v (iL (aX n)),.v (.int 0),.no,.no,.no,.no]:=rfl;have q4:av (aU ae) (aG 4) [.v T,.v (.int n),.v (iL (aX n)),.v (.int 0),.no,.no,.no,.no]=.nx [.v T,.v (.int n),.v (iL (aX n)),.v (.int 0),.v (.lst ((dU d []).map encC)),.no,.no,.no]:=cB (d:=.lst []) (by simp[aU,ae,sizeLine]) rfl;have G:bM (ai (af 1) ae) [.v T,.v (.int n),.v (iL (aX n)),.v (.int 0),.v (.lst ((dU d []).map encC)),.no,.no,.no]=.ok ((aX n).map .int):=by have:=kX (show n<=1000 by lia);simp[bM,ai,ae,af,this]
 have B:Nm [.v T,.v (.int n),.v (iL (aX n)),.v (.int 0),.v (.lst ((dU d []).map encC)),.no,.no,.no]=_:=(lA G).trans S;have it:cP (bp yp (ai (ag 4) ae)) [.v T,.v (.int n),.v (iL (aX n)),.v (.int 0),.v A,sv r,sv j,sv o]=.ok (W.map encC):=by simp[cP,bp,ai,ae,ag,X]
 have H:Nn [.v T,.v (.int n),.v (iL (aX n)),.v (.int 0),.v A,sv r,sv j,sv o]=_:=(lA it).trans h2;rw[<-eA] at B;refine(bA q1).trans ((bA q2).trans ((bA q3).trans ((bA q4).trans ((bA B).trans ((bA H).trans ?_)))));show O.rt (.int s)=_;rw[fs]
theorem N8{l:List (Int×Int)}(h:l[k]?=some e):l.Perm (e::l.eraseIdx k):=by induction l generalizing k with |nil=>simp at h |cons a l i=> cases k with |zero=>simp_all |succ k=> have:=i (k:=k) (by simp_all);exact(List.Perm.cons a this).trans (.swap ..)
theorem Xa(ok:dQ n B d)(j:0<n)(hn:n<=100)(h:oM n S=true):CA [aM (aH n d),.lst (S.map aj)]=.ok (.bl (decide (dc d S<=jQ n d))):=by
  obtain⟨l,len,G⟩:=jj.mp h;obtain⟨k1,L0,l1,l2,l3⟩:=W9 ok j;have fl:aW [.lst (S.map aj)]=some (.int S.length):=by simp
  obtain⟨T,eT⟩:∃T,T=aM (aH n d):=⟨_,rfl⟩;obtain⟨A,t⟩:∃A,A=D.lst (S.map aj):=⟨_,rfl⟩;have i:∀k,eO n (S.eraseIdx k):=fun k p u=>l p (List.mem_of_mem_eraseIdx u);obtain⟨h1,h2⟩:=CV (b:=aG 2) (m:=Cz) D.int (fun _ M=>∃I:Option D,M=[.v T,.v A,sv I]) (fun k=>∃e,S[k.toNat]?=some e/\ux n d (S.eraseIdx k.toNat) e=true) (.bl false) (aX S.length) (by
      rintro pre k Y M X ⟨I,rfl⟩;have E:=aE.mp (show k∈aX S.length by simp_all);have N:k.toNat<S.length:=by lia
      have K:((k.toNat:Nat):Int)=k:=by lia
      obtain⟨e,r⟩:∃e,S[k.toNat]?=some e:=⟨_,bx N⟩;have L:=W5 (d:=d) j hn (i k.toNat) (by rw[vx N];lia) (l e (eg r));rw[<-eT] at L;have c1:dg (ag 1) bG (cz (af 2)) [.v T,.v A,.v (.int k)]=.ok (.lst ((S.map aj).take k.toNat)):=N6 (by rw[t];rfl) (by simp[cz,af,K]) (by grind);have c2:dg (ag 1) (cz (m2 bo (ag 2) (mC (.int 1)))) bG [.v T,.v A,.v (.int k)]=.ok (.lst ((S.map aj).drop (k.toNat+1))):=CY (by rw[t];rfl) (by simp[cz,ag,mC,K]) (by grind);have c3:m2 bU (dg (ag 1) bG (cz (af 2))) (dg (ag 1) (cz (m2 bo (ag 2) (mC (.int 1)))) bG) [.v T,.v A,.v (.int k)]=.ok (.lst ((S.eraseIdx k.toNat).map aj)):=by refine b8 c1 c2 ?_;rw[yA (by grind),List.eraseIdx_eq_take_drop_succ,dC,lR,jU]
      have c4:m2 aw (ag 1) (ag 2) [.v T,.v A,.v (.int k)]=.ok (aj e):=b8 rfl rfl (by rw[t];exact vO E.1 (by simp_all));have U:=iA (vt (f:=Cy) (a:=af 0) (δ:=[.v T,.v A,.v (.int k)]) rfl c3 c4 L);refine⟨[.v T,.v A,.v (.int k)],fF rfl,fun⟨e',w,o⟩=>?_,fun H=>⟨[.v T,.v A,.v (.int k)],?_,some _,rfl⟩⟩;.rw[r] at w;cases w;unfold Cz;rw[gg (by rw[U,o])];rfl
      . have o:ux n d (S.eraseIdx k.toNat) e=false:=by cases q:ux n d (S.eraseIdx k.toNat) e with |false=>rfl |true=>exact absurd ⟨e,r,q⟩ H
        unfold Cz;rw[fM (by rw[U,o])];rfl) [.v T,.v A,.no] ⟨none,rfl⟩;refine jO ?_;rw[<-t] at fl;rw[<-eT,<-t];show aq _ _ [.v T,.v A,.no]=_;have rg:bM (ai (bp aW (ai (ag 1) ae)) ae) [.v T,.v A,.no]=.ok ((aX S.length).map .int):=by have:=kX (show S.length<=1000 by lia);simp[bM,bp,ai,ae,ag,fl,this]
  have Q:Nc [.v T,.v A,.no]=_:=lA rg;by_cases c:∃x∈aX S.length,∃e,S[x.toNat]?=some e/\ux n d (S.eraseIdx x.toNat) e=true
  . have lt:¬dc d S<=jQ n d:=by
      obtain⟨x,hx,e,r,o⟩:=c;obtain⟨a,b,y,o⟩:=nj.mp o;obtain⟨UW,J⟩:=kz.mp o;have:=k1 _ (fun p u=>by
        rcases cD.mp u with z|z;.exact i _ p z
        .rw[bc.mp z];exact⟨⟨by lia,y.2.2⟩,y.1,by lia⟩) J;rw[WL] at this;have e1:dc d S=d e.1 e.2+dc d (S.eraseIdx x.toNat):=by have:=NC (f:=fun p:Int×Int=>d p.1 p.2) (N8 r);simpa[dc] using this
      have e2:dc d [(a,b)]=d a b:=by simp[dc]
      lia
    rw[bf lt];exact kY (Q.trans (h1 c))
  . obtain⟨qR,h3,I,rfl⟩:=h2 c;have le:dc d S<=jQ n d:=by
      rw[<-l3];refine WN ok j l G (by lia) (fun e r a b b0 ba an C s=>c ?_) l1 l2;obtain⟨k,E,ek⟩:=kB r;have Z:S[k]?=some e:=by rw[bx E,ek]
      refine⟨(k:Int),aE.mpr (by lia),e,by rw[nE];exact Z,nj.mpr ⟨a,b,⟨b0,ba,an⟩,kz.mpr ⟨C,s.sub fun p u=>.inl ?_⟩⟩⟩;rw[nE];have pe:(S.erase e).Perm (S.eraseIdx k):=by have:=(N8 Z).erase e;rwa[List.erase_cons_head] at this
      rcases cD.mp u with z|z;.exact dq _ (pe.mem_iff.mp z)
      .exact c7 _ z
    rw[bg le];exact(bA (Q.trans h3)).trans rfl
theorem GZ(h:l.length<64):oi [iL l]=some (iL (eZ l)):=by unfold oi iL;simp[qO,Option.bind];rw[gq h];rfl
theorem yC(l:List Int):fE 8 (iL l)=true:=by show(l.map _).all _=true;rw[f9,d_];intro x _;rfl
theorem N9(h:iL a=iL b):a=b:=by have e:=D.lst.inj h;have:=bT c5 e;rw[qO,qO] at this;simp_all
theorem G0(a b:List Int):ig (iL a) (iL b)=some (.bl (decide (a≠b))):=by
 unfold ig;rw[gq ⟨yC a,yC b⟩];by_cases c:a=b;.rw[@decide_eq_true _ (Classical.propDecidable _) (by rw[c]),bf (fun z=>z c)];rfl
 .rw[@decide_eq_false _ (Classical.propDecidable _) (fun z=>c (N9 z)),bg c];rfl
theorem Xb(l:List Int):(eZ l).Pairwise fun a b=>a<=b:= (mq (fun a b c d e=>by grind) (fun a b=>by grind) l).imp fun h=>by simp_all
theorem Xd(l:List Int):(eZ l).Perm l:=l9 ..
theorem Xe(n:Nat):(aX n).Pairwise fun a b=>a<=b:=by unfold aX;rw[oV];exact List.pairwise_lt_range.imp fun h=>by lia
def b6(n:Nat)(S:List (Int×Int)):List Int:=(aX n).filter (odd (ends S))
theorem Xf(h:odd E x=true):x∈E:=by have:=kK h;apply dO;intro z;rw[List.count_eq_zero_of_not_mem z] at this;lia
theorem G1(h:eO n S):eZ (ik S)=b6 n S:=by
 refine sq (fun a b _ _ c d=>by lia) (Xb _) ((Xe n).sublist List.filter_sublist) ((Xd _).trans ((List.perm_ext_iff_of_nodup (NK S) ((AM n).sublist List.filter_sublist)).mpr fun x=>?_));unfold ik;rw[jV,jV,(vr _).2];constructor;.rintro⟨a,b⟩;exact⟨aE.mpr (jk.mpr h x a),b⟩
 .rintro⟨_,b⟩;exact⟨Xf b,b⟩
theorem G2(h:eO n S):(b6 n S).length%2=0:=by rw[<-G1 h,CU];exact NJ S
theorem CZ(h:x∈b6 n S):0<=x/\x<(n:Int):=aE.mp (jV.mp h).1
theorem G3(n:Nat)(S:List (Int×Int)):(b6 n S).length<=n:=by have:=List.length_filter_le (odd (ends S)) (aX n);rwa[gx] at this
theorem Xg(h:l≠[]):lK (l++[x])=if x<lK l then x else lK l:=by cases l with |nil=>simp_all |cons a l=>show(l++[x]).foldl _ a=_;rw[List.foldl_append];rfl
theorem N_{n:Nat}(h1:1<=n)(a:n<=1000):nq [.int 1,.int n]=some ((List.range (n-1)).map fun j:Nat=>.int ((j+1:Nat):Int)):=by rw[EY (by lia) (by lia)];unfold uP;grind
def G6(T:D)(f:List Int->Int)(rest:List Int)(j:Nat):Int:=j_ T (rest.getD 0 0) (rest.getD (j+1) 0)+f (cV rest (j+1))
theorem Xh(ht:uo T (j_ T) ns):∀(m k:Nat)(rest:List Int),m<k->rest.length=2*m->rest.length<=100->(∀q∈rest,q∈ns)->rF k [T,iL rest]=.ok (.int (lL (j_ T) m rest)):=by intro m;induction m with |zero=> intro k rest hk w _ _;obtain⟨k,rfl⟩:∃j,k=j+1:=⟨k-1,by lia⟩;have e0:rest=[]:=i7.mp (by lia);subst e0;refine jO ?_;show aq _ _ [.v T,.v (iL []),.no,.no,.no]=_;refine kY ?_;rw[gg (iA (b8 (x:=iL []) (y:=iL []) rfl (by simp[aU,ae,sizeLine,iL]) (KQ (yC []) (yC []) rfl)))];rfl |succ m U=>
    intro k rest hk w G f;obtain⟨k,rfl⟩:∃j,k=j+1:=⟨k-1,by lia⟩;have li:aW [iL rest]=some (.int rest.length):=BU rest;obtain⟨v,H⟩:∃v,v=G6 T (lL (j_ T) m) rest:=⟨_,rfl⟩;have g0:rest[0]?=some (rest.getD 0 0):=by rw[bN,bx (by lia)];rfl
    -- one turn
    have A:∀j,j+1<rest.length->∀g d:Sl,m2 bo (m2 aw (m2 aw (ag 0) (m2 aw (ag 1) (mC (.int 0)))) (m2 aw (ag 1) (ag 3))) (bD (rF k) (ai (af 0) (ai (m2 bU (dg (ag 1) (cz (mC (.int 1))) (cz (af 3))) (dg (ag 1) (cz (m2 bo (ag 3) (mC (.int 1)))) bG)) ae))) [.v T,.v (iL rest),g,.v (.int ((j+1:Nat):Int)),d]=.ok (.int (v j)):=fun j B g d=>by
      have M:rest[j+1]?=some (rest.getD (j+1) 0):=by rw[bN,bx B];rfl
      obtain⟨N,w1,S⟩:=ht _ (f _ (eg g0)) _ (f _ (eg M));have i0:aw (iL rest) (.int 0)=some (.int (rest.getD 0 0)):=PM.eL (k:=0) (by simp_all);have Y:aw (iL rest) (.int ((j+1:Nat):Int))=some (.int (rest.getD (j+1) 0)):=PM.eL (by rw[bB,M];rfl);have c1:m2 aw (m2 aw (ag 0) (m2 aw (ag 1) (mC (.int 0)))) (m2 aw (ag 1) (ag 3)) [.v T,.v (iL rest),g,.v (.int ((j+1:Nat):Int)),d]=.ok (.int (j_ T (rest.getD 0 0) (rest.getD (j+1) 0))):= b8 (b8 rfl (b8 rfl rfl i0) w1) (b8 rfl rfl Y) S;have l1:(rest.map D.int).length=rest.length:=aI ..;have h:dg (ag 1) (cz (mC (.int 1))) (cz (af 3)) [.v T,.v (iL rest),g,.v (.int ((j+1:Nat):Int)),d]=.ok (.lst (((rest.drop 1).take j).map .int)):=by have e1:=xb (rest.map D.int).length 0 1 (by lia);have u:HT.eY (rest.map D.int).length 0 (some 1)=1:=e1;have e2:=xb (rest.map D.int).length (rest.map D.int).length (j+1) (by lia);show R.ok (D.lst (cutD (rest.map D.int) (some 1) (some ((j+1:Nat):Int))))=_;unfold cutD;rw[u,e2,oX,lR,jU]
      have Q:dg (ag 1) (cz (m2 bo (ag 3) (mC (.int 1)))) bG [.v T,.v (iL rest),g,.v (.int ((j+1:Nat):Int)),d]=.ok (.lst ((rest.drop (j+1+1)).map .int)):=by rw[jU];exact CY rfl (by rfl) (by lia)
      have c4:m2 bU (dg (ag 1) (cz (mC (.int 1))) (cz (af 3))) (dg (ag 1) (cz (m2 bo (ag 3) (mC (.int 1)))) bG) [.v T,.v (iL rest),g,.v (.int ((j+1:Nat):Int)),d]=.ok (iL (cV rest (j+1))):=by refine b8 h Q ?_;rw[yA (by grind),<-dC];rfl
      have cl:=Fw (rest:=rest) (k:=j+1) (by lia) B;have rc:=U k (cV rest (j+1)) (by lia) (by lia) (by lia) fun q Z=>f q (Ca q Z);refine b8 c1 (jv rfl c4 rc) ?_;rw[tN,H];rfl
    have val:∀a:List Nat,∃o:D,(a=[]->o=.non)/\(a≠[]->o=.int (lK (a.map v))):=fun a=>by
      by_cases c:a=[];.exact⟨.non,fun _=>rfl,fun z=>absurd c z⟩
      .exact⟨_,fun z=>absurd z c,fun _=>rfl⟩
    obtain⟨s,h1,o,t,d,p,e,rfl⟩:=lZ (b:=aG 3) (m:=Np (rF k)) (fun j:Nat=>D.int ((j+1:Nat):Int)) (fun a s=>∃(o:D) (t d:Option D),(a=[]->o=.non)/\(a≠[]->o=.int (lK (a.map v)))/\s=[.v T,.v (iL rest),.v o,sv t,sv d]) (List.range (rest.length-1)) (by
        rintro a j E s l ⟨o,t,d,p,e,rfl⟩;have B:=cF.mp (show j∈List.range (rest.length-1) by rw[l];simp);have i:av (m2 bo (m2 aw (m2 aw (ag 0) (m2 aw (ag 1) (mC (.int 0)))) (m2 aw (ag 1) (ag 3))) (bD (rF k) (ai (af 0) (ai (m2 bU (dg (ag 1) (cz (mC (.int 1))) (cz (af 3))) (dg (ag 1) (cz (m2 bo (ag 3) (mC (.int 1)))) bG)) ae)))) (aG 4) [.v T,.v (iL rest),.v o,.v (.int ((j+1:Nat):Int)),sv d]=.nx [.v T,.v (iL rest),.v o,.v (.int ((j+1:Nat):Int)),.v (.int (v j))]:=cB (A j (by lia) (.v o) (sv d)) (fF rfl);by_cases c:a=[];.have r:=p c;subst r;refine⟨[.v T,.v (iL rest),.v .non,.v (.int ((j+1:Nat):Int)),sv d],[.v T,.v (iL rest),.v (.int (v j)),.v (.int ((j+1:Nat):Int)),.v (.int (v j))],fF rfl,.inl ?_,_,some _,some _,fun z=>by simp at z,fun _=>by rw[c];rfl,rfl⟩;refine(bA i).trans ?_;rw[gg (by rfl)];rfl
        . have r:=e c;subst r;have t2:aV (m2 oLt (ag 4) (ag 2)) [.v T,.v (iL rest),.v (.int (lK (a.map v))),.v (.int ((j+1:Nat):Int)),.v (.int (v j))]=.ok (decide (v j<lK (a.map v))):=by simp[aV,ag]
          have X:aV (m2 tI (ag 2) (mC .non)) [.v T,.v (iL rest),.v (.int (lK (a.map v))),.v (.int ((j+1:Nat):Int)),.v (.int (v j))]=.ok false:=rfl;have K:iU (aV (m2 tI (ag 2) (mC .non))) (aV (m2 oLt (ag 4) (ag 2))) [.v T,.v (iL rest),.v (.int (lK (a.map v))),.v (.int ((j+1:Nat):Int)),.v (.int (v j))]=.ok (decide (v j<lK (a.map v))):=by unfold iU;rw[X,R.aC,ao (by decide),t2]
          have J:lK ((a++[j]).map v)=if v j<lK (a.map v) then v j else lK (a.map v):=by rw[dC];exact Xg (by simpa using c)
          by_cases h:v j<lK (a.map v);.refine⟨[.v T,.v (iL rest),.v (.int (lK (a.map v))),.v (.int ((j+1:Nat):Int)),sv d],[.v T,.v (iL rest),.v (.int (v j)),.v (.int ((j+1:Nat):Int)),.v (.int (v j))],fF rfl,.inl ?_,_,some _,some _,fun z=>by simp at z,fun _=>by rw[J,ak h],rfl⟩;refine(bA i).trans ?_;rw[gg (by rw[K,bg h])];rfl
          .refine⟨[.v T,.v (iL rest),.v (.int (lK (a.map v))),.v (.int ((j+1:Nat):Int)),sv d],[.v T,.v (iL rest),.v (.int (lK (a.map v))),.v (.int ((j+1:Nat):Int)),.v (.int (v j))],fF rfl,.inl ?_,_,some _,some _,fun z=>by simp at z,fun _=>by rw[J,ao h],rfl⟩;refine(bA i).trans ?_;rw[fM (by rw[K,bf h])];rfl) [.v T,.v (iL rest),.v .non,.no,.no] ⟨.non,none,none,fun _=>rfl,fun z=>absurd rfl z,rfl⟩;have r:=e (by simp;lia);subst r;refine jO ?_;show aq _ _ [.v T,.v (iL rest),.no,.no,.no]=_;have ne:iL rest≠iL []:=fun z=>by rw[N9 z] at w;simp at w
    have q0:a_ (aV (m2 gr (ag 1) (aU ae))) (aT (mC (.int 0))) cU [.v T,.v (iL rest),.no,.no,.no]=.nx [.v T,.v (iL rest),.no,.no,.no]:=by
      have oe:gr (iL rest) (iL [])=some (.bl false):=by unfold gr;rw[gq ⟨yC _,yC _⟩,@decide_eq_false _ (Classical.propDecidable _) ne]
      rw[fM (iA (b8 (x:=iL rest) (y:=iL []) rfl (by simp[aU,ae,sizeLine,iL]) oe))];rfl
    have i:av (mC .non) (aG 2) [.v T,.v (iL rest),.no,.no,.no]=.nx [.v T,.v (iL rest),.v .non,.no,.no]:=rfl;have rg:bM (ai (mC (.int 1)) (ai (bp aW (ai (ag 1) ae)) ae)) [.v T,.v (iL rest),.v .non,.no,.no]=.ok ((List.range (rest.length-1)).map fun j:Nat=>.int ((j+1:Nat):Int)):=by have:=N_ (n:=rest.length) (by lia) (by lia);simp only[bM,ai,ae,mC,bp,ag,ec,c6,R.aC,li,R.bj,this]
    have q2:Nq (rF k) [.v T,.v (iL rest),.v .non,.no,.no]=_:=(lA rg).trans h1;refine(bA q0).trans ((bA i).trans ((bA q2).trans ?_));show O.rt (.int (lK ((List.range (rest.length-1)).map v)))=_;rw[H];rfl
theorem Xi(a:uo T (j_ T) ns)(c:ns.length%2=0)(b:ns.length<=14):tZ [T,iL ns]=.ok (.int (lL (j_ T) (ns.length/2) ns)):= Xh a _ 8 _ (by lia) (by lia) (by lia) fun _ h=>h
theorem Xj(c:uo T (j_ T) ns)(b:ns.length%2=0)(a:ns.length<=12):yw [T,iL ns]=.ok (.int (lL (j_ T) (ns.length/2) ns)):=by show(match c5 _ with|some _=>dt _ (PM.R.ok _) _|none=>.no)=_;rw[qO];simp_all
def qv(T:D)(n:Nat)(S:List (Int×Int)):Int:=lL (j_ T) ((b6 n S).length/2) (b6 n S)
def xu(T:D)(n:Nat)(d:Int->Int->Int)(S P:List (Int×Int)):D:=if eZ (ends P)≠b6 n S then .str "pairs" else if qv T n S<dc d P then .str "fewer" else .non
def wd(T:D)(n:Nat)(d:Int->Int->Int)(w:List Int)(S P:List (Int×Int)):D:= if eZ w≠aX n then .str "round" else if oM n S=false then .str "tree" else if jQ n d<dc d S then .str "shorter" else if eZ (ends P)≠b6 n S then .str "pairs" else if qv T n S<dc d P then .str "fewer" else if dc d S+dc d P<sh d w then .str "share" else .non
theorem Xk(T:D)(n:Nat)(d:Int->Int->Int)(w:List Int)(S P:List (Int×Int)):wd T n d w S P=.non\/∃x,wd T n d w S P=.str x:=by
 unfold wd;repeat' split
 all_goals simp_all
theorem G7(h:eZ (ends P)=b6 n S):eO n P:=jk.mp fun q b=>by
 have:q∈b6 n S:=by rw[<-h];exact kv.mpr b
 exact CZ this
theorem Xl(hn:n<=12)(hS:eO n S)(sl:S.length<=30)(pl:P.length<=30):AI [aM (aH n d),.lst (S.map aj),.lst (P.map aj)]=.ok (xu (aM (aH n d)) n d S P):=by
  have K:aW [aM (aH n d)]=some (.int n):=uv;have J:uo (aM (aH n d)) (j_ (aM (aH n d))) (b6 n S):=GL fun q X=>CZ X;have ol:=G3 n S;have z:∀(h:eZ (ends P)=b6 n S),qU [aM (aH n d),.lst (P.map aj)]=.ok (.int (dc d P)):=fun h=>GX (by lia) (G7 h);have pq:=Xi J (G2 hS) (by lia);unfold xu qv;obtain⟨T,L⟩:∃T,T=aM (aH n d):=⟨_,rfl⟩;obtain⟨A,C⟩:∃A,A=D.lst (S.map aj):=⟨_,rfl⟩;obtain⟨B,w⟩:∃B,B=D.lst (P.map aj):=⟨_,rfl⟩;rw[<-L] at K J z pq⊢;have s:∀(a:List (Int×Int))(p:Int×Int),a.length<=30->bU (iL (ends a)) (.lst [.int p.1,.int p.2])=some (iL (ends (a++[p]))):=fun a p h=>by unfold iL;rw[yA (by rw[aI,vZ];simp;lia),N1,dC];rfl
  obtain⟨i,h1,g,f,rfl⟩:=lZ (b:=dn 2 (dv (aG 4) (dv (aG 5) dG))) (m:=Nr) aj (fun a i=>∃g f:Option D,i=[.v T,.v A,.v B,.v (iL (ends a)),sv g,sv f,.no,.no]) S (by
      rintro a p r i k ⟨g,f,rfl⟩;have l:a.length<=30:=by have:=bT List.length k;rw[bO] at this;lia
      refine⟨[.v T,.v A,.v B,.v (iL (ends a)),.v (.int p.1),.v (.int p.2),.no,.no],[.v T,.v A,.v B,.v (iL (ends (a++[p]))),.v (.int p.1),.v (.int p.2),.no,.no],?_,.inl ?_,some _,some _,rfl⟩;.rcases g with _|g<;>rcases f with _|f<;>rfl
      .exact cB (b8 (y:=.lst [.int p.1,.int p.2]) rfl (by simp[aU,ai,ae,af,sizeLine]) (s a p l)) rfl) [.v T,.v A,.v B,.v (iL (ends [])),.no,.no,.no,.no] ⟨none,none,rfl⟩;obtain⟨i,h2,p6,p7,rfl⟩:=lZ (b:=dn 2 (dv (aG 4) (dv (aG 5) dG))) (m:=Nu) aj (fun a i=>∃t u:Option D,i=[.v T,.v A,.v B,.v (iL (ends S)),sv t,sv u,.v (iL (b6 n S)),.v (iL (ends a))]) P (by
      rintro a p r i k ⟨g,f,rfl⟩;have l:a.length<=30:=by have:=bT List.length k;rw[bO] at this;lia
      refine⟨[.v T,.v A,.v B,.v (iL (ends S)),.v (.int p.1),.v (.int p.2),.v (iL (b6 n S)),.v (iL (ends a))],[.v T,.v A,.v B,.v (iL (ends S)),.v (.int p.1),.v (.int p.2),.v (iL (b6 n S)),.v (iL (ends (a++[p])))],?_,.inl ?_,some _,some _,rfl⟩;.rcases g with _|g<;>rcases f with _|f<;>rfl
      .exact cB (b8 (y:=.lst [.int p.1,.int p.2]) rfl (by simp[aU,ai,ae,af,sizeLine]) (s a p l)) rfl) [.v T,.v A,.v B,.v (iL (ends S)),sv g,sv f,.v (iL (b6 n S)),.v (iL (ends []))] ⟨g,f,rfl⟩;have f2:fc 2:=dH 100 (by decide);have k1:Gp [.v T,.v A,.v B,.v (iL (ends S)),sv g,sv f,.no,.no]=.ok (iL (b6 n S)):=by
    have rg:bM (ai (bp aW (ai (ag 0) ae)) ae) [.v T,.v A,.v B,.v (iL (ends S)),sv g,sv f,.no,.no]=.ok ((aX n).map .int):=by have:=kX (show n<=1000 by lia);simp only[bM,bp,ai,ae,ag,c6,R.aC,K,R.bj,this]
    refine oI rg (by rw[aI,gx];lia) ?_;have e:eJ [.v T,.v A,.v B,.v (iL (ends S)),sv g,sv f,.no,.no] [3] 1=[.v (iL (ends S)),.no]:=rfl;rw[e];refine We .int (odd (ends S)) .int (aX n) fun x _=>?_;have oc:xn (iL (ends S)) (.int x)=some (.int ((ends S).count x:Nat)):=by unfold xn iL;simp only[qO,Option.bind]
    have U:Av (ag 0) (af 1) [.v (iL (ends S)),.v (.int x)]=.ok (.int ((ends S).count x:Nat)):=by unfold Av;show R.bind (R.ok (D.int x)) (fun y=>R.of (xn (iL (ends S)) y))=_;simp_all
    have Q:aV (m2 oEq (m2 oMod (Av (ag 0) (af 1)) (mC (.int 2))) (mC (.int 1))) [.v (iL (ends S)),.v (.int x)]=.ok (odd (ends S) x):=by refine iA (b8 (b8 U rfl (lz (by decide))) rfl ?_);rw[rZ];congr 2;unfold odd;rw[kJ];lia
    have Y:eD 1 (.int x) [.v (iL (ends S)),.no]=some [.v (iL (ends S)),.v (.int x)]:=rfl;simp only[jN,Y,Q,R.aC];cases odd (ends S) x<;>rfl
  refine jO ?_;rw[<-C,<-w];show aq _ _ [.v T,.v A,.v B,.no,.no,.no,.no,.no]=_;have q1:av (aU ae) (aG 3) [.v T,.v A,.v B,.no,.no,.no,.no,.no]=.nx [.v T,.v A,.v B,.v (iL (ends [])),.no,.no,.no,.no]:=cB (d:=.lst []) (by simp[aU,ae,sizeLine]) rfl;have N:Nt [.v T,.v A,.v B,.v (iL (ends [])),.no,.no,.no,.no]=_:=(lA (l:=S.map aj) (by rw[C];rfl)).trans h1;have q3:av Gp (aG 6) [.v T,.v A,.v B,.v (iL (ends S)),sv g,sv f,.no,.no]=.nx [.v T,.v A,.v B,.v (iL (ends S)),sv g,sv f,.v (iL (b6 n S)),.no]:=cB k1 (by rcases g with _|g<;>rcases f with _|f<;>rfl);have t:av (aU ae) (aG 7) [.v T,.v A,.v B,.v (iL (ends S)),sv g,sv f,.v (iL (b6 n S)),.no]=.nx [.v T,.v A,.v B,.v (iL (ends S)),sv g,sv f,.v (iL (b6 n S)),.v (iL (ends []))]:=cB (d:=.lst []) (by simp[aU,ae,sizeLine]) (by rcases g with _|g<;>rcases f with _|f<;>rfl);have u:Nv [.v T,.v A,.v B,.v (iL (ends S)),sv g,sv f,.v (iL (b6 n S)),.v (iL (ends []))]=_:=(lA (l:=P.map aj) (by rw[w];rfl)).trans h2;refine(bA q1).trans ((bA N).trans ((bA q3).trans ((bA t).trans ((bA u).trans ?_))));obtain⟨i,j⟩:∃i:En,i=[.v T,.v A,.v B,.v (iL (ends S)),sv p6,sv p7,.v (iL (b6 n S)),.v (iL (ends P))]:=⟨_,rfl⟩;rw[<-j];have r7:ag 7 i=.ok (iL (ends P)):=by rw[j];rfl
  have r6:ag 6 i=.ok (iL (b6 n S)):=by rw[j];rfl
  have G:af 0 i=.ok T:=by rw[j];rfl
  have v2:af 2 i=.ok B:=by rw[j];rfl
  have v6:af 6 i=.ok (iL (b6 n S)):=by rw[j];rfl
  have H:aV (m2 ig (bp oi (ai (ag 7) ae)) (ag 6)) i=.ok (decide (eZ (ends P)≠b6 n S)):=by refine iA (b8 (x:=iL (eZ (ends P))) ?_ r6 (G0 _ _));simp only[bp,ai,ae,r7,R.aC,GZ (show(ends P).length<64 by rw[vZ];lia),R.bj]
  by_cases c:eZ (ends P)≠b6 n S;.rw[ak c];refine kY ?_;rw[gg (by rw[H,bg c])];rfl
  rw[ao c];have Z:eZ (ends P)=b6 n S:=dO c;have z1:a_ (aV (m2 ig (bp oi (ai (ag 7) ae)) (ag 6))) (aT (mC (.str "pairs"))) cU i=.nx i:=by rw[fM (by rw[H,bf c])];rfl
  refine(bA z1).trans ?_;have E:=z Z;rw[<-w] at E;have I:aV (m2 n6 (bD qU (ai (af 0) (ai (af 2) ae))) (bD tZ (ai (af 0) (ai (af 6) ae)))) i=.ok (decide (lL (j_ T) ((b6 n S).length/2) (b6 n S)<dc d P)):=iA (b8 (jv G v2 E) (jv G v6 pq) (wR _ _));by_cases e:lL (j_ T) ((b6 n S).length/2) (b6 n S)<dc d P;.rw[ak e];refine kY ?_;rw[gg (by rw[I,bg e])];rfl
  . rw[ao e];have M:a_ (aV (m2 n6 (bD qU (ai (af 0) (ai (af 2) ae))) (bD tZ (ai (af 0) (ai (af 6) ae))))) (aT (mC (.str "fewer"))) cU i=.nx i:=by rw[fM (by rw[I,bf e])];rfl
    exact(bA M).trans rfl
theorem Xm(d:Int->Int->Int)(h:l≠[]):((List.range l.length).map fun k=>d (l.getD k 0) (l.getD ((k+1)%l.length) 0)).sum=sh d l:=by
 rcases sC l with e|⟨b,w,e⟩;.simp_all
 rw[su] at e;have c:l.length=b.length+1:=by simp_all
 have i:l.getD 0 0=(b++[w]).headD 0:=by rw[e];cases b<;>rfl
 have j:l.getD b.length 0=w:=by simp_all
 have a:path d l=((List.range b.length).map fun k=>d (l.getD k 0) (l.getD (k+1) 0)).sum:=by rw[<-GR,GS,c];unfold dc;rw[bX];rfl
 have f:=NZ d b w;rw[<-e] at f;rw[f,c,List.range_succ,dC,List.sum_append,a];congr 1;.congr 1;refine i9 fun k g=>?_;have:=cF.mp g;rw[Nat.mod_eq_of_lt (by lia)]
 .show d _ _+0=_;rw[Nat.mod_self,j,i,Int.add_zero,e]
theorem Xn{n:Nat}(u:l≠[])(L:l.length<=100)(c:∀v∈l,0<=v/\v<(n:Int)):AJ [aM (aH n d),iL l]=.ok (.int (sh d l)):=by
 obtain⟨T,q⟩:∃T,T=aM (aH n d):=⟨_,rfl⟩;have h:∀a:Int,0<=a->a<n->aw T (.int a)=some (iL ((aX n).map (d a))):=fun a A z=>by rw[q];exact t6 A z
 rw[<-q];have E:0<l.length:=nN.mpr u;have w:aW [iL l]=some (.int l.length):=BU l;have G:x5 (ai (ag 1) ae) [.v T,.v (iL l)]=.ok ((List.range l.length).map fun k:Nat=>.tup [.int k,.int (l.getD k 0)]):=by
  show R.of (some (uR (l.map D.int)))=_;rw[KP,R.bj];congr 1;apply nJ;intro i;by_cases K:i<l.length;.simp_all
  simp_all
 have x:Nw [.v T,.v (iL l)]=.ok (iL ((List.range l.length).map fun k=>d (l.getD k 0) (l.getD ((k+1)%l.length) 0))):=by
  have m:iL ((List.range l.length).map fun k=>d (l.getD k 0) (l.getD ((k+1)%l.length) 0))=.lst ((List.range l.length).map fun k=>.int (d (l.getD k 0) (l.getD ((k+1)%l.length) 0))):=by unfold iL;simp
  rw[m];refine oI G (by grind) ?_;have e:eJ [.v T,.v (iL l)] [0,1] 2=[.v T,.v (iL l),.no,.no]:=rfl;rw[e];refine qP (fun k:Nat=>.tup [.int k,.int (l.getD k 0)]) _ _ fun k B=>?_;have J:=cF.mp B;have p:(k+1)%l.length<l.length:=Nat.mod_lt _ E;have g:∀j,j<l.length->l.getD j 0∈l:=fun j y=>by rw[bN,bx y];simp
  have o:=c _ (g k J);have m1:=c _ (g _ p);have t:=h _ o.1 o.2;have r:=lB (n:=n) (f:=d (l.getD k 0)) m1.1 m1.2;have H:=GU (l:=l) p;have I:((k:Int)+1)%(l.length:Int)=(((k+1)%l.length:Nat):Int):=by rfl
  have C:=lz (i:=(k:Int)+1) (j:=(l.length:Int)) (by lia);have b:dn 2 (dv (eD 2) (dv (eD 3) dG)) (.tup [.int k,.int (l.getD k 0)]) [.v T,.v (iL l),.no,.no]=some [.v T,.v (iL l),.v (.int k),.v (.int (l.getD k 0))]:=rfl;simp only[jN,b];simp only[oG,ag,mC,bp,ai,ae,ec,c6,R.aC,R.bj,t,w,tN,C,I,H,r,R.jK]
 refine jO ?_;show aT _ [.v T,.v (iL l)]=_;have s:=NA ((List.range l.length).map fun k=>d (l.getD k 0) (l.getD ((k+1)%l.length) 0));rw[Xm d u] at s;simp only[aT,bp,ai,ae,x,R.aC,s];rfl
theorem Oa(c:0<n)(h:eZ w=aX n):w≠[]/\w.length=n/\∀v∈w,0<=v/\v<(n:Int):=by
 have l:=by have:=bT List.length h;rwa[CU,gx] at this
 refine⟨fun e=>by simp_all,l,fun v b=>?_⟩;have:v∈aX n:=by rw[<-h];exact kv.mpr b
 exact aE.mp this
theorem Ob {δ : En} {i n : Nat} {w : List Int} (hw : w.length < 64) (hi : ag i δ = .ok (iL w)) {ml : En → PM.R D} (hl : ml δ = .ok (iL (aX n))) : aV (m2 ig (bp oi (ai (ag i) ae)) ml) δ = .ok (decide (eZ w ≠ aX n)) := by
  refine iA (b8 ?_ hl (G0 _ _))
  simp [bp, ai, ae, hi, R.aC, GZ hw, R.bj]
theorem Xo(E:dQ n B d)(j:0<n)(hn:n<=7)(wl:w.length<64)(sl:S.length<=30)(pl:P.length<=30): sf [aM (aH n d),iL w,.lst (S.map aj),.lst (P.map aj)]=.ok (wd (aM (aH n d)) n d w S P):=by
 have e:=GD (show n<=100 by lia) E;have L:aW [aM (aH n d)]=some (.int n):=uv;have I:=W3 j (show n<=100 by lia) (R:=S) (by lia);have s:=fun h=>Xa E j (show n<=100 by lia) (S:=S) h;have u:=GK (R:=S) sl;have M:=N2 (R:=P) (by lia);have r:eO n P->vY [aM (aH n d),.lst (P.map aj)]=.ok (.int (dc d P)):=fun h=>GQ (by lia) h;have t:eO n S->vY [aM (aH n d),.lst (S.map aj)]=.ok (.int (dc d S)):=fun h=>GQ (by lia) h;have U:eZ w=aX n->AG [aM (aH n d),iL w]=.ok (.int (sh d w)):=fun h=>let⟨a,b,c⟩:=Oa j h;WY E a (by lia) c;have J:eO n S->yw [aM (aH n d),iL (b6 n S)]=.ok (.int (qv (aM (aH n d)) n S)):=fun h=>Xj (GL fun q hq=>CZ hq) (G2 h) (by have:=G3 n S;lia);obtain⟨T,eT⟩:∃T,T=aM (aH n d):=⟨_,rfl⟩;obtain⟨A,eA⟩:∃A,A=D.lst (S.map aj):=⟨_,rfl⟩;obtain⟨C,Y⟩:∃C,C=D.lst (P.map aj):=⟨_,rfl⟩;rw[<-eT] at e L s r t U J⊢;rw[<-eA] at I s u t⊢;rw[<-Y] at M r⊢;refine jO ?_;show aq _ _ [.v T,.v (iL w),.v A,.v C,.no,.no]=_;have Z:mW (iV se (ai (af 0) ae)) [.v T,.v (iL w),.v A,.v C,.no,.no]=.nx [.v T,.v (iL w),.v A,.v C,.no,.no]:=by simp[mW,iV,ai,ae,af,e]
 refine(bA Z).trans ?_;have Q:∀p:En,ag 0 p=.ok T->bp aW (ai (ag 0) ae) p=.ok (.int n):=fun p h=>by simp only[bp,ai,ae,h,R.aC,L,R.bj]
 unfold wd;have t1:=Ob (n:=n) (δ:=[.v T,.v (iL w),.v A,.v C,.no,.no]) (i:=1) wl rfl (ml:=oJ (ai (bp aW (ai (ag 0) ae)) ae)) (by simp only[oJ,ai,ae,Q _ (show ag 0 [.v T,.v (iL w),.v A,.v C,.no,.no]=.ok T from rfl),R.aC,AN (show n<=1000 by lia),R.bj]);by_cases z:eZ w≠aX n;.rw[ak z];refine kY ?_;rw[gg (by simp_all)];rfl
 rw[ao z];refine(bA ((fM (by simp_all)).trans rfl)).trans ?_;have y:eZ w=aX n:=dO z;have t2:iO (aV (bD Cw (ai (bp aW (ai (ag 0) ae)) (ai (af 2) ae)))) [.v T,.v (iL w),.v A,.v C,.no,.no]=.ok (!oM n S):=yz (iA (jv (Q _ rfl) rfl I));by_cases G:oM n S=false;.rw[ak G];refine kY ?_;rw[gg (by simp_all)];rfl
 have f:oM n S=true:=by simp_all
 rw[ao G];refine(bA ((fM (by rw[t2,f];rfl)).trans rfl)).trans ?_;have g:=(jj.mp f).1;have H:iO (aV (bD CA (ai (af 0) (ai (af 2) ae)))) [.v T,.v (iL w),.v A,.v C,.no,.no]=.ok (!decide (dc d S<=jQ n d)):=yz (iA (jv rfl rfl (s f)));by_cases N:jQ n d<dc d S;.rw[ak N];refine kY ?_;rw[gg (by rw[H,bf (by lia)];rfl)];rfl
 rw[ao N];refine(bA ((fM (by rw[H,bg (by lia)];rfl)).trans rfl)).trans ?_;rw[G1 g] at u;have q4:av (bD rE (ai (af 2) ae)) (aG 4) [.v T,.v (iL w),.v A,.v C,.no,.no]=.nx [.v T,.v (iL w),.v A,.v C,.v (iL (b6 n S)),.no]:=cB (xt rfl u) rfl;refine(bA q4).trans ?_;have t5:aV (m2 ig (bp oi (ai (bD yu (ai (af 3) ae)) ae)) (ag 4)) [.v T,.v (iL w),.v A,.v C,.v (iL (b6 n S)),.no]=.ok (decide (eZ (ends P)≠b6 n S)):=by exact iA (b8 (x:=iL (eZ (ends P))) (t9 (xt rfl M) (GZ (by rw[vZ];lia))) rfl (G0 _ _))
 by_cases o:eZ (ends P)≠b6 n S;.rw[ak o];refine kY ?_;rw[gg (by simp_all)];rfl
 rw[ao o];refine(bA ((fM (by rw[t5,bf o])).trans rfl)).trans ?_;have k:=G7 (dO o:eZ (ends P)=b6 n S);have q6:av (bD vY (ai (af 0) (ai (af 3) ae))) (aG 5) [.v T,.v (iL w),.v A,.v C,.v (iL (b6 n S)),.no]=.nx [.v T,.v (iL w),.v A,.v C,.v (iL (b6 n S)),.v (.int (dc d P))]:=cB (jv rfl rfl (r k)) rfl;refine(bA q6).trans ?_;have K:aV (m2 n6 (ag 5) (bD yw (ai (af 0) (ai (af 4) ae)))) [.v T,.v (iL w),.v A,.v C,.v (iL (b6 n S)),.v (.int (dc d P))]=.ok (decide (qv T n S<dc d P)):=iA (b8 rfl (jv rfl rfl (J g)) (wR _ _));by_cases l:qv T n S<dc d P;.rw[ak l];refine kY ?_;rw[gg (by rw[K,bg l])];rfl
 rw[ao l];refine(bA ((fM (by rw[K,bf l])).trans rfl)).trans ?_;have X:aV (m2 n6 (bD AG (ai (af 0) (ai (af 1) ae))) (m2 bo (bD vY (ai (af 0) (ai (af 2) ae))) (ag 5))) [.v T,.v (iL w),.v A,.v C,.v (iL (b6 n S)),.v (.int (dc d P))]=.ok (decide (dc d S+dc d P<sh d w)):= iA (b8 (jv rfl rfl (U y)) (b8 (jv rfl rfl (t g)) rfl (tN _ _)) (wR _ _));by_cases m:dc d S+dc d P<sh d w;.rw[ak m];refine kY ?_;rw[gg (by rw[X,bg m])];rfl
 rw[ao m];exact(bA ((fM (by rw[X,bf m])).trans rfl)).trans rfl
theorem Xp(f:0<n)(K:n<=7)(M:w.length<64)(J:S.length<=30)(pl:P.length<=30): AK [aM (aH n d),iL w,.lst (S.map aj),.lst (P.map aj)]=.ok (wd (aM (aH n d)) n d w S P):=by
 have E:aW [aM (aH n d)]=some (.int n):=uv;have G:=W4 f (show n<=100 by omega) (S:=S) (by omega);have x:=W_ (d:=d) f K;have q:eO n S->AI [aM (aH n d),.lst (S.map aj),.lst (P.map aj)]=.ok (xu (aM (aH n d)) n d S P):=fun h=>Xl (by lia) h J pl;have t:eO n P->qU [aM (aH n d),.lst (P.map aj)]=.ok (.int (dc d P)):=fun h=>GX (by omega) h;have o:eO n S->qU [aM (aH n d),.lst (S.map aj)]=.ok (.int (dc d S)):=fun h=>GX (by omega) h;have B:eZ w=aX n->AJ [aM (aH n d),iL w]=.ok (.int (sh d w)):=fun h=>let⟨a,b,c⟩:=Oa f h;Xn a (by omega) c;obtain⟨T,N⟩:∃T,T=aM (aH n d):=⟨_,rfl⟩;obtain⟨A,U⟩:∃A,A=D.lst (S.map aj):=⟨_,rfl⟩;obtain⟨C,Q⟩:∃C,C=D.lst (P.map aj):=⟨_,rfl⟩;rw[<-N] at E x q t o B⊢;rw[<-U] at G q o⊢;rw[<-Q] at q t⊢;refine jO ?_;show aq _ _ [.v T,.v (iL w),.v A,.v C,.no,.no]=_;have I:av (bp aW (ai (ag 0) ae)) (aG 4) [.v T,.v (iL w),.v A,.v C,.no,.no]=.nx [.v T,.v (iL w),.v A,.v C,.v (.int n),.no]:=cB (d:=.int n) (by simp[bp,ai,ae,ag,E]) rfl;refine(bA I).trans ?_;unfold wd;have X:=Ob (n:=n) (δ:=[.v T,.v (iL w),.v A,.v C,.v (.int n),.no]) (i:=1) M rfl (ml:=oJ (ai (af 4) ae)) (by simp only[oJ,ai,ae,af,ec,c6,R.aC,AN (show n<=1000 by omega),R.bj]);by_cases s:eZ w≠aX n;.rw[ak s];refine kY ?_;rw[gg (by simp_all)];rfl
 rw[ao s];refine(bA ((fM (by simp_all)).trans rfl)).trans ?_;have u:eZ w=aX n:=dO s;have Y:iO (aV (bD CD (ai (af 2) (ai (af 4) ae)))) [.v T,.v (iL w),.v A,.v C,.v (.int n),.no]=.ok (!oM n S):=yz (iA (jv rfl rfl G));by_cases y:oM n S=false;.rw[ak y];refine kY ?_;rw[gg (by simp_all)];rfl
 have r:oM n S=true:=by simp_all
 rw[ao y];refine(bA ((fM (by simp_all)).trans rfl)).trans ?_;have g:=(jj.mp r).1;have z:aV (m2 n6 (bD qU (ai (af 0) (ai (af 2) ae))) (bD CG (ai (af 0) ae))) [.v T,.v (iL w),.v A,.v C,.v (.int n),.no]=.ok (decide (jQ n d<dc d S)):=iA (b8 (jv rfl rfl (o g)) (xt rfl x) (wR _ _));by_cases p:jQ n d<dc d S;.rw[ak p];refine kY ?_;rw[gg (by rw[z,bg p])];rfl
 rw[ao p];refine(bA ((fM (by rw[z,bf p])).trans rfl)).trans ?_;have L:av (bD AI (ai (af 0) (ai (af 2) (ai (af 3) ae)))) (aG 5) [.v T,.v (iL w),.v A,.v C,.v (.int n),.no]=.nx [.v T,.v (iL w),.v A,.v C,.v (.int n),.v (xu T n d S P)]:=cB (vt rfl rfl rfl (q g)) rfl;refine(bA L).trans ?_;by_cases j:eZ (ends P)≠b6 n S;.rw[ak j];have e:xu T n d S P=.str "pairs":=ak j;rw[e];refine kY ?_;rw[gg (by rfl)];rfl
 rw[ao j];have k:=G7 (dO j:eZ (ends P)=b6 n S);by_cases l:qv T n S<dc d P;.rw[ak l];have e:xu T n d S P=.str "fewer":=(ao j).trans (ak l);rw[e];refine kY ?_;rw[gg (by rfl)];rfl
 rw[ao l];have e:xu T n d S P=.non:=(ao j).trans (ao l);rw[e];refine(bA ((fM (by rfl)).trans rfl)).trans ?_;have H:aV (m2 n6 (bD AJ (ai (af 0) (ai (af 1) ae))) (m2 bo (bD qU (ai (af 0) (ai (af 2) ae))) (bD qU (ai (af 0) (ai (af 3) ae))))) [.v T,.v (iL w),.v A,.v C,.v (.int n),.v .non]=.ok (decide (dc d S+dc d P<sh d w)):= iA (b8 (jv rfl rfl (B u)) (b8 (jv rfl rfl (o g)) (jv rfl rfl (t k)) (tN _ _)) (wR _ _));by_cases m:dc d S+dc d P<sh d w;.rw[ak m];refine kY ?_;rw[gg (by rw[H,bg m])];rfl
 rw[ao m];exact(bA ((fM (by rw[H,bf m])).trans rfl)).trans rfl
theorem G8(h:e a=.ok x):gR e a=.ro x:=by unfold gR;simp_all
theorem rK(b:t a=.ok true)(h:e a=.ok x):aq (a_ t (gR e) cU) m a=.ro x:=GC ((gg b).trans (G8 h))
theorem oN(c:t b=.ok false):aq (a_ t a cU) m b=m b:=bA ((fM c).trans rfl)
section
variable{α:Type}{enc:α->D}{l:List α}{δ:En}{k:Int}
theorem G9(h0:ag 0 δ=.ok (.lst (l.map enc)))(h3:af 3 δ=.ok (.int k))(k0:0<=k)(k1:k.toNat<l.length):dg (ag 0) bG (cz (af 3)) δ=.ok (.lst ((l.take k.toNat).map enc)):=by rw[lR];refine N6 h0 ?_ (by grind);unfold cz;rw[h3];show R.ok _=_;rw[show(k.toNat:Int)=k by lia]
theorem Oc(h0:ag 0 δ=.ok (.lst (l.map enc)))(h3:af 3 δ=.ok (.int k))(k0:0<=k)(k1:k.toNat<l.length):dg (ag 0) (cz (af 3)) bG δ=.ok (.lst ((l.drop k.toNat).map enc)):=by rw[jU];refine CY h0 ?_ (by grind);unfold cz;rw[h3];show R.ok _=_;rw[show(k.toNat:Int)=k by omega]
theorem G_(h0:ag 0 δ=.ok (.lst (l.map enc)))(h3:ag 3 δ=.ok (.int k))(k0:0<=k)(k1:k.toNat<l.length):dg (ag 0) (cz (m2 bo (ag 3) (mC (.int 1)))) bG δ=.ok (.lst ((l.drop (k.toNat+1)).map enc)):=by rw[jU];refine CY h0 ?_ (by grind);unfold cz;rw[b8 h3 rfl rfl];show R.ok _=_;rw[show(k.toNat+1:Nat)=k+1 by lia]
theorem oB{a b:List α}(d:x δ=.ok (.lst (a.map enc)))(c:y δ=.ok (.lst (b.map enc)))(h:a.length+b.length<=1000):m2 bU x y δ=.ok (.lst ((a++b).map enc)):=by refine b8 d c ?_;rw[yA (by rw[aI,aI];lia),dC]
theorem qx(h:x δ=.ok (enc a)):aU (ai x ae) δ=.ok (.lst ([a].map enc)):=by unfold aU ai ae;rw[h];exact gq (by show 1<=sizeLine;decide)
end
theorem fY {δ : En} {z j : Int} (h : ag 1 δ = .ok (.int z)) : aV (m2 oEq (m2 oMod (ag 1) (mC (.int 8))) (mC (.int j))) δ = .ok (decide (z % 8 = j)) := iA (b8 (b8 h rfl (lz (by decide))) rfl (rZ _ _))
theorem rL {δ : En} {z j : Int} (h : ag 1 δ = .ok (.int z)) : aV (m2 oEq (m2 oMod (ag 1) (mC (.int 5))) (mC (.int j))) δ = .ok (decide (z % 5 = j)) := iA (b8 (b8 h rfl (lz (by decide))) rfl (rZ _ _))
theorem dm {δ : En} {z q m : Int} {b : En → PM.R D} (h : ag 1 δ = .ok (.int z)) (q0 : 0 < q) (q1 : q ≤ 1000) (hb : b δ = .ok (.int m)) (m0 : 0 < m) : m2 oMod (m2 oDiv (ag 1) (mC (.int q))) b δ = .ok (.int (z / q % m)) :=
  b8 (b8 h rfl (um q0 (dH 1000 (by lia)))) hb (lz m0)
theorem Ha(h0:0<=k)(h1:k.toNat<n):gm n k=some k.toNat:=by unfold gm;simp_all
theorem Xq(U:w≠[])(wl:w.length<=40):∃w':List Int,w'.length<=w.length+1/\Cs [iL w,.int z,.int n]=.ok (iL w'):=by
  have l0:0<w.length:=nN.mpr U;have S:aW [iL w]=some (.int w.length):=BU w;obtain⟨a,u⟩:∃a,a=z/8%(w.length:Int):=⟨_,rfl⟩;obtain⟨o,y⟩:∃o,o=z/64%(w.length:Int):=⟨_,rfl⟩;have l:0<=a:=by rw[u];exact nz _ (by lia)
  have a1:a<w.length:=by rw[u];exact oz _ (by lia)
  have H:0<=o:=by rw[y];exact nz _ (by lia)
  have o1:o<w.length:=by rw[y];exact oz _ (by lia)
  have s:=uu (L:=w) H (by lia);have ia:=uu (L:=w) l (by lia);suffices r:∃w':List Int,w'.length<=w.length+1/\Gi [.v (iL w),.v (.int z),.v (.int n),.no,.no,.no]=.ro (iL w') by obtain⟨w',h1,h2⟩:=r;exact⟨w',h1,qQ h2⟩
  have fl:∀c:En,ag 0 c=.ok (iL w)->bp aW (ai (ag 0) ae) c=.ok (.int w.length):=fun c h=>t9 h S;have Q:av (m2 oMod (m2 oDiv (ag 1) (mC (.int 8))) (bp aW (ai (ag 0) ae))) (aG 3) [.v (iL w),.v (.int z),.v (.int n),.no,.no,.no]=.nx [.v (iL w),.v (.int z),.v (.int n),.v (.int a),.no,.no]:=cB (d:=.int a) (by rw[u];exact dm rfl (by decide) (by decide) (fl _ rfl) (by lia)) rfl;have E:av (m2 oMod (m2 oDiv (ag 1) (mC (.int 64))) (bp aW (ai (ag 0) ae))) (aG 4) [.v (iL w),.v (.int z),.v (.int n),.v (.int a),.no,.no]=.nx [.v (iL w),.v (.int z),.v (.int n),.v (.int a),.v (.int o),.no]:=cB (d:=.int o) (by rw[y];exact dm rfl (by decide) (by decide) (fl _ rfl) (by lia)) rfl;obtain⟨c,f⟩:∃c:En,c=[.v (iL w),.v (.int z),.v (.int n),.v (.int a),.v (.int o),.no]:=⟨_,rfl⟩;rw[<-f] at E;have k:ag 0 c=.ok (.lst (w.map D.int)):=by rw[f];rfl
  have g:ag 1 c=.ok (.int z):=by rw[f];rfl
  have r3:ag 3 c=.ok (.int a):=by rw[f];rfl
  have C:ag 4 c=.ok (.int o):=by rw[f];rfl
  have X:af 2 c=.ok (.int n):=by rw[f];rfl
  have J:af 3 c=.ok (.int a):=by rw[f];rfl
  have q:=G9 k J l (by lia);have G:=Oc k J l (by lia);have i:=G_ k r3 l (by lia);have tl:(w.take a.toNat).length=a.toNat:=by rw[gB];lia
  have dl:(w.drop a.toNat).length=w.length-a.toNat:=iv ..;have Z:(w.drop (a.toNat+1)).length=w.length-(a.toNat+1):=iv ..;unfold Gi;rw[bA Q,bA E];by_cases I:z%8=0;.refine⟨w.take a.toNat++w.drop (a.toNat+1),?_,rK (by rw[fY g,bg I]) (oB q i (by lia))⟩;rw[bO];lia
  rw[oN (by rw[fY g,bf I])];by_cases K:z%8=1;.refine⟨w.take a.toNat++[gA w o]++w.drop a.toNat,?_,rK (by rw[fY g,bg K]) (oB (oB q (qx (enc:=D.int) (a:=gA w o) (b8 k C s)) (by simp;lia)) G (by simp;lia))⟩;simp;lia
  rw[oN (by rw[fY g,bf K])];by_cases A:z%8=2
  . obtain⟨x,Y⟩:∃x:Int,m2 aw (aU (ai (af 2) (ai (m1 jM (mC (.int 1))) (ai (m2 aw (ag 0) (ag 4)) ae)))) (m2 oMod (m2 oDiv (ag 1) (mC (.int 512))) (mC (.int 3))) c=.ok (.int x):=by
      have p:=dm (δ:=c) (b:=mC (.int 3)) (m:=3) g (show(0:Int)<512 by decide) (by decide) rfl (by decide);have N:m1 jM (mC (.int 1)) c=.ok (.int (-1)):=rfl;have ix:m2 aw (ag 0) (ag 4) c=.ok (.int (gA w o)):=b8 k C s;have t:aU (ai (af 2) (ai (m1 jM (mC (.int 1))) (ai (m2 aw (ag 0) (ag 4)) ae))) c=.ok (.lst [.int n,.int (-1),.int (gA w o)]):=by unfold aU ai ae;rw[X,N,ix];show R.bind (R.ok [D.int n,.int (-1),.int (gA w o)]) _=_;rw[R.aC];exact gq (by show 3<=sizeLine;decide)
      have b0:=nz (z/512) (show(0:Int)<3 by decide);have b1:=oz (z/512) (show(0:Int)<3 by decide);rcases(show z/512%3=0\/z/512%3=1\/z/512%3=2 by lia) with e|e|e<;>rw[e] at p;.exact⟨n,b8 t p rfl⟩
      .exact⟨-1,b8 t p rfl⟩
      .exact⟨gA w o,b8 t p rfl⟩
    refine⟨w.take a.toNat++[x]++w.drop (a.toNat+1),?_,rK (by rw[fY g,bg A]) (oB (oB q (qx (enc:=D.int) (a:=x) Y) (by simp;lia)) i (by simp;lia))⟩;simp;lia
  rw[oN (by rw[fY g,bf A])];by_cases B:z%8=3;.refine⟨w.drop a.toNat++w.take a.toNat,?_,rK (by rw[fY g,bg B]) (oB G q (by lia))⟩;rw[bO];lia
  rw[oN (by rw[fY g,bf B])];refine⟨(w.set a.toNat (gA w o)).set o.toNat (gA w a),by simp,?_⟩;rw[f];have s1:av (bp kq (ai (ag 0) ae)) (dw 5) [.v (iL w),.v (.int z),.v (.int n),.v (.int a),.v (.int o),.no]=.nx [.v (iL w),.v (.int z),.v (.int n),.v (.int a),.v (.int o),.o (iL w)]:=cB (d:=iL w) (t9 rfl rfl) rfl;have T:Af 5 (af 3) (af 4) (bL (ai (m2 aw (ag 0) (ag 4)) (ai (m2 aw (ag 0) (ag 3)) ae))) [.v (iL w),.v (.int z),.v (.int n),.v (.int a),.v (.int o),.o (iL w)]=.nx [.v (iL w),.v (.int z),.v (.int n),.v (.int a),.v (.int o),.o (iL ((w.set a.toNat (gA w o)).set o.toNat (gA w a)))]:=by
    have tp:bL (ai (m2 aw (ag 0) (ag 4)) (ai (m2 aw (ag 0) (ag 3)) ae)) [.v (iL w),.v (.int z),.v (.int n),.v (.int a),.v (.int o),.o (iL w)]=.ok (.tup [.int (gA w o),.int (gA w a)]):=by simp[bL,ai,ae,ag,s,ia,sizeLine]
    have j1:gm (w.map D.int).length a=some a.toNat:=Ha l (by rw[aI];lia);have M:gm (w.map D.int).length o=some o.toNat:=Ha H (by rw[aI];lia);unfold Af;show(R.gW (bL _ _) _ _)=_;rw[tp];show(match gm (w.map D.int).length a with|some j=>_|none=>_)=_;rw[j1];show(match gm (w.map D.int).length o with|some j=>_|none=>_)=_;rw[M];unfold iL;rw[qG,qG];rfl
  exact(bA s1).trans ((bA T).trans rfl)
theorem Xr{n:Nat}(w:0<=z)(B:z<=10000000000)(p:0<n)(J:n<=7):∃S:List (Int×Int),S.length<=6/\Ct [.int z,.int n]=.ok (.lst (S.map aj)):=by
 have l:fc 48271:=dH 100000 (by decide);obtain⟨f,E,x,S,i,s,u,g,rfl⟩:=lZ (b:=aG 3) (m:=M5) D.int (fun a f=>∃(x:Int) (S:List (Int×Int)) (i:Option D),0<=x/\x<=10000000000/\S.length=a.length/\f=[.v (.int x),.v (.int n),.o (.lst (S.map aj)),sv i]) (aX (n-1)) (by
  rintro a k j f c ⟨x,S,i,s,u,g,rfl⟩;have I:=aE.mp (show k∈aX (n-1) by simp_all);have H:a.length<=6:=by have:=bT List.length c;rw[gx,bO] at this;lia
  obtain⟨y,r⟩:∃y,y=x*48271%2147483647+5:=⟨_,rfl⟩;have h:av (m2 bo (m2 oMod (m2 fe (ag 0) (mC (.int 48271))) (mC (.int 2147483647))) (mC (.int 5))) (aG 0) [.v (.int x),.v (.int n),.o (.lst (S.map aj)),.v (.int k)]=.nx [.v (.int y),.v (.int n),.o (.lst (S.map aj)),.v (.int k)]:=by refine cB (d:=.int y) ?_ rfl;rw[r];exact b8 (b8 (b8 rfl rfl (uW (dH 10000000000 (by lia)) l)) rfl (lz (by decide))) rfl (tN _ _)
  refine⟨[.v (.int x),.v (.int n),.o (.lst (S.map aj)),.v (.int k)],[.v (.int y),.v (.int n),.o (.lst ((S++[(y%(k+1),k+1)]).map aj)),.v (.int k)],fF rfl,.inl ?_,y,_,some _,by lia,by lia,by simp[g],rfl⟩;refine(bA h).trans ?_;have q:bL (ai (m2 oMod (ag 0) (m2 bo (ag 3) (mC (.int 1)))) (ai (m2 bo (ag 3) (mC (.int 1))) ae)) [.v (.int y),.v (.int n),.o (.lst (S.map aj)),.v (.int k)]=.ok (aj (y%(k+1),k+1)):=by have C:m2 bo (ag 3) (mC (.int 1)) [.v (.int y),.v (.int n),.o (.lst (S.map aj)),.v (.int k)]=.ok (.int (k+1)):=b8 rfl rfl (tN _ _);have G:m2 oMod (ag 0) (m2 bo (ag 3) (mC (.int 1))) [.v (.int y),.v (.int n),.o (.lst (S.map aj)),.v (.int k)]=.ok (.int (y%(k+1))):=b8 rfl C (lz (by lia));unfold bL ai ae;rw[G];exact gq (by show 2<=sizeLine;decide)
  refine(CM rfl q (by rw[aI];lia)).trans ?_;simp) [.v (.int z),.v (.int n),.o (.lst []),.no] ⟨z,[],none,w,B,rfl,rfl⟩;refine⟨S,by rw[g,gx];lia,qQ ?_⟩;have h:av (aU ae) (dw 2) [.v (.int z),.v (.int n),.no,.no]=.nx [.v (.int z),.v (.int n),.o (.lst []),.no]:=cB (d:=.lst []) (by simp[aU,ae]) rfl;have A:bM (ai (m2 jf (ag 1) (mC (.int 1))) ae) [.v (.int z),.v (.int n),.o (.lst []),.no]=.ok ((aX (n-1)).map .int):=by have:=GY (n:=n-1) (by lia) (show(n:Int)-1=(n-1:Nat) by lia);simp[bM,ai,ae,oG,ag,mC,ec,c6,R.aC,BS,R.bj,this]
 have t:M6 [.v (.int z),.v (.int n),.o (.lst []),.no]=_:=(lA A).trans E;exact(bA h).trans ((bA t).trans rfl)
theorem Xs(l:List (Int×Int)):fE 8 (.lst (l.map aj))=true:=by show(l.map _).all _=true;rw[f9,d_];intro x _;rfl
theorem Od {δ : En} {l : List (Int × Int)} (h : ag 0 δ = .ok (.lst (l.map aj))) : aV (m2 gr (ag 0) (aU ae)) δ = .ok (decide (l = [])) := by
  refine iA (b8 h (gq (by simp)) ?_)
  unfold gr
  rw [gq ⟨Xs l, rfl⟩]
  simp
theorem nk(d:x c=.ok (.int a))(e:y c=.ok (.int b)):bL (ai x (ai y ae)) c=.ok (aj (a,b)):=by unfold bL ai ae;rw[d,e];exact gq (by show 2<=sizeLine;decide)
theorem yD(d:s c=.ok a)(e:t c=.ok b):iU s t c=.ok (a||b):=by
 unfold iU;rw[d];cases a;.simp_all
 .rfl
theorem Oe(d:s c=.ok a)(e:t c=.ok b):mU s t c=.ok (a&&b):=by
 unfold mU;rw[d];cases a;.rfl
 simp_all
theorem Xt{S:List (Int×Int)}{n:Nat}(sl:S.length<=12)(z0:0<=z)(z1:z<=10000000000)(E:0<n)(hn:n<=7):∃S':List (Int×Int),S'.length<=20/\Cu [.lst (S.map aj),.int z,.int n]=.ok (.lst (S'.map aj)):=by
  suffices J:∃S':List (Int×Int),S'.length<=20/\Gj [.v (.lst (S.map aj)),.v (.int z),.v (.int n),.no,.no,.no]=.ro (.lst (S'.map aj)) by obtain⟨w',h1,h2⟩:=J;exact⟨w',h1,qQ h2⟩
  obtain⟨A,t⟩:∃A,A=D.lst (S.map aj):=⟨_,rfl⟩;rw[<-t];have M:=yD (fY (δ:=[.v A,.v (.int z),.v (.int n),.no,.no,.no]) (z:=z) (j:=7) rfl) (Od (δ:=[.v A,.v (.int z),.v (.int n),.no,.no,.no]) (l:=S) (by rw[t];rfl));unfold Gj;by_cases c:(decide (z%8=7)||decide (S=[]))=true
  . obtain⟨U,ul,hu⟩:=Xr (z:=z/8) (n:=n) (by lia) (by lia) E hn;have e1:bD Ct (ai (m2 oDiv (ag 1) (mC (.int 8))) (ai (af 2) ae)) [.v A,.v (.int z),.v (.int n),.no,.no,.no]=.ok (.lst (U.map aj)):=jv (b8 rfl rfl (um (by decide) (dH 100 (by decide)))) rfl hu;have d2:=dm (δ:=[.v A,.v (.int z),.v (.int n),.no,.no,.no]) (b:=mC (.int 2)) (m:=2) rfl (show(0:Int)<16 by decide) (by decide) rfl (by decide);have e2:dg (aU (ai (bL (ai (mC (.int 0)) (ai (mC (.int 0)) ae))) ae)) bG (cz (m2 oMod (m2 oDiv (ag 1) (mC (.int 16))) (mC (.int 2)))) [.v A,.v (.int z),.v (.int n),.no,.no,.no]=.ok (.lst ((([(0,0)]:List (Int×Int)).take (z/16%2).toNat).map aj)):=by have b0:=nz (z/16) (show(0:Int)<2 by decide);have b1:=oz (z/16) (show(0:Int)<2 by decide);have w:=qx (enc:=aj) (a:=((0:Int),(0:Int))) (δ:=[.v A,.v (.int z),.v (.int n),.no,.no,.no]) (nk (x:=mC (.int 0)) (y:=mC (.int 0)) rfl rfl);unfold dg;rw[w,R.aC,show bG [.v A,.v (.int z),.v (.int n),.no,.no,.no]=.ok none from rfl,R.aC];unfold cz;rw[d2];show R.ok (D.lst (cutD ([((0:Int),(0:Int))].map aj) none (some (z/16%2))))=_;have:=N5 (l:=[((0:Int),(0:Int))].map aj) (k:=(z/16%2).toNat) (by simp;lia);rw[show(((z/16%2).toNat:Nat):Int)=z/16%2 by lia] at this;rw[this,lR]
    refine⟨U++([(0,0)]:List (Int×Int)).take (z/16%2).toNat,?_,rK (by rw[M,c]) (oB e1 e2 ?_)⟩;.rw[bO,gB];simp;lia
    .rw[gB];simp;lia
  have c':(decide (z%8=7)||decide (S=[]))=false:=by simpa using c
  rw[oN (by rw[M,c'])];have ne:S≠[]:=by simp at c;exact c.2
  have l0:0<S.length:=nN.mpr ne;have fl:aW [A]=some (.int S.length):=by rw[t];unfold aW;simp
  obtain⟨a,H⟩:∃a,a=z/8%(S.length:Int):=⟨_,rfl⟩;have B:0<=a:=by rw[H];exact nz _ (by lia)
  have a1:a<S.length:=by rw[H];exact oz _ (by lia)
  obtain⟨p,hp⟩:∃p,S[a.toNat]?=some p:=⟨_,bx (by lia)⟩;have ip:aw A (.int a)=some (aj p):=by rw[t];exact vO B (by rw[bB,hp];rfl)
  have q1:av (m2 oMod (m2 oDiv (ag 1) (mC (.int 8))) (bp aW (ai (ag 0) ae))) (aG 3) [.v A,.v (.int z),.v (.int n),.no,.no,.no]=.nx [.v A,.v (.int z),.v (.int n),.v (.int a),.no,.no]:=cB (d:=.int a) (by rw[H];exact dm rfl (by decide) (by decide) (t9 rfl fl) (by lia)) rfl;have q2:av (m2 aw (ag 0) (ag 3)) (dn 2 (dv (aG 4) (dv (aG 5) dG))) [.v A,.v (.int z),.v (.int n),.v (.int a),.no,.no]=.nx [.v A,.v (.int z),.v (.int n),.v (.int a),.v (.int p.1),.v (.int p.2)]:=cB (b8 rfl rfl ip) rfl;rw[bA q1,bA q2];obtain⟨g,f⟩:∃g:En,g=[.v A,.v (.int z),.v (.int n),.v (.int a),.v (.int p.1),.v (.int p.2)]:=⟨_,rfl⟩;rw[<-f];have G:ag 0 g=.ok (.lst (S.map aj)):=by rw[f,<-t];rfl
  have i:ag 1 g=.ok (.int z):=by rw[f];rfl
  have r2:ag 2 g=.ok (.int n):=by rw[f];rfl
  have T:ag 3 g=.ok (.int a):=by rw[f];rfl
  have v2:af 2 g=.ok (.int n):=by rw[f];rfl
  have Y:af 3 g=.ok (.int a):=by rw[f];rfl
  have v4:af 4 g=.ok (.int p.1):=by rw[f];rfl
  have Q:af 5 g=.ok (.int p.2):=by rw[f];rfl
  have C:=G9 G Y B (by lia);have Z:=Oc G Y B (by lia);have s:=G_ G T B (by lia);have tl:(S.take a.toNat).length=a.toNat:=by rw[gB];lia
  have dl:(S.drop a.toNat).length=S.length-a.toNat:=iv ..;have Xu:(S.drop (a.toNat+1)).length=S.length-(a.toNat+1):=iv ..;have r:∀{x:En->PM.R D}{q:Int×Int},x g=.ok (aj q)->m2 bU (m2 bU (dg (ag 0) bG (cz (af 3))) (aU (ai x ae))) (dg (ag 0) (cz (m2 bo (ag 3) (mC (.int 1)))) bG) g=.ok (.lst ((S.take a.toNat++[q]++S.drop (a.toNat+1)).map aj)):=fun h=>oB (oB C (qx h) (by simp;lia)) s (by simp;lia);have o:∀q:Int×Int,(S.take a.toNat++[q]++S.drop (a.toNat+1)).length<=20:=fun q=>by simp;lia
  by_cases c0:z%8=0;.refine⟨S.take a.toNat++S.drop (a.toNat+1),?_,rK (by rw[fY i,bg c0]) (oB C s (by lia))⟩;rw[bO];lia
  rw[oN (by rw[fY i,bf c0])];by_cases c1:z%8=1;.have I:m2 aw (ag 0) (ag 3) g=.ok (aj p):=b8 (by rw[f];rfl) T ip;refine⟨S.take a.toNat++[p]++S.drop a.toNat,?_,rK (by rw[fY i,bg c1]) (oB (oB C (qx I) (by simp;lia)) Z (by simp;lia))⟩;simp;lia
  rw[oN (by rw[fY i,bf c1])];by_cases L:z%8=2;.exact⟨_,o (p.2,p.1),rK (by rw[fY i,bg L]) (r (nk Q v4))⟩
  rw[oN (by rw[fY i,bf L])];by_cases N:z%8=3
  . obtain⟨x,hx⟩:∃x:Int,m2 aw (aU (ai (af 2) (ai (m1 jM (mC (.int 1))) ae))) (m2 oMod (m2 oDiv (ag 1) (mC (.int 64))) (mC (.int 2))) g=.ok (.int x):=by
      have K:=dm (δ:=g) (b:=mC (.int 2)) (m:=2) i (show(0:Int)<64 by decide) (by decide) rfl (by decide);have ng:m1 jM (mC (.int 1)) g=.ok (.int (-1)):=rfl;have w:aU (ai (af 2) (ai (m1 jM (mC (.int 1))) ae)) g=.ok (.lst [.int n,.int (-1)]):=by unfold aU ai ae;rw[v2,ng];show R.bind (R.ok [D.int n,.int (-1)]) _=_;rw[R.aC];exact gq (by show 2<=sizeLine;decide)
      have b0:=nz (z/64) (show(0:Int)<2 by decide);have b1:=oz (z/64) (show(0:Int)<2 by decide);rcases(show z/64%2=0\/z/64%2=1 by lia) with e|e<;>rw[e] at K;.exact⟨n,b8 w K rfl⟩
      .exact⟨-1,b8 w K rfl⟩
    exact⟨_,o (p.1,x),rK (by rw[fY i,bg N]) (r (nk v4 hx))⟩
  rw[oN (by rw[fY i,bf N])];by_cases X:z%8=4;.refine⟨S.drop a.toNat++S.take a.toNat,?_,rK (by rw[fY i,bg X]) (oB Z C (by lia))⟩;rw[bO];lia
  rw[oN (by rw[fY i,bf X])];exact⟨_,o (z/64%(n:Int),p.2),G8 (r (nk (dm i (by decide) (by decide) r2 (by lia)) Q))⟩
theorem Xv {S : List (Int × Int)} {z : Int} {n : Nat} (sl : S.length ≤ 12) (wJ : 0 < n) : ∃ S' : List (Int × Int), S'.length ≤ 20 ∧ Cv [.lst (S.map aj), .int z, .int n] = .ok (.lst (S'.map aj)) := by
  suffices key : ∃ S' : List (Int × Int), S'.length ≤ 20 ∧ Gk [.v (.lst (S.map aj)), .v (.int z), .v (.int n), .no, .no, .no] = .ro (.lst (S'.map aj)) by
    obtain ⟨w', h1, h2⟩ := key
    exact ⟨w', h1, qQ h2⟩
  obtain ⟨A, eA⟩ : ∃ A, A = D.lst (S.map aj) := ⟨_, rfl⟩
  rw [← eA]
  have t0 := yD (Od (δ := [.v A, .v (.int z), .v (.int n), .no, .no, .no]) (l := S) (by rw [eA]; rfl)) (rL (δ := [.v A, .v (.int z), .v (.int n), .no, .no, .no]) (z := z) (j := 0) rfl)
  unfold Gk
  by_cases c : (decide (S = []) || decide (z % 5 = 0)) = true
  · refine ⟨S ++ [(z / 5 % (n : Int), z / 40 % (n : Int))], by grind, rK (by simp_all) (oB (a := S) (by rw [eA]; rfl) (qx (nk (dm rfl (by decide) (by decide) rfl (by omega)) (dm rfl (by decide) (by decide) rfl (by omega)))) (by grind))⟩
  have c' : (decide (S = []) || decide (z % 5 = 0)) = false := by simp_all
  rw [oN (by simp_all)]
  have ne : S ≠ [] := by simp at c; exact c.1
  have l0 : 0 < S.length := nN.mpr ne
  have fl : aW [A] = some (.int S.length) := by rw [eA]; unfold aW; simp
  obtain ⟨a, ea⟩ : ∃ a, a = z / 8 % (S.length : Int) := ⟨_, rfl⟩
  obtain ⟨o, eo⟩ : ∃ o, o = z / 64 % (S.length : Int) := ⟨_, rfl⟩
  have a0 : 0 ≤ a := by rw [ea]; exact nz _ (by omega)
  have a1 : a < S.length := by rw [ea]; exact oz _ (by omega)
  have o0 : 0 ≤ o := by rw [eo]; exact nz _ (by omega)
  have o1 : o < S.length := by rw [eo]; exact oz _ (by omega)
  obtain ⟨p, hp⟩ : ∃ p, S[a.toNat]? = some p := ⟨_, bx (by omega)⟩
  obtain ⟨q, hq⟩ : ∃ q, S[o.toNat]? = some q := ⟨_, bx (by omega)⟩
  have ip : aw A (.int a) = some (aj p) := by rw [eA]; exact vO a0 (by rw [bB, hp]; rfl)
  have iq : aw A (.int o) = some (aj q) := by rw [eA]; exact vO o0 (by rw [bB, hq]; rfl)
  have q1 : av (m2 oMod (m2 oDiv (ag 1) (mC (.int 8))) (bp aW (ai (ag 0) ae))) (aG 3) [.v A, .v (.int z), .v (.int n), .no, .no, .no] = .nx [.v A, .v (.int z), .v (.int n), .v (.int a), .no, .no] := cB (d := .int a) (by rw [ea]; exact dm rfl (by decide) (by decide) (t9 rfl fl) (by omega)) rfl
  have q2 : av (m2 oMod (m2 oDiv (ag 1) (mC (.int 64))) (bp aW (ai (ag 0) ae))) (aG 4) [.v A, .v (.int z), .v (.int n), .v (.int a), .no, .no] = .nx [.v A, .v (.int z), .v (.int n), .v (.int a), .v (.int o), .no] := cB (d := .int o) (by rw [eo]; exact dm rfl (by decide) (by decide) (t9 rfl fl) (by omega)) rfl
  rw [bA q1, bA q2]
  obtain ⟨δ, vu⟩ : ∃ δ : En, δ = [.v A, .v (.int z), .v (.int n), .v (.int a), .v (.int o), .no] := ⟨_, rfl⟩
  rw [← vu]
  have r0 : ag 0 δ = .ok (.lst (S.map aj)) := by rw [vu, ← eA]; rfl
  have Of : ag 0 δ = .ok A := by rw [vu]; rfl
  have r1 : ag 1 δ = .ok (.int z) := by rw [vu]; rfl
  have r2 : ag 2 δ = .ok (.int n) := by rw [vu]; rfl
  have r3 : ag 3 δ = .ok (.int a) := by rw [vu]; rfl
  have r4 : ag 4 δ = .ok (.int o) := by rw [vu]; rfl
  have v3 : af 3 δ = .ok (.int a) := by rw [vu]; rfl
  have lo := G9 r0 v3 a0 (by omega)
  have Og := G_ r0 r3 a0 (by omega)
  have Xu : (S.drop (a.toNat + 1)).length = S.length - (a.toNat + 1) := iv ..
  have tl : (S.take a.toNat).length = a.toNat := by rw [gB]; lia
  have x1 : m2 aL (m2 aw (ag 0) (ag 3)) (mC (.int 1)) δ = .ok (.int p.2) := b8 (b8 Of r3 ip) rfl rfl
  have x0 : m2 aL (m2 aw (ag 0) (ag 3)) (mC (.int 0)) δ = .ok (.int p.1) := b8 (b8 Of r3 ip) rfl rfl
  have sub : ∀ {x : En → PM.R D} {q : Int × Int}, x δ = .ok (aj q) → m2 bU (m2 bU (dg (ag 0) bG (cz (af 3))) (aU (ai x ae))) (dg (ag 0) (cz (m2 bo (ag 3) (mC (.int 1)))) bG) δ = .ok (.lst ((S.take a.toNat ++ [q] ++ S.drop (a.toNat + 1)).map aj)) := fun h => oB (oB lo (qx h) (by simp; lia)) Og (by simp; omega)
  have Oh : ∀ q : Int × Int, (S.take a.toNat ++ [q] ++ S.drop (a.toNat + 1)).length ≤ 20 := fun q => by simp; lia
  by_cases c1 : z % 5 = 1
  · refine ⟨S.take a.toNat ++ S.drop (a.toNat + 1), ?_, rK (by rw [rL r1, bg c1]) (oB lo Og (by lia))⟩
    rw [bO]; lia
  rw [oN (by rw [rL r1, bf c1])]
  by_cases c2 : z % 5 = 2
  · exact ⟨_, Oh (p.2, p.1), rK (by rw [rL r1, bg c2]) (sub (nk x1 x0))⟩
  rw [oN (by rw [rL r1, bf c2])]
  have t3 := Oe (rL (δ := δ) (z := z) (j := 3) r1) (iA (b8 r3 r4 (show uj (.int a) (.int o) = some (.bl (!decide (a = o))) by simp)))
  by_cases c3 : (decide (z % 5 = 3) && !decide (a = o)) = true
  · refine ⟨(S.set a.toNat (p.1, q.1)).set o.toNat (p.2, q.2), by simp; lia, GC ((gg (by rw [t3, c3])).trans ?_)⟩
    rw [vu]
    have s1 : av (bp kq (ai (ag 0) ae)) (dw 5) [.v A, .v (.int z), .v (.int n), .v (.int a), .v (.int o), .no] = .nx [.v A, .v (.int z), .v (.int n), .v (.int a), .v (.int o), .o (.lst (S.map aj))] := cB (d := .lst (S.map aj)) (t9 rfl (by rw [eA]; rfl)) rfl
    have AQ : ∀ (L : List (Int × Int)) (k : Nat) (kk : Int) (x : En → PM.R D) (y : Int × Int) (mk : En → PM.R D), L.length = S.length → mk [.v A, .v (.int z), .v (.int n), .v (.int a), .v (.int o), .o (.lst (L.map aj))] = .ok (.int kk) → 0 ≤ kk → kk.toNat = k → k < S.length → x [.v A, .v (.int z), .v (.int n), .v (.int a), .v (.int o), .o (.lst (L.map aj))] = .ok (aj y) → ya 5 mk x [.v A, .v (.int z), .v (.int n), .v (.int a), .v (.int o), .o (.lst (L.map aj))] = .nx [.v A, .v (.int z), .v (.int n), .v (.int a), .v (.int o), .o (.lst ((L.set k y).map aj))] := fun L k kk x y mk hl hm h0 hk uk hx => by
      have j1 : gm (L.map aj).length kk = some k := by rw [← hk]; exact Ha h0 (by rw [aI]; lia)
      unfold ya
      show R.gW (x _) _ _ = _
      rw [hx]
      show R.gW (mk _) _ _ = _
      rw [hm]
      show (match gm (L.map aj).length kk with | some j => _ | none => _) = _
      rw [j1]
      show O.nx [.v A, .v (.int z), .v (.int n), .v (.int a), .v (.int o), .o (.lst ((L.map aj).set k (aj y)))] = _
      rw [qG]
    have s2 := AQ S a.toNat a (bL (ai (m2 aL (m2 aw (ag 0) (ag 3)) (mC (.int 0))) (ai (m2 aL (m2 aw (ag 0) (ag 4)) (mC (.int 0))) ae))) (p.1, q.1) (af 3) rfl rfl a0 rfl (by lia) (nk (b8 (b8 rfl rfl ip) rfl rfl) (b8 (b8 rfl rfl iq) rfl rfl))
    have s3 := AQ (S.set a.toNat (p.1, q.1)) o.toNat o (bL (ai (m2 aL (m2 aw (ag 0) (ag 3)) (mC (.int 1))) (ai (m2 aL (m2 aw (ag 0) (ag 4)) (mC (.int 1))) ae))) (p.2, q.2) (af 4) (by simp) rfl o0 rfl (by omega) (nk (b8 (b8 rfl rfl ip) rfl rfl) (b8 (b8 rfl rfl iq) rfl rfl))
    exact (bA s1).trans ((bA s2).trans ((bA s3).trans rfl))
  have Xw : (decide (z % 5 = 3) && !decide (a = o)) = false := by simpa using c3
  rw [oN (by rw [t3, Xw])]
  exact ⟨_, Oh (z / 5 % (n : Int), p.2), G8 (sub (nk (dm r1 (by decide) (by decide) r2 (by lia)) x1))⟩
def rM:List Int->Int |[]=>0 |a::l=>ij l a
theorem Hc(h:S≠[]):rM S∈S/\∀x∈S,x<=rM S:=by cases S with |nil=>simp_all |cons a l=>
    obtain⟨i,e,g⟩:=L2.mX l a;refine⟨?_,fun b d=>?_⟩
    . rcases g with z|z;.show ij l a∈_;simp_all
      .exact bz _ z
    . rcases aR.mp d with z|z;.rw[z];exact i
      .exact e b z
theorem Oi(h:S≠[]):uZ ij [iL S]=some (.int (rM S)):=by cases S with |nil=>simp_all |cons a l=>simp[uZ,iL,qO,rM]
theorem C0{f:Int->Int}(h:0<n):(aX n).map f≠[]:=fun z=>by have:=bT List.length z;rw[aI,gx] at this;simp_all
theorem Xx:peek (.v T::.v (.int N)::.v (.int M)::.p (ji n e)::l)=.v T::.v (.int N)::.v (.int M)::.v (aM (aH n e))::peek l:=by show _::_::_::Sl.v (rW (jP _))::_=_;rw[Te];rfl
theorem Oj(h:m (rY nv ds)=.ex b x)(a:ds.length=np:=by rfl):cf np nv m ds=.ex x:=by unfold cf;simp_all
def t_(o:O):Prop:=∃a,o=.ex a ⟨2⟩
def uy(o:O)(P:En->Prop):Prop:=(∃a,o=.nx a/\P a)\/t_ o
theorem xv:∀(l:List Int)(_:∀x∈l,∀c,P c->∃a,b (.int x) c=some a/\uy (m a) P)(c:En)(_:P c),uy (gX b m (l.map .int) c) P
 |[],_,c,h=>.inl ⟨_,rfl,h⟩ |x::l,g,c,h=>by
  obtain⟨a,i,k⟩:=g x (by simp) _ h;rw[b7];unfold gX;rw[i];rcases k with⟨f,e,p⟩|⟨f,e⟩;.simp[e];exact xv l (fun y j=>g y (bz _ j)) _ p
  .simp[e];exact .inr ⟨_,rfl⟩
theorem xw:∀(l:List Int)(_:∀x∈l,∀c,P c->∃a,b (.int x) c=some a/\uy (m a) P)(y:Int)(_:y∈l)(_:∀c,P c->∃a,b (.int y) c=some a/\t_ (m a))(c:En)(_:P c),t_ (gX b m (l.map .int) c)
  |[],_,_,f,_,_,_=>by cases f |x::l,n,y,f,g,c,h=>by
    rw[b7];unfold gX;by_cases e:x=y;.obtain⟨a,o,d,k⟩:=g _ h;grind
    . obtain⟨a,o,k⟩:=n x (by simp) _ h;rw[o];rcases k with⟨d,j,p⟩|⟨d,j⟩;.simp[j];exact xw l (fun y f=>n y (bz _ f)) y ((aR.mp f).elim (fun z=>absurd z.symm e) id) g d p
      .simp[j];exact⟨_,rfl⟩
def PL(T:D)(n:Nat)(b:En):Prop:=∃d c a:Option D,b=[.v T,.v (.int n),sv d,sv c,sv a]
theorem Hd:yh 2 (ai (mC (.str t)) ae) a=.ex a ⟨2⟩:=by simp[yh,ai,ae,mC,gq (show 1<=sizeLine by decide)]
theorem Xy{n:Nat}(hn:n<=100) (h:(∃a:Int,(0<=a/\a<n)/\d a a≠0)\/(∃a b:Int,(0<=b/\b<a/\a<n)/\d a b≠d b a)\/(∃a b c:Int,(0<=a/\a<n)/\(0<=b/\b<n)/\(0<=c/\c<n)/\d a b+d b c<d a c)): se [aM (aH n d)]=.ex ⟨2⟩:=by
 obtain⟨T,U⟩:∃T,T=aM (aH n d):=⟨_,rfl⟩;have s:∀a:Int,0<=a->a<n->aw T (.int a)=some (iL ((aX n).map (d a))):=fun a h0 h1=>by rw[U];exact t6 h0 h1
 have M:=kX (show n<=1000 by omega);have t:∀(a:Int)(j g:Option D),0<=a->a<n->(d a a=0->vl [.v T,.v (.int n),.v (.int a),sv j,sv g]=.nx [.v T,.v (.int n),.v (.int a),sv j,sv g])/\(d a a≠0->t_ (vl [.v T,.v (.int n),.v (.int a),sv j,sv g])):=fun a j g q o=>by
  have r:=lB (n:=n) (f:=d a) q o;refine⟨fun e=>?_,fun e=>?_⟩;.unfold vl;rw[fM (by simp[aV,ag,mC,s a q o,r,e])];rfl
  .unfold vl;rw[gg (by simp[aV,ag,mC,s a q o,r,e]),Hd];exact⟨_,rfl⟩
 have b2:∀(a b:Int)(g:Option D),0<=a->a<n->0<=b->b<n->(d a b=d b a->vm [.v T,.v (.int n),.v (.int a),.v (.int b),sv g]=.nx [.v T,.v (.int n),.v (.int a),.v (.int b),sv g])/\(d a b≠d b a->t_ (vm [.v T,.v (.int n),.v (.int a),.v (.int b),sv g])):=fun a b g q o u t=>by
  have J:=lB (n:=n) (f:=d a) u t;have K:=lB (n:=n) (f:=d b) q o;refine⟨fun e=>?_,fun e=>?_⟩;.unfold vm;rw[fM (by simp[aV,ag,mC,s a q o,s b u t,J,K,e])];rfl
  .unfold vm;rw[gg (by simp[aV,ag,mC,s a q o,s b u t,J,K,e]),Hd];exact⟨_,rfl⟩
 have X:∀(a b c:Int),0<=a->a<n->0<=b->b<n->0<=c->c<n->(¬d a b+d b c<d a c->vn [.v T,.v (.int n),.v (.int a),.v (.int b),.v (.int c)]=.nx [.v T,.v (.int n),.v (.int a),.v (.int b),.v (.int c)])/\(d a b+d b c<d a c->t_ (vn [.v T,.v (.int n),.v (.int a),.v (.int b),.v (.int c)])):=fun a b c q o u t Q S=>by
  have J:=lB (n:=n) (f:=d a) u t;have K:=lB (n:=n) (f:=d b) Q S;have r5:=lB (n:=n) (f:=d a) Q S;refine⟨fun e=>?_,fun e=>?_⟩;.unfold vn;rw[fM (by simp[aV,ag,mC,s a q o,s b u t,J,K,r5,e])];rfl
  .unfold vn;rw[gg (by simp[aV,ag,mC,s a q o,s b u t,J,K,r5,e]),Hd];exact⟨_,rfl⟩
 -- the turns
 have Y:∀x∈aX n,∀i,PL T n i->∃l,aG 2 (.int x) i=some l/\uy (vl l) (PL T n):=by
  rintro x A i ⟨B,j,g,rfl⟩;obtain⟨w,y⟩:=aE.mp A;refine⟨[.v T,.v (.int n),.v (.int x),sv j,sv g],fF rfl,?_⟩;by_cases e:d x x=0;.exact .inl ⟨_,(t x j g w y).1 e,some _,j,g,rfl⟩
  .exact .inr ((t x j g w y).2 e)
 have s2:∀a:Int,0<=a->a<n->∀x∈aX a.toNat,∀i,(∃j g:Option D,i=[.v T,.v (.int n),.v (.int a),sv j,sv g])->∃l,aG 3 (.int x) i=some l/\uy (vm l) (fun i=>∃j g:Option D,i=[.v T,.v (.int n),.v (.int a),sv j,sv g]):=by
  rintro a q o x A i ⟨j,g,rfl⟩;obtain⟨w,y⟩:=aE.mp A;refine⟨[.v T,.v (.int n),.v (.int a),.v (.int x),sv g],fF rfl,?_⟩;by_cases e:d a x=d x a;.exact .inl ⟨_,(b2 a x g q o w (by omega)).1 e,some _,g,rfl⟩
  .exact .inr ((b2 a x g q o w (by omega)).2 e)
 have f2:∀(a:Int)(j g:Option D),0<=a->a<n->AB [.v T,.v (.int n),.v (.int a),sv j,sv g]=gX (aG 3) vm ((aX a.toNat).map .int) [.v T,.v (.int n),.v (.int a),sv j,sv g]:=fun a j g q o=>by have ra:=kX (show a.toNat<=1000 by omega);rw[show((a.toNat:Nat):Int)=a by omega] at ra;exact sg (n:=a.toNat) (by simp[bM,ai,ae,af,ra])
 have s3:∀x∈aX n,∀i,PL T n i->∃l,aG 2 (.int x) i=some l/\uy (AB l) (PL T n):=by
  rintro x A i ⟨B,j,g,rfl⟩;obtain⟨w,y⟩:=aE.mp A;refine⟨[.v T,.v (.int n),.v (.int x),sv j,sv g],fF rfl,?_⟩;rw[f2 x j g w y];rcases xv _ (s2 x w y) [.v T,.v (.int n),.v (.int x),sv j,sv g] ⟨j,g,rfl⟩ with⟨N,e,I,z,rfl⟩|e;.exact .inl ⟨_,e,some _,I,z,rfl⟩
  .exact .inr e
 have s4:∀a b:Int,0<=a->a<n->0<=b->b<n->∀x∈aX n,∀i,(∃g:Option D,i=[.v T,.v (.int n),.v (.int a),.v (.int b),sv g])->∃l,aG 4 (.int x) i=some l/\uy (vn l) (fun i=>∃g:Option D,i=[.v T,.v (.int n),.v (.int a),.v (.int b),sv g]):=by
  rintro a b q o u t x A i ⟨g,rfl⟩;obtain⟨w,y⟩:=aE.mp A;refine⟨[.v T,.v (.int n),.v (.int a),.v (.int b),.v (.int x)],fF rfl,?_⟩;by_cases e:d a b+d b x<d a x;.exact .inr ((X a b x q o u t w y).2 e)
  .exact .inl ⟨_,(X a b x q o u t w y).1 e,some _,rfl⟩
 have f4:∀(a b:Int)(g:Option D),AD [.v T,.v (.int n),.v (.int a),.v (.int b),sv g]=gX (aG 4) vn ((aX n).map .int) [.v T,.v (.int n),.v (.int a),.v (.int b),sv g]:=fun a b g=>sg (by simp[bM,ai,ae,af,M]);have s5:∀a:Int,0<=a->a<n->∀x∈aX n,∀i,(∃j g:Option D,i=[.v T,.v (.int n),.v (.int a),sv j,sv g])->∃l,aG 3 (.int x) i=some l/\uy (AD l) (fun i=>∃j g:Option D,i=[.v T,.v (.int n),.v (.int a),sv j,sv g]):=by
  rintro a q o x A i ⟨j,g,rfl⟩;obtain⟨w,y⟩:=aE.mp A;refine⟨[.v T,.v (.int n),.v (.int a),.v (.int x),sv g],fF rfl,?_⟩;rw[f4 a x g];rcases xv _ (s4 a x q o w y) [.v T,.v (.int n),.v (.int a),.v (.int x),sv g] ⟨g,rfl⟩ with⟨N,e,z,rfl⟩|e;.exact .inl ⟨_,e,some _,z,rfl⟩
  .exact .inr e
 have f5:∀(a:Int)(j g:Option D),AE [.v T,.v (.int n),.v (.int a),sv j,sv g]=gX (aG 3) AD ((aX n).map .int) [.v T,.v (.int n),.v (.int a),sv j,sv g]:=fun a j g=>sg (by simp[bM,ai,ae,af,M]);have s6:∀x∈aX n,∀i,PL T n i->∃l,aG 2 (.int x) i=some l/\uy (AE l) (PL T n):=by
  rintro x A i ⟨B,j,g,rfl⟩;obtain⟨w,y⟩:=aE.mp A;refine⟨[.v T,.v (.int n),.v (.int x),sv j,sv g],fF rfl,?_⟩;rw[f5 x j g];rcases xv _ (s5 x w y) [.v T,.v (.int n),.v (.int x),sv j,sv g] ⟨j,g,rfl⟩ with⟨N,e,I,z,rfl⟩|e;.exact .inl ⟨_,e,some _,I,z,rfl⟩
  .exact .inr e
 have g1:∀i,PL T n i->Ci i=gX (aG 2) vl ((aX n).map .int) i:=by rintro i ⟨B,j,g,rfl⟩;exact sg (by simp[bM,ai,ae,af,M])
 have g3:∀i,PL T n i->Cj i=gX (aG 2) AB ((aX n).map .int) i:=by rintro i ⟨B,j,g,rfl⟩;exact sg (by simp[bM,ai,ae,af,M])
 have g6:∀i,PL T n i->Ck i=gX (aG 2) AE ((aX n).map .int) i:=by rintro i ⟨B,j,g,rfl⟩;exact sg (by simp[bM,ai,ae,af,M])
 have lT:aW [T]=some (.int n):=by rw[U];exact uv
 have st:av (bp aW (ai (ag 0) ae)) (aG 1) [.v T,.no,.no,.no,.no]=.nx [.v T,.v (.int n),sv none,sv none,sv none]:=cB (d:=.int n) (by simp[bp,ai,ae,ag,lT]) rfl;have E:∀(m G:En->O)(i:En),uy (m i) (PL T n)->(∀L,PL T n L->t_ (G L))->t_ (aq m G i):=fun m G i a k=>by
  rcases a with⟨l,e,p⟩|⟨l,e⟩;.rw[bA e];exact k l p
  .exact⟨l,by unfold aq;rw[e]⟩
 have C:∀(m G:En->O)(i:En),t_ (m i)->t_ (aq m G i):=fun m G i ⟨l,e⟩=>⟨l,by unfold aq;rw[e]⟩;have H:PL T n [.v T,.v (.int n),sv none,sv none,sv none]:=⟨none,none,none,rfl⟩;have fin:t_ (aq Ci (aq Cj Ck) [.v T,.v (.int n),sv none,sv none,sv none]):=by
  rcases h with⟨a,⟨q,o⟩,e⟩|⟨a,b,⟨u,ba,o⟩,e⟩|⟨a,b,c,⟨q,o⟩,⟨u,t⟩,⟨Q,S⟩,e⟩;.refine C _ _ _ ?_;rw[g1 _ H];refine xw _ Y a (aE.mpr ⟨q,o⟩) ?_ _ H;rintro i ⟨B,j,g,rfl⟩;exact⟨[.v T,.v (.int n),.v (.int a),sv j,sv g],fF rfl,(t a j g q o).2 e⟩
  .refine E _ _ _ (by rw[g1 _ H];exact xv _ Y _ H) fun i p=>C _ _ _ ?_;rw[g3 _ p];refine xw _ s3 a (aE.mpr ⟨by omega,o⟩) ?_ _ p;rintro i ⟨B,j,g,rfl⟩;refine⟨[.v T,.v (.int n),.v (.int a),sv j,sv g],fF rfl,?_⟩;rw[f2 a j g (by omega) o];refine xw _ (s2 a (by omega) o) b (aE.mpr ⟨u,by omega⟩) ?_ _ ⟨j,g,rfl⟩;rintro i ⟨I,z,rfl⟩;exact⟨[.v T,.v (.int n),.v (.int a),.v (.int b),sv z],fF rfl,(b2 a b z (by omega) o u (by lia)).2 e⟩
  .refine E _ _ _ (by rw[g1 _ H];exact xv _ Y _ H) fun i p=>E _ _ _ (by rw[g3 _ p];exact xv _ s3 _ p) fun i p=>?_;rw[g6 _ p];refine xw _ s6 a (aE.mpr ⟨q,o⟩) ?_ _ p;rintro i ⟨B,j,g,rfl⟩;refine⟨[.v T,.v (.int n),.v (.int a),sv j,sv g],fF rfl,?_⟩;rw[f5 a j g];refine xw _ (s5 a q o) b (aE.mpr ⟨u,t⟩) ?_ _ ⟨j,g,rfl⟩;rintro i ⟨I,z,rfl⟩;refine⟨[.v T,.v (.int n),.v (.int a),.v (.int b),sv z],fF rfl,?_⟩;rw[f4 a b z];refine xw _ (s4 a b q o u t) c (aE.mpr ⟨Q,S⟩) ?_ _ ⟨z,rfl⟩;rintro i ⟨q4,rfl⟩;exact⟨[.v T,.v (.int n),.v (.int a),.v (.int b),.v (.int c)],fF rfl,(X a b c q o u t Q S).2 e⟩
 obtain⟨i,ee⟩:=fin;have Z:MV [.v T,.no,.no,.no,.no]=.ex i ⟨2⟩:=(bA st).trans ee;rw[<-U];exact Oj Z
theorem Xz{b:Type}(enc:b->D)(g:b->List Int)(l:List b)(h:∀x∈l,f (enc x)=.ok (g x)):r9 f (l.map enc)=.ok (l.map g):=by induction l with |nil=>rfl |cons a l i=>rw[b7,r9,h a (by simp),i fun x d=>h x (by simp[d])];rfl
def XB(n:Nat)(d:Int->Int->Int):Prop:=(∃a:Int,(0<=a/\a<n)/\d a a≠0)\/(∃a b:Int,(0<=b/\b<a/\a<n)/\d a b≠d b a)\/(∃a b c:Int,(0<=a/\a<n)/\(0<=b/\b<n)/\(0<=c/\c<n)/\d a b+d b c<d a c)
theorem XC(hB:B<=2000000000000000000)(ok:dQ n B d)(A:0<n)(hn:n<=100)(z0:0<=z):∃K:Int->Int->Int,XB n K/\AL [aM (aH n d),.int z]=.ok (aM (aH n K)):=by
  obtain⟨T,eT⟩:∃T,T=aM (aH n d):=⟨_,rfl⟩;have lT:aW [T]=some (.int n):=by rw[eT];exact uv
  have fn:fc (n:Int):=dH 1000 (by omega);have f3:fc 3:=dH 1000 (by decide);have XD:fc 30:=dH 1000 (by decide);have S:fc 300:=dH 1000 (by decide);have J:(0:Int)<n:=by omega
  obtain⟨x,ex⟩:∃x,x=z/3%n:=⟨_,rfl⟩;obtain⟨y,ey⟩:∃y,y=z/30%n:=⟨_,rfl⟩;have k:0<=x:=by rw[ex];exact nz _ J
  have j:x<n:=by rw[ex];exact oz _ J
  have q:0<=y:=by rw[ey];exact nz _ J
  have s:y<n:=by rw[ey];exact oz _ J
  have k1:CI [.v T,.v (.int z),.v (.int n),.no,.no,.no,.no]=.ok (aH n d):=by
    unfold CI Fh;have r:cP (ag 0) [.v T,.v (.int z),.v (.int n),.no,.no,.no,.no]=.ok ((aH n d).map iL):=by rw[eT];simp[cP,ag,aM]
    rw[r,R.aC,gq (by simp[aH,gx];exact bV hn (by decide))];have g:r9 (wW (eD 0) (bp kq (ai (ag 0) ae)) (eJ [.v T,.v (.int z),.v (.int n),.no,.no,.no,.no] [] 1)) ((aH n d).map iL)=.ok ((aH n d).map id):=by refine Xz iL id _ fun l _=>?_;have f:kq [iL l]=some (iL l):=rfl;have al:u0 (iL l)=some l:=qO _;have e:eJ [.v T,.v (.int z),.v (.int n),.no,.no,.no,.no] [] 1=[.no]:=rfl;rw[e];simp[wW,eD,bp,ai,ae,ag,f,al]
    rw[g,List.map_id];rfl
  have q1:av (bp aW (ai (ag 0) ae)) (aG 2) [.v T,.v (.int z),.no,.no,.no,.no,.no]=.nx [.v T,.v (.int z),.v (.int n),.no,.no,.no,.no]:=cB (d:=.int n) (by simp[bp,ai,ae,ag,lT]) rfl;have q2:B4 CI 3 [.v T,.v (.int z),.v (.int n),.no,.no,.no,.no]=.nx [.v T,.v (.int z),.v (.int n),.p (ji n d),.no,.no,.no]:=by unfold B4;rw[k1];rfl
  obtain⟨c,m⟩:∃c,c=ji n d:=⟨_,rfl⟩;rw[<-m] at q2;have q3:av (m2 oMod (m2 oDiv (ag 1) (mC (.int 3))) (ag 2)) (aG 4) [.v T,.v (.int z),.v (.int n),.p c,.no,.no,.no]=.nx [.v T,.v (.int z),.v (.int n),.p c,.v (.int x),.no,.no]:=cB (d:=.int x) (by simp[ag,mC,um,f3,lz J,ex]) rfl;have q4:av (m2 oMod (m2 oDiv (ag 1) (mC (.int 30))) (ag 2)) (aG 5) [.v T,.v (.int z),.v (.int n),.p c,.v (.int x),.no,.no]=.nx [.v T,.v (.int z),.v (.int n),.p c,.v (.int x),.v (.int y),.no]:=cB (d:=.int y) (by simp[ag,mC,um,XD,lz J,ey]) rfl;have run:∀K o6,a_ (aV (m2 oEq (ag 4) (ag 5))) (r_ 3 (af 4) (af 4) (m2 bo (mC (.int 1)) (m2 oMod (m2 oDiv (ag 1) (mC (.int 300))) (mC (.int 9))))) (a_ (aV (m2 oEq (m2 oMod (ag 1) (mC (.int 3))) (mC (.int 0)))) (r_ 3 (af 4) (af 5) (yn (m2 bo (m2 aw (m2 aw (ag 3) (ag 4)) (ag 5)) (mC (.int 1))))) (aq (av (m2 bo (m2 fe (mC (.int 3)) (bp (uZ ij) (ai CJ ae))) (mC (.int 1))) (aG 6)) (aq (r_ 3 (af 4) (af 5) (af 6)) (r_ 3 (af 5) (af 4) (m2 aw (aU (ai (af 6) (ai (m2 bo (ag 6) (mC (.int 1))) ae))) (bp qq (ai (m2 oEq (ag 2) (mC (.int 2))) ae))))))) [.v T,.v (.int z),.v (.int n),.p c,.v (.int x),.v (.int y),.no]=.nx [.v T,.v (.int z),.v (.int n),.p (ji n K),.v (.int x),.v (.int y),o6]->AL [T,.int z]=.ok (aM (aH n K)):=fun K o6 h=> qQ ((bA q1).trans ((bA q2).trans ((bA q3).trans ((bA q4).trans ((bA h).trans (by simp[B6,ji]))))));rw[<-eT];by_cases I:x=y;.obtain⟨v,ev⟩:∃v,v=1+z/300%9:=⟨_,rfl⟩;have v0:=nz (z/300) (show(0:Int)<9 by decide);have U:=CN (i:=3) (mk:=af 4) (mj:=af 4) (me:=m2 bo (mC (.int 1)) (m2 oMod (m2 oDiv (ag 1) (mC (.int 300))) (mC (.int 9)))) (δ:=[.v T,.v (.int z),.v (.int n),.p c,.v (.int x),.v (.int y),.no]) (n:=n) (d:=d) (a:=x) (b:=x) (v:=v) (by rw[m];rfl) rfl rfl (by simp[ag,mC,um,S,lz,ev]) k j k j;refine⟨dB d x x v,.inl ⟨x,⟨k,j⟩,by simp[dB];lia⟩,run _ .no ?_⟩;rw[gg (by simp[aV,ag,I])];exact U
  . have f1:∀o,aV (m2 oEq (ag 4) (ag 5)) [.v T,.v (.int z),.v (.int n),.p c,.v (.int x),.v (.int y),o]=.ok false:=fun o=>by simp[aV,ag,I]
    by_cases c2:z%3=0
    . have pv:yn (m2 bo (m2 aw (m2 aw (ag 3) (ag 4)) (ag 5)) (mC (.int 1))) [.v T,.v (.int z),.v (.int n),.p c,.v (.int x),.v (.int y),.no]=.ok (.int (d x y+1)):=by have t:=t6 (n:=n) (d:=d) k j;have r:=lB (n:=n) (f:=d x) q s;unfold yn;rw[m,Xx];simp[peek,Fg,ag,mC,t,r,uT]
      have U:=CN (i:=3) (mk:=af 4) (mj:=af 5) (δ:=[.v T,.v (.int z),.v (.int n),.p c,.v (.int x),.v (.int y),.no]) (n:=n) (d:=d) (by rw[m];rfl) rfl rfl pv k j q s;refine⟨dB d x y (d x y+1),.inr (.inl ?_),run _ .no ?_⟩
      . have sy:=ok.sym x y k j q s;have Z:dB d x y (d x y+1) x y=d x y+1:=by simp[dB]
        have u2:dB d x y (d x y+1) y x=d y x:=by simp[dB];intro e;exact absurd e.symm I
        rcases qB I with G|G;.exact⟨y,x,⟨k,G,s⟩,by rw[Z,u2];omega⟩
        .exact⟨x,y,⟨q,G,j⟩,by rw[Z,u2];omega⟩
      .rw[fM (f1 _),gg (by simp[aV,ag,mC,lz,c2])];exact U
    . obtain⟨W,M⟩:∃W:List Int,W=(aX n).map fun a=>rM ((aX n).map (d a)):=⟨_,rfl⟩;have N:W≠[]:=by rw[M];exact C0 A
      have k2:CJ [.v T,.v (.int z),.v (.int n),.p c,.v (.int x),.v (.int y),.no]=.ok (iL W):=by refine nC (oI (l:=(aX n).map fun p=>iL ((aX n).map (d p))) (r:=(aX n).map fun p=>.int (rM ((aX n).map (d p)))) (by rw[eT];simp[cP,ag,aM,aH]) (by rw[aI,gx];omega) ?_) (by rw[M];simp[iL]);refine qP (fun p=>iL ((aX n).map (d p))) (fun p=>.int (rM ((aX n).map (d p)))) _ fun p _=>?_;have e:eJ [.v T,.v (.int z),.v (.int n),.p c,.v (.int x),.v (.int y),.no] [] 1=[.no]:=rfl;rw[e];have mx:=Oi (C0 (f:=d p) A);obtain⟨Rw,eR⟩:∃Rw,Rw=iL ((aX n).map (d p)):=⟨_,rfl⟩;rw[<-eR] at mx⊢;simp[jN,eD,bp,ai,ae,ag,mx]
      obtain⟨Q,XE⟩:=Hc N;have L:∀a b:Int,0<=a->a<n->0<=b->b<n->d a b<=rM W:=fun a b E H b0 b1=>by have h1:=(Hc (C0 (f:=d a) A)).2 (d a b) (c8.mpr ⟨b,aE.mpr ⟨b0,b1⟩,rfl⟩);have h2:=XE (rM ((aX n).map (d a))) (by rw[M];exact c8.mpr ⟨a,aE.mpr ⟨E,H⟩,rfl⟩);omega
      have hi:0<=rM W/\rM W<=B:=by rw[M] at Q;obtain⟨a,ha,ea⟩:=c8.mp Q;obtain⟨E,H⟩:=aE.mp ha;obtain⟨b,hb,eb⟩:=c8.mp (Hc (C0 (f:=d a) A)).1;obtain⟨b0,b1⟩:=aE.mp hb;rw[<-M,<-eb] at ea;rw[<-ea];exact ok.nn a b E H b0 b1
      have bw:=Oi N;obtain⟨w,ew⟩:∃w:Int,w=3*rM W+1:=⟨_,rfl⟩;have fW:fc (rM W):=dH (10^20) (by lia);have U:av (m2 bo (m2 fe (mC (.int 3)) (bp (uZ ij) (ai CJ ae))) (mC (.int 1))) (aG 6) [.v T,.v (.int z),.v (.int n),.p c,.v (.int x),.v (.int y),.no]=.nx [.v T,.v (.int z),.v (.int n),.p c,.v (.int x),.v (.int y),.v (.int w)]:=by refine cB (d:=.int w) ?_ rfl;simp[bp,ai,ae,mC,k2,bw,uW f3 fW,ew]
      have s2:=CN (i:=3) (mk:=af 4) (mj:=af 5) (me:=af 6) (δ:=[.v T,.v (.int z),.v (.int n),.p c,.v (.int x),.v (.int y),.v (.int w)]) (n:=n) (d:=d) (by rw[m];rfl) rfl rfl rfl k j q s;obtain⟨u,C⟩:∃u:Int,u=if n=2 then w+1 else w:=⟨_,rfl⟩;have X:m2 aw (aU (ai (af 6) (ai (m2 bo (ag 6) (mC (.int 1))) ae))) (bp qq (ai (m2 oEq (ag 2) (mC (.int 2))) ae)) [.v T,.v (.int z),.v (.int n),.p (ji n (dB d x y w)),.v (.int x),.v (.int y),.v (.int w)]=.ok (.int u):=by
        have ls:aU (ai (af 6) (ai (m2 bo (ag 6) (mC (.int 1))) ae)) [.v T,.v (.int z),.v (.int n),.p (ji n (dB d x y w)),.v (.int x),.v (.int y),.v (.int w)]=.ok (.lst [.int w,.int (w+1)]):=by simp[aU,ai,ae,af,ag,mC,sizeLine]
        have e1:m2 oEq (ag 2) (mC (.int 2)) [.v T,.v (.int z),.v (.int n),.p (ji n (dB d x y w)),.v (.int x),.v (.int y),.v (.int w)]=.ok (.bl (decide ((n:Int)=2))):=b8 rfl rfl (rZ _ _);by_cases Y:n=2;.rw[bg (by lia)] at e1;rw[C,ak Y];exact b8 ls (t9 e1 rfl) rfl
        .rw[bf (by lia)] at e1;rw[C,ao Y];exact b8 ls (t9 e1 rfl) rfl
      have s3:=CN (i:=3) (mk:=af 5) (mj:=af 4) (δ:=[.v T,.v (.int z),.v (.int n),.p (ji n (dB d x y w)),.v (.int x),.v (.int y),.v (.int w)]) (n:=n) (d:=dB d x y w) rfl rfl rfl X q s k j;refine⟨dB (dB d x y w) y x u,?_,run _ (.v (.int w)) ?_⟩
      . have u3:dB (dB d x y w) y x u x y=w:=by unfold dB;rw[ao (fun h=>I h.1),ak ⟨rfl,rfl⟩]
        have u4:dB (dB d x y w) y x u y x=u:=by unfold dB;rw[ak ⟨rfl,rfl⟩]
        by_cases Y:n=2
        . refine .inr (.inl ?_);rw[ak Y] at C;rcases qB I with G|G;.exact⟨y,x,⟨k,G,s⟩,by rw[u3,u4];lia⟩
          .exact⟨x,y,⟨q,G,j⟩,by rw[u3,u4];lia⟩
        refine .inr (.inr ?_);obtain⟨a,E,H,ax,ay⟩:∃a:Int,0<=a/\a<n/\a≠x/\a≠y:=by
          have:3<=n:=by lia
          by_cases h0:(0:Int)≠x/\(0:Int)≠y;.exact⟨0,by omega,by omega,h0.1,h0.2⟩
          . by_cases h1:(1:Int)≠x/\(1:Int)≠y;.exact⟨1,by lia,by omega,h1.1,h1.2⟩
            .exact⟨2,by lia,by lia,by lia,by lia⟩
        have Z:dB (dB d x y w) y x u x a=d x a:=by simp[dB,ax,ay]
        have u2:dB (dB d x y w) y x u a y=d a y:=by simp[dB,ax,ay]
        refine⟨x,a,y,⟨k,j⟩,⟨E,H⟩,⟨q,s⟩,?_⟩;rw[Z,u2,u3,ew];have:=L x a k j E H;have:=L a y E H q s;lia
      .rw[fM (f1 _),fM (by simp[aV,ag,mC,lz,c2])];exact(bA U).trans ((bA s2).trans s3)
theorem Ol(h:se [T]=.ex ⟨2⟩):sf [T,a,b,c]=.ex ⟨2⟩:=by
 have:Ng (rY 2 [T,a,b,c])=.ex [.v T,.v a,.v b,.v c,.no,.no] ⟨2⟩:=by show aq _ _ [.v T,.v a,.v b,.v c,.no,.no]=_;simp[aq,mW,iV,ai,ae,af,h]
 exact Oj this
theorem XF(h:se [T]=.ex ⟨2⟩):CK [T,.tup [a,b,c]]=.ok (.bl true):=by
 have f:=Ol h (a:=a) (b:=b) (c:=c);refine jO ?_;have g:av (mC .non) (aG 2) [.v T,.v (.tup [a,b,c]),.no,.no]=.nx _:=rfl;have j:aL (.tup [a,b,c]) (.int 0)=some a:=rfl;have e:aL (.tup [a,b,c]) (.int 1)=some b:=rfl;have i:aL (.tup [a,b,c]) (.int 2)=some c:=rfl;have k:tO (mW (iV sf (ai (af 0) (ai (m2 aL (ag 1) (mC (.int 0))) (ai (m2 aL (ag 1) (mC (.int 1))) (ai (m2 aL (ag 1) (mC (.int 2))) ae)))))) FW 3 (av (af 3) (aG 2)) [.v T,.v (.tup [a,b,c]),.v .non,.no]=.nx [.v T,.v (.tup [a,b,c]),.v (.exc 2),.no]:=by
  have:mW (iV sf (ai (af 0) (ai (m2 aL (ag 1) (mC (.int 0))) (ai (m2 aL (ag 1) (mC (.int 1))) (ai (m2 aL (ag 1) (mC (.int 2))) ae))))) [.v T,.v (.tup [a,b,c]),.v .non,.no]=.ex [.v T,.v (.tup [a,b,c]),.v .non,.no] ⟨2⟩:=by simp[mW,iV,ai,ae,af,ag,mC,j,e,i,f]
  unfold tO;rw[this];rfl
 refine(bA g).trans ((bA k).trans ?_);rfl
theorem XG(h:se [T]=.ex ⟨2⟩):CL [T,.tup [a,b,c]]=.ok (.bl true):=by
 have f:=Ol h (a:=a) (b:=b) (c:=c);refine jO ?_;have i:aL (.tup [a,b,c]) (.int 0)=some a:=rfl;have e:aL (.tup [a,b,c]) (.int 1)=some b:=rfl;have g:aL (.tup [a,b,c]) (.int 2)=some c:=rfl;have j:z5 (mW (iV sf (ai (af 0) (ai (m2 aL (ag 1) (mC (.int 0))) (ai (m2 aL (ag 1) (mC (.int 1))) (ai (m2 aL (ag 1) (mC (.int 2))) ae)))))) FV (aT (mC (.bl true))) [.v T,.v (.tup [a,b,c])]=.rt (.bl true):=by
  have:mW (iV sf (ai (af 0) (ai (m2 aL (ag 1) (mC (.int 0))) (ai (m2 aL (ag 1) (mC (.int 1))) (ai (m2 aL (ag 1) (mC (.int 2))) ae))))) [.v T,.v (.tup [a,b,c])]=.ex [.v T,.v (.tup [a,b,c])] ⟨2⟩:=by simp[mW,iV,ai,ae,af,ag,mC,i,e,g,f]
  unfold z5;rw[this];rfl
 exact kY j
theorem oh (ns:List Int) (lo hi:Option Int):∃cs:List Int,cutD (ns.map D.int) lo hi=cs.map .int:=by
 unfold cutD
 rw[← jU,← lR]
 exact⟨_,rfl⟩
theorem Om (n:Nat) (d:Int→Int→Int):fE 7 (aM (aH n d))=true:=by
 unfold aM aH
 simp only[fE,bX,f9]
 simp[iL,fE]
theorem Oo {n:Nat} {d:Int→Int→Int} (hn:n≤100) {δ:En} {i:Nat} (h:ag i δ=.ok (aM (aH n d))) (e:eJ δ [] 1=[.no]):ly (cP (ag i)) [] 1 (eD 0) none (bp kq (ai (ag 0) ae)) δ=.ok (aM (aH n d)):=by
 unfold aM
 refine oI (l:=(aH n d).map iL) (by unfold cP;rw[h];rfl) (by simp[aH,gx];lia) ?_
 rw[e]
 refine qP iL iL (aH n d) fun l _=>?_
 have b:eD 0 (iL l) [.no]=some [.v (iL l)]:=rfl
 simp only[jN,b]
 rw[t9 (x:=iL l) (r:=iL l) rfl rfl];rfl
theorem XH {n:Nat} {B:Int} {d:Int→Int→Int} (ok:dQ n B d) (wJ:0<n) (hn:n≤7) {w:List Int} {S P:List (Int×Int)} (wn:w≠[]) (wl:w.length≤30) (sl:S.length≤12) (pl:P.length≤12) {z:Int} (z0:0≤z) (z1:z<2147483647) :
  CH [aM (aH n d),.tup [iL w,.lst (S.map aj),.lst (P.map aj)],.int z]=.ok (.bl true):=by
 have tl:aW [aM (aH n d)]=some (.int n):=uv
 have pT:=Om n d
 have cp:∀ {δ:En},ag 0 δ=.ok (aM (aH n d))→eJ δ [] 1=[.no]→Gq δ=.ok (aM (aH n d)):=fun h e=>Oo (by lia) h e
 have ck:∀ {w':List Int} {S' P':List (Int×Int)},w'.length<64→S'.length≤30→P'.length≤30→sf [aM (aH n d),iL w',.lst (S'.map aj),.lst (P'.map aj)]=.ok (wd (aM (aH n d)) n d w' S' P'):=fun a b c=>Xo ok wJ hn a b c
 have lw:∀ {w':List Int} {S' P':List (Int×Int)},w'.length<64→S'.length≤30→P'.length≤30→AK [aM (aH n d),iL w',.lst (S'.map aj),.lst (P'.map aj)]=.ok (wd (aM (aH n d)) n d w' S' P'):=fun a b c=>Xp wJ hn a b c
 obtain⟨T,eT⟩:∃T,T=aM (aH n d):=⟨_,rfl⟩
 rw[← eT] at tl pT cp ck lw ⊢
 obtain⟨Q,eQ⟩:∃Q,Q=D.tup [iL w,.lst (S.map aj),.lst (P.map aj)]:=⟨_,rfl⟩
 rw[← eQ]
 refine jO ?_
 show aq _ _ [.v T,.v Q,.v (.int z),.no,.no,.no,.no,.no,.no,.no,.no,.no]=_
 have f8:fc 8:=dH 10 (by decide)
 have f3:fc 3:=dH 10 (by decide)
 have f7:fc 7:=dH 10 (by decide)
 obtain⟨k,ek⟩:∃k,k=z%8:=⟨_,rfl⟩
 obtain⟨h,eh⟩:∃h,h=z/8:=⟨_,rfl⟩
 have h0:0≤h:=by lia
 have h1:h≤1000000000:=by lia
 have q1:av (af 1) (dn 3 (dv (aG 3) (dv (aG 4) (dv (aG 5) dG)))) [.v T,.v Q,.v (.int z),.no,.no,.no,.no,.no,.no,.no,.no,.no]=.nx [.v T,.v Q,.v (.int z),.v (iL w),.v (.lst (S.map aj)),.v (.lst (P.map aj)),.no,.no,.no,.no,.no,.no]:=cB (d:=Q) rfl (by rw[eQ];rfl)
 have q2:av (bp aW (ai (ag 0) ae)) (aG 6) [.v T,.v Q,.v (.int z),.v (iL w),.v (.lst (S.map aj)),.v (.lst (P.map aj)),.no,.no,.no,.no,.no,.no]=.nx [.v T,.v Q,.v (.int z),.v (iL w),.v (.lst (S.map aj)),.v (.lst (P.map aj)),.v (.int n),.no,.no,.no,.no,.no]:=cB (t9 rfl tl) rfl
 have q3:av (m2 oMod (ag 2) (mC (.int 8))) (aG 7) [.v T,.v Q,.v (.int z),.v (iL w),.v (.lst (S.map aj)),.v (.lst (P.map aj)),.v (.int n),.no,.no,.no,.no,.no]=.nx [.v T,.v Q,.v (.int z),.v (iL w),.v (.lst (S.map aj)),.v (.lst (P.map aj)),.v (.int n),.v (.int k),.no,.no,.no,.no]:=cB (d:=.int k) (by rw[ek];exact b8 rfl rfl (lz (by decide))) rfl
 have q4:av (m2 oDiv (ag 2) (mC (.int 8))) (aG 8) [.v T,.v Q,.v (.int z),.v (iL w),.v (.lst (S.map aj)),.v (.lst (P.map aj)),.v (.int n),.v (.int k),.no,.no,.no,.no]=.nx [.v T,.v Q,.v (.int z),.v (iL w),.v (.lst (S.map aj)),.v (.lst (P.map aj)),.v (.int n),.v (.int k),.v (.int h),.no,.no,.no]:=cB (d:=.int h) (by rw[eh];exact b8 rfl rfl (um (by decide) f8)) rfl
 -- the three changes
 have w1:∃w':List Int,w'.length≤31∧a_ (iU (aV (m2 oLt (ag 7) (mC (.int 3)))) (aV (m2 oEq (ag 7) (mC (.int 6))))) (av (bD Cs (ai (af 3) (ai (af 8) (ai (af 6) ae)))) (aG 3)) cU [.v T,.v Q,.v (.int z),.v (iL w),.v (.lst (S.map aj)),.v (.lst (P.map aj)),.v (.int n),.v (.int k),.v (.int h),.no,.no,.no]=.nx [.v T,.v Q,.v (.int z),.v (iL w'),.v (.lst (S.map aj)),.v (.lst (P.map aj)),.v (.int n),.v (.int k),.v (.int h),.no,.no,.no]:=by
  have t:=yD (iA (b8 (δ:=[.v T,.v Q,.v (.int z),.v (iL w),.v (.lst (S.map aj)),.v (.lst (P.map aj)),.v (.int n),.v (.int k),.v (.int h),.no,.no,.no]) (a:=ag 7) (b:=mC (.int 3)) rfl rfl (KN k 3))) (iA (b8 (a:=ag 7) (b:=mC (.int 6)) rfl rfl (rZ k 6)))
  by_cases c:(decide (k<3) || decide (k=6))=true
  ·obtain⟨w',l',hw⟩:=Xq (z:=h) (n:=n) wn (by lia)
   exact⟨w',by lia,(gg (by rw[t,c])).trans (cB (vt rfl rfl rfl hw) rfl)⟩
  ·exact⟨w,by lia,(fM (by rw[t,sj.mpr c])).trans rfl⟩
 obtain⟨w',wl',q5⟩:=w1
 have w2:∃S':List (Int×Int),S'.length≤20∧a_ (mU (aV (m2 n6 (ag 7) (mC (.int 1)))) (aV (m2 oLt (ag 7) (mC (.int 5))))) (av (bD Cu (ai (af 4) (ai (m2 oDiv (ag 8) (mC (.int 3))) (ai (af 6) ae)))) (aG 4)) cU [.v T,.v Q,.v (.int z),.v (iL w'),.v (.lst (S.map aj)),.v (.lst (P.map aj)),.v (.int n),.v (.int k),.v (.int h),.no,.no,.no]=.nx [.v T,.v Q,.v (.int z),.v (iL w'),.v (.lst (S'.map aj)),.v (.lst (P.map aj)),.v (.int n),.v (.int k),.v (.int h),.no,.no,.no]:=by
  have t:=Oe (iA (b8 (δ:=[.v T,.v Q,.v (.int z),.v (iL w'),.v (.lst (S.map aj)),.v (.lst (P.map aj)),.v (.int n),.v (.int k),.v (.int h),.no,.no,.no]) (a:=ag 7) (b:=mC (.int 1)) rfl rfl (wR k 1))) (iA (b8 (a:=ag 7) (b:=mC (.int 5)) rfl rfl (KN k 5)))
  by_cases c:(decide (1<k) && decide (k<5))=true
  ·obtain⟨S',l',hw⟩:=Xt (S:=S) (z:=h/3) (n:=n) sl (by lia) (by lia) wJ hn
   exact⟨S',l',(gg (by rw[t];exact bT R.ok c)).trans (cB (vt rfl (b8 rfl rfl (um (by decide) f3)) rfl hw) rfl)⟩
  ·exact⟨S,by lia,(fM (by rw[t];exact bT R.ok (sj.mpr c))).trans rfl⟩
 obtain⟨S',Qb,q6⟩:=w2
 have w3:∃P':List (Int×Int),P'.length≤20∧a_ (iU (aV (m2 oEq (ag 7) (mC (.int 3)))) (iU (aV (m2 oEq (ag 7) (mC (.int 5)))) (aV (m2 oEq (ag 7) (mC (.int 6)))))) (av (bD Cv (ai (af 5) (ai (m2 oDiv (ag 8) (mC (.int 7))) (ai (af 6) ae)))) (aG 5)) cU [.v T,.v Q,.v (.int z),.v (iL w'),.v (.lst (S'.map aj)),.v (.lst (P.map aj)),.v (.int n),.v (.int k),.v (.int h),.no,.no,.no]=.nx [.v T,.v Q,.v (.int z),.v (iL w'),.v (.lst (S'.map aj)),.v (.lst (P'.map aj)),.v (.int n),.v (.int k),.v (.int h),.no,.no,.no]:=by
  have t:=yD (iA (b8 (δ:=[.v T,.v Q,.v (.int z),.v (iL w'),.v (.lst (S'.map aj)),.v (.lst (P.map aj)),.v (.int n),.v (.int k),.v (.int h),.no,.no,.no]) (a:=ag 7) (b:=mC (.int 3)) rfl rfl (rZ k 3))) (yD (iA (b8 (a:=ag 7) (b:=mC (.int 5)) rfl rfl (rZ k 5))) (iA (b8 (a:=ag 7) (b:=mC (.int 6)) rfl rfl (rZ k 6))))
  by_cases c:(decide (k=3) || (decide (k=5) || decide (k=6)))=true
  ·obtain⟨P',l',hw⟩:=Xv (S:=P) (z:=h/7) (n:=n) pl wJ
   exact⟨P',l',(gg (by rw[t,c])).trans (cB (vt rfl (b8 rfl rfl (um (by decide) f7)) rfl hw) rfl)⟩
  ·exact⟨P,by lia,(fM (by rw[t,sj.mpr c])).trans rfl⟩
 obtain⟨P',pl',q7⟩:=w3
 obtain⟨Wd,eW⟩:∃Wd,Wd=wd T n d w' S' P':=⟨_,rfl⟩
 have cq:=ck (w':=w') (S':=S') (P':=P') (by lia) (by lia) (by lia)
 have lq:=lw (w':=w') (S':=S') (P':=P') (by lia) (by lia) (by lia)
 have kd:=Xk T n d w' S' P'
 rw[← eW] at cq lq kd
 obtain⟨A,eA⟩:∃A,A=D.lst (S'.map aj):=⟨_,rfl⟩
 obtain⟨C,eC⟩:∃C,C=D.lst (P'.map aj):=⟨_,rfl⟩
 have pA:fE 7 A=true:=by
  rw[eA]
  show (S'.map aj).all (fE 6)=true
  rw[f9,d_]
  intro x _;rfl
 have pC:fE 7 C=true:=by
  rw[eC]
  show (P'.map aj).all (fE 6)=true
  rw[f9,d_]
  intro x _;rfl
 have pW:fE 7 (iL w')=true:=by
  show (w'.map D.int).all (fE 6)=true
  rw[f9,d_]
  intro x _;rfl
 have fA:kq [A]=some A:=by rw[eA];rfl
 have fC:kq [C]=some C:=by rw[eC];rfl
 rw[← eA] at q6 q7 cq lq
 rw[← eC] at q7 cq lq
 refine (bA q1).trans ((bA q2).trans ((bA q3).trans ((bA q4).trans ((bA q5).trans ((bA q6).trans ((bA q7).trans ?_))))))
 obtain⟨H,eH⟩:∃H,H=D.tup [iL w',A,C,T]:=⟨_,rfl⟩
 have pH:fE 8 H=true:=by
  rw[eH]
  simp only[fE,il,List.all_nil,pT,pA,pC,pW,Bool.and_true]
 have fw:kq [iL w']=some (iL w'):=rfl
 have q8:av (bL (ai (bp kq (ai (ag 3) ae)) (ai (bp kq (ai (ag 4) ae)) (ai (bp kq (ai (ag 5) ae)) (ai Gq ae))))) (aG 9) [.v T,.v Q,.v (.int z),.v (iL w'),.v A,.v C,.v (.int n),.v (.int k),.v (.int h),.no,.no,.no]=.nx [.v T,.v Q,.v (.int z),.v (iL w'),.v A,.v C,.v (.int n),.v (.int k),.v (.int h),.v H,.no,.no]:=by
  refine cB (d:=H) ?_ rfl
  have k1:=cp (δ:=[.v T,.v Q,.v (.int z),.v (iL w'),.v A,.v C,.v (.int n),.v (.int k),.v (.int h),.no,.no,.no]) rfl rfl
  rw[eH]
  simp[bL,bp,ai,ae,ag,fw,fA,fC,k1,sizeLine]
 have x0:aL H (.int 0)=some (iL w'):=by rw[eH];rfl
 have x1:aL H (.int 1)=some A:=by rw[eH];rfl
 have x2:aL H (.int 2)=some C:=by rw[eH];rfl
 have x3:aL H (.int 3)=some T:=by rw[eH];rfl
 have q9:av (bD sf (ai (m2 aL (ag 9) (mC (.int 3))) (ai (m2 aL (ag 9) (mC (.int 0))) (ai (m2 aL (ag 9) (mC (.int 1))) (ai (m2 aL (ag 9) (mC (.int 2))) ae))))) (aG 10) [.v T,.v Q,.v (.int z),.v (iL w'),.v A,.v C,.v (.int n),.v (.int k),.v (.int h),.v H,.no,.no]=.nx [.v T,.v Q,.v (.int z),.v (iL w'),.v A,.v C,.v (.int n),.v (.int k),.v (.int h),.v H,.v Wd,.no]:=cB (N0 (b8 rfl rfl x3) (b8 rfl rfl x0) (b8 rfl rfl x1) (b8 rfl rfl x2) cq) rfl
 have XI:a_ (aV (m2 ig (ag 9) (bL (ai (af 3) (ai (af 4) (ai (af 5) (ai (af 0) ae))))))) (aT (mC (.bl false))) cU [.v T,.v Q,.v (.int z),.v (iL w'),.v A,.v C,.v (.int n),.v (.int k),.v (.int h),.v H,.v Wd,.no]=.nx [.v T,.v Q,.v (.int z),.v (iL w'),.v A,.v C,.v (.int n),.v (.int k),.v (.int h),.v H,.v Wd,.no]:=by
  have tp:bL (ai (af 3) (ai (af 4) (ai (af 5) (ai (af 0) ae)))) [.v T,.v Q,.v (.int z),.v (iL w'),.v A,.v C,.v (.int n),.v (.int k),.v (.int h),.v H,.v Wd,.no]=.ok H:=by
   rw[eH]
   simp[bL,ai,ae,af,sizeLine]
  rw[fM (iA (b8 rfl tp (Sj pH pH rfl)))];rfl
 have XJ:av (bD AK (ai (af 0) (ai (af 3) (ai (af 4) (ai (af 5) ae))))) (aG 11) [.v T,.v Q,.v (.int z),.v (iL w'),.v A,.v C,.v (.int n),.v (.int k),.v (.int h),.v H,.v Wd,.no]=.nx [.v T,.v Q,.v (.int z),.v (iL w'),.v A,.v C,.v (.int n),.v (.int k),.v (.int h),.v H,.v Wd,.v Wd]:=cB (N0 rfl rfl rfl rfl lq) rfl
 refine (bA q8).trans ((bA q9).trans ((bA XI).trans ((bA XJ).trans ?_)))
 rcases kd with e|⟨x,e⟩
 ·rw[e];rfl
 ·rw[e]
  have eq:oEq (.str x) (.str x)=some (.bl true):=by simp[oEq,fl,pU]
  refine (oN (by rfl)).trans ?_
  unfold aT
  rw[CW (by rfl),b8 rfl rfl eq];rfl
theorem ua (ns:List Int) (h:ns.length≤63):Nz [.du ns]=.ok (.bl true):=by
 obtain⟨ds,He⟩:=oh ns (some 5) none
 have m7:=nz (ns.getD 0 0) (show (0:Int)<7 by decide)
 have m7':=oz (ns.getD 0 0) (show (0:Int)<7 by decide)
 obtain⟨n,en⟩:∃n:Nat,(n:Int)=1+ns.getD 0 0%7:=⟨(1+ns.getD 0 0%7).toNat,by lia⟩
 have n0:0<n:=by lia
 have n1:n≤7:=by lia
 obtain⟨d,ok,hlen⟩:=Wt ds n0 (by lia) (ns.getD 0 0/7)
 have c:∀k:Nat,oy [.du ns,.int k]=.ok (.int (ns.getD k 0)):=Wg ns
 have f7:fc 7:=dH 10 (by decide)
 have Oq:∀ {δ:En},ag 2 δ=.ok (aM (aH n d))→eJ δ [] 1=[.no]→Gs δ=.ok (aM (aH n d)):=fun a b=>Oo (by lia) a b
 have lt:=NM ok n0 (by lia)
 have sm:=GJ (d:=d) n0 (n - 1) (by lia)
 have sl:=GH n d (n - 1)
 obtain⟨S,eS⟩:∃S,S=j' n d (n - 1):=⟨_,rfl⟩
 rw[← eS] at lt sm sl
 have oe:=GK (R:=S) (by lia)
 rw[G1 sm] at oe
 have ol:=G3 n S
 have lp:=NW ok (by lia) (ns:=b6 n S) (fun q hq=>CZ hq) (G2 sm) (by lia)
 obtain⟨P,eP⟩:∃P,P=yo (aM (aH n d)) (b6 n S):=⟨_,rfl⟩
 have pl:P.length≤3:=by
  rw[eP]
  have:=NV (aM (aH n d)) (b6 n S)
  lia
 rw[← eP] at lp
 obtain⟨w,⟨wl,wn⟩,pr⟩:=WS ok n0 (by lia)
 have lk:∀z:Int,0≤z→z<2147483647→CH [aM (aH n d),.tup [iL w,.lst (S.map aj),.lst (P.map aj)],.int z]=.ok (.bl true):=fun z z0 z1=>XH ok n0 n1 wn wl (by lia) (by lia) z0 z1
 have br:=fun z z0=>XC (B:=2000000000000000000) (iZ _) ok n0 (by lia) (z:=z) z0
 have pT:=Om n d
 obtain⟨T,eT⟩:∃T,T=aM (aH n d):=⟨_,rfl⟩
 rw[← eT] at hlen lt lp pr lk br Oq pT
 obtain⟨A,eA⟩:∃A,A=D.lst (S.map aj):=⟨_,rfl⟩
 obtain⟨C,eC⟩:∃C,C=D.lst (P.map aj):=⟨_,rfl⟩
 rw[← eA] at lt oe lk
 rw[← eC] at lp lk
 obtain⟨Q,eQ⟩:∃Q,Q=D.tup [iL w,A,C]:=⟨_,rfl⟩
 rw[← eQ] at lk
 refine jO ?_
 show aq _ _ [.v (.du ns),.no,.no,.no,.no,.no,.no,.no,.no]=_
 have q1:av (m2 bo (mC (.int 1)) (m2 oMod (bD oy (ai (af 0) (ai (mC (.int 0)) ae))) (mC (.int 7)))) (aG 1) [.v (.du ns),.no,.no,.no,.no,.no,.no,.no,.no]=.nx [.v (.du ns),.v (.int n),.no,.no,.no,.no,.no,.no,.no]:=by
  refine cB (d:=.int n) ?_ rfl
  rw[en]
  exact b8 rfl (b8 (jv rfl rfl (c 0)) rfl (lz (by decide))) (tN _ _)
 have q2:av (bD AA (ai (dg (ag 0) (cz (mC (.int 5))) bG) (ai (af 1) (ai (m2 oDiv (bD oy (ai (af 0) (ai (mC (.int 0)) ae))) (mC (.int 7))) ae)))) (aG 2) [.v (.du ns),.v (.int n),.no,.no,.no,.no,.no,.no,.no]=.nx [.v (.du ns),.v (.int n),.v T,.no,.no,.no,.no,.no,.no]:=by
  refine cB (d:=T) (vt (x:=iL ds) ?_ rfl (b8 (jv rfl rfl (c 0)) rfl (um (by decide) f7)) hlen) rfl
  simp only[dg,ag,cz,bG,mC,c6,R.aC,EW,R.bj,zF,He]
  rfl
 have q3:av Gs (aG 3) [.v (.du ns),.v (.int n),.v T,.no,.no,.no,.no,.no,.no]=.nx [.v (.du ns),.v (.int n),.v T,.v T,.no,.no,.no,.no,.no]:=cB (Oq rfl rfl) rfl
 have q4:av (bD yq (ai (af 2) ae)) (aG 4) [.v (.du ns),.v (.int n),.v T,.v T,.no,.no,.no,.no,.no]=.nx [.v (.du ns),.v (.int n),.v T,.v T,.v A,.no,.no,.no,.no]:=cB (xt rfl lt) rfl
 have q5:av (bL (ai (bD yt (ai (af 2) ae)) (ai (af 4) (ai (bD ur (ai (af 2) (ai (bD rE (ai (af 4) ae)) ae))) ae)))) (aG 5) [.v (.du ns),.v (.int n),.v T,.v T,.v A,.no,.no,.no,.no]=.nx [.v (.du ns),.v (.int n),.v T,.v T,.v A,.v Q,.no,.no,.no]:=by
  refine cB (d:=Q) ?_ rfl
  have e1:bD yt (ai (af 2) ae) [.v (.du ns),.v (.int n),.v T,.v T,.v A,.no,.no,.no,.no]=.ok (iL w):=xt rfl pr
  have e2:bD ur (ai (af 2) (ai (bD rE (ai (af 4) ae)) ae)) [.v (.du ns),.v (.int n),.v T,.v T,.v A,.no,.no,.no,.no]=.ok C:=jv rfl (xt rfl oe) lp
  generalize bD yt (ai (af 2) ae)=u1 at e1 ⊢
  generalize bD ur (ai (af 2) (ai (bD rE (ai (af 4) ae)) ae))=u2 at e2 ⊢
  rw[eQ]
  simp[bL,ai,ae,af,e1,e2,sizeLine]
 obtain⟨δ,l1,p6,rfl⟩:=lZ (b:=aG 6) (m:=Gu) (fun j:Nat=>D.int ((j+1:Nat):Int)) (fun _ δ=>∃p6:Option D,δ=[.v (.du ns),.v (.int n),.v T,.v T,.v A,.v Q,sv p6,.no,.no]) (List.range 3)
  (by
   rintro pre j post δ tK ⟨p6,rfl⟩
   have hj:=cF.mp (show j∈List.range 3 by rw[tK];simp)
   refine⟨[.v (.du ns),.v (.int n),.v T,.v T,.v A,.v Q,.v (.int ((j+1:Nat):Int)),.no,.no],[.v (.du ns),.v (.int n),.v T,.v T,.v A,.v Q,.v (.int ((j+1:Nat):Int)),.no,.no],fF rfl,.inl ?_,some _,rfl⟩
   have nm:=Gx (ns.getD (j+1) 0) (7*((j+1:Nat):Int)) (by lia) (by lia)
   have lo:=Gy (ns.getD (j+1) 0) (7*((j+1:Nat):Int))
   have hi:=ND (ns.getD (j+1) 0) (7*((j+1:Nat):Int))
   have e7:m2 fe (mC (.int 7)) (ag 6) [.v (.du ns),.v (.int n),.v T,.v T,.v A,.v Q,.v (.int ((j+1:Nat):Int)),.no,.no]=.ok (.int (7*((j+1:Nat):Int))):=b8 rfl rfl (uW f7 (dH 1000 (by lia)))
   unfold Gu
   rw[fM (yz (iA (vt rfl rfl (jv (jv rfl rfl (c (j+1))) e7 nm) (lk _ lo hi))))];rfl)
  [.v (.du ns),.v (.int n),.v T,.v T,.v A,.v Q,.no,.no,.no] ⟨none,rfl⟩
 have rg:bM (ai (mC (.int 1)) (ai (mC (.int 4)) ae)) [.v (.du ns),.v (.int n),.v T,.v T,.v A,.v Q,.no,.no,.no]=.ok ((List.range 3).map fun j:Nat=>.int ((j+1:Nat):Int)):=by
  have:=N_ (n:=4) (by decide) (by decide)
  show R.of (nq [.int 1,.int ((4:Nat):Int)])=_
  rw[this];rfl
 have q6:Nx [.v (.du ns),.v (.int n),.v T,.v T,.v A,.v Q,.no,.no,.no]=_:=(lA rg).trans l1
 refine (bA q1).trans ((bA q2).trans ((bA q3).trans ((bA q4).trans ((bA q5).trans ((bA q6).trans ?_)))))
 have t7:aV (m2 oEq (m2 oMod (bD oy (ai (af 0) (ai (mC (.int 4)) ae))) (mC (.int 6))) (mC (.int 1))) [.v (.du ns),.v (.int n),.v T,.v T,.v A,.v Q,sv p6,.no,.no]=.ok (decide (ns.getD 4 0%6=1)):=iA (b8 (b8 (jv rfl rfl (c 4)) rfl (lz (by decide))) rfl (rZ _ _))
 have fin:∀s7 s8:Sl,aT (m2 gr (ag 2) (ag 3)) [.v (.du ns),.v (.int n),.v T,.v T,.v A,.v Q,sv p6,s7,s8]=.rt (.bl true):=fun s7 s8=>by
  have p8:fE 8 T=true:=by
   rw[eT]
   unfold aM aH
   simp only[fE,bX,f9]
   simp[iL,fE]
  unfold aT
  rw[b8 (x:=T) (y:=T) rfl rfl (KQ p8 p8 rfl)];rfl
 by_cases cc:ns.getD 4 0%6=1
 ·have nm:=Gx (ns.getD 4 0) 4 (by decide) (by decide)
  obtain⟨d2,bd,hb⟩:=br _ (Gy (ns.getD 4 0) 4)
  have lx:=Xy (n:=n) (d:=d2) (by lia) bd
  obtain⟨X,eX⟩:∃X,X=aM (aH n d2):=⟨_,rfl⟩
  rw[← eX] at hb lx
  have sw:∃U,dg (m2 aL (ag 5) (mC (.int 0))) bG (cz (mC (.int 1))) [.v (.du ns),.v (.int n),.v T,.v T,.v A,.v Q,sv p6,.v X,.no]=.ok U:=by
   refine⟨.lst (cutD (w.map .int) none (some 1)),?_⟩
   rw[eQ];rfl
  obtain⟨U,hU⟩:=sw
  have x2:aL Q (.int 2)=some C:=by rw[eQ];rfl
  have s1:av (bD AL (ai (af 2) (ai (bD vX (ai (bD oy (ai (af 0) (ai (mC (.int 4)) ae))) (ai (mC (.int 4)) ae))) ae))) (aG 7) [.v (.du ns),.v (.int n),.v T,.v T,.v A,.v Q,sv p6,.no,.no]=.nx [.v (.du ns),.v (.int n),.v T,.v T,.v A,.v Q,sv p6,.v X,.no]:=cB (jv rfl (jv (jv rfl rfl (c 4)) rfl nm) hb) (by rcases p6 with _|p6 <;> rfl)
  have s2:av (bL (ai (dg (m2 aL (ag 5) (mC (.int 0))) bG (cz (mC (.int 1)))) (ai (aU ae) (ai (m2 aL (ag 5) (mC (.int 2))) ae)))) (aG 8) [.v (.du ns),.v (.int n),.v T,.v T,.v A,.v Q,sv p6,.v X,.no]=.nx [.v (.du ns),.v (.int n),.v T,.v T,.v A,.v Q,sv p6,.v X,.v (.tup [U,.lst [],C])]:=by
   refine cB (d:=.tup [U,.lst [],C]) ?_ (by rcases p6 with _|p6 <;> rfl)
   have e2:m2 aL (ag 5) (mC (.int 2)) [.v (.du ns),.v (.int n),.v T,.v T,.v A,.v Q,sv p6,.v X,.no]=.ok C:=b8 rfl rfl x2
   generalize dg (m2 aL (ag 5) (mC (.int 0))) bG (cz (mC (.int 1)))=u1 at hU ⊢
   generalize m2 aL (ag 5) (mC (.int 2))=u2 at e2 ⊢
   simp[bL,aU,ai,ae,hU,e2,sizeLine]
  have r1:=XF lx (a:=U) (b:=.lst []) (c:=C)
  have r2:=XG lx (a:=iL w) (b:=A) (c:=C)
  rw[← eQ] at r2
  have s3:a_ (iU (iO (aV (bD CK (ai (af 7) (ai (af 8) ae))))) (iO (aV (bD CL (ai (af 7) (ai (af 5) ae)))))) (aT (mC (.bl false))) cU [.v (.du ns),.v (.int n),.v T,.v T,.v A,.v Q,sv p6,.v X,.v (.tup [U,.lst [],C])]=.nx [.v (.du ns),.v (.int n),.v T,.v T,.v A,.v Q,sv p6,.v X,.v (.tup [U,.lst [],C])]:=by
   rw[fM (yD (yz (iA (jv rfl rfl r1))) (yz (iA (jv rfl rfl r2))))];rfl
  have s0:=(bA s1).trans ((bA s2).trans s3)
  exact (bA ((gg (by rw[t7,bg cc])).trans s0)).trans (fin _ _)
 ·exact (oN (by rw[t7,bf cc])).trans (fin _ _)
end My
namespace My
open PySem L2 PM PyProof.Rows
noncomputable def top (i:Nat):Stmt:=PySem.Challenge.pw_goodenough_k46_rounds_looked_at.main.body.getD i (.Pass ⟨0,0,0,0⟩)
abbrev XO0:cX:=fun _ _ _ _ _=>False
structure xx where
 a0:Addr
 a1:Addr
 a2:Addr
 a3:Addr
 a4:Addr
 a5:Addr
 a6:Addr
 a7:Addr
noncomputable def qy (ad:xx):Nat→Addr
 | 0=>ad.a0
 | 1=>ad.a1
 | 2=>ad.a2
 | 3=>ad.a3
 | 4=>ad.a4
 | 5=>ad.a5
 | 6=>ad.a6
 | 7=>ad.a7
 | _=>0
def XM (ad:xx) (c:Nat):Addr:=qy ad (c%16)
def XN:Nat→Str
 | _=>Str.empty
def XQ (c:Nat):Str:=XN (c%16)
abbrev KX (K:PySem.W.Frag) (ad:xx):Kx:=⟨K,XM ad,XQ⟩
def C1 (K:PySem.W.Frag):Sp:=fun vs H Q _=>∃(a:Addr) (ns:List Int),vs=[.ref a]∧gh K H a (ns.map V.int)∧ns.length≤63∧∀H',Q (.bl true) H'
structure Txt (K:PySem.W.Frag) (mg:Str→Option Value) (ad:xx):Prop where
 xg:∃h:Heap,K.In h∧h.Ns mainGlobals mg
 jw:mg "len"=none
 Ot:mg "abs"=none
 xy:mg "isinstance"=none
 oC:mg "list"=none
 C2:mg "sum"=none
 Ou:mg "int"=none
 Ov:mg "tuple"=none
 XR:mg "str"=none
 jR:mg "range"=none
 Ow:mg "enumerate"=none
 Hf:mg "max"=none
 C3:mg "min"=none
 xA:mg "sorted"=none
 XS:mg "set"=none
 XT:mg "all"=none
 XU:mg "ValueError"=none
 XW:mg "KnownPairs"=some (.ref ad.a7)
 ub:lX K ad.a7
 AR:cH K ad.a7 "known"
 C4:cH K ad.a7 "lengths"
 XX:mg "EnoughError"=some (.ref ad.a0)
 XY:mg "NoShare"=some (.ref ad.a1)
 C5:mg "NoLengths"=some (.ref ad.a2)
 XZ:mg "TooMany"=some (.ref ad.a3)
 X0:mg "NoCover"=some (.ref ad.a4)
 X1:mg "NoRoom"=some (.ref ad.a5)
 X2:mg "NoText"=some (.ref ad.a6)
 Hg:PySem.W.excIn K ad.a2 [.type "ValueError",.type "Exception",.type "BaseException",.type "object"] "ValueError.__new__"=true
 X3:PySem.W.mroIn K ad.a0 (.type "BaseException")=some true
 X4:PySem.W.mroIn K ad.a2 (.type "BaseException")=some true
 yE:cO K ad.a2
 X5:PySem.W.kitCls K (.ref ad.a2) (.ref ad.a0)=some true
 X6:PySem.W.kitCls K (.ref ad.a2) (.ref ad.a2)=some true
 X7:PySem.W.kitOne K (.ref ad.a2) (.ref ad.a1)=some false
 X8:PySem.W.kitOne K (.ref ad.a2) (.ref ad.a3)=some false
 X9:PySem.W.kitOne K (.ref ad.a2) (.ref ad.a4)=some false
 X_:PySem.W.kitOne K (.ref ad.a2) (.ref ad.a5)=some false
 Ya:PySem.W.kitOne K (.ref ad.a2) (.ref ad.a6)=some false
 Yb:PySem.W.kitOne K (.ref ad.a2) (.type "ValueError")=some true
 Ox:PySem.W.makesIn K ad.a7=true∧PySem.W.keepIn K (.ref ad.a7)=true
structure aP where
 P:Program
 w:World
 K:PySem.W.Frag
 mg:Str→Option Value
 base:Heap
 ad:xx
abbrev k7 (c:aP):Kx:=(KX c.K c.ad)
abbrev cx (c:aP):Prop:=Txt c.K c.mg c.ad
abbrev cK (c:aP) (k:Nat) (x:Str) (ps:List Str) (sp:Sp):Prop:=tf c.P c.w c.K c.mg c.base iR k x ps sp
abbrev Yc (c:aP) (k:Nat) (x:Str) (C:Addr) (ps:List Str) (sp:Sp):Prop:=kh c.P c.w c.K c.mg c.base iR k x C ps sp
abbrev Yd (c:aP) (k:Nat) (x:Str) (C:Addr) (ps:List Str) (sp:Sp):Prop:=rz c.P c.w c.K c.mg c.base iR k x C ps sp
abbrev rN (c:aP) (k:Nat) (x:Str) (ps:List Str) (sp:Sp):Prop:=tf c.P c.w c.K c.mg c.base (rV c.P c.w) k x ps sp
abbrev Ye (c:aP) (k:Nat) (x:Str) (C:Addr) (ps:List Str) (sp:Sp):Prop:=kh c.P c.w c.K c.mg c.base (rV c.P c.w) k x C ps sp
abbrev Yf (c:aP) (k:Nat) (x:Str) (C:Addr) (ps:List Str) (sp:Sp):Prop:=rz c.P c.w c.K c.mg c.base (rV c.P c.w) k x C ps sp
abbrev dV (c:aP) (f:List D→R D):Sp:=qc (k7 c) (nu (k7 c)) f
abbrev jm (c:aP) (f:List D→R D):Sp:=wQ (k7 c) (nu (k7 c)) f
abbrev Yg (c:aP) (k:Nat) (f:List D→R D):Sp:=Ud (k7 c) k f
section
variable {P:Program} {w:World} {K:PySem.W.Frag} {mg:Str→Option Value} {base:Heap} {ad:xx}
theorem Yh (T:Txt K mg ad):∀c,FV c=true→PySem.W.kitCls (KX K ad).f (.ref ((KX K ad).ca c)) (.ref ad.a0)=some true:=by
 have key:∀r,MA r=true→PySem.W.kitCls K (.ref (qy ad r)) (.ref ad.a0)=some true:=by
  intro c h
  match c,h with
  | 2,_=>exact T.X5
 exact fun c h=>key (c%16) h
theorem Yi (T:Txt K mg ad):∀c,FW c=true→PySem.W.kitCls (KX K ad).f (.ref ((KX K ad).ca c)) (.ref ad.a2)=some true:=by
 have key:∀r,MB r=true→PySem.W.kitCls K (.ref (qy ad r)) (.ref ad.a2)=some true:=by
  intro c h
  match c,h with
  | 2,_=>exact T.X6
 exact fun c h=>key (c%16) h
theorem Yj (T:Txt K mg ad):∀c b,MD c=some b→cO (KX K ad).f ((KX K ad).ca c)∧PySem.W.kitOne (KX K ad).f (.ref ((KX K ad).ca c)) (.ref ad.a1)=some b:=by
 have key:∀r b,MC r=some b→cO K (qy ad r)∧PySem.W.kitOne K (.ref (qy ad r)) (.ref ad.a1)=some b:=by
  intro c b h
  match c,h with
  | 2,h=>cases h;exact⟨T.yE,T.X7⟩
 exact fun c b h=>key (c%16) b h
theorem Yk (T:Txt K mg ad):∀c b,MF c=some b→cO (KX K ad).f ((KX K ad).ca c)∧PySem.W.kitOne (KX K ad).f (.ref ((KX K ad).ca c)) (.ref ad.a3)=some b:=by
 have key:∀r b,ME r=some b→cO K (qy ad r)∧PySem.W.kitOne K (.ref (qy ad r)) (.ref ad.a3)=some b:=by
  intro c b h
  match c,h with
  | 2,h=>cases h;exact⟨T.yE,T.X8⟩
 exact fun c b h=>key (c%16) b h
theorem Yl (T:Txt K mg ad):∀c b,MH c=some b→cO (KX K ad).f ((KX K ad).ca c)∧PySem.W.kitOne (KX K ad).f (.ref ((KX K ad).ca c)) (.ref ad.a4)=some b:=by
 have key:∀r b,MG r=some b→cO K (qy ad r)∧PySem.W.kitOne K (.ref (qy ad r)) (.ref ad.a4)=some b:=by
  intro c b h
  match c,h with
  | 2,h=>cases h;exact⟨T.yE,T.X9⟩
 exact fun c b h=>key (c%16) b h
theorem Ym (T:Txt K mg ad):∀c b,MJ c=some b→cO (KX K ad).f ((KX K ad).ca c)∧PySem.W.kitOne (KX K ad).f (.ref ((KX K ad).ca c)) (.ref ad.a5)=some b:=by
 have key:∀r b,MI r=some b→cO K (qy ad r)∧PySem.W.kitOne K (.ref (qy ad r)) (.ref ad.a5)=some b:=by
  intro c b h
  match c,h with
  | 2,h=>cases h;exact⟨T.yE,T.X_⟩
 exact fun c b h=>key (c%16) b h
theorem Yn (T:Txt K mg ad):∀c b,ML c=some b→cO (KX K ad).f ((KX K ad).ca c)∧PySem.W.kitOne (KX K ad).f (.ref ((KX K ad).ca c)) (.ref ad.a6)=some b:=by
 have key:∀r b,MK r=some b→cO K (qy ad r)∧PySem.W.kitOne K (.ref (qy ad r)) (.ref ad.a6)=some b:=by
  intro c b h
  match c,h with
  | 2,h=>cases h;exact⟨T.yE,T.Ya⟩
 exact fun c b h=>key (c%16) b h
theorem Yo (T:Txt K mg ad):∀c b,MO c=some b→cO (KX K ad).f ((KX K ad).ca c)∧PySem.W.kitOne (KX K ad).f (.ref ((KX K ad).ca c)) (.type "ValueError")=some b:=by
 have key:∀r b,MN r=some b→cO K (qy ad r)∧PySem.W.kitOne K (.ref (qy ad r)) (.type "ValueError")=some b:=by
  intro c b h
  match c,h with
  | 2,h=>cases h;exact⟨T.yE,T.Yb⟩
 exact fun c b h=>key (c%16) b h
theorem zv6 (T:Txt K mg ad):∀c,Vz c=true→lX (KX K ad).f ((KX K ad).ca c)∧cH (KX K ad).f ((KX K ad).ca c) "known":=by
 intro c h
 match c,h with
 | 7,_=>exact⟨T.ub,T.AR⟩
theorem zmK (T:Txt K mg ad):lX (KX K ad).f ((KX K ad).ca 7)∧cH (KX K ad).f ((KX K ad).ca 7) "known":=⟨T.ub,T.AR⟩
theorem zuT (T:Txt K mg ad):∀c,VA c=true→lX (KX K ad).f ((KX K ad).ca c)∧cH (KX K ad).f ((KX K ad).ca c) "lengths":=by
 intro c h
 match c,h with
 | 7,_=>exact⟨T.ub,T.C4⟩
theorem zlu (T:Txt K mg ad):lX (KX K ad).f ((KX K ad).ca 7)∧cH (KX K ad).f ((KX K ad).ca 7) "lengths":=⟨T.ub,T.C4⟩
abbrev Hh (c:aP):Prop:=cK c 1 "_law_cell_at" ["_law_script","_law_k"] (dV c oy)
abbrev Oy:Stmt:=top 38
theorem Yp {c:aP} (T:cx c) (d:De c.K "_law_cell_at" Oy):Hh c:=hD T.xg d fun _ _ F=>kS ["_law_script","_law_k"] F fun _ _ _ _ _ _ hr hu nd=>⟨_,(a8 (dP (pq uH (pv 1) (pB jG T.jw bK (bJ (pv 0)))) (pR (pI (pv 0) (pv 1))) et) (pR aK)),(bq (dY (de (az uS ar (fU kg (bS ar)).r)) (dX (az cE ar ar)) eI) (dX aS))⟩
abbrev Hi (c:aP):Prop:=cK c 1 "_law_number" ["_law_cell","_law_k"] (dV c vX)
abbrev Oz:Stmt:=top 39
theorem Yq {c:aP} (T:cx c) (d:De c.K "_law_number" Oz):Hi c:=hD T.xg d fun _ _ F=>kS ["_law_cell","_law_k"] F fun _ _ _ _ _ _ hr hu nd=>⟨_,(pR (aZ e6 (aZ sZ (aZ fK (aZ fK (aZ e6 (pv 0) (aZ Dy aK aK)) (aZ sZ (pv 1) (pv 1))) aK) (aZ fK aK (aZ sZ aK (pv 1)))) aK)),(dX (az fg (az tH (az fO (az fO (az fg ar (az ED sI sI).r).r (az tH ar ar).r).r sI).r (az fO sI (az tH sI ar).r).r).r sI))⟩
abbrev OA (c:aP):Prop:=cK c 1 "_law_between" ["_law_spots","_law_one","_law_other","_law_least"] (dV c FY)
abbrev OB:Stmt:=top 42
theorem Yr {c:aP} (T:cx c) (d:De c.K "_law_between" OB):OA c:=hD T.xg d fun _ _ F=>kS ["_law_spots","_law_one","_law_other","_law_least","_law_low","_law_high","_law_much"] F fun _ _ _ _ _ _ hr hu nd=>⟨_,(a8 (dP (pq g_ (pv 1) (pv 2)) (pR aK) et) (a8 (pS 4 nd (pB (IW rfl) T.C3 boot_min (cR (pv 1) (pv 2)))) (a8 (pS 5 nd (pB (Qt rfl) T.Hf boot_max (cR (pv 1) (pv 2)))) (a8 (pS 6 nd (aZ fK (aZ fK (pJ (pI (pv 0) (pv 4)) aK) (aZ sZ aK (pJ (pI (pv 0) (pv 5)) aK))) (aZ sZ (pv 4) (pv 5)))) (pR (aZ fK (pv 3) (aZ e6 (pv 6) (aZ fK (pv 3) aK)))))))),(bq (dY (de (az ic ar ar)) (dX aS) eI) (bq (cS (fU SN (As ar ar)) bR) (bq (cS (fU SM (As ar ar)) bR) (bq (cS (az fO (az fO (az fm (az cE ar ar).r sI).r (az tH sI (az fm (az cE ar ar).r sI).r).r).r (az tH ar ar).r) bR) (dX (az fO ar (az fg ar (az fO ar sI).r).r))))))⟩
abbrev OC (c:aP):Prop:=cK c 2 "_law_lengths" ["_law_cells","_law_many","_law_way"] (jm c AA)
abbrev yF:Stmt:=top 41
noncomputable abbrev Hj:List Str:=["_law_cells","_law_many","_law_way","_law_spots","_law_k","_law_number_here","_law_reach","_law_least"]
theorem Ys {c:aP} (T:cx c) (d:De c.K "_law_lengths" yF) (g0:Hh c) (g1:Hi c) (g2:OA c):OC c:=hD T.xg d fun _ _ F=>uq Hj F fun _ _ _ _ _ _ hr hu nd=>⟨_,(a8 (pS 3 nd (hV dM)) (a8 (pF (nS rfl T.jR (bJ (pv 1))) (pN 4 nd) (a8 (pS 5 nd (bP g1 hr dN (cR (bP g0 hr dN (cR (pv 0) (pv 4))) (aZ fK (pv 4) aK)))) (a8 (pS 6 nd (pI (hV (bY aK (bY aK (cR (aZ Dy aK aK) (aZ Dy aK aK))))) (aZ e6 (pv 5) aK))) (dh (xh (pv 3) (js (cR (aZ e6 (aZ sZ (aZ la (pv 5) aK) aK) (pv 6)) (aZ e6 (aZ sZ (aZ e6 (aZ sZ (aZ la (pv 5) aK) aK) aK) aK) (pv 6))))))))) (a8 (dP (pq g_ (aZ e6 (pv 2) aK) aK) (a8 (pS 7 nd (aZ fK aK (pJ (pI (pv 3) aK) aK))) (pR (oF rfl (nS rfl T.jR (bJ (pv 1))) (oK (dJ yF) Hj ["_law_spots" ,"_law_least" ,"_law_many" ,"_law_one"] [3,7,1] 1 (fun _ _ _ _ _ _ nd=>⟨(pN 3 nd),(oF rfl (nS (by rfl) (by exact T.jR) (bJ (pv 2))) (oK (KW _ (dJ yF)) ["_law_spots" ,"_law_least" ,"_law_many" ,"_law_one"] ["_law_spots" ,"_law_one" ,"_law_least" ,"_law_other"] [0,3,1] 1 (fun _ _ _ _ _ _ nd=>⟨(pN 3 nd),(bP g2 hr dN (bY (pv 0) (bY (pv 1) (cR (pv 3) (pv 2)))))⟩)))⟩))))) et) (pR (oF rfl (k8 (pv 3)) (oK (dJ yF) Hj ["_law_spots" ,"_law_a"] [3] 1 (fun _ _ _ _ _ _ nd=>⟨(pN 1 nd),(oF rfl (k8 (pv 0)) (oK (KW _ (dJ yF)) ["_law_spots" ,"_law_a"] ["_law_a" ,"_law_b"] [1] 1 (fun _ _ _ _ _ _ nd=>⟨(pN 1 nd),(aZ fK (pB IV (by exact T.Ot) boot_abs (bJ (aZ xI (pJ (pv 0) aK) (pJ (pv 1) aK)))) (pB IV (by exact T.Ot) boot_abs (bJ (aZ xI (pJ (pv 0) aK) (pJ (pv 1) aK)))))⟩)))⟩))))))),(bq (qN (h_ gf)) (bq (jZ (n5 gQ (eK aN)) bR (bq (cS (gz (dI (gz (dI aN aN)) (az fO ar sI))) bR) (bq (cS (az cE (h_ (cJ aS (cJ aS (dI (az ED sI sI) (az ED sI sI))))).e.r (az fg ar sI).r) bR) (x' (lb (dI (az fg (az tH (az lr ar sI).r sI).r ar) (az fg (az tH (az fg (az tH (az lr ar sI).r sI).r sI).r sI).r ar))))))) (bq (dY (de (az ic (az fg ar sI).r sI)) (bq (cS (az fO sI (az fm (az cE ar sI).r sI).r) bR) (lj (nr (n5 gQ (eK aN)).c (by decide) lg lh (Or.inl ⟨rfl,rfl⟩) (nr (n5 gQ (eK aN)).c (by decide) lg lh (Or.inl ⟨rfl,rfl⟩) (ES (BQ (zK aN (zK aN (zK aN EK)))))).e))) eI) (lj (nr (rX ar) (by decide) lg lh (Or.inl ⟨rfl,rfl⟩) (nr (rX ar) (by decide) lg lh (Or.inl ⟨rfl,rfl⟩) (az fO (fU KH (bS (az ye (az fm ar sI).r (az fm ar sI).r).r)).r (fU KH (bS (az ye (az fm ar sI).r (az fm ar sI).r).r)).r)).e)))))⟩
abbrev C6 (c:aP):Prop:=rN c 1 "look_at" ["lengths"] (dV c se)
abbrev OD:Stmt:=top 11
theorem Yt {c:aP} (T:cx c) (d:De c.K "look_at" OD):C6 c:=hD T.xg d fun _ _ F=>Ar ["lengths","count","a","b","c"] F fun _ _ _ _ _ _ hr hu nd=>⟨_,(a8 (pS 1 nd (pB jG T.jw bK (bJ (pv 0)))) (a8 (rR gD rfl (nS rfl T.jR (bJ (pv 1))) (pN 2 nd) (dh (dP (pq A7 (pI (pI (pv 0) (pv 2)) (pv 2)) aK) (dh (D9 rfl (by rfl) T.C5 T.Hg jy (by decide +kernel) jy Em (bJ pQ))) et))) (a8 (rR gD rfl (nS rfl T.jR (bJ (pv 1))) (pN 2 nd) (dh (rR gD rfl (nS rfl T.jR (bJ (pv 2))) (pN 3 nd) (dh (dP (pq A7 (pI (pI (pv 0) (pv 2)) (pv 3)) (pI (pI (pv 0) (pv 3)) (pv 2))) (dh (D9 rfl (by rfl) T.C5 T.Hg jy (by decide +kernel) jy Em (bJ pQ))) et))))) (dh (rR gD rfl (nS rfl T.jR (bJ (pv 1))) (pN 2 nd) (dh (rR gD rfl (nS rfl T.jR (bJ (pv 1))) (pN 3 nd) (dh (rR gD rfl (nS rfl T.jR (bJ (pv 1))) (pN 4 nd) (dh (dP (pq uH (aZ fK (pI (pI (pv 0) (pv 2)) (pv 3)) (pI (pI (pv 0) (pv 3)) (pv 4))) (pI (pI (pv 0) (pv 2)) (pv 4))) (dh (D9 rfl (by rfl) T.C5 T.Hg jy (by decide +kernel) jy Em (bJ pQ))) et))))))))))),(bq (cS (fU kg (bS ar)) bR) (bq (jZ (n5 gQ (eK aN)) bR (dY (de (az BL (az cE (az cE ar ar).r ar).r sI)) (E3 (c:=2) rfl (by decide) (eK p_)) eI)) (bq (jZ (n5 gQ (eK aN)) bR (jZ (n5 gQ (eK aN)) bR (dY (de (az BL (az cE (az cE ar ar).r ar).r (az cE (az cE ar ar).r ar).r)) (E3 (c:=2) rfl (by decide) (eK p_)) eI))) (jZ (n5 gQ (eK aN)) bR (jZ (n5 gQ (eK aN)) bR (jZ (n5 gQ (eK aN)) bR (dY (de (az uS (az fO (az cE (az cE ar ar).r ar).r (az cE (az cE ar ar).r ar).r).r (az cE (az cE ar ar).r ar).r)) (E3 (c:=2) rfl (by decide) (eK p_)) eI)))))))⟩
abbrev OE (c:aP):Prop:=cK c 1 "shortest_road" ["lengths","within","without"] (dV c Cm)
abbrev OG:Stmt:=top 29
theorem Yu {c:aP} (T:cx c) (d:De c.K "shortest_road" OG):OE c:=hD T.xg d fun _ _ F=>kS ["lengths","within","without","offers","outer","inner","least"] F fun _ _ _ _ _ _ hr hu nd=>⟨_,(a8 (pS 3 nd (hV dM)) (a8 (pF (k8 (pv 2)) (pN 4 nd) (dh (pF (k8 (pv 1)) (pN 5 nd) (dh (xh (pv 3) (js (bY (pI (pI (pv 0) (pv 5)) (pv 4)) (cR (pv 4) (pv 5))))))))) (a8 (pS 6 nd (pB (TK hr.units rfl) T.C3 boot_min (bJ (pv 3)))) (pR (js (cR (pJ (pv 6) aK) (pJ (pv 6) aK))))))),(bq (qN (h_ gf)) (bq (jZ (uh aN) bR (jZ (uh aN) bR (x' (lb (cJ (az cE (az cE ar ar).r ar) (dI aN aN)))))) (bq (cS (fU TL (bS ar)) bR) (dX (lb (dI (az fm ar sI) (az fm ar sI)))))))⟩
abbrev Hk (c:aP):Prop:=rN c 2 "least_tree" ["lengths"] (jm c yq)
abbrev OH:Stmt:=top 30
theorem Yv {c:aP} (T:cx c) (d:De c.K "least_tree" OH) (g4:C6 c) (g5:OE c):Hk c:=hD T.xg d fun _ _ F=>vh ["lengths","within","without","tree","road"] F fun _ _ _ _ _ _ hr hu nd=>⟨_,(a8 (vz (vW g4 hr xW (bJ (pv 0)))) (a8 (pS 1 nd (hV (bJ aK))) (a8 (pS 2 nd (k_ (TN rfl) (by rfl) T.oC cM (bJ (TM (by rfl) T.jR (cR aK (pB jG T.jw bK (bJ (pv 0)))))))) (a8 (pS 3 nd (hV dM)) (a8 (Dt gD (pq vC (pB jG T.jw bK (bJ (pv 2))) aK) (a8 (pS 4 nd (bP g5 hr dN (bY (pv 0) (cR (pv 1) (pv 2))))) (a8 (xh (pv 3) (pv 4)) (a8 (xh (pv 1) (pJ (pv 4) aK)) (dh (vz (zi jz PySem.F.slot_list_remove PySem.F.type_list_remove S4 (pv 2) (bJ (pJ (pv 4) aK))))))))) (pR (pv 3))))))),(bq (zH (zD (eK aN))) (bq (qN (h_ (eK aS))) (bq (qN (TR (dI aS (fU kg (bS ar))))) (bq (qN (h_ gf)) (bq (Kl (de (az vL (fU kg (bS ar)).r sI)) (bq (cS (ES (zK aN (BQ (BQ EK)))) bR) (bq (x' aN) (bq (x' (az fm ar sI)) (S5 (az fm ar sI)))))) x8)))))⟩
abbrev C7 (c:aP):Prop:=cK c 1 "odd_ends" ["roads"] (jm c rE)
abbrev Hl:Stmt:=top 16
abbrev OI:List Str:=["roads","odd","road","place"]
theorem Yw {c:aP} (T:cx c) (d:De c.K "odd_ends" Hl):C7 c:=hD T.xg d fun _ _ F=>uq OI F fun _ _ _ _ _ _ hr hu nd=>⟨_,(a8 (pS 1 nd JC) (a8 (pF (k8 (pv 0)) (pN 2 nd) (dh (pF (Qm (pv 2)) (pN 3 nd) (dh (Bi hu (pv 1) (pv 3) (Dp (JE hu (pv 1) (pv 3) qJ K0)) rfl))))) (pR (pB yk T.xA iF (bJ (oF rfl (T6 (T4 (pv 1))) (L6 (dJ Hl) OI ["odd" ,"place"] [1] 1 (fun _ _ _ _ _ _ nd=>⟨(pN 1 nd),(pv 1),(qX (Bh (by exact hu) (pv 0) (pv 1) (fun _ _=>rfl)))⟩)))))))),(bq (qN Kf) (bq (jZ (uh aN) bR (jZ (RY aN) bR (Ko aN (Et (SF ar aN qM))))) (UP (lj (qj zY (bS (nr (T8 aN).c (by decide) lg lh (Or.inr ⟨_,_,rfl,rfl,(jJ (T9 aN aN))⟩) aN).e.r))))))⟩
abbrev Hm:Stmt:=DS (top 17) 0
theorem Yx:cb ["self","lengths"] ["self","lengths"] (dJ Hm):=kR
abbrev yG:Stmt:=DS (top 17) 1
theorem OJ:cb ["self","rest"] ["self","rest"] (dJ yG):=kR
abbrev C8:Stmt:=DS (top 17) 2
theorem cy:cb ["self","rest","k","others","pair"] ["self","rest","k"] (dJ C8):=kR
theorem Yy {f:Addr} {fd:FuncData} (F:ju K "__init__" "KnownPairs.__init__" Hm f fd) (T:Txt K mg ad):b_ P w K mg base iR 1 f fd ["self","lengths"] (xc (KX K ad) 7 ()):=by
 refine F.ok Yx (fun vs H Q E h=>by obtain⟨d,L,x,dx,F,Hb,lv,rfl,_⟩:=h;rfl) (fun p4 A outer s H vs Q E hr h=>?_)
 have hu:=sY hr
 obtain⟨d,L,h⟩:=h
 exact⟨_,a8 (I0 (pv 0) (pv 1) rfl) (dh (I0 (pv 0) (LL (Nat.lt_of_succ_lt hu) (js dM) (js (bY aK (bY (js dM) dM)))) rfl)),FD (K:=KX K ad) (c:=7) T.ub T.C4 T.AR h⟩
theorem Yz {f:Addr} {fd:FuncData} (F:ju K "best" "KnownPairs.best" yG f fd) (T:Txt K mg ad):b_ P w K mg base iR 1 f fd ["self","rest"] (tX (KX K ad) 7 0):=by
 refine F.ok OJ (fun vs H Q E h=>by obtain⟨d,L,x,kp,dx,r,lv,F,kvs,rest,rfl,_⟩:=h;rfl) (fun p4 A outer s H vs Q E hr h=>?_)
 have hu:=sY hr
 obtain⟨d,L,h⟩:=h
 exact⟨_,a8 (dP (Di (DN hu (pv 1) (xK (pv 0) rfl))) Qh et) (dh (sR (Bh hu (xK (pv 0) rfl) (pv 1) (fun _ _=>rfl)))),Ut (K:=KX K ad) (c:=7) T.ub T.AR h⟩
theorem YA {f:Addr} {fd:FuncData} {m n:Nat} (hm:m≤6) (F:ju K "best_with" "KnownPairs.best_with" C8 f fd) (T:Txt K mg ad) (G:kh P w K mg base iR n "best" ad.a7 ["self","rest"] (tX (KX K ad) 7 m)):b_ P w K mg base iR (n+1) f fd ["self","rest","k"] (Ak (KX K ad) 7 m):=by
 refine F.ok cy (fun vs H Q E h=>by obtain⟨d,L,x,kp,dx,r,lv,F,kvs,rest,k,rfl,_⟩:=h;rfl) (fun p4 A outer s H vs Q E hr h=>?_)
 obtain⟨d,L,h⟩:=h
 have G':=G.imp (sp':=tW (KX K ad) 7 d L m) fun _ _ _ _ z=>⟨d,L,z⟩
 exact⟨_,a8 (nR (i:=3) cy.nd rfl (by first|exact Or.inl rfl|exact Or.inr rfl) (Fs G' hr dN (pv 0) (bY (aZ Fp (gi Ba (pv 1) (fN aK) (fN (pv 2))) (gi Ba (pv 1) (fN (aZ fK (pv 2) aK)) gU)) dM)))
  (a8 (nR (i:=4) cy.nd rfl (by first|exact Or.inl rfl|exact Or.inr rfl) (js (bY (lY sV (pv 1) aK (fun _ _=>rfl)) (bY (lY sV (pv 1) (pv 2) (fun _ _=>rfl)) dM))))
  (dh (sR (js (bY (aZ fK (lY uJ (lY uJ (xK (pv 0) rfl) (lY sV (pv 4) aK (fun _ _=>rfl)) (fun _ _=>rfl)) (lY sV (pv 4) aK (fun _ _=>rfl)) (fun _ _=>rfl)) (lY sV (pv 3) aK (fun _ _=>rfl))) (bY (aZ Fp (js (bY (pv 4) dM)) (lY sV (pv 3) aK (fun _ _=>rfl))) dM)))))),
  Uk (K:=KX K ad) (c:=7) T.ub T.C4 hm h⟩
theorem YB {f:Addr} {fd:FuncData} {m n:Nat} (hm:m≤6) (F:ju K "best" "KnownPairs.best" yG f fd) (T:Txt K mg ad) (G:kh P w K mg base iR n "best_with" ad.a7 ["self","rest","k"] (Ak (KX K ad) 7 m)):b_ P w K mg base iR (n+1) f fd ["self","rest"] (tX (KX K ad) 7 (m+1)):=by
 refine F.ok OJ (fun vs H Q E h=>by obtain⟨d,L,x,kp,dx,r,lv,F,kvs,rest,rfl,_⟩:=h;rfl) (fun p4 A outer s H vs Q E hr h=>?_)
 have hu:=sY hr
 obtain⟨d,L,h⟩:=h
 have G':=G.imp (sp':=vf (KX K ad) 7 d L m) fun _ _ _ _ z=>⟨d,L,z⟩
 exact⟨_,a8 (dP (Di (DN hu (pv 1) (xK (pv 0) rfl))) (dh (Bi hu (xK (pv 0) rfl) (pv 1) (xN (Uj (ca:=(KX K ad).ca) (an:=(KX K ad).an) hr.units rfl) (by rfl) T.C3 boot_min (bY (oF rfl (A3 rfl T.jR (bY aK (bY (xN jG (by rfl) T.jw bK (bY (pv 1) dM)) dM)))
   (Bm (dJ yG) ["self","rest"] ["self","rest","k"] [0,1] 1 rfl rfl rfl (by decide +kernel) (by decide +kernel) (by decide +kernel) rfl (by decide +kernel) (fun cl C s H fp pins=>(vA (i:=2) (show List.Nodup (["self","rest","k"]:List Str) by decide +kernel) rfl (Or.inl rfl))) (fun cl C s H fp pins=>(Fs (by exact G') (by exact hr) dN (pv 0) (bY (pv 1) (bY (pv 2) dM)))) (Or.inl ⟨rfl,rfl⟩))) dM)) rfl)) et)
  (dh (sR (Bh hu (xK (pv 0) rfl) (pv 1) (fun _ _=>rfl)))),FC (K:=KX K ad) (c:=7) T.ub T.AR hm h⟩
theorem YC {fb fw:Addr} {gb gw:FuncData} (Mb:MethAt K ad.a7 "best" "KnownPairs.best" yG fb gb) (Mw:MethAt K ad.a7 "best_with" "KnownPairs.best_with" C8 fw gw) (T:Txt K mg ad):kh P w K mg base iR 13 "best" ad.a7 ["self","rest"] (xf (KX K ad) 7 ()):=by
 have bb:=Mb.fn.binds (ps:=["self","rest"]) fun _ _ _ _ _ _ us hl=>match us,hl with|[_,_],_=>rfl
 have bw:=Mw.fn.binds (ps:=["self","rest","k"]) fun _ _ _ _ _ _ us hl=>match us,hl with|[_,_,_],_=>rfl
 have key:∀m,m≤6→b_ P w K mg base iR (1+2*m) fb gb ["self","rest"] (tX (KX K ad) 7 m):=by
  intro m
  induction m with
  | zero=>exact fun _=>Yz Mb.fn T
  | succ m ih=>
   intro hm
   have Gb:=Mb.w_ T.ub (ih (by omega)) bb
   have Gw:=Mw.w_ T.ub (YA (by omega) Mw.fn T Gb) bw
   exact (YB (by omega) Mb.fn T Gw).mono (by omega)
 refine Mb.w_ T.ub ⟨fun vs H Q E h=>?_,fun A outer s H args us vs Q E hr e b v h=>?_⟩ bb
 ·obtain⟨m,hm,h⟩:=h
  exact (key m hm).len vs H Q E h
 ·obtain⟨m,hm,h⟩:=h
  exact ((key m hm).mono (by omega)).run A outer s H args us vs Q E hr e b v h
abbrev OK (c:aP):Prop:=rz c.P c.w c.K c.mg c.base iR 1 "KnownPairs" c.ad.a7 ["self","lengths"] (xc (k7 c) 7 ())
abbrev OL (c:aP):Prop:=kh c.P c.w c.K c.mg c.base iR 13 "best" c.ad.a7 ["self","rest"] (xf (k7 c) 7 ())
abbrev Hn (c:aP):Prop:=rN c 14 "least_pairing" ["lengths","some"] (jm c ur)
abbrev OM:Stmt:=top 18
theorem YD {c:aP} (T:cx c) (d:De c.K "least_pairing" OM) (g4:C6 c) (g8:OK c) (Ho:OL c):Hn c:=hD T.xg d fun _ _ F=>vh ["lengths","some"] F fun _ _ _ _ _ _ hr hu nd=>⟨_,(a8 (vz (vW g4 hr xW (bJ (pv 0)))) (pR (k_ uf (by rfl) T.oC cM (bJ (pJ (pM Ho hr dN (Ua g8 (hr.mono (by decide)) (by rfl) dN (bJ (pv 0))) (bJ (k_ Jn (by rfl) T.Ov boot_tuple (bJ (pB yk T.xA iF (bJ (pv 1))))))) aK))))),(bq (zH (zD (eK aN))) (lj (UG (K:=k7 c) (c:=7))))⟩
abbrev ON (c:aP):Prop:=cK c 1 "road_at" ["roads","place"] (dV c yr)
abbrev OO:Stmt:=top 32
theorem YE {c:aP} (T:cx c) (d:De c.K "road_at" OO):ON c:=hD T.xg d fun _ _ F=>kS ["roads","place","number","road"] F fun _ _ _ _ _ _ hr hu nd=>⟨_,(a8 (pF (JK rfl T.Ow (bJ (pv 0))) (rb rfl (jr (pN 2 nd) (jr (pN 3 nd) q_))) (dh (dP (xJ QX (pv 1) (pv 3) (by with_unfolding_all rfl)) (pR (pv 2)) et))) (pR rQ)),(bq (jZ (RZ (eK aN)) (tG (ko bR (ko bR tF))) (dY (de (az SD ar ar)) (dX aN) eI)) (dX eG))⟩
abbrev OP (c:aP):Prop:=cK c 1 "other_end" ["road","place"] (dV c Co)
abbrev OQ:Stmt:=top 33
theorem YF {c:aP} (T:cx c) (d:De c.K "other_end" OQ):OP c:=hD T.xg d fun _ _ F=>kS ["road","place"] F fun _ _ _ _ _ _ hr hu nd=>⟨_,(pR (IC (pq g_ (pJ (pv 0) aK) (pv 1)) (pJ (pv 0) aK) (pJ (pv 0) aK))),(dX (Kg (de (az ic (az fm ar sI).r ar)) (az fm ar sI) (az fm ar sI)))⟩
abbrev OR (c:aP):Prop:=cK c 2 "walk_along" ["roads"] (jm c Cr)
abbrev OS:Stmt:=top 34
theorem YG {c:aP} (T:cx c) (d:De c.K "walk_along" OS) (Hq:ON c) (Hr:OP c):OR c:=hD T.xg d fun _ _ F=>uq ["roads","left","going","walk","place","number","road"] F fun _ _ _ _ _ _ hr hu nd=>⟨_,(a8 (pS 1 nd (k_ uf (by rfl) T.oC cM (bJ (pv 0)))) (a8 (pS 2 nd (hV (bJ aK))) (a8 (pS 3 nd (hV dM)) (a8 (Dt iC (pq vC (pB jG T.jw bK (bJ (pv 2))) aK) (a8 (pS 4 nd (pI (pv 2) (A4 A6 aK))) (a8 (pS 5 nd (bP Hq hr dN (cR (pv 1) (pv 4)))) (dh (dP (pq y9 (pv 5) rQ) (dh (xh (pv 3) (QY jz PySem.F.slot_list_pop PySem.F.type_list_pop Q1 (pv 2)))) (a8 (pS 6 nd (zi jz PySem.F.slot_list_pop PySem.F.type_list_pop Q2 (pv 1) (bJ (pv 5)))) (dh (xh (pv 2) (bP Hr hr dN (cR (pv 6) (pv 4))))))))))) (pR (pv 3)))))),(bq (qN (qj uU (bS ar))) (bq (qN (h_ (eK aS))) (bq (qN (h_ gf)) (bq (Kl (de (az vL (fU kg (bS ar)).r sI)) (bq (cS (az cE ar (BB BJ sI).r) bR) (bq (cS (ES (BQ (zK aN EK))) bR) (dY (de (az zI ar eG.r)) UN (bq (S0 aN bR) (x' (gz (dI aN aN)))))))) x8))))⟩
abbrev OT (c:aP):Prop:=rN c 15 "closed_walk" ["lengths"] (jm c Gh)
abbrev OU:Stmt:=top 35
theorem YH {c:aP} (T:cx c) (d:De c.K "closed_walk" OU) (g6:Hk c) (g7:C7 c) (yH:Hn c) (Hs:OR c):OT c:=hD T.xg d fun _ _ F=>vh ["lengths","tree"] F fun _ _ _ _ _ _ hr hu nd=>⟨_,(a8 (pS 1 nd (vW g6 hr xW (bJ (pv 0)))) (pR (bP Hs hr dN (bJ (aZ iW (pv 1) (vW yH hr xW (cR (pv 0) (bP g7 hr dN (bJ (pv 1)))))))))),(bq (cS (EJ (eK aN)).e bR) (lj (og (eK (iS iX ar (EJ (dI aN (og (eK aN)).e)).e.r).e))))⟩
abbrev OV (c:aP):Prop:=rN c 16 "paired_round" ["lengths"] (jm c yt)
abbrev OW:Stmt:=top 36
theorem YI {c:aP} (T:cx c) (d:De c.K "paired_round" OW) (Ht:OT c):OV c:=hD T.xg d fun _ _ F=>vh ["lengths","first_come","place"] F fun _ _ _ _ _ _ hr hu nd=>⟨_,(a8 (pS 1 nd JC) (a8 (rR gD rfl (k8 (vW Ht hr xW (bJ (pv 0)))) (pN 2 nd) (dh (Bi hu (pv 1) (pv 2) qJ rfl))) (pR (k_ (UL rfl) (by rfl) T.oC cM (bJ (pv 1)))))),(bq (qN Kf) (bq (jZ (uh (EJ (eK aN)).e) bR (Ko aN qM)) (lj (UM ar))))⟩
abbrev OX (c:aP):Prop:=cK c 1 "_law_way_changed" ["_law_way","_law_number_here","_law_many"] (jm c Cs)
abbrev OY:Stmt:=top 51
theorem YJ {c:aP} (T:cx c) (d:De c.K "_law_way_changed" OY):OX c:=hD T.xg d fun _ _ F=>uq ["_law_way","_law_number_here","_law_many","_law_at","_law_other","_law_found"] F fun _ _ _ _ _ _ hr hu nd=>⟨_,(a8 (pS 3 nd (aZ e6 (aZ la (pv 1) aK) (pB jG T.jw bK (bJ (pv 0))))) (a8 (pS 4 nd (aZ e6 (aZ la (pv 1) aK) (pB jG T.jw bK (bJ (pv 0))))) (a8 (dP (pq g_ (aZ e6 (pv 1) aK) aK) (pR (aZ iW (gi hZ (pv 0) gU (fN (pv 3))) (gi hZ (pv 0) (fN (aZ fK (pv 3) aK)) gU))) et) (a8 (dP (pq g_ (aZ e6 (pv 1) aK) aK) (pR (aZ iW (aZ iW (gi hZ (pv 0) gU (fN (pv 3))) (hV (bJ (pI (pv 0) (pv 4))))) (gi hZ (pv 0) (fN (pv 3)) gU))) et) (a8 (dP (pq g_ (aZ e6 (pv 1) aK) aK) (pR (aZ iW (aZ iW (gi hZ (pv 0) gU (fN (pv 3))) (hV (bJ (pI (hV (bY (pv 2) (cR (A4 A6 aK) (pI (pv 0) (pv 4))))) (aZ e6 (aZ la (pv 1) aK) aK))))) (gi hZ (pv 0) (fN (aZ fK (pv 3) aK)) gU))) et) (a8 (dP (pq g_ (aZ e6 (pv 1) aK) aK) (pR (aZ iW (gi hZ (pv 0) (fN (pv 3)) gU) (gi hZ (pv 0) gU (fN (pv 3))))) et) (a8 (pS 5 nd (k_ uf (by rfl) T.oC cM (bJ (pv 0)))) (a8 (uF (js (cR (pI (pv 0) (pv 4)) (pI (pv 0) (pv 3)))) (rb rfl (jr (vB (pv 5) (pv 3) vE) (jr (vB (pv 5) (pv 4) vE) q_)))) (pR (pv 5)))))))))),(bq (cS (az fg (az lr ar sI).r (fU kg (bS ar)).r) bR) (bq (cS (az fg (az lr ar sI).r (fU kg (bS ar)).r) bR) (bq (dY (de (az ic (az fg ar sI).r sI)) (lj (iS iX (ie ar gY (fP aN)).e.r (ie ar (fP (az fO ar sI)) gY).e.r)) eI) (bq (dY (de (az ic (az fg ar sI).r sI)) (lj (iS iX (iS iX (ie ar gY (fP aN)).e.r (h_ (eK (az cE ar ar))).e.r).e.r (ie ar (fP aN) gY).e.r)) eI) (bq (dY (de (az ic (az fg ar sI).r sI)) (lj (iS iX (iS iX (ie ar gY (fP aN)).e.r (h_ (eK (az cE (h_ (cJ aN (dI (BB BJ sI) (az cE ar ar)))).e.r (az fg (az lr ar sI).r sI).r))).e.r).e.r (ie ar (fP (az fO ar sI)) gY).e.r)) eI) (bq (dY (de (az ic (az fg ar sI).r sI)) (lj (iS iX (ie ar (fP aN) gY).e.r (ie ar gY (fP aN)).e.r)) eI) (bq (qN (qj uU (bS ar))) (bq (Ue (lb (dI (az cE ar ar) (az cE ar ar))) aN aN) x8))))))))⟩
abbrev OZ (c:aP):Prop:=cK c 1 "_law_any_roads" ["_law_number_here","_law_many"] (jm c Ct)
abbrev O0:Stmt:=top 52
theorem YK {c:aP} (T:cx c) (d:De c.K "_law_any_roads" O0):OZ c:=hD T.xg d fun _ _ F=>uq ["_law_number_here","_law_many","_law_found","_law_k"] F fun _ _ _ _ _ _ hr hu nd=>⟨_,(a8 (pS 2 nd (hV dM)) (a8 (pF (nS rfl T.jR (bJ (aZ xI (pv 1) aK))) (pN 3 nd) (a8 (pS 0 nd (aZ fK (aZ e6 (aZ sZ (pv 0) aK) aK) aK)) (dh (xh (pv 2) (js (cR (aZ e6 (pv 0) (aZ fK (pv 3) aK)) (aZ fK (pv 3) aK))))))) (pR (pv 2)))),(bq (qN (h_ gf)) (bq (jZ (n5 gQ (eK (az ye ar sI))) bR (bq (cS (az fO (az fg (az tH ar sI).r sI).r sI) bR) (x' (lb (dI (az fg ar (az fO ar sI).r) (az fO ar sI)))))) x8))⟩
abbrev O1 (c:aP):Prop:=cK c 2 "_law_roads_changed" ["_law_roads","_law_number_here","_law_many"] (jm c Cu)
abbrev O2:Stmt:=top 53
theorem YL {c:aP} (T:cx c) (d:De c.K "_law_roads_changed" O2) (Hu:OZ c):O1 c:=hD T.xg d fun _ _ F=>uq ["_law_roads","_law_number_here","_law_many","_law_at","_law_one","_law_other"] F fun _ _ _ _ _ _ hr hu nd=>⟨_,(a8 (dP (qY (pq g_ (aZ e6 (pv 1) aK) aK) (uB (pq (zN hr.units) (pv 0) (hV dM)))).pt (pR (aZ iW (bP Hu hr dN (cR (aZ la (pv 1) aK) (pv 2))) (gi hZ (hV (bJ (js (cR aK aK)))) gU (fN (aZ e6 (aZ la (pv 1) aK) aK))))) et) (a8 (pS 3 nd (aZ e6 (aZ la (pv 1) aK) (pB jG T.jw bK (bJ (pv 0))))) (a8 (uF (pI (pv 0) (pv 3)) (rb rfl (jr (pN 4 nd) (jr (pN 5 nd) q_)))) (a8 (dP (pq g_ (aZ e6 (pv 1) aK) aK) (pR (aZ iW (gi hZ (pv 0) gU (fN (pv 3))) (gi hZ (pv 0) (fN (aZ fK (pv 3) aK)) gU))) et) (a8 (dP (pq g_ (aZ e6 (pv 1) aK) aK) (pR (aZ iW (aZ iW (gi hZ (pv 0) gU (fN (pv 3))) (hV (bJ (pI (pv 0) (pv 3))))) (gi hZ (pv 0) (fN (pv 3)) gU))) et) (a8 (dP (pq g_ (aZ e6 (pv 1) aK) aK) (pR (aZ iW (aZ iW (gi hZ (pv 0) gU (fN (pv 3))) (hV (bJ (js (cR (pv 5) (pv 4)))))) (gi hZ (pv 0) (fN (aZ fK (pv 3) aK)) gU))) et) (a8 (dP (pq g_ (aZ e6 (pv 1) aK) aK) (pR (aZ iW (aZ iW (gi hZ (pv 0) gU (fN (pv 3))) (hV (bJ (js (cR (pv 4) (pI (hV (cR (pv 2) (A4 A6 aK))) (aZ e6 (aZ la (pv 1) aK) aK))))))) (gi hZ (pv 0) (fN (aZ fK (pv 3) aK)) gU))) et) (a8 (dP (pq g_ (aZ e6 (pv 1) aK) aK) (pR (aZ iW (gi hZ (pv 0) (fN (pv 3)) gU) (gi hZ (pv 0) gU (fN (pv 3))))) et) (pR (aZ iW (aZ iW (gi hZ (pv 0) gU (fN (pv 3))) (hV (bJ (js (cR (aZ e6 (aZ la (pv 1) aK) (pv 2)) (pv 5)))))) (gi hZ (pv 0) (fN (aZ fK (pv 3) aK)) gU))))))))))),(bq (dY (rm (de (az ic (az fg ar sI).r sI)) (de (az zP ar (h_ gf).e.r))) (lj (iS iX (og (dI (az lr ar sI) aN)).e.r (ie (h_ (eK (lb (dI aS aS)))).e.r gY (fP (az fg (az lr ar sI).r sI))).e.r)) eI) (bq (cS (az fg (az lr ar sI).r (fU kg (bS ar)).r) bR) (bq (cS (az cE ar ar) (tG (ko bR (ko bR tF)))) (bq (dY (de (az ic (az fg ar sI).r sI)) (lj (iS iX (ie ar gY (fP aN)).e.r (ie ar (fP (az fO ar sI)) gY).e.r)) eI) (bq (dY (de (az ic (az fg ar sI).r sI)) (lj (iS iX (iS iX (ie ar gY (fP aN)).e.r (h_ (eK (az cE ar ar))).e.r).e.r (ie ar (fP aN) gY).e.r)) eI) (bq (dY (de (az ic (az fg ar sI).r sI)) (lj (iS iX (iS iX (ie ar gY (fP aN)).e.r (h_ (eK (lb (dI aN aN)))).e.r).e.r (ie ar (fP (az fO ar sI)) gY).e.r)) eI) (bq (dY (de (az ic (az fg ar sI).r sI)) (lj (iS iX (iS iX (ie ar gY (fP aN)).e.r (h_ (eK (lb (dI aN (az cE (h_ (dI aN (BB BJ sI))).e.r (az fg (az lr ar sI).r sI).r))))).e.r).e.r (ie ar (fP (az fO ar sI)) gY).e.r)) eI) (bq (dY (de (az ic (az fg ar sI).r sI)) (lj (iS iX (ie ar (fP aN) gY).e.r (ie ar gY (fP aN)).e.r)) eI) (lj (iS iX (iS iX (ie ar gY (fP aN)).e.r (h_ (eK (lb (dI (az fg (az lr ar sI).r ar) aN)))).e.r).e.r (ie ar (fP (az fO ar sI)) gY).e.r))))))))))⟩
abbrev O3 (c:aP):Prop:=cK c 1 "_law_pairs_changed" ["_law_pairs","_law_number_here","_law_many"] (jm c Cv)
abbrev O4:Stmt:=top 54
theorem YM {c:aP} (T:cx c) (d:De c.K "_law_pairs_changed" O4):O3 c:=hD T.xg d fun _ _ F=>uq ["_law_pairs","_law_number_here","_law_many","_law_at","_law_other","_law_found"] F fun _ _ _ _ _ _ hr hu nd=>⟨_,(a8 (dP (qY (pq (zN hr.units) (pv 0) (hV dM)) (uB (pq g_ (aZ e6 (pv 1) aK) aK))).pt (pR (aZ iW (pv 0) (hV (bJ (js (cR (aZ e6 (aZ la (pv 1) aK) (pv 2)) (aZ e6 (aZ la (pv 1) aK) (pv 2)))))))) et) (a8 (pS 3 nd (aZ e6 (aZ la (pv 1) aK) (pB jG T.jw bK (bJ (pv 0))))) (a8 (pS 4 nd (aZ e6 (aZ la (pv 1) aK) (pB jG T.jw bK (bJ (pv 0))))) (a8 (dP (pq g_ (aZ e6 (pv 1) aK) aK) (pR (aZ iW (gi hZ (pv 0) gU (fN (pv 3))) (gi hZ (pv 0) (fN (aZ fK (pv 3) aK)) gU))) et) (a8 (dP (pq g_ (aZ e6 (pv 1) aK) aK) (pR (aZ iW (aZ iW (gi hZ (pv 0) gU (fN (pv 3))) (hV (bJ (js (cR (pJ (pI (pv 0) (pv 3)) aK) (pJ (pI (pv 0) (pv 3)) aK)))))) (gi hZ (pv 0) (fN (aZ fK (pv 3) aK)) gU))) et) (a8 (dP (Dl (pq g_ (aZ e6 (pv 1) aK) aK) (Dj (pq A7 (pv 3) (pv 4)))).pt (a8 (pS 5 nd (k_ uf (by rfl) T.oC cM (bJ (pv 0)))) (a8 (uF (js (cR (pJ (pI (pv 0) (pv 3)) aK) (pJ (pI (pv 0) (pv 4)) aK))) (vB (pv 5) (pv 3) vE)) (a8 (uF (js (cR (pJ (pI (pv 0) (pv 3)) aK) (pJ (pI (pv 0) (pv 4)) aK))) (vB (pv 5) (pv 4) vE)) (pR (pv 5))))) et) (pR (aZ iW (aZ iW (gi hZ (pv 0) gU (fN (pv 3))) (hV (bJ (js (cR (aZ e6 (aZ la (pv 1) aK) (pv 2)) (pJ (pI (pv 0) (pv 3)) aK)))))) (gi hZ (pv 0) (fN (aZ fK (pv 3) aK)) gU))))))))),(bq (dY (rm (de (az zP ar (h_ gf).e.r)) (de (az ic (az fg ar sI).r sI))) (lj (iS iX ar (h_ (eK (lb (dI (az fg (az lr ar sI).r ar) (az fg (az lr ar sI).r ar))))).e.r)) eI) (bq (cS (az fg (az lr ar sI).r (fU kg (bS ar)).r) bR) (bq (cS (az fg (az lr ar sI).r (fU kg (bS ar)).r) bR) (bq (dY (de (az ic (az fg ar sI).r sI)) (lj (iS iX (ie ar gY (fP aN)).e.r (ie ar (fP (az fO ar sI)) gY).e.r)) eI) (bq (dY (de (az ic (az fg ar sI).r sI)) (lj (iS iX (iS iX (ie ar gY (fP aN)).e.r (h_ (eK (lb (dI (az fm (az cE ar ar).r sI) (az fm (az cE ar ar).r sI))))).e.r).e.r (ie ar (fP (az fO ar sI)) gY).e.r)) eI) (bq (dY (Es (de (az ic (az fg ar sI).r sI)) (de (az BL ar ar))) (bq (qN (qj uU (bS ar))) (bq (Kn aN (lb (dI (az fm (az cE ar ar).r sI) (az fm (az cE ar ar).r sI)))) (bq (Kn aN (lb (dI (az fm (az cE ar ar).r sI) (az fm (az cE ar ar).r sI)))) x8))) eI) (lj (iS iX (iS iX (ie ar gY (fP aN)).e.r (h_ (eK (lb (dI (az fg (az lr ar sI).r ar) (az fm (az cE ar ar).r sI))))).e.r).e.r (ie ar (fP (az fO ar sI)) gY).e.r))))))))⟩
abbrev Hv (c:aP):Prop:=cK c 1 "both_ends" ["roads"] (jm c yu)
abbrev O5:Stmt:=top 21
theorem YN {c:aP} (T:cx c) (d:De c.K "both_ends" O5):Hv c:=hD T.xg d fun _ _ F=>uq ["roads","ends","road"] F fun _ _ _ _ _ _ hr hu nd=>⟨_,(a8 (pS 1 nd (hV dM)) (a8 (pF (k8 (pv 0)) (pN 2 nd) (dh (vz (zi jz PySem.F.slot_list_extend PySem.F.type_list_extend UX (pv 1) (bJ (pv 2)))))) (pR (pv 1)))),(bq (qN (h_ gf)) (bq (jZ (uh aN) bR (UY aN)) x8))⟩
abbrev O6 (c:aP):Prop:=cK c 1 "all_below" ["numbers","count"] (dV c zev)
abbrev Hw:Stmt:=top 20
abbrev O7:List Str:=["numbers","count"]
theorem YO {c:aP} (T:cx c) (d:De c.K "all_below" Hw):O6 c:=hD T.xg d fun _ _ F=>kS O7 F fun _ _ _ _ _ _ hr hu nd=>⟨_,(pR (pB (TV rfl) T.XT boot_all (bJ (oF rfl (k8 (pv 0)) (oK (dJ Hw) O7 ["count" ,"number"] [1] 1 (fun _ _ _ _ _ _ nd=>⟨(pN 1 nd),(Qs Qq uH aK (pv 1) (pv 0))⟩)))))),(dX (fU TZ (bS (nr (rX ar) (by decide) lg lh (Or.inl ⟨rfl,rfl⟩) (TX R5 uS sI ar ar)).e.r)))⟩
abbrev Hx (c:aP):Prop:=cK c 1 "hang_together" ["count","roads"] (dV c vo)
abbrev Hy:Stmt:=top 9
noncomputable abbrev O8:List Str:=["count","roads","marks","a","b","gone","kept"]
theorem YQ {c:aP} (T:cx c) (d:De c.K "hang_together" Hy):Hx c:=hD T.xg d fun _ _ F=>kS O8 F fun _ _ _ _ _ _ hr hu nd=>⟨_,(a8 (pS 2 nd (k_ (zT rfl) (by rfl) T.oC cM (bJ (zS (by rfl) T.jR (bJ (pv 0)))))) (a8 (pF (k8 (pv 1)) (rb rfl (jr (pN 3 nd) (jr (pN 4 nd) q_))) (a8 (pS 5 nd (pI (pv 2) (pv 3))) (a8 (pS 6 nd (pI (pv 2) (pv 4))) (dh (FI 2 nd (k8 (pv 2)) (oK (dJ Hy) O8 ["kept" ,"gone" ,"mark"] [6,5] 1 (fun _ _ _ _ _ _ nd=>⟨(pN 2 nd),(IC (pq g_ (pv 2) (pv 1)) (pv 0) (pv 2))⟩))))))) (pR (pr g_ (pB S8 T.jw bK (bJ (k_ (S7 rfl) (by rfl) T.XS boot_set (bJ (pv 2))))) aK)))),(bq (cS (zU (eK aN)).e bR) (bq (jZ (uh aN) (tG (ko bR (ko bR tF))) (bq (cS (az cE ar ar) bR) (bq (cS (az cE ar ar) bR) (cS (nr (rX ar) (by decide) lg lh (Or.inl ⟨rfl,rfl⟩) (Kg (de (az ic ar ar)) aN aN)).e bR)))) (dX (az ic (S_ (bS ar)).r sI))))⟩
abbrev O9 (c:aP):Prop:=cK c 2 "is_tree" ["count","roads"] (dV c Cw)
abbrev O_:Stmt:=top 22
theorem YR {c:aP} (T:cx c) (d:De c.K "is_tree" O_) (yI:Hv c) (Hz:O6 c) (yJ:Hx c):O9 c:=hD T.xg d fun _ _ F=>kS ["count","roads"] F fun _ _ _ _ _ _ hr hu nd=>⟨_,(pR (yT (pr g_ (pB jG T.jw bK (bJ (pv 1))) (aZ xI (pv 0) aK)) (yT (bP Hz hr dN (cR (bP yI hr dN (bJ (pv 1))) (pv 0))) (AY (bP yJ hr dN (cR (pv 0) (pv 1))))))),(dX (zC (az ic (fU kg (bS ar)).r (az ye ar sI).r) (zC (gz (dI (og (eK aN)).e aN)) (gz (dI aN aN)))))⟩
abbrev O' (c:aP):Prop:=cK c 2 "shorter_instead" ["lengths","rest","road"] (dV c Cy)
abbrev Pa:Stmt:=top 23
theorem YS {c:aP} (T:cx c) (d:De c.K "shorter_instead" Pa) (yJ:Hx c):O' c:=hD T.xg d fun _ _ F=>kS ["lengths","rest","road","count","length","a","b"] F fun _ _ _ _ _ _ hr hu nd=>⟨_,(a8 (pS 3 nd (pB jG T.jw bK (bJ (pv 0)))) (a8 (pS 4 nd (pI (pI (pv 0) (pJ (pv 2) aK)) (pJ (pv 2) aK))) (a8 (pF (nS rfl T.jR (bJ (pv 3))) (pN 5 nd) (dh (pF (nS rfl T.jR (bJ (pv 5))) (pN 6 nd) (dh (dP (Dl (pq uH (pI (pI (pv 0) (pv 5)) (pv 6)) (pv 4)) (Dj (qX (bP yJ hr dN (cR (pv 3) (aZ iW (pv 1) (hV (bJ (js (cR (pv 5) (pv 6))))))))))).pt (pR qJ) et))))) (pR qJ)))),(bq (cS (fU kg (bS ar)) bR) (bq (cS (az cE (az cE ar (az fm ar sI).r).r (az fm ar sI).r) bR) (bq (jZ (n5 gQ (eK aN)) bR (jZ (n5 gQ (eK aN)) bR (dY (Es (de (az uS (az cE (az cE ar ar).r ar).r ar)) (jJ (gz (dI aN (iS iX ar (h_ (eK (lb (dI aN aN)))).e.r).e)))) (dX qM) eI))) (dX qM))))⟩
abbrev Pb (c:aP):Prop:=cK c 3 "is_least_tree" ["lengths","roads"] (dV c CA)
abbrev Pc:Stmt:=top 24
theorem YT {c:aP} (T:cx c) (d:De c.K "is_least_tree" Pc) (HA:O' c):Pb c:=hD T.xg d fun _ _ F=>kS ["lengths","roads","k"] F fun _ _ _ _ _ _ hr hu nd=>⟨_,(a8 (pF (nS rfl T.jR (bJ (pB jG T.jw bK (bJ (pv 1))))) (pN 2 nd) (dh (dP (qX (bP HA hr dN (bY (pv 0) (cR (aZ iW (gi hZ (pv 1) gU (fN (pv 2))) (gi hZ (pv 1) (fN (aZ fK (pv 2) aK)) gU)) (pI (pv 1) (pv 2)))))) (pR qJ) et))) (pR qJ)),(bq (jZ (n5 gQ (eK (fU kg (bS ar)))) bR (dY (jJ (gz (cJ aN (dI (iS iX (ie ar gY (fP aN)).e.r (ie ar (fP (az fO ar sI)) gY).e.r).e (az cE ar ar))))) (dX qM) eI)) (dX qM))⟩
abbrev Pd (c:aP):Prop:=cK c 1 "roads_length" ["lengths","roads"] (dV c vY)
abbrev HB:Stmt:=top 14
abbrev Pe:List Str:=["lengths","roads"]
theorem YU {c:aP} (T:cx c) (d:De c.K "roads_length" HB):Pd c:=hD T.xg d fun _ _ F=>kS Pe F fun _ _ _ _ _ _ hr hu nd=>⟨_,(pR (pB (BX rfl) T.C2 boot_sum (bJ (oF rfl (k8 (pv 1)) (oK (dJ HB) Pe ["lengths" ,"a" ,"b"] [0] 2 (fun _ _ _ _ _ _ nd=>⟨(rb rfl (jr (pN 1 nd) (jr (pN 2 nd) q_))),(pI (pI (pv 0) (pv 1)) (pv 2))⟩)))))),(dX (fU BV (bS (nr (rX ar) (by decide) (tG (ko lg (ko lg tF))) (Ew (xZ lh (xZ lh Eu))) (Or.inl ⟨rfl,rfl⟩) (az cE (az cE ar ar).r ar)).e.r)))⟩
abbrev Pf (c:aP):Prop:=cK c 1 "paired_off" ["lengths","layer"] (tY (k7 c))
abbrev HC:Stmt:=top 25
theorem cg:cb ["lengths","layer","later","rest","length","k","smaller","longer"] ["lengths","layer"] (dJ HC):=kR
theorem YV {f:Addr} {fd:FuncData} (F:ju K "paired_off" "paired_off" HC f fd) (T:Txt K mg ad)  : b_ P w K mg base iR 1 f fd ["lengths","layer"] (tY (KX K ad)):=by
 refine F.ok cg (fun vs H Q E h=>Vd h) (fun p4 A outer s H vs Q E hr h=>?_)
 have hu:=sY hr
 exact⟨_,(a8 (nR (i:=2) cg.nd rfl (by first|exact Or.inl rfl|exact Or.inr rfl) Ra)
   (a8 (rR iC rfl (U5 (pv 1)) (rb rfl (jr (vA (i:=3) cg.nd rfl (by first|exact Or.inl rfl|exact Or.inr rfl)) (jr (vA (i:=4) cg.nd rfl (by first|exact Or.inl rfl|exact Or.inr rfl)) q_)))
   (dh (rR iC rfl (A3 rfl T.jR (bY aK (bY (xN jG (by rfl) T.jw bK (bY (pv 3) dM)) dM))) (vA (i:=5) cg.nd rfl (by first|exact Or.inl rfl|exact Or.inr rfl))
   (a8 (nR (i:=6) cg.nd rfl (by first|exact Or.inl rfl|exact Or.inr rfl) (aZ Fp (gi Ba (pv 3) (fN aK) (fN (pv 5))) (gi Ba (pv 3) (fN (aZ fK (pv 5) aK)) gU)))
   (a8 (nR (i:=7) cg.nd rfl (by first|exact Or.inl rfl|exact Or.inr rfl) (aZ fK (pv 4) (lY uJ (lY uJ (pv 0) (lY sV (pv 3) aK (fun _ _=>rfl)) (fun _ _=>rfl)) (lY sV (pv 3) (pv 5) (fun _ _=>rfl)) (fun _ _=>rfl))))
   (dh (Bi hu (pv 2) (pv 6) (xN (IW rfl) (by rfl) T.C3 boot_min (bY (pv 7) (bY (JE hu (pv 2) (pv 6) (pv 7) (K0)) dM))) rfl)))))))
   (dh (sR (pv 2))))),Vf (K:=(KX K ad)) h⟩
abbrev Pg (c:aP):Prop:=cK c 2 "least_paired_length" ["lengths","some"] (dV c yw)
abbrev HD:Stmt:=top 26
theorem cC:cb ["lengths","some","layer"] ["lengths","some"] (dJ HD):=kR
theorem YW {f:Addr} {fd:FuncData} (F:ju K "least_paired_length" "least_paired_length" HD f fd) (T:Txt K mg ad) (HE:Pf ⟨P,w,K,mg,base,ad⟩):b_ P w K mg base iR 2 f fd ["lengths","some"] (qc (KX K ad) (nu (KX K ad)) yw):=by
 refine F.ok cC (fun vs H Q E h=>Vi h) (fun p4 A outer s H vs Q E hr h=>?_)
 have hu:=sY hr
 exact⟨_,(a8 (nR (i:=2) cC.nd rfl (by first|exact Or.inl rfl|exact Or.inr rfl) (LL (Nat.lt_of_succ_lt hu) (k_ Jn (by rfl) T.Ov boot_tuple (bY (pv 1) dM)) aK))
   (a8 (Dt iC (Di (DN hu (js dM) (pv 2)))
   (dh (nR (i:=2) cC.nd rfl (by first|exact Or.inl rfl|exact Or.inr rfl) (bP HE hr dN (bY (pv 0) (bY (pv 2) dM))))))
   (dh (sR (Bh hu (pv 2) (js dM) (fun _ _=>rfl)))))),Vj (K:=(KX K ad)) (XO:=(nu (KX K ad))) (E:=E) h⟩
abbrev Ph (c:aP):Prop:=cK c 1 "way_length" ["lengths","way"] (dV c CB)
abbrev HF:Stmt:=top 12
abbrev Pj:List Str:=["lengths","way"]
theorem YX {c:aP} (T:cx c) (d:De c.K "way_length" HF):Ph c:=hD T.xg d fun _ _ F=>kS Pj F fun _ _ _ _ _ _ hr hu nd=>⟨_,(pR (pB (BX rfl) T.C2 boot_sum (bJ (oF rfl (nS rfl T.jR (bJ (aZ xI (pB jG T.jw bK (bJ (pv 1))) aK))) (oK (dJ HF) Pj ["lengths" ,"way" ,"k"] [0,1] 1 (fun _ _ _ _ _ _ nd=>⟨(pN 2 nd),(pI (pI (pv 0) (pI (pv 1) (pv 2))) (pI (pv 1) (aZ fK (pv 2) aK)))⟩)))))),(dX (fU BV (bS (nr (n5 gQ (eK (az ye (fU kg (bS ar)).r sI))).c (by decide) lg lh (Or.inl ⟨rfl,rfl⟩) (az cE (az cE ar (az cE ar ar).r).r (az cE ar (az fO ar sI).r).r)).e.r)))⟩
abbrev Pk (c:aP):Prop:=cK c 2 "round_length" ["lengths","way"] (dV c AG)
abbrev Pl:Stmt:=top 13
theorem YY {c:aP} (T:cx c) (d:De c.K "round_length" Pl) (HG:Ph c):Pk c:=hD T.xg d fun _ _ F=>kS ["lengths","way"] F fun _ _ _ _ _ _ hr hu nd=>⟨_,(a8 (dP (pq g_ (pB jG T.jw bK (bJ (pv 1))) aK) (pR aK) et) (pR (aZ fK (bP HG hr dN (cR (pv 0) (pv 1))) (pI (pI (pv 0) (pI (pv 1) (A4 A6 aK))) (pI (pv 1) aK))))),(bq (dY (de (az ic (fU kg (bS ar)).r sI)) (dX aS) eI) (dX (az fO (gz (dI aN aN)).r (az cE (az cE ar (az cE ar (BB BJ sI).r).r).r (az cE ar sI).r).r)))⟩
abbrev C9 (c:aP):Prop:=rN c 4 "check_round" ["lengths","way","roads","pairs"] (dV c sf)
abbrev Pn:Stmt:=top 27
theorem YZ {c:aP} (T:cx c) (d:De c.K "check_round" Pn) (g4:C6 c) (g7:C7 c) (yI:Hv c) (HH:O9 c) (HI:Pb c) (C_:Pd c) (HJ:Pg c) (HK:Pk c):C9 c:=hD T.xg d fun _ _ F=>Ar ["lengths","way","roads","pairs","odd","paired"] F fun _ _ _ _ _ _ hr hu nd=>⟨_,(a8 (vz (vW g4 hr xW (bJ (pv 0)))) (a8 (dP (pq (zO hr.units) (pB yk T.xA iF (bJ (pv 1))) (k_ (zT rfl) (by rfl) T.oC cM (bJ (zS (by rfl) T.jR (bJ (pB jG T.jw bK (bJ (pv 0)))))))) (pR pQ) et) (a8 (dP (wj (qX (bP HH hr dN (cR (pB jG T.jw bK (bJ (pv 0))) (pv 2))))) (pR pQ) et) (a8 (dP (wj (qX (bP HI hr dN (cR (pv 0) (pv 2))))) (pR pQ) et) (a8 (pS 4 nd (bP g7 hr dN (bJ (pv 2)))) (a8 (dP (pq (zO hr.units) (pB yk T.xA iF (bJ (bP yI hr dN (bJ (pv 3))))) (pv 4)) (pR pQ) et) (a8 (pS 5 nd (bP C_ hr dN (cR (pv 0) (pv 3)))) (a8 (dP (pq vC (pv 5) (bP HJ hr dN (cR (pv 0) (pv 4)))) (pR pQ) et) (a8 (dP (pq vC (bP HK hr dN (cR (pv 0) (pv 1))) (aZ fK (bP C_ hr dN (cR (pv 0) (pv 2))) (pv 5))) (pR pQ) et) (pR rQ)))))))))),(bq (zH (zD (eK aN))) (bq (dY (de (az zQ (qj zY (bS ar)).e.r (zU (eK (fU kg (bS ar)))).e.r)) (dX p_) eI) (bq (dY (wN (jJ (gz (dI (fU kg (bS ar)) aN)))) (dX p_) eI) (bq (dY (wN (jJ (gz (dI aN aN)))) (dX p_) eI) (bq (cS (og (eK aN)).e bR) (bq (dY (de (az zQ (qj zY (bS (og (eK aN)).e.r)).e.r ar)) (dX p_) eI) (bq (cS (gz (dI aN aN)) bR) (bq (dY (de (az vL ar (gz (dI aN aN)).r)) (dX p_) eI) (bq (dY (de (az vL (gz (dI aN aN)).r (az fO (gz (dI aN aN)).r ar).r)) (dX p_) eI) (dX eG))))))))))⟩
abbrev HL (c:aP):Prop:=cK c 1 "_law_joined" ["_law_groups","_law_one","_law_other"] (jm c AH)
abbrev HM:Stmt:=top 43
abbrev Po:List Str:=["_law_groups","_law_one","_law_other","_law_old"]
theorem Y0 {c:aP} (T:cx c) (d:De c.K "_law_joined" HM):HL c:=hD T.xg d fun _ _ F=>uq Po F fun _ _ _ _ _ _ hr hu nd=>⟨_,(a8 (pS 3 nd (pI (pv 0) (pv 1))) (pR (oF rfl (k8 (pv 0)) (oK (dJ HM) Po ["_law_groups" ,"_law_other" ,"_law_old" ,"_law_group"] [0,2,3] 1 (fun _ _ _ _ _ _ nd=>⟨(pN 3 nd),(pI (hV (cR (pv 3) (pI (pv 0) (pv 1)))) (k_ IX (by rfl) (by exact T.Ou) boot_int (bJ (pr g_ (pv 3) (pv 2)))))⟩))))),(bq (cS (az cE ar ar) bR) (lj (nr (rX ar) (by decide) lg lh (Or.inl ⟨rfl,rfl⟩) (az cE (h_ (dI aN (az cE ar ar))).e.r (fU LB (bS (az ic ar ar).r)).r))))⟩
abbrev Pp (c:aP):Prop:=cK c 2 "_law_hang" ["_law_roads","_law_many"] (dV c CD)
abbrev HN:Stmt:=top 44
abbrev Pq:List Str:=["_law_roads","_law_many","_law_groups","_law_one","_law_other"]
theorem Y1 {c:aP} (T:cx c) (d:De c.K "_law_hang" HN) (yK:HL c):Pp c:=hD T.xg d fun _ _ F=>kS Pq F fun _ _ _ _ _ _ hr hu nd=>⟨_,(a8 (pS 2 nd (k_ (zT rfl) (by rfl) T.oC cM (bJ (zS (by rfl) T.jR (bJ (pv 1)))))) (a8 (pF (k8 (pv 0)) (rb rfl (jr (pN 3 nd) (jr (pN 4 nd) q_))) (a8 (dP (qY (pq uH (pv 3) aK) (qY (pq IS (pv 3) (pv 1)) (qY (pq uH (pv 4) aK) (uB (pq IS (pv 4) (pv 1)))))).pt (pR qJ) et) (dh (pS 2 nd (bP yK hr dN (bY (pv 2) (cR (pv 3) (pv 4)))))))) (pR (yT (pr g_ (pB jG T.jw bK (bJ (pv 0))) (aZ xI (pv 1) aK)) (AY (pr (zN hr.units) (pv 2) (oF rfl (k8 (pv 2)) (oK (dJ HN) Pq ["_law_groups" ,"_law_group"] [2] 1 (fun _ _ _ _ _ _ nd=>⟨(pN 1 nd),(pI (pv 0) aK)⟩))))))))),(bq (cS (zU (eK aN)).e bR) (bq (jZ (uh aN) (tG (ko bR (ko bR tF))) (bq (dY (rm (de (az uS ar sI)) (rm (de (az Kp ar ar)) (rm (de (az uS ar sI)) (de (az Kp ar ar))))) (dX qM) eI) (cS (og (cJ aN (dI aN aN))).e bR))) (dX (zC (az ic (fU kg (bS ar)).r (az ye ar sI).r) (az zP ar (nr (rX ar) (by decide) lg lh (Or.inl ⟨rfl,rfl⟩) (az cE ar sI)).e.r)))))⟩
abbrev HP (c:aP):Prop:=cK c 1 "_law_length_of" ["_law_lengths_here","_law_roads"] (dV c qU)
abbrev HQ:Stmt:=top 47
abbrev Pr:List Str:=["_law_lengths_here","_law_roads"]
theorem Y2 {c:aP} (T:cx c) (d:De c.K "_law_length_of" HQ):HP c:=hD T.xg d fun _ _ F=>kS Pr F fun _ _ _ _ _ _ hr hu nd=>⟨_,(pR (pB (BX rfl) T.C2 boot_sum (bJ (oF rfl (k8 (pv 1)) (oK (dJ HQ) Pr ["_law_lengths_here" ,"_law_one" ,"_law_other"] [0] 2 (fun _ _ _ _ _ _ nd=>⟨(rb rfl (jr (pN 1 nd) (jr (pN 2 nd) q_))),(pI (pI (pv 0) (pv 1)) (pv 2))⟩)))))),(dX (fU BV (bS (nr (rX ar) (by decide) (tG (ko lg (ko lg tF))) (Ew (xZ lh (xZ lh Eu))) (Or.inl ⟨rfl,rfl⟩) (az cE (az cE ar ar).r ar)).e.r)))⟩
abbrev Pt (c:aP):Prop:=cK c 2 "_law_tree_length" ["_law_lengths_here"] (dV c CG)
abbrev HR:Stmt:=top 45
abbrev Pu:List Str:=["_law_lengths_here","_law_many","_law_groups","_law_total","_law_ways","_law_one","_law_much","_law_other"]
theorem Y3 {c:aP} (T:cx c) (d:De c.K "_law_tree_length" HR) (yK:HL c):Pt c:=hD T.xg d fun _ _ F=>kS Pu F fun _ _ _ _ _ _ hr hu nd=>⟨_,(a8 (pS 1 nd (pB jG T.jw bK (bJ (pv 0)))) (a8 (pS 2 nd (k_ (zT rfl) (by rfl) T.oC cM (bJ (zS (by rfl) T.jR (bJ (pv 1)))))) (a8 (pS 3 nd aK) (a8 (pS 4 nd (hV dM)) (a8 (pF (nS rfl T.jR (bJ (pv 1))) (pN 5 nd) (dh (pS 4 nd (aZ iW (pv 4) (oF rfl (nS rfl T.jR (bJ (pv 5))) (oK (dJ HR) Pu ["_law_one" ,"_law_lengths_here" ,"_law_other"] [5,0] 1 (fun _ _ _ _ _ _ nd=>⟨(pN 2 nd),(js (bY (pI (pI (pv 1) (pv 0)) (pv 2)) (cR (pv 0) (pv 2))))⟩))))))) (a8 (pF (k8 (pB Vv T.xA iF (bJ (pv 4)))) (rb rfl (jr (pN 6 nd) (jr (pN 5 nd) (jr (pN 7 nd) q_)))) (dh (dP (pq A7 (pI (pv 2) (pv 5)) (pI (pv 2) (pv 7))) (a8 (pS 2 nd (bP yK hr dN (bY (pv 2) (cR (pv 5) (pv 7))))) (dh (pS 3 nd (aZ fK (pv 3) (pv 6))))) et))) (pR (pv 3)))))))),(bq (cS (fU kg (bS ar)) bR) (bq (cS (zU (eK aN)).e bR) (bq (cS aS bR) (bq (cS (h_ gf).e bR) (bq (jZ (n5 gQ (eK aN)) bR (cS (iS iX ar (nr (n5 gQ (eK aN)).c (by decide) lg lh (Or.inl ⟨rfl,rfl⟩) (lb (cJ (az cE (az cE ar ar).r ar) (dI aN aN)))).e.r).e bR)) (bq (jZ (uh (qj Vw (bS ar)).e) (tG (ko bR (ko bR (ko bR tF)))) (dY (de (az BL (az cE ar ar).r (az cE ar ar).r)) (bq (cS (og (cJ aN (dI aN aN))).e bR) (cS (az fO ar ar) bR)) eI)) (dX aN)))))))⟩
abbrev Pw (c:aP):Prop:=cK c 9 "_law_pairing_length" ["_law_lengths_here","_law_some"] (dV c tZ)
abbrev HS:Stmt:=top 46
theorem bQ:cb ["_law_lengths_here","_law_some","_law_found","_law_k","_law_much"] ["_law_lengths_here","_law_some"] (dJ HS):=kR
theorem Y4 {n:Nat} {f:Addr} {fd:FuncData} (F:ju K "_law_pairing_length" "_law_pairing_length" HS f fd) (T:Txt K mg ad) (AS:tf P w K mg base iR (n+1) "_law_pairing_length" ["_law_lengths_here","_law_some"] (qc (KX K ad) (nu (KX K ad)) (rF n))):b_ P w K mg base iR (n+2) f fd ["_law_lengths_here","_law_some"] (qc (KX K ad) (nu (KX K ad)) (rF (n+1))):=by
 rw[show rF (n+1)=cf 2 3 (Gn (rF n)) from rfl]
 refine F.ok bQ (fun vs H Q E h=>EI h) (fun p4 A outer s H vs Q E hr h=>?_)
 have hu:=sY hr
 exact⟨_,(a8 (dP (xJ (zN hr.units) (pv 1) (hV dM) (wq _))
   (dh (sR aK))
   et)
   (a8 (nR (i:=2) bQ.nd rfl (by first|exact Or.inl rfl|exact Or.inr rfl) rQ)
   (a8 (rR iC rfl (A3 rfl T.jR (bY aK (bY (xN jG (by rfl) T.jw bK (bY (pv 1) dM)) dM))) (vA (i:=3) bQ.nd rfl (by first|exact Or.inl rfl|exact Or.inr rfl))
   (a8 (nR (i:=4) bQ.nd rfl (by first|exact Or.inl rfl|exact Or.inr rfl) (aZ fK (lY uJ (lY uJ (pv 0) (lY uJ (pv 1) aK (fun _ _=>rfl)) (fun _ _=>rfl)) (lY uJ (pv 1) (pv 3) (fun _ _=>rfl)) (fun _ _=>rfl)) (JX AS hr (by rfl) dN (bY (pv 0) (bY (aZ iW (gi hZ (pv 1) (fN aK) (fN (pv 3))) (gi hZ (pv 1) (fN (aZ fK (pv 3) aK)) gU)) dM)))))
   (dh (dP ((qY (xJ y9 (pv 2) rQ (wq _)) (uB (xJ uH (pv 4) (pv 2) (wq _))))).pt
   (dh (nR (i:=2) bQ.nd rfl (by first|exact Or.inl rfl|exact Or.inr rfl) (pv 4)))
   et))))
   (dh (sR (pv 2)))))),BO (K:=(KX K ad)) (XO:=(nu (KX K ad))) (E:=E) (np:=2) (nv:=3) (m:=Gn (rF n))
   (bq (dY (de (az zP ar ((h_ gf)).e.r))
   (dX aS)
   eI)
   (bq (cS eG bR)
   (bq (jZ (Ki uQ (cJ aS (cJ (fU kg (zB ar BC)) gf))) bR
   (bq (cS (az fO ((az cE ((az cE ar ((az cE ar (aS).r)).r)).r ((az cE ar ar)).r)).r ((gz (cJ aN (cJ ((iS iX ((ie ar (fP aS) (fP aN))).e.r ((ie ar (fP (az fO ar (aS).r)) gY)).e.r)).e gf)))).r) bR)
   (dY (rm (de (az zI ar (eG).r)) (de (az uS ar ar)))
   (cS aN bR)
   eI)))
   (dX aN)))) rfl h⟩
abbrev Px (c:aP):Prop:=cK c 10 "_law_pairs_word" ["_law_lengths_here","_law_roads","_law_pairs"] (dV c AI)
abbrev HU:Stmt:=top 49
noncomputable abbrev Py:List Str:=["_law_lengths_here","_law_roads","_law_pairs","_law_ends","_law_one","_law_other","_law_odd","_law_mine"]
theorem Y5 {c:aP} (T:cx c) (d:De c.K "_law_pairs_word" HU) (v8:HP c) (AS:Pw c):Px c:=hD T.xg d fun _ _ F=>kS Py F fun _ _ _ _ _ _ hr hu nd=>⟨_,(a8 (pS 3 nd (hV dM)) (a8 (pF (k8 (pv 1)) (rb rfl (jr (pN 4 nd) (jr (pN 5 nd) q_))) (dh (pS 3 nd (aZ iW (pv 3) (hV (cR (pv 4) (pv 5))))))) (a8 (FI 6 nd (nS rfl T.jR (bJ (pB jG T.jw bK (bJ (pv 0))))) (L6 (dJ HU) Py ["_law_ends" ,"_law_place"] [3] 1 (fun _ _ _ _ _ _ nd=>⟨(pN 1 nd),(pv 1),(pq g_ (aZ e6 (zi jz PySem.F.slot_list_count PySem.F.type_list_count U6 (pv 0) (bJ (pv 1))) aK) aK)⟩))) (a8 (pS 7 nd (hV dM)) (a8 (pF (k8 (pv 2)) (rb rfl (jr (pN 4 nd) (jr (pN 5 nd) q_))) (dh (pS 7 nd (aZ iW (pv 7) (hV (cR (pv 4) (pv 5))))))) (a8 (dP (pq (zO hr.units) (pB yk T.xA iF (bJ (pv 7))) (pv 6)) (pR pQ) et) (a8 (dP (pq vC (bP v8 hr dN (cR (pv 0) (pv 2))) (bP AS hr dN (cR (pv 0) (pv 6)))) (pR pQ) et) (pR rQ)))))))),(bq (cS (h_ gf).e bR) (bq (jZ (uh aN) (tG (ko bR (ko bR tF))) (cS (iS iX ar (h_ (dI aN aN)).e.r).e bR)) (bq (cS (nr (n5 gQ (eK (fU kg (bS ar)))).c (by decide) lg lh (Or.inr ⟨_,_,rfl,rfl,(de (az ic (az fg (Vb ar aN).r sI).r sI))⟩) aN).e bR) (bq (cS (h_ gf).e bR) (bq (jZ (uh aN) (tG (ko bR (ko bR tF))) (cS (iS iX ar (h_ (dI aN aN)).e.r).e bR)) (bq (dY (de (az zQ (qj zY (bS ar)).e.r ar)) (dX p_) eI) (bq (dY (de (az vL (gz (dI aN aN)).r (gz (dI aN aN)).r)) (dX p_) eI) (dX eG))))))))⟩
abbrev Pz (c:aP):Prop:=cK c 1 "_law_round_length" ["_law_lengths_here","_law_way"] (dV c AJ)
abbrev HV:Stmt:=top 48
abbrev PB:List Str:=["_law_lengths_here","_law_way"]
theorem Y6 {c:aP} (T:cx c) (d:De c.K "_law_round_length" HV):Pz c:=hD T.xg d fun _ _ F=>kS PB F fun _ _ _ _ _ _ hr hu nd=>⟨_,(pR (pB (BX rfl) T.C2 boot_sum (bJ (oF rfl (JK rfl T.Ow (bJ (pv 1))) (oK (dJ HV) PB ["_law_lengths_here" ,"_law_way" ,"_law_k" ,"_law_place"] [0,1] 2 (fun _ _ _ _ _ _ nd=>⟨(rb rfl (jr (pN 2 nd) (jr (pN 3 nd) q_))),(pI (pI (pv 0) (pv 3)) (pI (pv 1) (aZ e6 (aZ fK (pv 2) aK) (pB jG (by exact T.jw) bK (bJ (pv 1))))))⟩)))))),(dX (fU BV (bS (nr (R0 (bS ar)) (by decide) (tG (ko lg (ko lg tF))) (Ew (xZ lh (xZ lh Eu))) (Or.inl ⟨rfl,rfl⟩) (az cE (az cE ar ar).r (az cE ar (az fg (az fO ar sI).r (fU kg (bS ar)).r).r).r)).e.r)))⟩
abbrev PD (c:aP):Prop:=cK c 11 "_law_word" ["_law_lengths_here","_law_way","_law_roads","_law_pairs"] (dV c AK)
abbrev PF:Stmt:=top 50
theorem Y7 {c:aP} (T:cx c) (d:De c.K "_law_word" PF) (HW:Pp c) (v8:HP c) (HX:Pt c) (HY:Px c) (HZ:Pz c):PD c:=hD T.xg d fun _ _ F=>kS ["_law_lengths_here","_law_way","_law_roads","_law_pairs","_law_many","_law_word_here"] F fun _ _ _ _ _ _ hr hu nd=>⟨_,(a8 (pS 4 nd (pB jG T.jw bK (bJ (pv 0)))) (a8 (dP (pq (zO hr.units) (pB yk T.xA iF (bJ (pv 1))) (k_ (zT rfl) (by rfl) T.oC cM (bJ (zS (by rfl) T.jR (bJ (pv 4)))))) (pR pQ) et) (a8 (dP (wj (qX (bP HW hr dN (cR (pv 2) (pv 4))))) (pR pQ) et) (a8 (dP (pq vC (bP v8 hr dN (cR (pv 0) (pv 2))) (bP HX hr dN (bJ (pv 0)))) (pR pQ) et) (a8 (pS 5 nd (bP HY hr dN (bY (pv 0) (cR (pv 2) (pv 3))))) (a8 (dP (pq Qr (pv 5) rQ) (pR (pv 5)) et) (a8 (dP (pq vC (bP HZ hr dN (cR (pv 0) (pv 1))) (aZ fK (bP v8 hr dN (cR (pv 0) (pv 2))) (bP v8 hr dN (cR (pv 0) (pv 3))))) (pR pQ) et) (pR rQ)))))))),(bq (cS (fU kg (bS ar)) bR) (bq (dY (de (az zQ (qj zY (bS ar)).e.r (zU (eK aN)).e.r)) (dX p_) eI) (bq (dY (wN (jJ (gz (dI aN aN)))) (dX p_) eI) (bq (dY (de (az vL (gz (dI aN aN)).r (gz (eK aN)).r)) (dX p_) eI) (bq (cS (gz (cJ aN (dI aN aN))) bR) (bq (dY (de (az R6 ar eG.r)) (dX aN) eI) (bq (dY (de (az vL (gz (dI aN aN)).r (az fO (gz (dI aN aN)).r (gz (dI aN aN)).r).r)) (dX p_) eI) (dX eG))))))))⟩
abbrev PH (c:aP):Prop:=cK c 12 "_law_looked" ["_law_lengths_here","_law_papers","_law_number_here"] (dV c CH)
abbrev H_:Stmt:=top 55
noncomputable abbrev PJ:List Str:=["_law_lengths_here","_law_papers","_law_number_here","_law_way","_law_roads","_law_pairs","_law_many","_law_kind","_law_part","_law_handed","_law_found","_law_due"]
theorem Y8 {c:aP} (T:cx c) (d:De c.K "_law_looked" H_) (Ia:OX c) (Ib:O1 c) (Ie:O3 c) (vv:C9 c) (Ig:PD c):PH c:=hD T.xg d fun _ _ F=>kS PJ F fun _ _ _ _ _ _ hr hu nd=>⟨_,(a8 (uF (pv 1) (rb rfl (jr (pN 3 nd) (jr (pN 4 nd) (jr (pN 5 nd) q_))))) (a8 (pS 6 nd (pB jG T.jw bK (bJ (pv 0)))) (a8 (pS 7 nd (aZ e6 (pv 2) aK)) (a8 (pS 8 nd (aZ la (pv 2) aK)) (a8 (dP (qY (pq uH (pv 7) aK) (uB (pq g_ (pv 7) aK))).pt (dh (pS 3 nd (bP Ia hr dN (bY (pv 3) (cR (pv 8) (pv 6)))))) et) (a8 (dP (Dl (pq vC (pv 7) aK) (Dj (pq uH (pv 7) aK))).pt (dh (pS 4 nd (bP Ib hr dN (bY (pv 4) (cR (aZ la (pv 8) aK) (pv 6)))))) et) (a8 (dP (qY (pq g_ (pv 7) aK) (qY (pq g_ (pv 7) aK) (uB (pq g_ (pv 7) aK)))).pt (dh (pS 5 nd (bP Ie hr dN (bY (pv 5) (cR (aZ la (pv 8) aK) (pv 6)))))) et) (a8 (pS 9 nd (js (bY (k_ uf (by rfl) T.oC cM (bJ (pv 3))) (bY (k_ uf (by rfl) T.oC cM (bJ (pv 4))) (cR (k_ uf (by rfl) T.oC cM (bJ (pv 5))) (oF rfl (k8 (pv 0)) (oK (dJ H_) PJ ["_law_row"] [] 1 (fun _ _ _ _ _ _ nd=>⟨(pN 0 nd),(k_ uf (by rfl) T.oC cM (bJ (pv 0)))⟩)))))))) (a8 (pS 10 nd (bP vv hr Bz (bY (pJ (pv 9) aK) (bY (pJ (pv 9) aK) (cR (pJ (pv 9) aK) (pJ (pv 9) aK)))))) (a8 (dP (pq (zO hr.units) (pv 9) (js (bY (pv 3) (bY (pv 4) (cR (pv 5) (pv 0)))))) (pR qJ) et) (a8 (pS 11 nd (bP Ig hr dN (bY (pv 0) (bY (pv 3) (cR (pv 4) (pv 5)))))) (a8 (dP (pq y9 (pv 11) rQ) (pR (pr y9 (pv 10) rQ)) et) (pR (yT (pB Rl T.xy iE (cR (pv 10) (Iw (v:=.ty "str") (by rfl) T.XR boot_str rfl))) (AY (pr g_ (pv 10) (pv 11))))))))))))))))),(bq (cS aN (tG (ko bR (ko bR (ko bR tF))))) (bq (cS (fU kg (bS ar)) bR) (bq (cS (az fg ar sI) bR) (bq (cS (az lr ar sI) bR) (bq (dY (rm (de (az uS ar sI)) (de (az ic ar sI))) (cS (og (cJ aN (dI aN aN))).e bR) eI) (bq (dY (Es (de (az vL ar sI)) (de (az uS ar sI))) (cS (og (cJ aN (dI (az lr ar sI) aN))).e bR) eI) (bq (dY (rm (de (az ic ar sI)) (rm (de (az ic ar sI)) (de (az ic ar sI)))) (cS (og (cJ aN (dI (az lr ar sI) aN))).e bR) eI) (bq (cS (lb (cJ (qj uU (bS ar)).e (cJ (qj uU (bS ar)).e (dI (qj uU (bS ar)).e (nr (rX ar) (by decide) lg lh (Or.inl ⟨rfl,rfl⟩) (qj uU (bS ar)).e).e)))) bR) (bq (cS (gz (cJ (az fm ar sI) (cJ (az fm ar sI) (dI (az fm ar sI) (az fm ar sI))))) bR) (bq (dY (de (az zQ ar (lb (cJ aN (cJ aN (dI aN aN)))).r)) (dX qM) eI) (bq (cS (gz (cJ aN (cJ aN (dI aN aN)))) bR) (bq (dY (de (az zI ar eG.r)) (dX (az zI ar eG.r)) eI) (dX (zC (Sw Sv ar) (az ic ar ar)))))))))))))))⟩
abbrev PK (c:aP):Prop:=cK c 1 "_law_broken" ["_law_lengths_here","_law_number_here"] (jm c AL)
abbrev Dc:Stmt:=top 58
abbrev Ih:List Str:=["_law_lengths_here","_law_number_here","_law_many","_law_bad","_law_one","_law_other","_law_much"]
theorem Y9 {c:aP} (T:cx c) (d:De c.K "_law_broken" Dc):PK c:=hD T.xg d fun _ _ F=>uq Ih F fun _ _ _ _ _ _ hr hu nd=>⟨_,(a8 (pS 2 nd (pB jG T.jw bK (bJ (pv 0)))) (a8 (FI 3 nd (k8 (pv 0)) (oK (dJ Dc) Ih ["_law_row"] [] 1 (fun _ _ _ _ _ _ nd=>⟨(pN 0 nd),(k_ uf (by rfl) T.oC cM (bJ (pv 0)))⟩))) (a8 (pS 4 nd (aZ e6 (aZ la (pv 1) aK) (pv 2))) (a8 (pS 5 nd (aZ e6 (aZ la (pv 1) aK) (pv 2))) (a8 (dP (pq g_ (pv 4) (pv 5)) (dh (uF (aZ fK aK (aZ e6 (aZ la (pv 1) aK) aK)) (vB (pI (pv 3) (pv 4)) (pv 4) vE))) (dh (dP (pq g_ (aZ e6 (pv 1) aK) aK) (dh (uF (aZ fK (pI (pI (pv 3) (pv 4)) (pv 5)) aK) (vB (pI (pv 3) (pv 4)) (pv 5) vE))) (a8 (pS 6 nd (aZ fK (aZ sZ aK (pB (K_ rfl) T.Hf boot_max (bJ (oF rfl (k8 (pv 0)) (oK (dJ Dc) Ih ["_law_row"] [] 1 (fun _ _ _ _ _ _ nd=>⟨(pN 0 nd),(pB (K_ rfl) (by exact T.Hf) boot_max (bJ (pv 0)))⟩)))))) aK)) (a8 (uF (pv 6) (vB (pI (pv 3) (pv 4)) (pv 5) vE)) (dh (uF (pI (hV (cR (pv 6) (aZ fK (pv 6) aK))) (k_ IX (by rfl) T.Ou boot_int (bJ (pr g_ (pv 2) aK)))) (vB (pI (pv 3) (pv 5)) (pv 4) vE)))))))) (pR (pv 3))))))),(bq (cS (fU kg (bS ar)) bR) (bq (Tp (Tj (rX ar) (by decide) lg lh (qj uU (bS ar)))) (bq (cS (az fg (az lr ar sI).r ar) bR) (bq (cS (az fg (az lr ar sI).r ar) bR) (bq (dY (de (az ic ar ar)) (B5 aN aN (az fO sI (az fg (az lr ar sI).r sI).r)) (dY (de (az ic (az fg ar sI).r sI)) (B5 aN aN (Tg (az fO (az cE (az cE ar ar).r ar).r sI))) (bq (cS (az fO (az tH sI (fU K' (bS (nr (rX ar) (by decide) lg lh (Or.inl ⟨rfl,rfl⟩) (fU K' (bS ar))).e.r)).r).r sI) bR) (bq (B5 aN aN aN) (B5 aN aN (az cE (h_ (dI aN (az fO ar sI))).e.r (fU LB (bS (az ic ar sI).r)).r)))))) Tt)))))⟩
abbrev PN (c:aP):Prop:=cK c 5 "_law_refused" ["_law_lengths_here","_law_papers"] (dV c CK)
abbrev PQ:Stmt:=top 56
theorem Y_ {c:aP} (T:cx c) (d:De c.K "_law_refused" PQ) (vv:C9 c):PN c:=hD T.xg d fun _ _ F=>kS ["_law_lengths_here","_law_papers","_law_caught","error"] F fun _ _ _ _ _ _ hr hu nd=>⟨_,(a8 (pS 2 nd rQ) (a8 (RM (i:=3) rfl rfl rfl nd rfl rfl (by rfl) T.C5 T.X4 (fun E pl xe Ii=>(dh (vz (vW vv hr Ii (bY (pv 0) (bY (pJ (pv 1) aK) (cR (pJ (pv 1) aK) (pJ (pv 1) aK)))))))) (fun ea=>(dh (pS 2 nd (pv 3))))) (a8 (dP (qY (pq y9 (pv 2) rQ) (qY (wj (qX (pB xV T.xy iE (cR (pv 2) (Iw (v:=.ty "ValueError") (by rfl) T.XU PyProof.Rows.Boot.«ValueError» rfl))))) (uB (qX (pB xV T.xy iE (cR (pv 2) (yP (v:=.ref c.ad.a1) (by rfl) T.XY rfl))))))).pt (pR qJ) et) (a8 (dP (qY (qX (pB xV T.xy iE (cR (pv 2) (yP (v:=.ref c.ad.a3) (by rfl) T.XZ rfl)))) (uB (qX (pB xV T.xy iE (cR (pv 2) (yP (v:=.ref c.ad.a4) (by rfl) T.X0 rfl)))))).pt (pR qJ) et) (pR (yT (Dp (pB xV T.xy iE (cR (pv 2) (yP (v:=.ref c.ad.a5) (by rfl) T.X1 rfl)))) (AY (Dp (pB xV T.xy iE (cR (pv 2) (yP (v:=.ref c.ad.a6) (by rfl) T.X2 rfl))))))))))),(bq (cS eG bR) (bq (Sy (Yi T) (fun _=>(zH (zD (cJ aN (cJ (az fm ar sI) (dI (az fm ar sI) (az fm ar sI))))))) (cS aN bR)) (bq (dY (rm (de (az zI ar eG.r)) (rm (wN (jJ (yi rfl (Yo T) ar))) (jJ (yi rfl (Yj T) ar)))) (dX qM) eI) (bq (dY (rm (jJ (yi rfl (Yk T) ar)) (jJ (yi rfl (Yl T) ar))) (dX qM) eI) (dX (zC (Et (yi rfl (Ym T) ar)) (Et (yi rfl (Yn T) ar))))))))⟩
abbrev PR (c:aP):Prop:=cK c 5 "_law_refused_by_any" ["_law_lengths_here","_law_papers"] (dV c CL)
abbrev PU:Stmt:=top 57
theorem Y' {c:aP} (T:cx c) (d:De c.K "_law_refused_by_any" PU) (vv:C9 c):PR c:=hD T.xg d fun _ _ F=>kS ["_law_lengths_here","_law_papers"] F fun _ _ _ _ _ _ hr hu nd=>⟨_,(a8 (Tu rfl rfl (by rfl) T.XX T.X3 (fun E pl xe Ii=>(dh (vz (vW vv hr Ii (bY (pv 0) (bY (pJ (pv 1) aK) (cR (pJ (pv 1) aK) (pJ (pv 1) aK)))))))) (fun ea=>(pR qJ))) (pR qJ)),(bq (Tw (Yh T) (fun _=>(zH (zD (cJ aN (cJ (az fm ar sI) (dI (az fm ar sI) (az fm ar sI))))))) (dX qM)) (dX qM))⟩
abbrev xB:Stmt:=top 59
theorem fZ:cb ["_law_script","_law_many","_law_lengths_here","_law_kept","_law_roads","_law_papers","_law_k","_law_bad","_law_some"] ["_law_script"] (dJ xB):=kR
theorem Za {c:aP} {f:Addr} {fd:FuncData} (F:ju c.K "law" "law" xB f fd) (T:cx c) (g0:Hh c) (g1:Hi c) (g3:OC c) (g6:Hk c) (g7:C7 c) (yH:Hn c) (Ij:OV c) (Ik:PH c) (Il:PK c) (Im:PN c) (Io:PR c):b_ c.P c.w c.K c.mg c.base iR 17 f fd ["_law_script"] (C1 c.K):=by
 refine F.ok fZ (fun vs H Q E h=>?_) (fun p4 A outer s H vs Q E hr h=>?_)
 ·obtain⟨a,ns,rfl,_⟩:=h
  rfl
 ·obtain⟨a,ns,rfl,hS,hlen,hq⟩:=h
  have hu:=sY hr
  exact⟨_,(a8 (nR (i:=1) fZ.nd rfl (by first|exact Or.inl rfl|exact Or.inr rfl) (aZ fK aK (aZ e6 (bP g0 hr dN (bY (pv 0) (bY aK dM))) aK)))
   (a8 (nR (i:=2) fZ.nd rfl (by first|exact Or.inl rfl|exact Or.inr rfl) (bP g3 hr dN (bY (gi hZ (pv 0) (fN aK) gU) (bY (pv 1) (bY (aZ la (bP g0 hr dN (bY (pv 0) (bY aK dM))) aK) dM)))))
   (a8 (JW (i:=3) fZ.nd rfl (by first|exact Or.inl rfl|exact Or.inr rfl) rfl (k8 (pv 2)) (Bm (dJ xB) ["_law_script","_law_many","_law_lengths_here","_law_kept","_law_roads","_law_papers","_law_k","_law_bad","_law_some"] ["_law_row"] [] 1 rfl rfl rfl (by decide +kernel) (by decide +kernel) (by decide +kernel) rfl (by decide +kernel) (fun cl C s H fp pins=>(vA (i:=0) (show List.Nodup (["_law_row"]:List Str) by decide +kernel) rfl (Or.inl rfl))) (fun cl C s H fp pins=>(k_ uf (by rfl) T.oC cM (bY (pv 0) dM))) (Or.inl ⟨rfl,rfl⟩)) rfl)
   (a8 (nR (i:=4) fZ.nd rfl (by first|exact Or.inl rfl|exact Or.inr rfl) (bP g6 hr Bz (bY (pv 2) dM)))
   (a8 (nR (i:=5) fZ.nd rfl (by first|exact Or.inl rfl|exact Or.inr rfl) (js (bY (bP Ij hr Bz (bY (pv 2) dM)) (bY (pv 4) (bY (bP yH hr Bz (bY (pv 2) (bY (bP g7 hr dN (bY (pv 4) dM)) dM))) dM)))))
   (a8 (rR iC rfl (A3 rfl T.jR (bY aK (bY aK dM))) (vA (i:=6) fZ.nd rfl (by first|exact Or.inl rfl|exact Or.inr rfl))
   (dh (dP (wj (qX (bP Ik hr dN (bY (pv 2) (bY (pv 5) (bY (bP g1 hr dN (bY (bP g0 hr dN (bY (pv 0) (bY (pv 6) dM))) (bY (aZ sZ aK (pv 6)) dM))) dM))))))
   (dh (sR qJ))
   et)))
   (a8 (dP (xJ g_ (aZ e6 (bP g0 hr dN (bY (pv 0) (bY aK dM))) aK) aK (wq _))
   (a8 (nR (i:=7) fZ.nd rfl (by first|exact Or.inl rfl|exact Or.inr rfl) (bP Il hr dN (bY (pv 2) (bY (bP g1 hr dN (bY (bP g0 hr dN (bY (pv 0) (bY aK dM))) (bY aK dM))) dM))))
   (a8 (nR (i:=8) fZ.nd rfl (by first|exact Or.inl rfl|exact Or.inr rfl) (js (bY (gi hZ (lY sV (pv 5) aK (fun _ _=>rfl)) gU (fN aK)) (bY (hV dM) (bY (lY sV (pv 5) aK (fun _ _=>rfl)) dM)))))
   (dh (dP ((qY (wj (qX (bP Im hr dN (bY (pv 7) (bY (pv 8) dM))))) (uB (wj (qX (bP Io hr dN (bY (pv 7) (bY (pv 5) dM)))))))).pt
   (dh (sR qJ))
   et))))
   et)
   (dh (sR (IT (zN hr.units) (pv 2) (pv 3) (wq _))))))))))),BO (K:=(k7 c)) (XO:=(nu (k7 c))) (E:=E) (np:=1) (nv:=8) (m:=Ny)
   (bq (cS (az fO (aS).r ((az fg ((gz (cJ aN (cJ aS gf)))).r (aS).r)).r) bR)
   (bq (cS ((og (cJ ((ie ar (fP aS) gY)).e (cJ aN (cJ (az lr ((gz (cJ aN (cJ aS gf)))).r (aS).r) gf))))).e bR)
   (bq (cS ((nr (rX ar) (by decide) lg lh (Or.inl ⟨rfl,rfl⟩) ((qj uU (zB ar BC))).e)).e bR)
   (bq (cS ((og (cJ aN gf))).e bR)
   (bq (cS (lb (cJ ((og (cJ aN gf))).e (cJ aN (cJ ((og (cJ aN (cJ ((og (cJ aN gf))).e gf)))).e gf)))) bR)
   (bq (jZ (Ki uQ (cJ aS (cJ aS gf))) bR
   (dY (wN (jJ (gz (cJ aN (cJ aN (cJ (gz (cJ (gz (cJ aN (cJ aN gf))) (cJ (az tH (aS).r ar) gf))) gf))))))
   (dX qM)
   eI))
   (bq (dY (de (az ic ((az fg ((gz (cJ aN (cJ aS gf)))).r (aS).r)).r (aS).r))
   (bq (cS ((og (cJ aN (cJ (gz (cJ (gz (cJ aN (cJ aS gf))) (cJ aS gf))) gf)))).e bR)
   (bq (cS (lb (cJ ((ie ((az fm ar (aS).r)).r gY (fP aS))).e (cJ ((h_ gf)).e (cJ (az fm ar (aS).r) gf)))) bR)
   (dY (rm (wN (jJ (gz (cJ aN (cJ aN gf))))) (wN (jJ (gz (cJ aN (cJ aN gf))))))
   (dX qM)
   eI)))
   eI)
   (dX (az zP ar ar))))))))) rfl (R9 (f:=Nz) (ua ns hlen) hS hq)⟩
end
theorem all_mk {l:PySem.W.OpenLaw} {w:World} {K:PySem.W.Frag} {h:Heap} {mg:Str→Option Value} {fa:Addr} {a0 a1 a2 a3 a4 a5 a6 a7:Addr} (X:K.In h) (G:h.Ns mainGlobals mg) (Zb:mg "law"=some (.ref fa)) (T:Txt K mg ⟨a0,a1,a2,a3,a4,a5,a6,a7⟩)
  (d0:De K "_law_cell_at" Oy)
  (d1:De K "_law_number" Oz)
  (d2:De K "_law_between" OB)
  (d3:De K "_law_lengths" yF)
  (d4:De K "look_at" OD)
  (d5:De K "shortest_road" OG)
  (d6:De K "least_tree" OH)
  (d7:De K "odd_ends" Hl)
  (d8:De K "least_pairing" OM)
  (d9:De K "road_at" OO)
  (Zc:De K "other_end" OQ)
  (Zd:De K "walk_along" OS)
  (Ze:De K "closed_walk" OU)
  (Zf:De K "paired_round" OW)
  (Zg:De K "_law_way_changed" OY)
  (Zh:De K "_law_any_roads" O0)
  (Zi:De K "_law_roads_changed" O2)
  (Zj:De K "_law_pairs_changed" O4)
  (Zk:De K "both_ends" O5)
  (Zl:De K "all_below" Hw)
  (Zm:De K "hang_together" Hy)
  (Zn:De K "is_tree" O_)
  (Zo:De K "shorter_instead" Pa)
  (Zp:De K "is_least_tree" Pc)
  (Zq:De K "roads_length" HB)
  (Zr:De K "paired_off" HC)
  (Zs:De K "least_paired_length" HD)
  (Zt:De K "way_length" HF)
  (Zu:De K "round_length" Pl)
  (Zv:De K "check_round" Pn)
  (Zw:De K "_law_joined" HM)
  (Zx:De K "_law_hang" HN)
  (Zy:De K "_law_length_of" HQ)
  (Zz:De K "_law_tree_length" HR)
  (ZA:De K "_law_pairing_length" HS)
  (ZC:De K "_law_pairs_word" HU)
  (ZD:De K "_law_round_length" HV)
  (ZE:De K "_law_word" PF)
  (ZF:De K "_law_looked" H_)
  (ZG:De K "_law_broken" Dc)
  (ZH:De K "_law_refused" PQ)
  (ZI:De K "_law_refused_by_any" PU)
  (dL:De K "law" xB)
  (e0:Dm K a7 "__init__" "KnownPairs.__init__" Hm)
  (e1:Dm K a7 "best_with" "KnownPairs.best_with" C8)
  (e2:Dm K a7 "best" "KnownPairs.best" yG)
  : ∃fd:FuncData,(∀(s:Shared) (v:Value),BindsTo s fd ⟨[v],[]⟩ [("_law_script",v)])∧∀base:Heap,K.In base→base.Ns mainGlobals mg→b_ l.prog w K mg base iR 17 fa fd ["_law_script"] (C1 K):=by
 let ad:xx:=⟨a0,a1,a2,a3,a4,a5,a6,a7⟩
 obtain⟨fL,gL,DL⟩:=dL
 have e:=Zb.symm.trans (eE X G DL.ns)
 cases e
 have FL:=DL.fn
 obtain⟨oc,od,kV,doc,pm,an,p4,ct,zd,rfl,lk,hcd⟩:=DL.fn.ex
 refine⟨PySem.W.fnOf "law" "law" (rT xB) (nX xB) (dJ xB) .none kV doc pm an p4 ct,fun s v=>.of_eq rfl,fun base _ _=>?_⟩
 let c:aP:=⟨l.prog,w,K,mg,base,ad⟩
 have T:cx c:=T
 obtain⟨f25,q25,Iq⟩:=Zr
 obtain⟨f26,q26,Ir⟩:=Zs
 obtain⟨ZJ,ZK,AU⟩:=ZA
 have g0:=Yp T d0
 have g1:=Yq T d1
 have g2:=Yr T d2
 have g3:=Ys T d3 g0 g1 g2
 have g4:=Yt T d4
 have g5:=Yu T d5
 have g6:=Yv T d6 g4 g5
 have g7:=Yw T d7
 obtain⟨_,_,iP⟩:=e0
 obtain⟨_,_,xC⟩:=e2
 obtain⟨_,_,oD⟩:=e1
 have g8:OK c:=iP.Ae T.Ox.1 T.Ox.2 T.XW (Yy iP.fn T) (iP.fn.binds fun _ _ _ _ _ _ us hl=>match us,hl with|[_,_],_=>rfl)
 have Ho:OL c:=YC xC oD T
 have yH:=YD T d8 g4 g8 Ho
 have Hq:=YE T d9
 have Hr:=YF T Zc
 have Hs:=YG T Zd Hq Hr
 have Ht:=YH T Ze g6 g7 yH Hs
 have Ij:=YI T Zf Ht
 have Ia:=YJ T Zg
 have Hu:=YK T Zh
 have Ib:=YL T Zi Hu
 have Ie:=YM T Zj
 have yI:=YN T Zk
 have Hz:=YO T Zl
 have yJ:=YQ T Zm
 have HH:=YR T Zn yI Hz yJ
 have HA:=YS T Zo yJ
 have HI:=YT T Zp HA
 have C_:=YU T Zq
 have HE:Pf c:=Iq.has X G (YV Iq.fn T) (Iq.fn.binds fun _ _ _ _ _ _ us hl=>match us,hl with|[_,_],_=>rfl)
 have HJ:Pg c:=Ir.has X G (YW Ir.fn T HE) (Ir.fn.binds fun _ _ _ _ _ _ us hl=>match us,hl with|[_,_],_=>rfl)
 have HG:=YX T Zt
 have HK:=YY T Zu HG
 have vv:=YZ T Zv g4 g7 yI HH HI C_ HJ HK
 have yK:=Y0 T Zw
 have HW:=Y1 T Zx yK
 have v8:=Y2 T Zy
 have HX:=Y3 T Zz yK
 have f6:∀n,b_ l.prog w K mg base iR (n+1) ZJ ZK ["_law_lengths_here","_law_some"] (qc (KX K ad) (nu (KX K ad)) (rF n)):=by
  intro n
  induction n with
  | zero=>exact⟨fun vs H Q E h=>by obtain⟨_,_,_,_,z⟩:=h;exact (show False from z).elim,fun A outer s H args us vs Q E hr e b v h=>by obtain⟨_,_,_,_,z⟩:=h;exact (show False from z).elim⟩
  | succ n ih=>exact Y4 AU.fn T (AU.has X G ih (AU.fn.binds fun _ _ _ _ _ _ us hl=>match us,hl with|[_,_],_=>rfl))
 have AS:Pw c:=AU.has X G (f6 8) (AU.fn.binds fun _ _ _ _ _ _ us hl=>match us,hl with|[_,_],_=>rfl)
 have HY:=Y5 T ZC v8 AS
 have HZ:=Y6 T ZD
 have Ig:=Y7 T ZE HW v8 HX HY HZ
 have Ik:=Y8 T ZF Ia Ib Ie vv Ig
 have Il:=Y9 T ZG
 have Im:=Y_ T ZH vv
 have Io:=Y' T ZI vv
 exact Za (c:=c) FL T g0 g1 g3 g6 g7 yH Ij Ik Il Im Io
theorem walk {l:PySem.W.OpenLaw} {q:Program} {loose:List Str} {XP:(Str→Option Value)→Heap→Prop} {YP:World→Heap→Prop} {d:DefRec} {K:Params→PySem.W.Frag} (hn:l.most=some 63) (ZM:d.params.defaults=[])
  (hY:∀(w:World) (h:Heap),YP w h→(K w.params).In h) (hT:∀w:World,tabOf (K w.params)=none)
  (F:∀(w:World) (mg:Str→Option Value) (fa:Addr) (h:Heap),(K w.params).In h→h.Ns mainGlobals mg→mg d.name=some (.ref fa) →
   ∃fd:FuncData,(∀(s:Shared) (u:Value),BindsTo s fd ⟨[u],[]⟩ [("_law_script",u)])∧∀base:Heap,(K w.params).In base→base.Ns mainGlobals mg→b_ l.prog w (K w.params) mg base iR 17 fa fd ["_law_script"] (C1 (K w.params))) :
  PySem.W.WalkO q loose XP YP l.row.toRowW d [] (fun f vs=>PySem.call f vs):=
 L2.uL (n:=63) (k:=17) (x:="_law_script") (CX:=fun _=>iR) (sp:=fun w=>C1 (K w.params)) hn (by decide) ZM ⟨rfl,by decide,by decide⟩ hY hT F (fun _ _ a ns hl _ hS=>⟨a,ns,rfl,hS,hl,fun _=>rfl⟩) fun _ _ _ _ _ z=>z
end My
structure PySem.W.Fast:Prop where(tw8522279240069925440 tw18102765549136406262 tw15411439281580606590 tw1831490533381693152 tw12282113341891539675 tw12725031404676357787 tw6458107798784768910 tw6790361174768724149 tw11688559898871507526 tw6140920267902662171 tw17310697968051463036 tw1644594155131519812 tw16447484958595910916 tw7346958102178403331 tw3640519053779020595 tw6690257579770963942 tw6922573320139537622 tw12262634185393102538 tw1411249213878406745 tw3578913847062740518 tw12245615112112166021 tw8170302492353844054 tw6250488270748603406 tw8784483113225408161 tw10845656920094260938 tw11497771291476452990 tw8184879067614778608 tw10058512705711585273 tw16409848209047916171 tw15175329272875872644 tw2379009863407715915 tw4124647816175678314 tw4563780741862813822 tw16419763086177044184 tw9940668068636096100 tw13330321672207172429 tw10333414180832650693 tw18248783336211778167 tw16518156005287240830 tw7818037470223001097 tw11211515577765376032 tw15658034016505117068 tw7257664506244240481 tw111789092444803849 tw4023088387747631918 tw9680290159718003127 tw16209382282264854491 tw13463817936763012662 tw3177991608931718805 tw9430392191721416296 tw11892478624626516951 tw5711117475378150031 tw3377345357775204829 tw8032557388756213064 tw4669745951504807878 tw15646017868151009730 tw6424765953313093194 tw9914568867924111267 tw12257571002377117761 tw2946016761697346840 tw6941690187653474534 tw11234683383419422617 tw1263894582939126909 tw14368188623508703409 tw17756109978769038289 tw14237044235704440315 tw345199653286840469 tw17287953084930091533 tw4234731647593314044 tw11953058228471779192 tw8629137852753320439 tw7368468423302882713 tw1333517022664215699 tw12493544149225298513 tw1333441660578244547 tw2861473867696445880 tw7718452952590696880 tw6362156650223034473 tw6824104931662732576 tw17524877239767576540 tw16415860396054639991 tw4139483458999584507 tw9411230449249701987 tw14002331508896115909 tw7705831711982656301 tw9797138256783055130 tw5555239101721726877 tw4047319121057741724 tw16251691083918075133 tw11249941854267498072 tw15659388230428940171 tw5745886831746533142 tw10633584164258707972 tw1463598108840615187 tw3302540394300451709 tw4610718062998815421 tw11661018765520456402 tw6794264366898813298 tw3449138750677204033 tw4158695872870539735 tw10730718263076351447 tw5467304955408142918 tw7261896230582640746 tw3519616441697250258 tw12731968887942635578 tw6385250101825178901 tw14009650074509860212 tw6063882047950572843 tw2889150599095803561 tw2970367264425631028 tw14893058492516191621 tw119843193795846667 tw14771882575685068515 tw3045704724166807469 tw9705851844733257345 tw14290267888885263022 tw5835546267447837962 tw15583995165702332418 tw10726486354101206460 tw627344332882179161 tw3906033590504151073 tw14192212197189677081 tw946300952205190723 tw12107338556385620064 tw5657572686399135317 tw14908033102826230814 tw9518750598117179378 tw16327588028094497566 tw16612694952870698664 tw1218503562431505771 tw7062639513972419305 tw16966007871226562803 tw6772735696286047910 tw16894355013614446547 tw3197910375275921315 tw17985315261121923206 tw10089655742323091234 tw9812449795987920910 tw2683985121704800291 tw16741942421576586942 tw14488678909234912192 tw15533452836787779725 tw9091926421237572770 tw6437431011055256135 tw1715537997694402936 tw5891480333943615606 tw9539260116984396171 tw11985891935670998447 tw15669969382129517629 tw14329973634178265597 tw10287019691221960570 tw6071076709514612612 tw18288999534431335580 tw13353705820041022987 tw16293836816948896553 tw9697043234627573240 tw3126317812877652432 tw16356805580467797997 tw6011256506906822552 tw17714287071346833862 tw4092807548365709071 tw6993630262451048634 tw2956477924699963007 tw6687887470190806181 tw17314986550010087227 tw13867575176757733863 tw8516184850535064909 tw2617063379543908902 tw13003869105676025348 tw7664572391109302224 tw363924809176798827 tw11283777827290212870 tw8894648823484514771 tw6835581224283154033 tw13273531218577795196 tw2417104451211417925 tw7941473320881290131 tw2303597430583460151 tw277782452188392361 tw11244739635312533567 tw9860830916459272430 tw13407239929589754322 tw4851175142870097342 tw14015465027225927346 tw5995080660468167804 tw3831553376629510420 tw1752196104855322380 tw10710322687163087766 tw13668984520841031416 tw11607388568945747451 tw10596098481324634755 tw15164043709855102925 tw18173594547124891691 tw13298552619659301246 tw13511821439835307350 tw10282936049345589736 tw1692799665359384138 tw3612259223800862684 tw3433070243622160914 tw15333637894011338476 tw8215892495094626489 tw557588090059002075 tw2292559720772309011 tw13024605623780300502 tw14322075363498807381 tw16731993134530112821 tw11006810527854832247 tw6141276908377269193 tw16574658827381709304 tw8308293392449078015 tw16085884341611716456 tw12556421417804313490 tw6144200525655412533 tw16699052367471310793 tw15676237161128571325 tw7173187223741004034 tw12258328567833113674 tw17868173416078582638 tw7116911529191189077 tw5963194502841189729 tw18386795348944145922 tw4919560292057631426 tw2807116233188839474 tw13522381642429028050 tw9799660713948629537 tw2799968042531485362 tw2300325306332209437 tw17806879862460706634 tw2188642639005007730 tw11126077964302360499 tw4040966374761055372 tw14871585042545983369 tw3583534491277716505 tw12006634372189483312 tw14507381039243815817 tw5440121619664302187 tw14922549253053384122 tw14677169753136151730 tw9069953529086614554 tw4969095963031035652 tw14432403733754247714 tw13822432314367149105 tw10235747691841201633 tw1840187187601569574 tw7906797722004256037 tw5363402964613393592 tw16706125529400748872 tw2603578432370637886 tw6951985709609538054 tw15179628142532544511 tw13289696036859453522 tw7795605491033371508 tw7570245647596354661 tw12058864777294118631 tw11084083162567673494 tw894319273547320315 tw4563004906312837210 tw465723175716130633 tw7613353780386273426 tw5628314911542373675 tw5213351271313507470 tw4963592132156447435 tw256628584004611411 tw16874186133311564565 tw13027879995066689905 tw1208947368925549379 tw11069572480434458468 tw10988662001045224361 tw7128878545438100141:True)
open PySem PySem.W PyProof.Rows
set_option maxRecDepth 100000 in
set_option maxHeartbeats 0 in
theorem PySem.Challenge.cw_goodenough_k46_rounds_looked_at_holds : PySem.Challenge.rw_goodenough_k46_rounds_looked_at.Holds := by
 w_on;o_law;k_head;(case hw=>w_witness2)
 k_fill
 refine My.walk (l:=PySem.Challenge.rw_goodenough_k46_rounds_looked_at) rfl rfl (fun w h Y=>by first|exact PySem.W.kIn_of Y|exact PySem.W.km_in_of Y) ?tab ?F
 (case tab=>intro w;kernel_rfl)
 case F=>
  intro w mg fa h X G ZN
  refine' My.all_mk X G ZN ⟨⟨h,X,G⟩,cZ X G ?_,cZ X G ?_,cZ X G ?_,cZ X G ?_,cZ X G ?_,cZ X G ?_,cZ X G ?_,cZ X G ?_,cZ X G ?_,cZ X G ?_,cZ X G ?_,cZ X G ?_,cZ X G ?_,cZ X G ?_,cZ X G ?_,cZ X G ?_,eE X G ?h0,⟨?h4,?h3,?h5,?h6⟩,?h7,?h8,eE X G ?h11,eE X G ?h12,eE X G ?h13,eE X G ?h14,eE X G ?h15,eE X G ?h16,eE X G ?h17,?h18,?h19,?h20,⟨?h37,?h38,?h25,?h39,?h21,?h22,?h47,?h48⟩,L2.mS ?h23 ?h30 ?h40,L2.mS ?h25 ?h32 ?h42,L2.je ?h24 ?h31 ?h41 ?h42,L2.je ?h26 ?h33 ?h43 ?h42,L2.je ?h27 ?h34 ?h44 ?h42,L2.je ?h28 ?h35 ?h45 ?h42,L2.je ?h29 ?h36 ?h46 ?h42,L2.tD L2.ke ?h49,⟨?h9,?h10⟩⟩ ?_ ?_ ?_ ?_ ?_ ?_ ?_ ?_ ?_ ?_ ?_ ?_ ?_ ?_ ?_ ?_ ?_ ?_ ?_ ?_ ?_ ?_ ?_ ?_ ?_ ?_ ?_ ?_ ?_ ?_ ?_ ?_ ?_ ?_ ?_ ?_ ?_ ?_ ?_ ?_ ?_ ?_ ?_ ?_ ?_ ?_
  any_goals refine' L2.tm ?_ ?_ ?_ ?_
  any_goals refine' L2.rA ?_ ?_ ?_ ?_ ?_
  all_goals try first|k_is|(dsimp only;k_is)|(unfold L2.cH;dsimp only;k_is)
  all_goals first|k_exc|(dsimp only;k_exc)|kernel_rfl|(dsimp only;kernel_rfl)|rfl
#print axioms PySem.Challenge.cw_goodenough_k46_rounds_looked_at_holds
