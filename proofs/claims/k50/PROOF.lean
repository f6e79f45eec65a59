import PyProof.Rows.All
import Wide.All
import OpenK.AllK
import Wide.FinOn
import Lean
import PyProof.EqAt
import PyProof.EqKinds
import PyProof.TupleCall
import PySem.Challenge.RW_goodenough_k50_best_looked_at
set_option Elab.async false
set_option linter.all false
set_option maxRecDepth 100000
set_option maxHeartbeats 4000000
set_option bootstrap.genMatcherCode false
noncomputable section
def si:=@PySem.Around.under_plainId
def oB:=@Array.getD_eq_getD_getElem?
def uF:=@Array.getElem?_eq_some_iff
def xh:=@Array.getElem?_toList
def oC:=@Array.length_toList
def ka:=@Bool.and_eq_true
def uG:=@Bool.eq_iff_iff
def uH:=@Bool.false_eq_true
def fA:=@Bool.false_ne_true
def xj:=@PySem.Calls.callWith_builtin
def p5:=@PySem.Calls.evalArgs_plain
def nz:=@PySem.Calls.spliced_cons
def p6:=@PySem.Calls.spliced_nil
def sj:=@PySem.Code.quiet_builtin
def dZ:=@Eq.trans
def jB:=@PySem.F.called_set
def lz:=@PySem.F.plain_max_loop
def p7:=@PySem.F.slot_tuple_iterator_next
def p9:=@PySem.F.slot_zip_next
def nC:=@PySem.Heap.SameBut.update
def lA:=@PySem.Heap.get?_none_of_le
def aO:=@PySem.Heap.get?_push_of_some
def cg:=@PySem.Heap.get?_push_size
def fO:=@PySem.Heap.get?_update_other
def jC:=@PySem.Heap.get?_update_self
def aM:=@PySem.Heap.lt_size
def iO:=@PySem.Heap.size_push
def so:=@Int.le_antisymm
def lB:=@Int.le_refl
def sq:=@List.Nodup.length_le_of_subset
def kb:=@List.all_cons
def iP:=@List.all_eq_true
def lC:=@List.all_map
def iQ:=@List.any_cons
def p_:=@List.any_eq_true
def sr:=@List.append_assoc
def dQ:=@List.append_nil
def gx:=@List.cons_append
def wc:=@List.dropLast_concat_getLast
def su:=@List.dropLast_eq_take
def qc:=@List.drop_eq_getElem_cons
def qf:=@List.drop_length
def we:=@List.eq_nil_of_length_eq_zero
def sx:=@List.eq_nil_or_concat
def sy:=@List.ext_getElem
def kd:=@List.ext_getElem?
def sA:=@List.filterMap_cons
def sC:=@List.forIn_cons
def dR:=@List.getD_eq_getElem?_getD
def gk:=@List.getElem?_append_left
def iR:=@List.getElem?_append_right
def bW:=@List.getElem?_eq_getElem
def jD:=@List.getElem?_eq_none_iff
def b':=@List.getElem?_eq_some_iff
def cj:=@List.getElem?_map
def lD:=@List.getElem?_replicate
def aQ:=@List.getElem?_set_ne
def bu:=@List.getElem?_set_self
def lF:=@List.getElem_of_mem
def h7:=@List.length_append
def gm:=@List.length_cons
def sD:=@List.length_drop
def lG:=@List.length_eq_zero_iff
def qh:=@List.length_filter_le
def aW:=@List.length_map
def sE:=@List.length_pos_iff
def qi:=@List.length_range
def ke:=@List.length_reverse
def qj:=@List.length_set
def sF:=@List.length_singleton
def qo:=@List.length_take
def fq:=@List.lookup_cons
def h_:=@List.map_append
def kf:=@List.map_congr_left
def bH:=@List.map_cons
def qq:=@List.map_const'
def sG:=@List.map_fst_zip
def cK:=@List.map_map
def iS:=@List.map_nil
def qr:=@List.map_take
def bO:=@List.mem_append
def jE:=@List.mem_append_left
def dz:=@List.mem_append_right
def aY:=@List.mem_cons
def bJ:=@List.mem_cons_of_mem
def kg:=@List.mem_cons_self
def gy:=@List.mem_filter
def lH:=@List.mem_filterMap
def sH:=@List.mem_flatMap
def fP:=@List.mem_map
def ib:=@List.mem_of_getElem?
def iU:=@List.mem_range
def bP:=@List.mem_singleton
def fQ:=@List.nodup_append
def gp:=@List.nodup_cons
def qs:=@List.nodup_range
def iV:=@List.not_mem_nil
def nE:=@List.of_mem_zip
def qt:=@List.reverse_cons
def d9:=@List.size_toArray
def lV:=@List.take_of_length_le
def lW:=@Nat.le_of_eq
def il:=@Nat.le_of_lt
def aG:=@Nat.le_refl
def ip:=@Nat.le_succ
def bK:=@Nat.le_trans
def de:=@Nat.lt_irrefl
def je:=@Nat.lt_of_le_of_lt
def cN:=@Nat.lt_of_lt_of_le
def kh:=@Nat.lt_succ_of_lt
def fB:=@Nat.lt_succ_self
def f9:=@Nat.lt_trans
def eU:=@Nat.ne_of_gt
def a_:=@Nat.ne_of_lt
def bU:=@Nat.zero_le
def aR:=@Ne.symm
def ki:=@PySem.Obj.data_mapFields
def lX:=@PySem.Obj.isFreed_of_fields
def oE:=@Option.map_eq_some_iff
def lY:=@Option.map_some
def dU:=@Option.some.inj
def eV:=@PySem.PassesOwn.leaving
def kj:=@PySem.PassesOwn.never
def eW:=@PyProof.Rows.callWith_type1
def jf:=@PyProof.Rows.slot_tuple_getitem
def oF:=@PySem.F.args_tuple_add_2
def oG:=@PySem.F.entry_tuple_add
def dA:=@PySem.F.excBase_ValueError
def gz:=@PySem.F.plainAttrs_list
def oH:=@PySem.F.slot_dict_get
def oI:=@PySem.F.slot_list_append
def oJ:=@PySem.F.slot_list_pop
def oK:=@PySem.F.slot_tuple_add
def oM:=@PySem.F.type_list_append
def oN:=@PySem.F.type_list_pop
def km:=@PySem.W.KasT.kasWp_bind
def oO:=@PySem.W.any_some
def lZ:=@PySem.W.callWith_K
def oP:=@PySem.W.cellsFrom_some
def oQ:=@PySem.W.hideAll_get
def oR:=@PySem.W.isNs_of_in
def eY:=@PySem.W.kia_one
def oS:=@PySem.W.looks_clsIn
def cO:=@PySem.W.mg_none_of
def dg:=@PySem.W.mg_of
def oU:=@PySem.W.of_hideAll
def oV:=@PySem.W.plainGet_of
def aU:=@PySem.boot_len
def f_:=@PySem.mem_of_lookup
def kn:=@beq_eq_false_iff_ne
def e_:=@beq_iff_eq
def eF:=@PyProof.Rows.boot_list
def jg:=@PySem.codeAny_builtin
def oW:=@PySem.codeAny_call_builtin
def gB:=@PySem.codeAny_mono
def dh:=@congrArg
def jh:=@decide_eq_decide
def b8:=@decide_eq_false
def cP:=@decide_eq_true
def l4:=@decide_eq_true_eq
def ao:=@if_neg
def aq:=@if_pos
def iq:=@not_or
def iu:=@or_false
def ko:=@PySem.plainId_quiet
def l7:=@PySem.rangeSize_one
def l8:=@PySem.seqIndex_neg
def fc:=@PySem.sizeLine_eq
def oX:=@PySem.tupleKind_room_in1
def iv:=@PySem.wpAny_Call_Name_kw
def kq:=@PySem.wpAny_Name
def l9:=@PySem.wpAny_attempt
def ah:=@PySem.wpAny_bind
def gC:=@PySem.wpAny_call
def iw:=@PySem.wpAny_callSpecial?_slot
def iy:=@PySem.wpAny_call_entry
def l_:=@PySem.wpAny_execs_nil
def cm:=@PySem.wpAny_field
def dB:=@PySem.wpAny_holding
def gD:=@PySem.wpAny_letGo
def oY:=@PySem.wpAny_loadName_local
def mf:=@PySem.wpAny_loadPart'
def di:=@PySem.wpAny_mono
def kr:=@PySem.wpAny_newObj_type
def mm:=@PySem.wpAny_onRaise
def iz:=@PySem.wpAny_passesOwn
def ax:=@PySem.wpAny_pure
def mq:=@PySem.wpAny_pyIter_enum
def oZ:=@PySem.wpAny_pyIter_list
def o5:=@PySem.wpAny_pyIter_revIter
def o9:=@PySem.wpAny_pyIter_tuple
def iA:=@PySem.wpAny_rule
def eG:=@PySem.wpAny_seqItems
def ku:=@PySem.wpAny_setField
def ji:=@PySem.wpAny_setField_rec
def gE:=@PySem.wpAny_standAt
def jj:=@PySem.wpAny_truthy_bool
def kv:=@PySem.wpAny_tryCatch
def jk:=@PySem.wpAny_typeOf
def mu:=@PySem.wpAny_updateSeq
def o_:=@PySem.wpAny_updateSeq_pair
namespace L2
open PySem PySem.Spec PyProof.Rows
abbrev Key:=Sum Int Str
def yX:Key->Value->Bool |.inl k,v=>Value.isInt k v |.inr x,v=>Value.isStrOf x v
def Eh(w:World):Key->Int |.inl k=>hashInt k |.inr x=>hashStr w x
theorem uI:∀{k:Key}{v:Value},yX k v=true->(∃i t,k=Sum.inl i/\v=Value.int i t)\/(∃x t,k=Sum.inr x/\v=Value.str x t) |.inl i,v,h=>by obtain⟨t,e⟩:=Value.isInt_shape h;simp_all |.inr x,v,h=>by obtain⟨t,e⟩:=Value.isStrOf_shape h;simp_all
theorem RT(i:Int)(t:Tok):yX (.inl i) (.int i t)=true:=by simp[yX,Value.isInt]
theorem RU(x:Str)(t:Tok):yX (.inr x) (.str x t)=true:=by simp[yX,Value.isStrOf]
theorem RV(a b:Int):decide ((Sum.inl a:Key)=Sum.inl b)=(a==b):=by
 by_cases e:a=b;.simp_all
 .have h:¬(Sum.inl a:Key)=Sum.inl b:=fun q=>e (Sum.inl.inj q);rw[b8 h];exact(kn.mpr e).symm
theorem RW(a b:Str):decide ((Sum.inr a:Key)=Sum.inr b)=decide (a=b):=by simp
theorem RX(a:Int)(b:Str):decide ((Sum.inl a:Key)=Sum.inr b)=false:=b8 (fun q=>nomatch q)
theorem RY(a:Str)(b:Int):decide ((Sum.inr a:Key)=Sum.inl b)=false:=b8 (fun q=>nomatch q)
def qI(prog:Program)(w:World):PySem.KeyKind prog w Key where
  is:=yX;hash:=Eh w;inj:=fun v a b l f=>by
    rcases uI l with⟨i,t,rfl,rfl⟩|⟨x,t,rfl,rfl⟩
    . rcases uI f with⟨j,u,rfl,e⟩|⟨y,u,rfl,e⟩;.injection e with c _;rw[c]
      .exact nomatch e
    . rcases uI f with⟨j,u,rfl,e⟩|⟨y,u,rfl,e⟩;.exact nomatch e
      .injection e with c _;rw[c]
  byValue:=fun k v h=>by rcases uI h with⟨i,t,rfl,rfl⟩|⟨x,t,rfl,rfl⟩<;>rfl
  pyHash:=fun d h=>by
    rcases uI d with⟨i,t,rfl,rfl⟩|⟨x,t,rfl,rfl⟩;.exact wpAny_pyHash_int h
    .exact wpAny_pyHash_str h
  eqBool:=fun g d h=>by
    rcases uI g with⟨i,t,rfl,rfl⟩|⟨x,t,rfl,rfl⟩
    . rcases uI d with⟨j,u,rfl,rfl⟩|⟨y,u,rfl,rfl⟩;.rw[RV] at h;exact wpAny_eqBool_int h
      .rw[RX] at h;exact SeqAt.EqAt.int_str i t y u _ _ _ _ h
    . rcases uI d with⟨j,u,rfl,rfl⟩|⟨y,u,rfl,rfl⟩;.rw[RY] at h;exact SeqAt.EqAt.str_int x t j u _ _ _ _ h
      .rw[RW] at h;exact wpAny_eqBool_str h
  «strs»:=fun k x t v h=>by
    rcases uI h with⟨i,u,rfl,e⟩|⟨y,u,rfl,e⟩;.exact nomatch e
    .injection e with c _;subst c;cases v<;>rfl
theorem RZ(prog:Program)(w:World)(i:Int)(t:Tok):(qI prog w).is (.inl i) (.int i t)=true:=RT i t
theorem R0(prog:Program)(w:World)(x:Str)(t:Tok):(qI prog w).is (.inr x) (.str x t)=true:=RU x t
inductive V where |non|bl(b:Bool)|int(i:Int)|str(x:Str)|rP(b:Array UInt8)|xk(b:UInt64)|ref(a:Addr)|ty(n:String) deriving DecidableEq
def RelV:V->Value->Prop |.non,u=>u=Value.none |.bl b,u=>u=Value.bool b |.int i,u=>∃t,u=Value.int i t |.str x,u=>∃t,u=Value.str x t |.rP b,u=>∃t,u=Value.bytes b t |.xk b,u=>∃t,u=Value.float b t |.ref a,u=>u=Value.ref a |.ty n,u=>u=Value.type n
abbrev Vals:List V->List Value->Prop:=Paired RelV
theorem Vals.length(r:Vals xs us):xs.length=us.length:=Paired.length r
theorem Vals.get:∀{xs:List V}{us:List Value}{i:Nat}{x:V},Vals xs us->xs[i]?=some x->∃u,us[i]?=some u/\RelV x u |_,_,_,_,.nil,e=>by simp at e |_,_,0,_,.cons r _,e=>by simp_all |_,_,i+1,x,.cons _ t,e=>by obtain⟨u,a,b⟩:=Vals.get (i:=i) (x:=x) t (by simp_all);simp_all
theorem Vals.set(r:RelV x u):∀{xs:List V}{us:List Value}(i:Nat),Vals xs us->Vals (xs.set i x) (us.set i u) |_,_,_,.nil=>.nil |_,_,0,.cons _ t=>.cons r t |_,_,i+1,.cons q t=>.cons q (Vals.set r i t)
theorem Vals.append:∀{xs ys:List V}{us ws:List Value},Vals xs us->Vals ys ws->Vals (xs++ys) (us++ws) |_,_,_,_,.nil,s=>s |_,_,_,_,.cons r t,s=>.cons r (Vals.append t s)
theorem Vals.take:∀{xs:List V}{us:List Value}(n:Nat),Vals xs us->Vals (xs.take n) (us.take n) |_,_,0,_=>.nil |_,_,_+1,.nil=>.nil |_,_,n+1,.cons r t=>.cons r (Vals.take n t)
theorem Vals.drop:∀{xs:List V}{us:List Value}(n:Nat),Vals xs us->Vals (xs.drop n) (us.drop n) |_,_,0,r=>r |_,_,_+1,.nil=>.nil |_,_,n+1,.cons _ t=>Vals.drop n t
def hO:Option V->Option Value->Prop |some v,some u=>RelV v u |none,none=>True |_,_=>False
def KV{κ:Type}:List (κ×V)->List (κ×Value)->Prop:=Paired fun(p:κ×V) (q:κ×Value)=>p.1=q.1/\RelV p.2 q.2
def kV:Key->V |.inl i=>.int i |.inr x=>.str x
inductive HO where |lst(xs:List V) |tup(xs:List V) |dK(cq:List (Key×V))|dT(cq:List (List Key×V)) |set(S:Int->Bool)(n:Nat) |ins(C dx:Addr)(fs:List (Str×V)) |own(x:Addr) |xd(fs:List (Str×V)) |met(f x:Addr) |lI(lo hi:Int) |jI(o:Obj)(u:HO) |pd(ps:Array Value) |ext(φ:Heap->Prop)
abbrev Hp:=Addr->Option HO
def upd(H:Hp)(a:Addr)(o:HO):Hp:=fun b=>if b=a then some o else H b
theorem cw:upd H a o a=some o:=by unfold upd;simp
theorem bj(h:b≠a):upd H a o b=H b:=by unfold upd;simp_all
theorem R1{H:Hp}(h:H a=some o)(h':H b=some u)(d:o≠u):a≠b:=by intro e;simp_all
theorem dC{H:Hp}(h:H a=some o)(h':H b=none):a≠b:=by intro e;simp_all
noncomputable def R3(fd:FuncData):Option Pos:= match fd.body with |.stmts [.Return (some (.Call _ _ [⟨_,.Lambda _ _ _ a,_⟩] _)) _]=>some a |_=>none
def tabAt(K:PySem.W.Frag)(v:Value):Option Addr:= match v with
 |.ref c=>match K.lookup c with
  |some o=>match o.data with
   |.fields a=>match(a[11]?:Option Value) with |some (.ref P)=>some P |_=>none
   |_=>none
  |_=>none
 |_=>none
def tabOf(K:PySem.W.Frag):Option (Addr×Array Value):= K.findSome? fun p=>match p.2.data with
 |.func b=>match R3 b with |some a=>(tabAt K b.code).map fun P=>(P,#[.str (b.qualname++".<locals>."++"<lambda>") 0,rawInt a.line,rawInt a.col]) |none=>none
 |_=>none
def iW(H:Hp)(h:Heap)(a:Addr)(ps:Array Value):Prop:= ∃(q:Str) (t:Tok) (g e:Int) (d:List Value) (b:Array Value),ps.toList=.str q t::rawInt g::rawInt e::d/\h.get? a=some {cls:=.none,data:=.fields b}/\ (b=#[]\/∃(c:Addr) (o:Obj) (f:Array Value) (u:Tok),b=#[rawInt g,rawInt e,.ref c]/\H c=some (.own a)/\h.get? c=some o/\o.data=.fields f/\f[1]?=some (.str q u))
theorem iW.lt(x:iW H h a ps):a<h.objs.size:=let⟨_,_,_,_,_,_,_,e,_⟩:=x;aM e
theorem iW.iB(x:iW H h a ps)(k:∀b u,(b=a\/H b=some (.own a))->h.get? b=some u->h'.get? b=some u) (m:∀b,H b=some (.own a)->H' b=some (.own a)):iW H' h' a ps:=by
 obtain⟨q,t,r,s,d,e,n,p,g⟩:=x;refine⟨q,t,_,_,_,_,n,k _ _ (.inl rfl) p,?_⟩;rcases g with g|⟨c,o,v,u,l,f,i,j⟩;.simp_all
 .exact .inr ⟨c,o,_,u,l,m _ f,k _ _ (.inr f) i,j⟩
def qJ(K:PySem.W.Frag)(H:Hp):Prop:=∀t,tabOf K=some t->∃a,H t.1=some (.pd (t.2++a))
theorem qJ.grown{K:PySem.W.Frag}(x:qJ K H)(g:∀b ps,H b=some (.pd ps)->∃more,H' b=some (.pd (ps++more))):qJ K H':=fun t e=>by obtain⟨d,c⟩:=x t e;obtain⟨a,f⟩:=g _ _ c;exact⟨d++a,by simp_all⟩
section
variable(P:Program)(w:World)
def dv(H:Hp)(h:Heap)(a:Addr):HO->Prop |.lst d=>d.length<=sizeLine/\∃(b:List Value) (n:Nat),Vals d b/\h.get? a=some {cls:=.type "list",data:=.seq b.toArray n} |.tup d=>d.length<=sizeLine/\∃b:List Value,Vals d b/\IsTup h a b.toArray |.dK c=>c.length<=sizeLine/\(a==sysModules)=false/\∃s,KV c s/\h.DictOf (qI P w) a s |.dT c=>c.length<=sizeLine/\(a==sysModules)=false/\∃d:List (List Key×Addr×Value), Paired (fun(p:List Key×V) (q:List Key×Addr×Value)=>p.1=q.1/\H q.2.1=some (.tup (p.1.map kV))/\RelV p.2 q.2.2) c d/\ ∃o l y,h.get? a=some o/\o.ExactDict/\o.data=.dict l y/\l.toList=d.map (entryOfKey (tupleKind (qI P w)))/\(d.map (·.1)).Nodup |.set S n=>h.SetOf (intKind P w) a S n |.ins C i g=>H i=some (.own a)/\g.length<=1000/\i≠a/\h.get? a=some (PySem.W.instObj C i)/\ ∃e,h.Ns1 i e/\(∀f,hO (g.lookup f) (e f))/\PySem.Within e (g.map (·.1)) |.own _=>∃o,h.get? a=some o |.xd g=>∃e,h.Ns1 a e/\∀f,hO (g.lookup f) (e f) |.lI lo z=>∃t u v,h.get? a=some {cls:=.type "range",data:=.fields #[.int lo t,.int z u,.int 1 v]} |.jI o u=>h.get? a=some o/\dv H h a u |.pd A=>iW H h a A |.met f x=>h.get? a=some (PySem.W.methodObj (.ref f) (.ref x)) |.ext k=>k h/\(∃o,h.get? a=some o)/\∀m r:Heap,k m->(∀o,m.get? a=some o->r.get? a=some o)->k r
def ic(H:Hp)(h:Heap):Prop:=∀a o,H a=some o->dv P w H h a o
end
section
variable{P:Program}{w:World}{H H':Hp}{h h':Heap}{a:Addr}{o:HO}
theorem dv.lt(x:dv P w H h a o):a<h.objs.size:=by cases o with |lst j=>obtain⟨_,_,_,_,e⟩:=x;exact aM e |tup j=>obtain⟨_,_,_,p⟩:=x;exact p.lt |dK b=>obtain⟨_,_,_,_,o,_,_,e,_⟩:=x;exact aM e |dT b=>obtain⟨_,_,_,_,o,_,_,e,_⟩:=x;exact aM e |set S n=>obtain⟨o,_,_,_,e,_⟩:=x;exact aM e |ins C D d=>obtain⟨_,_,_,e,_⟩:=x;exact aM e |own y=>obtain⟨_,e⟩:=x;exact aM e |xd d=>obtain⟨_,⟨_,_,_,e,_⟩,_⟩:=x;exact aM e |lI lo z=>obtain⟨_,_,_,e⟩:=x;exact aM e |jI A u=>obtain⟨e,_⟩:=x;exact aM e |pd v=>exact iW.lt x |met f y=>exact aM x |ext t=>obtain⟨_,⟨_,e⟩,_⟩:=x;exact aM e
theorem Paired.xl:∀{Aq:List α}{l₂:List c},Paired F Aq l₂->(∀a b,F a b->G a b)->Paired G Aq l₂ |_,_,.nil,_=>.nil |_,_,.cons r t,f=>.cons (f _ _ r) (Paired.xl t f)
theorem dv.iB(x:dv P w H h a o)(k:∀b u,(b=a\/H b=some (.own a))->h.get? b=some u->h'.get? b=some u) (s:∀b,H b=some (.own a)->H' b=some (.own a))(J:∀b xs,H b=some (.tup xs)->H' b=some (.tup xs)):dv P w H' h' a o:=by induction o with |lst xs=>obtain⟨z,l,n,r,e⟩:=x;exact⟨z,_,n,r,k _ _ (.inl rfl) e⟩ |tup xs=>obtain⟨z,l,r,g,e,c⟩:=x;exact⟨z,_,r,_,k _ _ (.inl rfl) e,c⟩ |dK m=>obtain⟨z,y,vs,r,g,i,j,e,c⟩:=x;exact⟨z,y,_,r,_,_,_,k _ _ (.inl rfl) e,c⟩ |dT m=> obtain⟨z,y,xs,r,g,i,j,e,c⟩:=x;exact⟨z,y,_,Paired.xl r fun p q z=>⟨z.1,J _ _ z.2.1,z.2.2⟩,_,_,_,k _ _ (.inl rfl) e,c⟩ |set S n=>obtain⟨g,i,j,t,e,c⟩:=x;exact⟨_,_,_,t,k _ _ (.inl rfl) e,c⟩ |ins C dx Q=> obtain⟨d,z,B,e,O,⟨L,i,j,D,c⟩,r⟩:=x;exact⟨s _ d,z,B,k _ _ (.inl rfl) e,_,⟨_,_,_,k _ _ (.inr d) D,c⟩,r⟩ |own y=>obtain⟨g,e⟩:=x;exact⟨_,k _ _ (.inl rfl) e⟩ |xd Q=>obtain⟨O,⟨L,i,j,e,c⟩,r⟩:=x;exact⟨_,⟨_,_,_,k _ _ (.inl rfl) e,c⟩,r⟩ |lI lo hi=>obtain⟨t,u,v,e⟩:=x;exact⟨t,u,v,k _ _ (.inl rfl) e⟩ |jI g u N=>obtain⟨e,q⟩:=x;exact⟨k _ _ (.inl rfl) e,N q⟩ |pd ps=>exact iW.iB x k s |met f y=> have e:h.get? a=some _:=x;show h'.get? a=some _;simp_all |ext Y=>obtain⟨p,⟨o,e⟩,st⟩:=x;exact⟨st _ _ p fun o q=>k _ _ (.inl rfl) q,⟨o,k _ _ (.inl rfl) e⟩,st⟩
theorem ic.lt(x:ic P w H h)(e:H a=some o):a<h.objs.size:=(x a o e).lt
theorem ic.fresh(x:ic P w H h)(e:h.objs.size<=a):H a=none:=by cases q:H a with |none=>rfl |some u=>exact absurd (cN (x.lt q) e) (de _)
theorem ic.kept(x:ic P w H h)(k:∀b u,h.get? b=some u->h'.get? b=some u):ic P w H h':=fun a o e=> (x a o e).iB (fun b u _ q=>k b u q) (fun _ q=>q) fun _ _ q=>q
theorem ic.laid(x:ic P w H h)(k:∀b u,h.get? b=some u->h'.get? b=some u)(g:h.objs.size<=a)(i:dv P w (upd H a o) h' a o):ic P w (upd H a o) h':=fun b u e=>by
 have f:=x.fresh g;by_cases d:b=a;.subst d;rw[cw] at e;simp_all
 .rw[bj d] at e;exact(x b u e).iB (fun c v _ q=>k c v q) (fun c q=>by rwa[bj (dC q f)]) fun c j q=>by rwa[bj (dC q f)]
end
def Rd(H:Hp)(a:Addr)(u:HO):Prop:=H a=some u\/∃o,H a=some (.jI o u)
theorem Rd.ok(r:Rd H a u)(x:ic P w H h):dv P w H h a u:=by
 rcases r with r|⟨o,r⟩;.exact x a u r
 .obtain⟨_,q⟩:=x a _ r;exact q
def Ar:Option HO->Prop |some (.lst _)=>True |some (.dK _)=>True |some (.dT _)=>True |some (.set _ _)=>True |some (.ins _ _ _)=>True |some (.ext _)=>True |_=>False
section
variable{P:Program}{w:World}{H:Hp}{h h':Heap}{x e:Addr}{o':HO}
theorem ic.write(s:ic P w H h)(o:Ar (H x))(n:e=x\/H e=some (.own x))(k:∀b u,b≠e->h.get? b=some u->h'.get? b=some u)(j:∃u,h'.get? e=some u) (p:dv P w (upd H x o') h' x o'):ic P w (upd H x o') h':=fun b u q=>by
  have a:∀c y,H c=some (.own y)->c≠x:=fun c y r z=>by subst z;rwa[r] at o
  have f:∀c l,H c=some (.tup l)->c≠x:=fun c l r z=>by subst z;rwa[r] at o
  by_cases i:b=x;.subst i;rw[cw] at q;grind
  . rw[bj i] at q;by_cases d:b=e
    . have m:H b=some (.own x):=by
        rcases n with z|z;.grind
        grind
      rw[q] at m;cases m;obtain⟨v,t⟩:=j;exact⟨v,by rwa[d]⟩
    . refine(s b u q).iB (fun c v g r=>k c v ?_ r) (fun c r=>by rwa[bj (a c b r)]) fun c l r=>by rwa[bj (f c _ r)]
      rcases g with rfl|g;.exact d
      . rintro rfl;rcases n with z|z;.exact a c b g z
        .rw[g] at z;cases z;exact i rfl
end
structure Un(fs ex:List Addr)(H H':Hp)(h h':Heap):Prop where
 keep:∀b o,h.get? b=some o->H b=none->b∉fs->b∉ex->h'.get? b=some o
 slot:∀b o,h.get? b=some o->H b=none->b∈fs->b∉ex->∃sl,h'.get? b=some {o with slots:=sl}free:∀b o,h.get? b=some o->H b=none->b∉ex->H' b=none
 there:∀b o,h.get? b=some o->b∉ex->∃o',h'.get? b=some o'
 kA:∀b xs,H b=some (.tup xs)->H' b=some (.tup xs)jJ:∀b o u,H b=some (.jI o u)->H' b=some (.jI o u)iC:∀b ps,H b=some (.pd ps)->∃more,H' b=some (.pd (ps++more))
section
variable{fs Ei ex JS:List Addr}{H H1 H2:Hp}{h h1 h2 h':Heap}{a x e:Addr}{o:HO}
theorem Un.any(u:Un fs ex H H1 h h1)(q:h.get? b=some g)(n:H b=none)(d:b∉ex):∃f,h1.get? b=some {g with slots:=f}:=by
 by_cases c:b∈fs;.exact u.slot b _ q n c d
 .exact⟨_,u.keep b _ q n c d⟩
theorem Un.kept(k:∀b u,h.get? b=some u->h'.get? b=some u):Un fs ex H H h h':= ⟨fun b c q _ _ _=>k b _ q,fun b c q _ _ _=>⟨_,k b _ q⟩,fun _ _ _ n _=>n,fun b c q _=>⟨_,k b _ q⟩,fun _ _ q=>q,fun _ _ _ q=>q,fun _ d q=>⟨#[],by simp_all⟩⟩
theorem Un.refl:Un fs ex H H h h:=Un.kept fun _ _ q=>q
theorem Un.laid(k:∀b u,h.get? b=some u->h'.get? b=some u)(d:h.objs.size<=a)(c:H a=none):Un fs ex H (upd H a o) h h' where
 keep:=fun b u q _ _ _=>k b u q;slot:=fun b u q _ _ _=>⟨_,k b u q⟩;free:=fun b u q n _=>by rwa[bj (a_ (cN (aM q) d))]
 there:=fun b u q _=>⟨u,k b u q⟩;kA:=fun b f q=>by rwa[bj (dC q c)]
 jJ:=fun b u f q=>by rwa[bj (dC q c)]
 iC:=fun b g q=>⟨#[],by rw[bj (dC q c),q];simp⟩
theorem Un.write(f:Ar (H x))(r:e=x\/H e=some (.own x))(k:∀b u,b≠e->h.get? b=some u->h'.get? b=some u)(g:∃u,h'.get? e=some u):Un fs ex H (upd H x o) h h':=by
 have j:∀b,H b=none->b≠x:=fun b n z=>by subst z;rwa[n] at f
 have i:∀b,H b=none->b≠e:=fun b n z=>by simp_all
 have d:∀b u,H b=some u->¬Ar (some u)->b≠x:=fun b u q m z=>by subst z;rw[q] at f;exact m f
 refine⟨fun b u q n _ _=>k b u (i b n) q,fun b u q n _ _=>⟨_,k b u (i b n) q⟩,fun b u q n _=>by rwa[bj (j b n)],fun b u q _=>?_, fun b l q=>by rwa[bj (d b _ q fun z=>z)],fun b u l q=>by rwa[bj (d b _ q fun z=>z)],fun b p q=>⟨#[],by rw[bj (d b _ q fun z=>z),q];simp⟩⟩;by_cases c:b=e;.subst c;exact g
 .exact⟨u,k b u c q⟩
theorem Un.mono(u:Un fs ex H H1 h h1)(i:∀b∈fs,b∈Ei)(d:∀b∈ex,b∈JS):Un Ei JS H H1 h h1:= ⟨fun b f q n g c=>u.keep b _ q n (fun z=>g (i b z)) fun z=>c (d b z),fun _ _ q n _ c=>u.any q n fun z=>c (d _ z),fun b f q n c=>u.free b _ q n fun z=>c (d b z),fun b f q c=>u.there b _ q fun z=>c (d b z),u.kA,u.jJ,u.iC⟩
end
def JT(h:Heap)(H:Hp):List Addr:=(List.range h.objs.size).filter fun a=>(H a).isSome
def mw(h:Heap)(H:Hp):Heap:=PySem.W.hideAll h (JT h H)
theorem R4(h:Heap)(H:Hp):(mw h H).objs.size=h.objs.size:=PySem.W.hideAll_size _ _
theorem Ej(e:h.get? b=some o)(n:H b=none):(mw h H).get? b=some o:= oQ _ e fun a=>by have q:=(gy.mp a).2;simp_all
theorem R5(e:(mw h H).get? b=some o):h.get? b=some o/\H b=none:=by have a:=oU _ e;refine⟨a,?_⟩;cases q:H b with |none=>rfl |some x=> have c:b∈JT h H:=gy.mpr ⟨iU.mpr (aM a),by simp[q]⟩;have z:(mw h H).get? b=none:=PySem.W.hideAll_none _ c;simp_all
def R6(g h:Heap)(L:Addr):List (Addr×Obj):=(List.range h.objs.size).filterMap fun a=>if a=L\/(g.get? a).isSome=true then none else(h.get? a).map fun o=>(a,o)
def rest(g h:Heap)(L d:Addr):List (Addr×Obj):=(R6 g h L).filter fun p=>decide (p.1≠d)
structure Mod(K:PySem.W.Frag)(mg:Str->Option Value)(base:Heap):Prop where
 wg:K.In base
 glob:base.Ns mainGlobals mg
 blt:∃mb,base.Ns builtinsNs mb/\∀x:Str,x≠"__name__"->mb x=bootBuiltins x
 nolimit:base.NoLimit
structure Cx where
 prog:Program
 w:World
 K:PySem.W.Frag
 mg:Str->Option Value
 base:Heap
 A:Around
 N:List Str
 fC:Shared
 qK:Hp
 env:Env
 outer:List Env
 stack:List Env
 ex:List Addr
 fn:Str->Bool
 calm:Bool
 pn:List (Addr×Obj)xe:Value->Shared->Prop
noncomputable def kZ(l:List Env):List Addr:=l.filterMap (·.frame)
abbrev Cx.fs(X:Cx):List Addr:=kZ X.outer
def As(a:Scope)(x:Str):Prop:=a.names.lookup x=some .local\/a.names.lookup x=some .cell\/a.names.lookup x=some .free
def Loc(a:Scope)(x:Str):Prop:=a.names.lookup x=some .local\/a.names.lookup x=some .cell
def Look(env:Env)(h:Heap)(m:Str->Option Value)(x:Str)(u:Value):Prop:= (env.kindOf x=some .local/\m x=some u)\/((env.kindOf x=some .cell\/env.kindOf x=some .free)/\∃c,env.cells.lookup x=some c/\h.IsCell c (some u))
structure Cx.Ok(X:Cx):Prop where
 mod:Mod X.K X.mg X.base
 kind:X.env.scope.kind=.function
 glob:X.env.globals=mainGlobals
 blt:X.env.builtins=builtinsNs
 above:X.fC.heap.objs.size<=X.env.locals
 inj:∀x y c,X.env.cells.lookup x=some c->X.env.cells.lookup y=some c->x=y
 has:∀x,(X.env.kindOf x=some .cell\/X.env.kindOf x=some .free)->∃c,X.env.cells.lookup x=some c
 Au:∀x c,X.fn x=true->X.env.cells.lookup x=some c->X.fC.heap.objs.size<=c
 hd:X.calm=true->X.A.handled=none
 frames:X.A.frames=some X.stack
 Ce:X.stack=X.outer\/(X.stack=X.env::X.outer/\X.env.frame=some X.env.locals)JU:∀b∈X.ex,b≠X.env.locals/\∀x c,X.env.cells.lookup x=some c->c≠b
 bs:∀b o,X.base.get? b=some o->X.fC.heap.get? b=some o/\X.qK b=none
 uJ:X.base.objs.size<=X.fC.heap.objs.size
 sJ:∀b o,X.base.get? b=some o->b∉X.ex
 uK:∀b∈X.ex,b∉X.fs
 jK:X.fC.heap.FunFrames X.base X.outer
 t8:∀b∈X.fs,X.qK b=none
 tb:qJ X.K X.qK
structure Inv(X:Cx)(pins:List (Addr×Obj))(σ:List (Option V))(H:Hp)(s:Shared):Prop where
 ok:X.Ok
 os:s.os=X.fC.os
 bare:AllBare s.gens
 base:Un X.fs X.ex X.qK H X.fC.heap s.heap
 loc:∃m,s.heap.Ns X.env.locals m/\∀(i:Nat)(x:Str)(v:V),X.N[i]?=some x->σ[i]?=some (some v)->As X.env.scope x->∃u,RelV v u/\Look X.env s.heap m x u
 cell:∀x c,X.env.cells.lookup x=some c->∃v,s.heap.IsCell c v
 free:H X.env.locals=none
 gF:∀x c,X.env.cells.lookup x=some c->H c=none
 pin:∀p∈X.pn++pins,s.heap.get? p.1=some p.2/\H p.1=none/\p.1≠X.env.locals/\p.1∉X.fs/\∀v,p.2.data≠.cell v
 bI:ic X.prog X.w H s.heap
 len:σ.length=X.N.length
section
variable{X:Cx}{pins:List (Addr×Obj)}{σ:List (Option V)}{H H':Hp}{s:Shared}{h':Heap}
theorem Cx.Ok.Ek(c:X.Ok)(e:X.base.get? b=some o):b∉X.fs:=fun a=>by have:=(c.jK.mem a).1;simp_all
theorem Inv.bs(I:Inv X pins σ H s):∀b o,X.base.get? b=some o->s.heap.get? b=some o/\H b=none:=fun b o e=> ⟨I.base.keep b o (I.ok.bs b o e).1 (I.ok.bs b o e).2 (I.ok.Ek e) (I.ok.sJ b o e),I.base.free b o (I.ok.bs b o e).1 (I.ok.bs b o e).2 (I.ok.sJ b o e)⟩
theorem Inv.bk(I:Inv X pins σ H s):∀b o,X.base.get? b=some o->s.heap.get? b=some o:=fun b o e=>(I.bs b o e).1
theorem Inv.mod(I:Inv X pins σ H s):Mod X.K X.mg X.base:=I.ok.mod
theorem Inv.iD(I:Inv X pins σ H s):X.K.In s.heap:=I.ok.mod.wg.keeps I.bk
theorem Inv.nolimit(I:Inv X pins σ H s):s.heap.NoLimit:=I.ok.mod.nolimit.keeps I.bk
theorem Inv.lt(I:Inv X pins σ H s):X.env.locals<s.heap.objs.size:=let⟨_,a,_⟩:=I.loc;a.lt
theorem Inv.sz(I:Inv X pins σ H s):X.fC.heap.objs.size<=s.heap.objs.size:=bK I.ok.above (il I.lt)
theorem Inv.Av(I:Inv X pins σ H s)(h:s.heap.objs.size<=a):a∉X.fs:=fun c=>let⟨_,o,b,_⟩:=I.ok.jK.mem c;absurd (cN (aM b) (bK I.sz h)) (de _)
theorem Inv.sL(I:Inv X pins σ H s):∀x c,X.env.cells.lookup x=some c->c≠X.env.locals:=fun x c e z=>by obtain⟨v,o,d,g⟩:=I.cell x c e;obtain⟨m,⟨i,h,f,b,a,_⟩,_⟩:=I.loc;simp_all
theorem Inv.jK(I:Inv X pins σ H s):s.heap.FunFrames X.base X.outer:=by
 have c:∀(l:List _),(∀b∈kZ l,b∈X.fs)->X.fC.heap.FunFrames X.base l->s.heap.FunFrames X.base l:=by intro l;induction l with |nil=>intro _ _;trivial |cons i r q=> rintro g ⟨p,⟨L,o,f,m,t,k⟩,j⟩;have a:=g L (by unfold kZ;rw[sA,f];simp);obtain⟨u,e⟩:=I.base.slot L o t (I.ok.t8 L a) a fun z=>I.ok.uK L z a;exact⟨p,⟨L,_,f,m,e,k⟩,q (fun b d=>g b (by unfold kZ;rw[sA,f];exact bJ _ d)) j⟩
 exact c _ (fun _ d=>d) I.ok.jK
theorem Inv.stack(I:Inv X pins σ H s):s.heap.FunFrames X.base X.stack:=by
 rcases I.ok.Ce with e|⟨e,b⟩;.rw[e];exact I.jK
 .rw[e];obtain⟨m,a,_⟩:=I.loc;exact .cons (by rw[I.ok.kind];decide) b a (lA (bK I.ok.uJ I.ok.above)) I.jK
theorem Inv.gG(I:Inv X pins σ H s):∀b∈kZ X.stack,b∈X.env.locals::X.fs:=fun b a=>by
 rcases I.ok.Ce with e|⟨e,c⟩;.simp_all
 .rw[e] at a;unfold kZ at a;rwa[sA,c] at a
theorem Inv.jT(I:Inv X pins σ H s):∀b∈kZ X.stack,H b=none:=fun b a=>by
 rcases aY.mp (I.gG b a) with e|a;.rw[e];exact I.free
 .obtain⟨_,o,c,_⟩:=I.ok.jK.mem a;exact I.base.free b o c (I.ok.t8 b a) fun z=>I.ok.uK b z a
theorem Inv.step{g':Array GenState}{t':Nat}{d':Drawn}{ch:List Addr}(I:Inv X pins σ H s) (h:∀b∈ch,(b∈X.ex\/X.fC.heap.objs.size<=b)/\b≠X.env.locals/\(∀x c,X.env.cells.lookup x=some c->c≠b)/\∀p∈X.pn++pins,p.1≠b) (t:∀b o,b≠X.env.locals->b∉X.fs->b∉ch->s.heap.get? b=some o->H b=none->h'.get? b=some o) (A:∀b o,b≠X.env.locals->b∈X.fs->b∉ch->s.heap.get? b=some o->H b=none->∃Q,h'.get? b=some {o with slots:=Q})(f:∀b o,b∉ch->s.heap.get? b=some o->H b=none->H' b=none) (B:∀b o,b∉ch->s.heap.get? b=some o->∃O,h'.get? b=some O) (E:∀b xs,H b=some (.tup xs)->H' b=some (.tup xs))(J:∀b o u,H b=some (.jI o u)->H' b=some (.jI o u))(L:∀b ps,H b=some (.pd ps)->∃more,H' b=some (.pd (ps++more))) (ns:∀m,s.heap.Ns X.env.locals m->h'.Ns X.env.locals m)(N:ic X.prog X.w H' h')(hg:AllBare g'): Inv X pins σ H' {s with heap:=h',gens:=g',drawn:=d',toks:=t'}:=by
  have M:∀b o,X.fC.heap.get? b=some o->b≠X.env.locals:=fun b o e=>a_ (cN (aM e) I.ok.above);have y:∀b o,X.fC.heap.get? b=some o->b∉X.ex->b∉ch:=fun b o e a C=>by
    rcases(h b C).1 with z|z;.exact a z
    .exact absurd (cN (aM e) z) (de _)
  have j:∀x c,X.env.cells.lookup x=some c->∀v,s.heap.IsCell c v->h'.IsCell c v:=fun x c e v ⟨o,D,R⟩=>by
    have g:=fun z=>(h c z).2.2.1 x c e rfl;by_cases S:c∈X.fs;.obtain⟨Q,q⟩:=A c o (I.sL x c e) S g D (I.gF x c e);exact⟨_,q,R⟩
    .exact⟨o,t c o (I.sL x c e) S g D (I.gF x c e),R⟩
  refine⟨I.ok,I.os,hg,⟨fun b o e n C a=>?_,fun b o e n C a=>?_,fun b o e n a=>?_,fun b o e a=>?_,fun b xs e=>E b _ (I.base.kA b _ e),fun b o xs e=>J b o _ (I.base.jJ b o _ e),fun b ps e=>?_⟩,?_,fun x c e=>?_,?_,fun x c e=>?_,fun p Y=>?_,N,I.len⟩;.exact t b o (M b o e) C (y b o e a) (I.base.keep b o e n C a) (I.base.free b o e n a)
  .obtain⟨Q,w⟩:=I.base.slot b o e n C a;obtain⟨sl',G⟩:=A b _ (M b o e) C (y b o e a) w (I.base.free b o e n a);exact⟨_,G⟩
  .obtain⟨O,w⟩:=I.base.there b o e a;exact f b _ (y b o e a) w (I.base.free b o e n a)
  .obtain⟨O,w⟩:=I.base.there b o e a;exact B b _ (y b o e a) w
  .obtain⟨m1,w⟩:=I.base.iC b _ e;obtain⟨m2,G⟩:=L b _ w;exact⟨_,by rw[G,Array.append_assoc]⟩
  . obtain⟨m,Z,hl⟩:=I.loc;refine⟨m,ns m Z,fun i x v w G e3=>?_⟩;obtain⟨u,r,l⟩:=hl i x v w G e3;refine⟨u,r,?_⟩;rcases l with l|⟨k,c,e,z⟩;.exact .inl l
    .exact .inr ⟨k,c,e,j x c e _ z⟩
  .obtain⟨v,z⟩:=I.cell x c e;exact⟨v,j x c e v z⟩
  .obtain⟨m,⟨o,_,_,D,_⟩,_⟩:=I.loc;exact f _ o (fun z=>(h _ z).2.1 rfl) D I.free
  .obtain⟨v,o,D,R⟩:=I.cell x c e;exact f c o (fun z=>(h c z).2.2.1 x c e rfl) D (I.gF x c e)
  .obtain⟨e,n,T,U,d⟩:=I.pin p Y;have g:=fun z=>(h _ z).2.2.2 p Y rfl;exact⟨t _ _ T U g e n,f _ _ g e n,T,U,d⟩
theorem Inv.un(I:Inv X pins σ H s)(u:Un X.fs [] H H' s.heap h')(c:ic X.prog X.w H' h'):Inv X pins σ H' {s with heap:=h',toks:=t'}:=by obtain⟨m,⟨o,p,v,f,r⟩,_⟩:=id I.loc;obtain⟨l,j⟩:=u.any f I.free (by simp);exact I.step (ch:=[]) (fun _ z=>nomatch z) (fun b o _ d _ e n=>u.keep b o e n d (by simp)) (fun b o _ d _ e n=>u.slot b o e n d (by simp)) (fun b o _ e n=>u.free b o e n (by simp)) (fun b o _ e=>u.there b o e (by simp)) u.kA u.jJ u.iC (fun t k=>by obtain⟨q,i,h,a,g⟩:=k;rw[f] at a;cases a;exact⟨_,_,_,j,g⟩) c I.bare
theorem Inv.call(I:Inv X pins σ H s)(u:Un (kZ X.stack) ch H H' s.heap h')(g:ic X.prog X.w H' h')(v:AllBare g') (d:∀b∈ch,(b∈X.ex\/X.fC.heap.objs.size<=b)/\b≠X.env.locals/\(∀x c,X.env.cells.lookup x=some c->c≠b)/\∀p∈X.pn++pins,p.1≠b): Inv X pins σ H' {s with heap:=h',gens:=g',drawn:=d',toks:=t'}:=by obtain⟨m,⟨o,w,y,i,r⟩,_⟩:=id I.loc;obtain⟨C,h⟩:=u.any i I.free fun z=>(d _ z).2.1 rfl;exact I.step d (fun b o h k a e n=>u.keep b o e n (fun z=>(aY.mp (I.gG b z)).elim h k) a) (fun b o _ _ a e n=>u.any e n a) (fun b o a e n=>u.free b o e n a) (fun b o a e=>u.there b o e a) u.kA u.jJ u.iC (fun B q=>by obtain⟨A,j,l,f,t⟩:=q;rw[i] at f;cases f;exact⟨_,_,_,h,t⟩) g v
theorem Inv.turned(I:Inv X pins σ H s)(k:∀b o,b≠a->s.heap.get? b=some o->h'.get? b=some o)(y:H a=none)(g:a≠X.env.locals) (h1:a∈X.ex\/X.fC.heap.objs.size<=a)(h2:∀x c,X.env.cells.lookup x=some c->c≠a)(h3:∀p∈X.pn++pins,p.1≠a):Inv X pins σ H {s with heap:=h',toks:=t'}:=by
  have f:∀b u,H b=some u->b≠a:=fun b u e z=>by simp_all
  refine I.step (ch:=[a]) (fun b j=>?_) (fun b o _ _ d e _=>k b o (fun z=>d (by simp[z])) e) (fun b o _ _ d e _=>⟨_,k b o (fun z=>d (by simp[z])) e⟩) (fun _ _ _ _ n=>n) (fun b o d e=>⟨o,k b o (fun z=>d (by simp[z])) e⟩) (fun _ _ e=>e) (fun _ _ _ e=>e) (fun b t e=>⟨#[],by rw[e];simp⟩) (fun m h=>?_) (fun b u e=>?_) I.bare
  . have e:=by simpa using j
    subst e;exact⟨h1,g,h2,h3⟩
  .obtain⟨o,w,l,i,r⟩:=h;exact⟨o,_,_,k _ o (aR g) i,r⟩
  . refine(I.bI b u e).iB (fun c v d q=>k c v ?_ q) (fun _ q=>q) fun _ _ q=>q;rcases d with z|z;.rw[z];exact f b u e
    .exact f c _ z
theorem Inv.tok(I:Inv X pins σ H s)(t:Nat):Inv X pins σ H {s with toks:=t}:=I.un Un.refl I.bI
theorem Inv.kept(I:Inv X pins σ H s)(k:∀b u,s.heap.get? b=some u->h'.get? b=some u):Inv X pins σ H {s with heap:=h',toks:=t'}:=I.un (Un.kept k) (I.bI.kept k)
theorem Inv.laid(I:Inv X pins σ H s)(k:∀b u,s.heap.get? b=some u->h'.get? b=some u)(c:s.heap.objs.size<=a)(d:dv X.prog X.w (upd H a o) h' a o): Inv X pins σ (upd H a o) {s with heap:=h',toks:=t'}:=I.un (Un.laid k c (I.bI.fresh c)) (I.bI.laid k c d)
theorem Inv.write(I:Inv X pins σ H s)(d:Ar (H x))(f:e=x\/H e=some (.own x))(k:∀b u,b≠e->s.heap.get? b=some u->h'.get? b=some u)(a:∃u,h'.get? e=some u) (c:dv X.prog X.w (upd H x o) h' x o):Inv X pins σ (upd H x o) {s with heap:=h',toks:=t'}:=I.un (Un.write d f k a) (I.bI.write d f k a c)
theorem Inv.qu(I:Inv X pins σ H s)(h:∀p∈a,s.heap.get? p.1=some p.2/\H p.1=none/\p.1≠X.env.locals/\p.1∉X.fs/\∀v,p.2.data≠.cell v):Inv X a σ H s:= ⟨I.ok,I.os,I.bare,I.base,I.loc,I.cell,I.free,I.gF,fun p b=>(bO.mp b).elim (fun z=>I.pin p (jE _ z)) (h p),I.bI,I.len⟩
theorem JV{N:List Str}(c:N.Nodup){i j:Nat}(a:N[i]?=some x)(b:N[j]?=some x):i=j:=by obtain⟨g,e⟩:=b'.mp a;obtain⟨f,d⟩:=b'.mp b;exact(List.getElem_inj c).mp (e.trans d.symm)
theorem R7(I:Inv X pins σ H s)(hN:X.N.Nodup)(hi:X.N[i]?=some x)(t:Loc X.env.scope x)(r:RelV v u) (h:∀s',Inv X pins (σ.set i (some v)) H s'->(∃a,Heap.SameBut a s.heap s'.heap/\(a=X.env.locals\/X.env.cells.lookup x=some a))->Q () s')(hf:X.fn x=true\/X.env.scope.names.lookup x=some .local:=by first|exact .inl rfl|exact .inr rfl|assumption):wpAny M A (storeName X.env x u) Q E s:=by
  obtain⟨m,hn,hl⟩:=id I.loc;have R:(X.env.scope.kind==.class||(X.env.scope.kind==.module&&X.env.locals !=X.env.globals))=false:=by rw[I.ok.kind];rfl
  have C:i<σ.length:=by rw[I.len];exact(b'.mp hi).1
  have L:=I.sL;have l:∀{a:Addr}{h':Heap},(∃o,s.heap.get? a=some o/\H a=none)->Heap.SameBut a s.heap h'->ic X.prog X.w H h':=fun{a h'} ha f b ob e=>by refine(I.bI b ob e).iB (fun c w' w q=>(f.2 c ?_).trans q) (fun _ q=>q) fun _ _ q=>q;rintro rfl;simp_all
  rcases t with N|N
  . refine wpAny_storeName_local N hn (fun h' Z f=>?_) R;obtain⟨oL,_,_,R8,_⟩:=id hn;refine h _ ⟨I.ok,I.os,I.bare,⟨fun b o e n G t=>?_,fun b o e n G t=>?_,I.base.free,fun b o e t=>?_,I.base.kA,I.base.jJ,I.base.iC⟩,⟨_,Z,fun j y v' g B Y=>?_⟩,fun y c e=>?_,I.free,I.gF,fun p hp=>?_,l ⟨oL,R8,I.free⟩ f,by simpa using I.len⟩ ⟨_,f,.inl rfl⟩;.exact(f.2 b (a_ (cN (aM e) I.ok.above))).trans (I.base.keep b o e n G t)
    .obtain⟨sl,g⟩:=I.base.slot b o e n G t;exact⟨sl,(f.2 b (a_ (cN (aM e) I.ok.above))).trans g⟩
    .obtain⟨o',g⟩:=I.base.there b o e t;exact⟨o',(f.2 b (a_ (cN (aM e) I.ok.above))).trans g⟩
    . by_cases D:j=i;.subst D;rw[hi] at g;cases g;rw[bu C] at B;cases B;exact⟨u,r,.inl ⟨N,by simp⟩⟩
      . rw[aQ (aR D)] at B;obtain⟨u',r',q⟩:=hl j y v' g B Y;refine⟨u',r',?_⟩;rcases q with⟨k,e⟩|⟨k,c,e,z⟩;.refine .inl ⟨k,?_⟩;have:y≠x:=fun e=>D (JV hN g (e▸hi));grind
        .exact .inr ⟨k,c,e,z.sameBut f (L y c e)⟩
    .obtain⟨w',z⟩:=I.cell y c e;exact⟨w',z.sameBut f (L y c e)⟩
    .obtain⟨e,n,U,nf,d⟩:=I.pin p hp;exact⟨(f.2 p.1 U).trans e,n,U,nf,d⟩
  . have J:X.fn x=true:=by
      rcases hf with z|z;.exact z
      grind
    obtain⟨c,w⟩:=I.ok.has x (.inl N);obtain⟨w',z⟩:=I.cell x c w;refine wpAny_storeName_cell I.ok.kind N w z (fun h' O f=>?_);obtain⟨oc,S,R9⟩:=id z;refine h {s with heap:=h'} ⟨I.ok,I.os,I.bare,⟨fun b o e n G t=>?_,fun b o e n G t=>?_,I.base.free,fun b o e t=>?_,I.base.kA,I.base.jJ,I.base.iC⟩,⟨m,hn.sameBut f (aR (L x c w)),fun j y v' g B Y=>?_⟩,fun y c' e=>?_,I.free,I.gF,fun p hp=>?_,l ⟨oc,S,I.gF x c w⟩ f,by simpa using I.len⟩ ⟨c,f,.inr w⟩;.exact(f.2 b (a_ (cN (aM e) (I.ok.Au x c J w)))).trans (I.base.keep b o e n G t)
    .obtain⟨sl,g⟩:=I.base.slot b o e n G t;exact⟨sl,(f.2 b (a_ (cN (aM e) (I.ok.Au x c J w)))).trans g⟩
    .obtain⟨o',g⟩:=I.base.there b o e t;exact⟨o',(f.2 b (a_ (cN (aM e) (I.ok.Au x c J w)))).trans g⟩
    . by_cases D:j=i;.subst D;rw[hi] at g;cases g;rw[bu C] at B;cases B;exact⟨u,r,.inr ⟨.inl N,c,w,O⟩⟩
      . rw[aQ (aR D)] at B;obtain⟨u',r',q⟩:=hl j y _ g B Y;refine⟨_,r',?_⟩;rcases q with q|⟨k,c',e,z'⟩;.exact .inl q
        .refine .inr ⟨k,_,e,z'.sameBut f ?_⟩;rintro rfl;exact D (JV hN g (I.ok.inj _ _ _ e w▸hi))
    . by_cases T:c'=c;.subst T;exact⟨_,O⟩
      .obtain⟨w2,z2⟩:=I.cell y _ e;exact⟨_,z2.sameBut f T⟩
    .obtain⟨e,n,U,nf,d⟩:=I.pin p hp;refine⟨(f.2 _ ?_).trans e,n,U,nf,d⟩;intro q;rw[q,S] at e;have q':=dU e;exact d _ (by rwa[<-q'])
theorem Cf(I:Inv X pins σ H s)(a:X.N.Nodup)(hi:X.N[i]?=some x)(c:Loc X.env.scope x)(r:RelV v u) (h:∀s',Inv X pins (σ.set i (some v)) H s'->Q () s')(d:X.fn x=true\/X.env.scope.names.lookup x=some .local:=by first|exact .inl rfl|exact .inr rfl|assumption):wpAny M A (storeName X.env x u) Q E s:= R7 I a hi c r (fun s' b _=>h _ b) d
end
abbrev XK:=Value->Option Addr->Hp->Prop
abbrev St:=List (Option V)
abbrev VK:=V->Hp->Prop
abbrev TE:=St->Hp->VK->Prop
abbrev TT:=St->Hp->(Bool->Hp->Prop)->Prop
abbrev TA:=St->Hp->(List V->Hp->Prop)->Prop
structure Ends where
 nx:St->Hp->Prop
 rt:VK
 bk:St->Hp->Prop:=fun _ _=>False
 ct:St->Hp->Prop:=fun _ _=>False
abbrev TS:=Ends->St->Hp->Prop
def EP(X:Cx)(pins:List (Addr×Obj))(σ:St)(Q:VK)(u:Value)(s':Shared):Prop:=∃v a,Inv X pins σ a s'/\RelV v u/\Q v a
def TP(X:Cx)(pins:List (Addr×Obj))(σ:St)(Q:Bool->Hp->Prop)(b:Bool)(s':Shared):Prop:=∃a,Inv X pins σ a s'/\Q b a
def AP(X:Cx)(pins:List (Addr×Obj))(σ:St)(Q:List V->Hp->Prop)(us:List Value)(s':Shared):Prop:=∃a b,Inv X pins σ b s'/\Vals a us/\Q a b
def SP(X:Cx)(pins:List (Addr×Obj))(D:Ends)(f:Flow)(s':Shared):Prop:= match f with |.next=>∃a b,Inv X pins a b s'/\D.nx a b |.brk=>∃a b,Inv X pins a b s'/\D.bk a b |.cont=>∃a b,Inv X pins a b s'/\D.ct a b |.ret u=>∃v a b,Inv X pins a b s'/\RelV v u/\D.rt v b
def PE(X:Cx)(e:Expr)(t:TE):Prop:= ∀(a:List (Addr×Obj))(s:Shared)(b:St)(H:Hp)(Q:VK),Inv X a b H s->t b H Q->wpAny (model X.prog X.w) X.A (eval e X.env) (EP X a b Q) X.xe s
def PT(X:Cx)(e:Expr)(t:TT):Prop:= ∀(a:List (Addr×Obj))(s:Shared)(b:St)(H:Hp)(Q:Bool->Hp->Prop),Inv X a b H s->t b H Q->wpAny (model X.prog X.w) X.A (isTrue e X.env (eval e X.env)) (TP X a b Q) X.xe s
def PW(X:Cx)(e:Expr)(t:TT):Prop:= ∀(b:Sem Value)(a:List (Addr×Obj))(s:Shared)(c:St)(H:Hp)(Q:Bool->Hp->Prop),Inv X a c H s->t c H Q->wpAny (model X.prog X.w) X.A (isTrue e X.env b) (TP X a c Q) X.xe s
theorem PW.pt(h:PW X e t):PT X e t:=h _
def PA(X:Cx)(es:List Expr)(t:TA):Prop:= ∀(b:Pos)(a:List (Addr×Obj))(s:Shared)(c:St)(H:Hp)(Q:List V->Hp->Prop),Inv X a c H s->t c H Q->wpAny (model X.prog X.w) X.A (spliced (backTo b (starEach es X.env))) (AP X a c Q) X.xe s
def PS(X:Cx)(st:Stmt)(t:TS):Prop:= ∀(a:List (Addr×Obj))(s:Shared)(b:St)(H:Hp)(D:Ends),Inv X a b H s->t D b H->wpAny (model X.prog X.w) X.A (exec st X.env) (SP X a D) X.xe s
def mz(X:Cx)(st:List Stmt)(t:TS):Prop:= ∀(a:List (Addr×Obj))(s:Shared)(b:St)(H:Hp)(D:Ends),Inv X a b H s->t D b H->wpAny (model X.prog X.w) X.A (execs st X.env) (SP X a D) X.xe s
theorem bS(h:wpAny M A t Q E s)(c:∀a s,Q a s->b a s):wpAny M A t b E s:=di h c fun _ _ x=>x
section
variable {X : Cx}
def cS(i:Nat):TE:=fun a H Q=>∃v,a[i]?=some (some v)/\Q v H
def tC(v:V):TE:=fun _ H Q=>Q v H
theorem R_(k:X.N[i]?=some x)(n:As X.env.scope x)(hd:(x==("__debug__":Str))=false:=by decide)(f:(x==("__classdict__":Str))=false:=by decide):PE X (.Name x pos) (cS i):=by
  rintro j s t H Q I ⟨v,e,h⟩;obtain⟨m,o,p⟩:=I.loc;obtain⟨u,r,l⟩:=p i x v k e n;have b:EP X _ _ Q u s:=⟨v,H,I,r,h⟩;rcases l with⟨d,q⟩|⟨d,c,g,a⟩;.exact kq (oY I.ok.kind d o q b) hd
  . rcases d with d|d;.exact kq (wpAny_loadName_cell I.ok.kind d g a b) hd
    .exact kq (wpAny_loadName_free I.ok.kind d g a b f) hd
theorem aT:PE X (.Constant (.int i) j pos) (tC (.int i)):=fun _ _ _ H _ I h=>wpAny_Constant_int ⟨.int i,H,I.tok _,⟨_,rfl⟩,h⟩
theorem wh:PE X (.Constant (.bool b) j pos) (tC (.bl b)):=fun _ _ _ H _ I h=>Constant_bool ⟨.bl b,H,I,rfl,h⟩
theorem wj:PE X (.Constant .none j pos) (tC .non):=fun _ _ _ H _ I h=>Constant_none ⟨.non,H,I,rfl,h⟩
theorem sM:PE X (.Constant (.str x) j pos) (tC (.str x)):=fun _ _ _ H _ I h=>Calls.Constant_str ⟨.str x,H,I.tok _,⟨_,rfl⟩,h⟩
def Gl(X:Cx)(x:Str):Prop:=X.env.kindOf x=some .globalImplicit
theorem Aw(I:Inv X pins σ H s)(b:Gl X x)(a:X.mg x=some u)(h:Q u s) (hd:(x==("__debug__":Str))=false:=by decide):wpAny (model X.prog X.w) X.A (eval (.Name x pos) X.env) Q E s:= Calls.Name_function_global I.ok.kind b (Calls.loadGlobal_global (by rw[I.ok.glob];exact I.mod.glob.keeps I.bk) a h) hd
theorem pe(I:Inv X pins σ H s)(e:Gl X x)(a:X.mg x=none)(c:bootBuiltins x=some u)(h:Q u s) (b:x≠"__name__":=by decide)(hd:(x==("__debug__":Str))=false:=by decide):wpAny (model X.prog X.w) X.A (eval (.Name x pos) X.env) Q E s:=let⟨_,d,f⟩:=I.mod.blt;Calls.Name_function_global I.ok.kind e (Calls.loadGlobal_builtin (by rw[I.ok.glob];exact I.mod.glob.keeps I.bk) a (by rw[I.ok.blt];exact d.keeps I.bk) ((f x b).trans c) h) hd
theorem R'(d:Gl X x)(a:X.mg x=none)(c:bootBuiltins x=some u)(r:RelV v u)(b:x≠"__name__":=by decide)(hd:(x==("__debug__":Str))=false:=by decide):PE X (.Name x pos) (tC v):= fun _ _ _ H _ I h=>pe I d a c ⟨v,H,I,r,h⟩ b hd
variable{a b:Expr}{ta tb:TE}{pos:Pos}
def PC(X:Cx)(op:CmpOp)(a b:Expr)(t:TE):Prop:= ∀(c:List (Addr×Obj))(s:Shared)(f:St)(H:Hp)(Q:VK),Inv X c f H s->t f H Q-> wpAny (model X.prog X.w) X.A (eval a X.env) (fun v e=>wpAny (model X.prog X.w) X.A (eval b X.env) (fun u d=>wpAny (model X.prog X.w) X.A (compareOp op v u) (EP X c f Q) X.xe d) X.xe e) X.xe s
def tB(t:TE):TT:=fun d H Q=>t d H fun x e=>∃c,x=.bl c/\Q c e
theorem El(h:PC X op a b t)(h1:behindInMarks op b=false:=by first|exact Ax _ (by decide) (by decide)|rfl):PT X (.Compare a [op] [b] pos) (tB t):=by intro e s m H Q I j;refine wpAny_isTrue_Compare1 (bS (h _ s _ H _ I j) fun v o h1=>bS h1 fun u n k=>bS k fun c l ⟨x,_,i,g,f⟩=>?_) h1;obtain⟨d,rfl,q⟩:=f;cases g;exact jj ⟨_,i,q⟩
theorem Cg(h:PE X e t)(l:∀c,isTrue e X.env c=(do let v<-c;standAt e.pos;holding [v] (truthy v)):=by intro _;rfl):PT X e (tB t):=by intro f s n H Q I k;refine isTrue_plain (bS (h _ s _ H _ I k) fun v m ⟨x,_,j,i,g⟩=>?_) (l _);obtain⟨d,rfl,q⟩:=g;cases i;exact jj ⟨_,j,q⟩
variable{tA uL:TT}{rest:List Expr}
def Ay(t u:TT):TT:=fun d H Q=>t d H fun c e=>if c=true then u d e Q else Q false e
def JW(t u:TT):TT:=fun d H Q=>t d H fun c e=>if c=true then Q true e else u d e Q
def Az(t:TT):TT:=fun d H Q=>t d H fun c e=>Q (!c) e
theorem Em(f:PT X a tA):PW X (.BoolOp .And [a] pos) tA:=by intro g d s i H Q I h;refine isTrue_and (bS (f _ s _ H Q I h) fun c j e=>?_);cases c with |true=>exact isTrue_and_nil e |false=>exact e
theorem wk(f:PT X a tA):PW X (.BoolOp .Or [a] pos) tA:=by intro g d s i H Q I h;refine isTrue_or (bS (f _ s _ H Q I h) fun c j e=>?_);cases c with |false=>exact isTrue_or_nil e |true=>exact e
theorem Eo(g:PT X a tA)(i:PW X (.BoolOp .And (b::rest) pos) uL):PW X (.BoolOp .And (a::b::rest) pos) (Ay tA uL):=by intro j f s l H Q I h;refine isTrue_and (bS (g _ s _ H _ I h) fun c k ⟨_,d,e⟩=>?_);cases c with |true=>exact i _ _ _ _ _ Q d e |false=>exact⟨_,d,e⟩
theorem t9(g:PT X a tA)(i:PW X (.BoolOp .Or (b::rest) pos) uL):PW X (.BoolOp .Or (a::b::rest) pos) (JW tA uL):=by intro j f s l H Q I h;refine isTrue_or (bS (g _ s _ H _ I h) fun c k ⟨_,d,e⟩=>?_);cases c with |true=>exact⟨_,d,e⟩ |false=>exact i _ _ _ _ _ Q d e
theorem JX(d:PT X a tA):PT X (.UnaryOp .Not a pos) (Az tA):=fun c s e H Q I h=>isTrue_not (d _ s _ H _ I h)
def JY(ta tb:TE):TE:=fun d H Q=>ta d H fun x e=>∃c,x=.bl c/\if c=true then tb d e Q else Q (.bl false) e
theorem Sa(h:PE X a t):PE X (.BoolOp op [a] pos) t:=fun c s e H Q I d=>BoolOp_one (h _ s _ H Q I d)
theorem Sb(j:PE X a ta)(g:PE X (.BoolOp .And (b::rest) pos) tb):PE X (.BoolOp .And (a::b::rest) pos) (JY ta tb):=by intro f s l H Q I h;refine BoolOp_and (bS (j _ s _ H _ I h) fun v k ⟨x,_,e,i,d⟩=>?_);obtain⟨c,rfl,d⟩:=d;cases i;refine jj ?_;cases c with |true=>exact g _ _ _ _ Q e d |false=>exact⟨.bl _,_,e,rfl,d⟩
def JZ(t:TT)(ta tb:TE):TE:=fun d H Q=>t d H fun c e=>if c=true then ta d e Q else tb d e Q
theorem Sd(j:PT X c tA)(k:PE X a ta)(i:PE X b tb):PE X (.IfExp c a b pos) (JZ tA ta tb):=by intro g s m H Q I h;refine wpAny_IfExp (bS (j _ s _ H _ I h) fun d l ⟨_,f,e⟩=>?_);cases d with |true=>exact k _ _ _ _ Q f e |false=>exact i _ _ _ _ Q f e
end
def fX(K:PySem.W.Frag)(H:Hp)(a:Addr)(xs:List V):Prop:= Rd H a (.lst xs)\/ ∃(o:Obj) (b:Array Value) (n:Nat),K.lookup a=some o/\o.cls=.type "list"/\o.dict=none/\o.data=.seq b n/\b.size<=sizeLine/\Vals xs b.toList
def jU(K:PySem.W.Frag)(H:Hp)(a:Addr)(xs:List V):Prop:= Rd H a (.tup xs)\/ ∃(o:Obj) (b:Array Value) (n:Nat),K.lookup a=some o/\o.cls=.type "tuple"/\o.data=.seq b n/\b.size<=sizeLine/\Vals xs b.toList
def Ep:Value->Option V |.none=>some .non |.bool b=>some (.bl b) |.int i _=>some (.int i) |.str x _=>some (.str x) |.bytes b _=>some (.rP b) |.float b _=>some (.xk b) |.ref a=>some (.ref a) |.type n=>some (.ty n) |_=>none
theorem RelV.abs(r:RelV x u):Ep u=some x:=by cases x with |non=>cases r;rfl |bl _=>cases r;rfl |int _=>obtain⟨t,rfl⟩:=r;rfl |str _=>obtain⟨t,rfl⟩:=r;rfl |rP _=>obtain⟨t,rfl⟩:=r;rfl |xk _=>obtain⟨t,rfl⟩:=r;rfl |ref _=>cases r;rfl |ty _=>cases r;rfl
theorem RelV.inj(r:RelV x u)(q:RelV y u):x=y:=dU (r.abs.symm.trans q.abs)
theorem Vals.inj:∀{xs ys:List V}{us:List Value},Vals xs us->Vals ys us->xs=ys |_,_,_,.nil,.nil=>rfl |_,_,_,.cons r t,.cons a b=>by rw[r.inj a,Vals.inj t b]
section
variable{X:Cx}{pins:List (Addr×Obj)}{σ:St}{H:Hp}{s:Shared}{a:Addr}{xs ys:List V}
theorem jU.of{K:PySem.W.Frag}(h:H a=some (.tup xs)):jU K H a xs:=.inl (.inl h)
theorem Inv.list(I:Inv X pins σ H s)(h:fX X.K H a xs):∃its:List Value,Vals xs its/\PlainL s.heap a its.toArray/\xs.length<=sizeLine:=by
 rcases h with h|⟨o,its,n,b,d,c,g,f,r⟩;.obtain⟨z,its,n,r,e⟩:=h.ok I.bI;exact⟨_,r,⟨_,n,e,rfl,rfl,rfl⟩,z⟩
 .refine⟨_,r,⟨o,n,I.iD a o b,d,c,by omega⟩,?_⟩;have e:=r.length;simp at e;lia
theorem Inv.tuple(I:Inv X pins σ H s)(h:jU X.K H a xs):∃its:List Value,Vals xs its/\IsTup s.heap a its.toArray/\xs.length<=sizeLine:=by
 rcases h with h|⟨o,its,n,c,b,f,d,r⟩;.obtain⟨z,its,r,p⟩:=h.ok I.bI;exact⟨_,r,p,z⟩
 .refine⟨_,r,⟨o,I.iD a o c,b,n,by omega⟩,?_⟩;have e:=r.length;simp at e;omega
theorem Inv.iX(I:Inv X pins σ H s)(h:fX X.K H a xs)(h':fX X.K H a ys):xs=ys:=by
 obtain⟨c,r,⟨o,n,e,_,_,d⟩,_⟩:=I.list h;obtain⟨b,g,⟨i,j,l,_,_,k⟩,_⟩:=I.list h';have:c=b:=by simp_all
 subst this;exact r.inj g
theorem Inv.qL(I:Inv X pins σ H s)(h:jU X.K H a xs)(h':jU X.K H a ys):xs=ys:=by
 obtain⟨c,r,⟨o,e,_,n,d⟩,_⟩:=I.tuple h;obtain⟨b,g,⟨i,l,_,j,k⟩,_⟩:=I.tuple h';have:c=b:=by simp_all
 subst this;exact r.inj g
end
noncomputable abbrev Cx.k6(X:Cx)(E:Value->Shared->Prop):Cx:={X with xe:=E}
abbrev Cx.AA(X:Cx):Cx:=X.k6 fun _ _=>False
theorem Cx.Ok.k6{X:Cx}(a:X.Ok)(E:Value->Shared->Prop):(X.k6 E).Ok:= ⟨a.mod,a.kind,a.glob,a.blt,a.above,a.inj,a.has,a.Au,a.hd,a.frames,a.Ce,a.JU,a.bs,a.uJ,a.sJ,a.uK,a.jK,a.t8,a.tb⟩
theorem Cx.Ok.gH{X:Cx}(a:(X.k6 E).Ok):X.Ok:= ⟨a.mod,a.kind,a.glob,a.blt,a.above,a.inj,a.has,a.Au,a.hd,a.frames,a.Ce,a.JU,a.bs,a.uJ,a.sJ,a.uK,a.jK,a.t8,a.tb⟩
section
variable{X:Cx}{pins:List (Addr×Obj)}{σ:St}{H:Hp}{s:Shared}{E:Value->Shared->Prop}
theorem Inv.k6(I:Inv X pins σ H s)(E:Value->Shared->Prop):Inv (X.k6 E) pins σ H s:=⟨I.ok.k6 E,I.os,I.bare,I.base,I.loc,I.cell,I.free,I.gF,I.pin,I.bI,I.len⟩
theorem Inv.gH(I:Inv (X.k6 E) pins σ H s):Inv X pins σ H s:=⟨I.ok.gH,I.os,I.bare,I.base,I.loc,I.cell,I.free,I.gF,I.pin,I.bI,I.len⟩
theorem SP.gH(h:SP (X.k6 E) pins D f s'):SP X pins D f s':=by cases f with |next=>obtain⟨a,b,I,q⟩:=h;exact⟨_,_,I.gH,q⟩ |brk=>obtain⟨a,b,I,q⟩:=h;exact⟨_,_,I.gH,q⟩ |cont=>obtain⟨a,b,I,q⟩:=h;exact⟨_,_,I.gH,q⟩ |ret u=>obtain⟨v,a,b,I,r,q⟩:=h;exact⟨v,_,_,I.gH,r,q⟩
theorem mz.AA{st:List Stmt}(h:mz X.AA st t):mz X st t:=fun pins s σ H D I a=> di (h _ s _ H D (I.k6 _) a) (fun _ _ q=>q.gH) fun _ _ z=>False.elim z
end
section
variable{X:Cx}{st:Stmt}{rest:List Stmt}{t u:TS}{e:Expr}{te:TE}{pos:Pos}
def J1:TS:=fun D a H=>D.nx a H
def xm(t u:TS):TS:=fun D a H=>t {D with nx:=u D} a H
theorem eN:mz X [] J1:=fun _ _ a H _ I h=>l_ ⟨_,H,I,h⟩
theorem bx(h1:PS X st t)(h2:mz X rest u):mz X (st::rest) (xm t u):=by intro c s j H D I h;refine wpAny_execs_cons (bS (h1 _ s _ H _ I h) fun f k q=>?_);cases f with |next=> obtain⟨g,l,i,q⟩:=q;exact h2 _ _ _ _ D i q |ret v=>exact q |brk=>exact q |cont=>exact q
theorem cU(h1:PS X st t):mz X [st] t:=by intro c s g H D I h;refine wpAny_execs_cons (bS (h1 _ s _ H D I h) fun f i q=>?_);cases f with |next=>exact l_ q |ret v=>exact q |brk=>exact q |cont=>exact q
theorem Inv.quiet(I:Inv X pins σ H s):interactive X.env=false:=by simp[interactive,I.ok.kind]
def uM(te:TE):TS:=fun D a H=>te a H fun _ b=>D.nx a b
theorem t_(b:PE X e te)(f:swapsWith e none pos.line X.env=pure false:=by rfl):PS X (.Expr e pos) (uM te):=fun a s i H D I h=>wpAny_Expr_any (bS (b _ s _ H _ I h) fun v g ⟨x,_,c,_,d⟩=>⟨_,_,c,d⟩) I.quiet f
def ph(te:TE):TS:=fun D a H=>te a H D.rt
theorem sN(f:PE X e te):PS X (.Return (some e) pos) (ph te):=fun a s i H D I h=>wpAny_Return_some (bS (f _ s _ H _ I h) fun v g ⟨x,_,d,c,b⟩=>⟨x,_,_,d,c,b⟩)
def AB(c:TT)(t u:TS):TS:=fun D a H=>c a H fun b d=>if b=true then t D a d else u D a d
theorem eD(k:PT X c l)(m:mz X a t)(j:mz X b u):PS X (.If c a b pos) (AB l t u):=by intro i s n H D I h;refine wpAny_If (bS (k _ s _ H _ I h) fun d o ⟨_,g,f⟩=>?_);cases d with |true=>exact m _ _ _ _ D g f |false=>exact j _ _ _ _ D g f
end
abbrev TG:=V->St->Hp->(St->Hp->Prop)->Prop
abbrev yY:=List V->St->Hp->(St->Hp->Prop)->Prop
def PG(X:Cx)(a:Expr)(t:TG):Prop:= ∀(b:List (Addr×Obj))(s:Shared)(e:St)(H:Hp)(v:V)(u:Value)(Q:St->Hp->Prop),Inv X b e H s->RelV v u->t v e H Q-> wpAny (model X.prog X.w) X.A (assign a X.env u) (fun _ f=>∃c d,Inv X b c d f/\Q c d) X.xe s
def Ci(X:Cx)(ts:List Expr)(t:yY):Prop:= ∀(a:List (Addr×Obj))(s:Shared)(d:St)(H:Hp)(f:List V)(e:List Value)(Q:St->Hp->Prop),Inv X a d H s->Vals f e->t f d H Q-> wpAny (model X.prog X.w) X.A (assignInOrder ((assignEach ts X.env).map (·.2)) e) (fun _ g=>∃b c,Inv X a b c g/\Q b c) X.xe s
abbrev xn:=V->V->V->Hp->(Hp->Prop)->Prop
def xq(X:Cx)(t:xn):Prop:= ∀(a:List (Addr×Obj))(s:Shared)(d:St)(H:Hp)(o i v:V)(b c u:Value)(Q:Hp->Prop),Inv X a d H s->RelV o b->RelV i c->RelV v u->t o i v H Q-> wpAny (model X.prog X.w) X.A (setItem b c u) (fun _ f=>∃e,Inv X a d e f/\Q e) X.xe s
abbrev AD:=V->V->Hp->VK->Prop
def AE(X:Cx)(op:Operator)(t:AD):Prop:= ∀(a:List (Addr×Obj))(s:Shared)(b:St)(H:Hp)(x y:V)(v u:Value)(Q:VK),Inv X a b H s->RelV x v->RelV y u->t x y H Q-> wpAny (model X.prog X.w) X.A (inplaceOp op v u) (EP X a b Q) X.xe s
section
variable {X : Cx} {pos : Pos}
def ua(i:Nat):TG:=fun v a H Q=>Q (a.set i (some v)) H
theorem Cj(b:X.N.Nodup)(hi:X.N[i]?=some x)(d:Loc X.env.scope x)(c:X.fn x=true\/X.env.scope.names.lookup x=some .local:=by first|exact .inl rfl|exact .inr rfl|assumption):PG X (.Name x pos) (ua i):=fun a s g H v u Q I r h=>wpAny_assign_Name (Cf I b hi d r (fun f e=>⟨_,H,e,h⟩) c)
def xr:yY:=fun a b H Q=>a=[]/\Q b H
def Ck(t:TG)(u:yY):yY:=fun b d H Q=>∃v r,b=v::r/\t v d H fun a c=>u r a c Q
theorem qM:Ci X [] xr:=by rintro a s c H b d Q I r ⟨e,h⟩;exact assignInOrder_nil ⟨_,H,I,h⟩
theorem jm(h1:PG X e t)(h2:Ci X es u) (f:(assignEach (e::es) X.env).map (·.2)=assign e X.env::(assignEach es X.env).map (·.2):=by rfl):Ci X (e::es) (Ck t u):=by rintro a s m H k l Q I r ⟨v,n,d,h⟩;subst d;cases r with |cons r i=> rw[f];exact assignInOrder_cons (bS (h1 _ s _ H _ _ _ I r h) fun _ j ⟨_,_,c,g⟩=>h2 _ _ _ _ _ _ Q c i g)
def xt(K:PySem.W.Frag)(n:Nat)(t:yY):TG:=fun v c H Q=>∃a b,v=.ref a/\jU K H a b/\b.length=n/\t b c H Q
theorem qN(y:X.calm=true)(h:Ci X es t) (l:(assignEach es X.env).length=n:=by rfl)(c:(assignEach es X.env).findIdx? (·.1)=none:=by rfl):PG X (.Tuple es k pos) (xt X.K n t):=by rintro d s B H v u Q I r ⟨a,C,j,z,x,f⟩;subst j;cases r;obtain⟨w,g,m,A⟩:=I.tuple z;refine assign_Tuple_tuple (I.ok.hd y) m (by simp[l,<-x,g.length]) c fun i q=>?_;have p:Inv X _ _ H {s with heap:=i}:=I.kept fun b o e=>q b o (a_ (aM e)) e;exact h _ _ _ H _ _ Q p (by omega) f
def xu(e b:TE)(t:xn):TG:=fun v a H Q=>e a H fun o d=>b a d fun i f=>t o i v f fun c=>Q a c
theorem J2(f:PE X o w)(hi:PE X i n)(j:xq X t) (C:∀v,assign (.Subscript o i pos) X.env v=(do
 let a<-holding [v] (eval o X.env) let b<-holding [v,a] (eval i X.env)standAt pos
 holding [v,a,b] (setItem a b v)release [v,a,b] []):=by intro _;rfl):PG X (.Subscript o i pos) (xu w n t):=fun c s z H v u Q I r h=>ah (dB (bS (f _ s _ H _ I h) fun a D ⟨x,_,q,l,g⟩=>(ah (dB (bS (hi _ _ _ _ _ q g) fun b B ⟨y,_,e,m,d⟩=>ah (gE (ah (dB (bS (j _ _ _ _ x y v _ _ u _ e l m r d) fun _ A ⟨_,k,p⟩=>wpAny_release ⟨_,_,k,p⟩)))))))))
def k7(c:TE)(g:TG):TS:=fun D a H=>c a H fun x b=>g x a b D.nx
theorem J3(m:PE X e c)(k:PG X a g)(j:swapsWithSole [a] e pos.line X.env=pure false:=by rfl)(l:swappedStores [a] e X.env=pure none:=by rfl) (h1:(assignEach [a] X.env).map (·.2)=[assign a X.env]:=by rfl):PS X (.Assign [a] e pos) (k7 c g):=by intro b s o H D I h;refine wpAny_Assign_stores (bS (m _ s _ H _ I h) fun v p ⟨x,_,f,d,i⟩=>?_) j l;rw[h1];exact bS (k _ _ _ _ x v _ f d i) fun _ n q=>q
theorem qv(g:X.N.Nodup)(hi:X.N[i]?=some x)(j:Loc X.env.scope x)(l:PE X e o)(k:swapsWith e (some (.Name x a)) pos.line X.env=pure false:=by rfl)(m:X.fn x=true\/X.env.scope.names.lookup x=some .local:=by first|exact .inl rfl|exact .inr rfl|assumption): PS X (.Assign [.Name x a] e pos) (k7 o (ua i)):=fun b s q H D I h=>wpAny_Assign_Name (bS (l _ s _ H _ I h) fun v p ⟨y,t,f,d,c⟩=>Cf f g hi j d (fun r n=>⟨_,_,n,c⟩) m) k
def xv(i:Nat)(e:TE)(b:AD):TS:=fun D a H=>∃x,a[i]?=some (some x)/\e a H fun y c=>b x y c fun z d=>D.nx (a.set i (some z)) d
theorem J4(Y:X.N.Nodup)(hi:X.N[i]?=some x)(g:Loc X.env.scope x)(R:PE X e G)(C:AE X op N)(T:X.fn x=true\/X.env.scope.names.lookup x=some .local:=by first|exact .inl rfl|exact .inr rfl|assumption): PS X (.AugAssign (.Name x o) op e pos) (xv i G N):=by
  rintro p s σ H D I ⟨v,t,h⟩;obtain⟨m,O,S⟩:=I.loc;have f:As X.env.scope x:=by rcases g with k|k;exact .inl k;exact .inr (.inl k)
  obtain⟨u,r,l⟩:=S i x v hi t f;refine wpAny_AugAssign_Name ?_;have go:wpAny _ _ _ (fun w j=>wpAny _ _ _ (fun r n=>wpAny (model X.prog X.w) X.A _ (fun _=>SP X _ D .next) X.xe _) _ _) _ s:=bS (R _ s _ H _ I h) fun w s1 ⟨y,H1,E,Q,U⟩=>bS (C _ _ _ _ v y u w _ E r Q U) fun z s2 ⟨_,_,L,B,q⟩=>Cf L Y hi g B (fun Z J=>⟨_,_,J,q⟩) T;rcases l with⟨a,M⟩|⟨a,c,A,b⟩;.exact oY I.ok.kind a O M go
  . rcases a with a|a;.exact wpAny_loadName_cell I.ok.kind a A b go
    . rcases g with k|k;.have:X.env.scope.names.lookup x=some _:=a;simp_all
      .have:X.env.scope.names.lookup x=some _:=a;rw[k] at this;cases this
def J5(j h l:TE)(a:V->V->Hp->VK->Prop)(d:AD)(b:xn):TS:=fun D c H=>j c H fun o f=>h c f fun i k=>a o i k fun x g=>l c g fun y e=>d x y e fun z n=>b o i z n fun m=>D.nx c m
def AF(X:Cx)(t:V->V->Hp->VK->Prop):Prop:= ∀(a:List (Addr×Obj))(s:Shared)(c:St)(H:Hp)(o i:V)(b d:Value)(Q:VK),Inv X a c H s->RelV o b->RelV i d->t o i H Q-> wpAny (model X.prog X.w) X.A (getItem b d) (EP X a c Q) X.xe s
theorem J6(N:PE X o R)(hi:PE X i z)(Q:AF X f)(A:PE X e w)(n:AE X op g)(p:xq X b) (t:∀d c a,augStore i d c a=(do holding [a,d,c] (setItem d c a);release [a,d,c] [];pure .next):=by intros;rfl):PS X (.AugAssign (.Subscript o i l) op e pos) (J5 R z w f g b):=by intro m s σ H D I h;exact wpAny_AugAssign_SubscriptAny (bS (N _ s _ H _ I h) fun d Y ⟨_,_,y,k,T⟩=>(bS (hi _ _ _ _ _ y T) fun c s2 ⟨_,_,G,j,x⟩=>bS (Q _ _ _ _ _ _ _ _ _ G k j x) fun B Z ⟨_,_,L,S,M⟩=>(bS (A _ _ _ _ _ L M) fun v s4 ⟨_,_,E,q,J⟩=>bS (n _ _ _ _ _ _ _ v _ E S q J) fun a s5 ⟨_,_,r,O,u⟩=>bS (p _ _ _ _ _ _ _ _ _ _ _ r k j O u) fun _ s6 ⟨_,C,U⟩=>⟨_,_,C,U⟩))) t
def Cm(f:Int->Int->Int):AD:=fun x y H Q=>∃i j,x=.int i/\y=.int j/\Q (.int (f i j)) H
theorem J7:AE X .Add (Cm fun i j=>i+j):=by rintro a s g H x y v u Q I b c ⟨i,j,d,e,q⟩;subst d;subst e;obtain⟨t,rfl⟩:=b;obtain⟨f,rfl⟩:=c;exact iadd_int ⟨.int _,H,I.tok _,⟨_,rfl⟩,q⟩
theorem Se:AE X .Sub (Cm fun i j=>i-j):=by rintro a s g H x y v u Q I b c ⟨i,j,d,e,q⟩;subst d;subst e;obtain⟨t,rfl⟩:=b;obtain⟨f,rfl⟩:=c;exact isub_int ⟨.int _,H,I.tok _,⟨_,rfl⟩,q⟩
def J8(c:TT)(h:TS):TS:=fun D a H=>∃W:Nat->St->Hp->Prop,(∃m,W m a H)/\∀m a H,W m a H-> c a H fun b e=>if b=true then∃N:St->Hp->Prop,(∀d g,N d g->∃f,f<m/\W f d g)/\h {D with nx:=N,ct:=N,bk:=D.nx} a e else D.nx a e
theorem Es(w:PassesOwn (model X.prog X.w) X.A X.env X.xe)(C:PT X c J)(x:mz X e G):PS X (.While c e [] pos) (J8 J G):=by rintro t s T H D I ⟨W,⟨S,z⟩,d⟩;refine wpAny_While (codeAny_whileLoop (fun n O=>∃a u,Inv X _ a u O/\W n a u) ?_ _ ⟨_,H,I,z⟩);rintro n Q ⟨M,U,E,L⟩;refine iz w (bS (C _ _ _ _ _ E (d n _ _ L)) fun b R ⟨_,q,g⟩=>?_);cases b with
 |true=> obtain⟨N,o,g⟩:=g;refine iz w (bS (x _ _ _ _ _ q g) fun f Y h=>?_);cases f with |next=> obtain⟨m,B,j,k⟩:=h;obtain⟨y,l,i⟩:=o _ _ k;exact⟨_,l,_,_,j,i⟩ |cont=> obtain⟨m,B,j,k⟩:=h;obtain⟨y,l,i⟩:=o _ _ k;exact⟨_,l,_,_,j,i⟩ |brk=>exact h |ret v=>exact h
 |false=> exact l_ ⟨_,_,q,g⟩
end
structure It where
 go:Nat->Hp->Prop
 AG:Nat->Hp->V->Hp->Prop
 stop:Nat->Hp->Prop
def jn(X:Cx)(pins:List (Addr×Obj))(H:Hp)(b:Addr):Prop:= H b=none/\b≠X.env.locals/\b∉X.fs/\(b∈X.ex\/X.fC.heap.objs.size<=b)/\(∀x c,X.env.cells.lookup x=some c->c≠b)/\∀p∈X.pn++pins,p.1≠b
theorem Inv.k8(I:Inv X pins σ H s)(a:s.heap.objs.size<=b)(f:H' b=none):jn X pins H' b:=by
 refine⟨f,eU (cN I.lt a),I.Av a,.inr (bK I.sz a),fun x c e z=>?_,fun p d z=>?_⟩;.obtain⟨v,q⟩:=I.cell x c e;exact absurd (cN q.lt (by simp_all)) (de _)
 .exact absurd (cN (aM (I.pin p d).1) (by simp_all)) (de _)
structure Turn(P:Program)(w:World)(K:PySem.W.Frag)(tg:Expr)(J:It)(fp:List Addr)(it:Addr)(tn:Nat->Heap->Prop):Prop where
 mem:it∈fp
 obj:∀i h,tn i h->∀b∈fp,∃o,h.get? b=some o/\∀v,o.data≠.cell v
 keep:∀i h h',tn i h->(∀b∈fp,∀o,h.get? b=some o->h'.get? b=some o)->tn i h'
 item:∀(X:Cx),X.prog=P->X.w=w->X.K=K->X.calm=true->∀(i:Nat)(pins:List (Addr×Obj))(s:Shared)(σ:St)(H:Hp)(E:Value->Shared->Prop),Inv X pins σ H s->(∀b∈fp,jn X pins H b)->tn i s.heap->J.go i H-> wpAny (model P w) X.A (pyNext (.ref it)) (fun r s1=>∃u,r=some u/\ wpAny (model P w) X.A (letOwnedTupleGo tg (.ref it) u) (fun _ s2=>∃x H',Inv X pins σ H' s2/\RelV x u/\J.AG i H x H'/\tn (i+1) s2.heap/\∀b∈fp,H' b=none) E s1) E s
 done:∀(X:Cx),X.prog=P->X.w=w->X.K=K->X.calm=true->∀(i:Nat)(pins:List (Addr×Obj))(s:Shared)(σ:St)(H:Hp)(E:Value->Shared->Prop),Inv X pins σ H s->(∀b∈fp,jn X pins H b)->tn i s.heap->J.stop i H-> wpAny (model P w) X.A (pyNext (.ref it)) (fun r s1=>r=none/\Inv X pins σ H s1) E s
 self:∀(A:Around)(i:Nat)(s:Shared)(Q:Value->Shared->Prop)(E:Value->Shared->Prop),tn i s.heap->Q (.ref it) s->wpAny (model P w) A (pyIter (.ref it)) Q E s
abbrev TI:=St->Hp->(It->Hp->Prop)->Prop
def J9(X:Cx)(pins:List (Addr×Obj))(σ:St)(h:Expr)(R:It->Hp->Prop)(a:Value)(e:Shared):Prop:= ∃(f:Addr) (d:List Addr) (g:Nat->Heap->Prop) (J:It) (c:Hp),a=.ref f/\Inv X pins σ c e/\Turn X.prog X.w X.K h J d f g/\g 0 e.heap/\(∀b∈d,jn X pins c b)/\R J c
def PI(X:Cx)(f b:Expr)(d:TI):Prop:= ∀(a:List (Addr×Obj))(s:Shared)(c:St)(H:Hp)(R:It->Hp->Prop),Inv X a c H s->d c H R-> wpAny (model X.prog X.w) X.A (eval b X.env) (fun v e=>wpAny (model X.prog X.w) X.A (pyIter v) (J9 X a c f R) X.xe e) X.xe s
theorem Et(b:s.heap.get? d=some o)(e:o.cls=.type n)(hd:o.data=.fields vs) (f:["enumerate","zip","dict_itemiterator","dict_reverseitemiterator","odict_iterator","itertools.zip_longest","itertools.pairwise"].contains n=false)(a:Q () s):wpAny M A (letOwnedTupleGo c (.ref d) u) Q E s:=by cases c<;>first |exact ax a |(cases u<;>first |exact ax a |(refine ah (wpAny_load b ?_);rw[e,hd];show wpAny M A (if(["enumerate","zip","dict_itemiterator","dict_reverseitemiterator","odict_iterator","itertools.zip_longest","itertools.pairwise"].contains n&&vs[0]?==some _)=true then _ else _) Q E s;rw[ao (by grind)];exact ax a))
def Eu(K:PySem.W.Frag)(a:Addr):It:= ⟨fun i H=>∃b x,fX K H a b/\b[i]?=some x,fun i H x c=>c=H/\∀b,fX K H a b->b[i]?=some x,fun i H=>∃b,fX K H a b/\b.length<=i⟩
def AH(lo:Int)(n:Nat):It:=⟨fun i _=>i<n,fun i H x a=>a=H/\x=.int (lo+i),fun i _=>n<=i⟩
theorem Sf{K:PySem.W.Frag}(a g:Addr):Turn P w K tg (Eu K a) [g] g (fun i h=>h.IsListIter g a i) where
 mem:=by simp
 obj:=fun i h st b f=>by
  have e:b=g:=by simp_all
  subst e;obtain⟨o,e,c,d⟩:=st;exact⟨o,e,fun v z=>by grind⟩
 keep:=fun i h O st k=>st.at fun o e=>k _ (by simp) o e;item:=by intro X D r B N i l s R H E I n st L;subst D r B;obtain⟨xs,x,m,M⟩:=L;obtain⟨A,G,p,S⟩:=I.list m;obtain⟨u,hu,Q⟩:=G.get M;obtain⟨t,J,Y,y,q,C⟩:=n g (by simp);refine wpAny_pyNext_list_item st p.isList (x:=u) (by simp_all) fun O j U=>?_;obtain⟨o,e,c,d⟩:=id j;exact⟨u,rfl,Et e c d rfl ⟨x,H,(I.turned (fun b o f e=>(U.2 b f).trans e) t J y q C),Q,⟨rfl,fun ys Z=>by rwa[I.iX Z m]⟩,j,fun b f=>(n b f).1⟩⟩
 done:=by intro X D r B N i l s R H E I n st L;subst D r B;obtain⟨xs,m,M⟩:=L;obtain⟨A,G,p,S⟩:=I.list m;obtain⟨t,J,Y,y,q,C⟩:=n g (by simp);have hl:=G.length;exact wpAny_pyNext_list_end (I.ok.hd N) st p.isList (by simp_all) fun O T=>⟨rfl,I.turned (fun b o f e=>T b o f e) t J y q C⟩
 self:=fun _ _ _ _ _ st h=>wpAny_pyIter_listiter st h
theorem Sg{K:PySem.W.Frag}(a:Addr)(lo:Int)(n:Nat):Turn P w K O (AH lo n) [a] a (fun i h=>IsRangeIter h a (lo+(i:Nat)*1) ((n:Int)-(i:Nat)) 1) where
 mem:=by simp
 obj:=fun i h st b c=>by
  have e:b=a:=by simp_all
  subst e;exact⟨_,st,fun v z=>by trivial⟩
 keep:=fun i h p st k=>k _ (by simp) _ st;item:=by intro X A y B r i d s L H E I g st u;subst A y B;obtain⟨j,q,G,m,x,l⟩:=g a (by simp);refine(Walks.range (I.ok.hd r) _ _ 1 n).item i s _ _ u st fun v p M D f N=>?_;obtain⟨t,rfl⟩:=D;have C:Inv X _ _ H {s with heap:=p,toks:=M}:=I.turned (fun b o c e=>N b o (by grind) e) j q m x l;refine⟨_,rfl,Et f rfl rfl (by decide) ⟨.int _,H,C,⟨t,?_⟩,⟨rfl,rfl⟩,f,fun b c=>(g b c).1⟩⟩;rw[Int.mul_one]
 done:=by intro X A y B r i d s L H E I g st u;obtain⟨j,q,G,m,x,l⟩:=g a (by simp);exact wpAny_pyNext_range_end (I.ok.hd r) st (by have:n<=i:=u;lia) fun p J=>⟨rfl,I.turned (fun b o c e=>J b o c e) j q m x l⟩
 self:=fun _ _ _ _ _ st h=>wpAny_pyIter_rangeiter st h
section
variable{X:Cx}{tg:Expr}
def Ew(K:PySem.W.Frag)(c:TE):TI:=fun d H R=>c d H fun x b=>∃a,x=.ref a/\(∃e,fX K b a e)/\R (Eu K a) b
theorem kB(f:PE X l k):PI X tg l (Ew X.K k):=by
 intro d s w H R I h;refine bS (f _ s _ H _ I h) fun v n ⟨x,_,c,g,j⟩=>?_;obtain⟨a,e,⟨t,i⟩,q⟩:=j;subst e;cases g;obtain⟨m,u,p,y⟩:=c.list i;refine oZ p.isList (⟨_,_,_,_,_,rfl,c.kept fun b o e=>aO _ e,Sf a _,⟨_,cg _ rfl,rfl,rfl⟩,fun b r=>?_,q⟩);have e:b=n.heap.objs.size:=by simp_all
 subst e;exact c.k8 (aG _) (c.bI.fresh (aG _))
theorem J_{H:Hp}{lo hi:Int}(I:Inv X pins σ H s)(h1:-(2^62)<=lo)(h2:lo<2^62)(h3:-(2^62)<=hi)(c:hi<2^62) (q:R (AH lo (hi-lo).toNat) H):wpAny (model X.prog X.w) X.A (pyIter (.ref s.heap.objs.size)) (J9 X pins σ tg R) E {s with heap:=s.heap.push {cls:=.type "range",data:=.fields #[.int lo t,.int hi u,.int 1 v]},toks:=tk}:=by
  refine wpAny_pyIter_range (IsRange.new ..) (small_one h1 h2 h3 c) ?_;have a:Inv X _ _ H {s with heap:=s.heap.push {cls:=.type "range",data:=.fields #[.int lo t,.int hi u,.int 1 v]},toks:=tk}:=I.kept fun b o e=>aO _ e;refine⟨_,_,_,_,H,rfl, a.kept fun b o e=>aO _ e,Sg _ _ _,?_,fun b g=>?_,q⟩
  . have d:lo+(0:Nat)*1=lo:=by simp
    have f:((hi-lo).toNat:Int)-(0:Nat)=Builtin.Range.rangeSize lo hi 1:=by rw[l7];lia
    rw[d,f];exact cg _ rfl
  . have e:b=(s.heap.push {cls:=.type "range",data:=.fields #[.int lo t,.int hi u,.int 1 v]}).objs.size:=by simp_all
    subst e;exact a.k8 (aG _) (a.bI.fresh (aG _))
def J'(c:TA):TI:=fun a H R=>c a H fun d b=>∃j:Int,d=[.int j]/\-(2^62)<=j/\j<2^62/\R (AH 0 j.toNat) b
def Ka(c:TA):TI:=fun d H R=>c d H fun a b=>∃i j:Int,a=[.int i,.int j]/\(-(2^62)<=i/\i<2^62/\-(2^62)<=j/\j<2^62)/\R (AH i (j-i).toNat) b
theorem mB(m:Gl X "range")(i:X.mg "range"=none)(n:PA X [a] f)(k:starEach [a] X.env=[(false,eval a X.env)]:=by rfl):PI X tg (.Call (.Name "range" p) [a] [] pos) (J' f):=by intro c s w H R I h;refine Call_ (pe I m i boot_range (eW (bS (n _ _ s _ H _ I h) fun x v ⟨_,_,g,o,b⟩=>?_) k rfl));obtain⟨j,e,b,u,q⟩:=b;subst e;cases o with |cons r l=> cases l;obtain⟨t,rfl⟩:=r;exact call_range_1 (J_ g (by lia) (by lia) b u (by simp_all))
theorem Sh(z:Gl X "range")(u:X.mg "range"=none)(o:PA X [a,b] v)(E:starEach [a,b] X.env=[(false,eval a X.env),(false,eval b X.env)]:=by rfl)(d:starEach [b] X.env=[(false,eval b X.env)]:=by rfl): PI X tg (.Call (.Name "range" p) [a,b] [] pos) (Ka v):=by intro k s B H R I h;refine Call_ (pe I z u boot_range (eW (bS (o _ _ s _ H _ I h) fun A C ⟨_,_,x,m,f⟩=>?_) (by simp_all) (by rw[d];rfl)));obtain⟨i,j,e,⟨f,l,y,n⟩,q⟩:=f;subst e;cases m with |cons r g=> cases g with |cons w g=> cases g;obtain⟨t,rfl⟩:=r;obtain⟨D,rfl⟩:=w;exact call_range_2 (J_ x f l y n q)
def xw(h:TI)(g:TG)(k:TS):TS:=fun D a H=>h a H fun J f=>∃W:Nat->Nat->St->Hp->Prop,(∃m,W 0 m a f)/\∀i m a H,W i m a H-> (J.stop i H/\D.nx a H)\/(J.go i H/\∃N:St->Hp->Prop,(∀b c,N b c->∃e,e<m/\W (i+1) e b c)/\∀x c,J.AG i H x c->g x a c fun d j=>k {D with nx:=N,ct:=N,bk:=D.nx} d j)
def yZ(fp:List Addr)(h:Heap):List (Addr×Obj):=fp.filterMap fun b=>(h.get? b).map fun o=>(b,o)
theorem AI(a:b∈fp)(e:h.get? b=some o):(b,o)∈yZ fp h:=lH.mpr ⟨b,a,by simp_all⟩
theorem Si(a:p∈yZ fp h):p.1∈fp/\h.get? p.1=some p.2:=by obtain⟨b,c,e⟩:=lH.mp a;cases q:h.get? b with |none=>simp_all |some o=> grind
theorem Inv.pinned(I:Inv X pins σ H s)(i:∀b∈fp,jn X pins H b)(g:∀b∈fp,∃o,s.heap.get? b=some o/\∀v,o.data≠.cell v):Inv X (pins++yZ fp s.heap) σ H s:= I.qu fun p f=>(bO.mp f).elim (fun z=>I.pin p (dz _ z)) fun z=>by obtain⟨a,e⟩:=Si z;obtain⟨j,k,h,_⟩:=i _ a;obtain⟨o,c,d⟩:=g _ a;rw[e] at c;cases c;exact⟨e,j,k,h,d⟩
theorem Inv.gI(I:Inv X (pins++pl) σ H s):Inv X pins σ H s:=I.qu fun p a=>I.pin p (dz _ (jE _ a))
theorem qO(A:PassesOwn (model X.prog X.w) X.A X.env X.xe)(Z:X.calm=true)(hi:PI X tg t wi)(hg:PG X tg g)(j:mz X L tb) (hs:∀x,foldedSetIterable t X.env x=pure x:=by intro _;rfl):PS X (.For tg t L [] pos) (xw wi g tb):=by
  intro a s σ H D I h;refine wpAny_For (bS (hi a s σ H _ I h) fun v s1 h1=>bS h1 fun Sj s2 h2=>?_) hs;obtain⟨it,Q,tn,J,H2,e,I2,T,R,f2,W,⟨m0,w0⟩,M⟩:=h2;subst e;have l:∀{q:Hp},(∀b∈Q,q b=none)->∀b∈Q,jn X a q b:=fun hn b j=>⟨hn b j,(f2 b j).2⟩;refine codeAny_forLoop_any (fun n s'=>∃i p q,Inv X a p q s'/\tn i s'.heap/\(∀b∈Q,q b=none)/\W i n p q) ?_ m0 ⟨0,σ,H2,I2,R,fun b j=>(f2 b j).1,w0⟩;rintro n s3 ⟨i,B,Y,I3,C,E,w3⟩;rcases M i n B Y w3 with⟨G,qn⟩|⟨go,N,hN,step⟩;.refine iz A (bS (T.done X rfl rfl rfl Z i a s3 B Y X.xe I3 (l E) C G) fun r s4 ⟨S,I4⟩=>?_);subst S;exact l_ ⟨_,_,I4,qn⟩
  . refine iz A (bS (T.item X rfl rfl rfl Z i _ _ _ _ _ I3 (l E) C go) fun r s4 ⟨u,S,h4⟩=>?_);subst S;refine iz A (bS h4 fun _ s5 ⟨x,_,I5,r5,y5,y,U⟩=>?_);refine iz A (bS (hg _ _ _ _ x u _ (I5.pinned (l U) (T.obj _ _ y)) r5 (step x _ y5)) fun _ s6 ⟨_,_,I6,q6⟩=>(iz A (bS (j _ _ _ _ _ I6 q6) fun f s7 w=>?_)));have again:∀{c:St}{z:Hp},Inv X (a++yZ _ _) c z _->N _ _->∃m,m<n/\∃i p q,Inv X _ p q _/\tn i s7.heap/\(∀b∈Q,q b=none)/\W i m p q:=fun{c z} k O=>by obtain⟨m',hm,w7⟩:=hN _ _ O;refine⟨_,hm,_,_,_,k.gI,T.keep _ _ _ y fun b j o e=>(k.pin _ (dz _ (dz _ (AI j e)))).1,fun b j=>?_,w7⟩;obtain⟨o,e,d⟩:=T.obj _ _ y b j;exact(k.pin _ (dz _ (dz _ (AI j e)))).2.1
    cases f with |next=>obtain⟨c,z,k,O⟩:=w;exact again k O |cont=>obtain⟨c,z,k,O⟩:=w;exact again k O |brk=>obtain⟨c,z,k,w⟩:=w;exact⟨_,_,k.gI,w⟩ |ret v=>obtain⟨x7,c,z,k,r7,w⟩:=w;exact⟨_,_,_,k.gI,r7,w⟩
end
abbrev R2:=V->V->Hp->VK->Prop
def iI(X:Cx)(f:Value->Value->Sem Value)(r:R2):Prop:= ∀(a:List (Addr×Obj))(s:Shared)(b:St)(H:Hp)(x y:V)(v u:Value)(Q:VK),Inv X a b H s->RelV x v->RelV y u->r x y H Q-> wpAny (model X.prog X.w) X.A (f v u) (EP X a b Q) X.xe s
def Ex(X:Cx)(f:Value->Sem Value)(r:V->Hp->VK->Prop):Prop:= ∀(a:List (Addr×Obj))(s:Shared)(b:St)(H:Hp)(x:V)(v:Value)(Q:VK),Inv X a b H s->RelV x v->r x H Q-> wpAny (model X.prog X.w) X.A (f v) (EP X a b Q) X.xe s
def mV(X:Cx)(f:Value)(r:List V->Hp->VK->Prop):Prop:= ∀(a:List (Addr×Obj))(s:Shared)(d:St)(H:Hp)(b:List V)(c:List Value)(Q:VK),Inv X a d H s->Vals b c->r b H Q-> wpAny (model X.prog X.w) X.A (call f c) (EP X a d Q) X.xe s
def rQ(r:R2)(e d:TE):TE:=fun a H Q=>e a H fun x c=>d a c fun y b=>r x y b Q
def Kb(r:V->Hp->VK->Prop)(c:TE):TE:=fun a H Q=>c a H fun x b=>r x b Q
def rI(C:Int->Int->Prop)(g:Int->Int->V):R2:=fun x y H Q=>∃i j,x=.int i/\y=.int j/\C i j/\Q (g i j) H
def pj(g:Int->Int->V):R2:=fun x y H Q=>∃i j,x=.int i/\y=.int j/\Q (g i j) H
def rU(g:Int->V):V->Hp->VK->Prop:=fun x H Q=>∃i,x=.int i/\Q (g i) H
section
variable {X : Cx} {a b c : Expr} {ta tb tc : TE} {pos : Pos}
theorem xy(l:PE X a ta)(m:PE X b tb){R:V->V->Hp->Prop}(I:Inv X pins σ H s) (h:ta σ H fun x k=>tb σ k fun y g=>R x y g){f:Value->Value->Sem Value} (p:∀v u i x y g,Inv X pins σ g i->RelV x v->RelV y u->R x y g->wpAny (model X.prog X.w) X.A (f v u) Q X.xe i): wpAny (model X.prog X.w) X.A (eval a X.env) (fun v d=>wpAny (model X.prog X.w) X.A (eval b X.env) (fun u e=>wpAny (model X.prog X.w) X.A (f v u) Q X.xe e) X.xe d) X.xe s:=by refine bS (l _ s _ H _ I h) fun v o ⟨x,_,n,_,j⟩=>(bS (m _ _ _ _ _ n j) fun u i ⟨y,_,_,_,_⟩=>?_);grind
theorem bA(g:iI X (binaryOp op) r)(i:PE X a ta)(j:PE X b tb):PE X (.BinOp a op b pos) (rQ r ta tb):=fun d s n H Q I h=>wpAny_BinOp (xy i j I h fun v u l x y m k f e q=>g _ _ _ _ x y v u Q k f e q)
theorem qP(e:Ex X (unaryOp op) r)(i:PE X a ta):PE X (.UnaryOp op a pos) (Kb r ta):=fun d s l H Q I h=>UnaryOp_ (bS (i _ s _ H _ I h) fun v k ⟨x,_,g,f,j⟩=>e _ _ _ _ x v Q g f j)
theorem Co{g:Int->Int->Int} (rule:∀(i j:Int)(t u:Tok)(s:Shared)(Q:Value->Shared->Prop)(E:Value->Shared->Prop),C i j->Q (.int (g i j) s.toks) {s with toks:=s.toks+1}->wpAny (model X.prog X.w) X.A (f (.int i t) (.int j u)) Q E s): iI X f (rI C fun i j=>.int (g i j)):=by rintro d s m H x y v u Q I e k ⟨i,j,rfl,rfl,h,q⟩;obtain⟨t,rfl⟩:=e;obtain⟨l,rfl⟩:=k;exact rule i j t _ s _ _ h ⟨.int _,H,I.tok _,⟨_,rfl⟩,q⟩
theorem AJ{g:Int->Int->Int} (rule:∀(i j:Int)(t u:Tok)(s:Shared)(Q:Value->Shared->Prop)(E:Value->Shared->Prop),Q (.int (g i j) s.toks) {s with toks:=s.toks+1}->wpAny (model X.prog X.w) X.A (f (.int i t) (.int j u)) Q E s): iI X f (pj fun i j=>.int (g i j)):=by rintro d s k H x y v u Q I h e ⟨i,j,rfl,rfl,q⟩;obtain⟨t,rfl⟩:=h;obtain⟨l,rfl⟩:=e;exact rule i j t _ s _ _ ⟨.int _,H,I.tok _,⟨_,rfl⟩,q⟩
theorem uN{g:Int->Int->Bool} (rule:∀(i j:Int)(t u:Tok)(s:Shared)(Q:Value->Shared->Prop)(E:Value->Shared->Prop),Q (.bool (g i j)) s->wpAny (model X.prog X.w) X.A (f (.int i t) (.int j u)) Q E s): iI X f (pj fun i j=>.bl (g i j)):=by rintro d s k H x y v u Q I h e ⟨i,j,rfl,rfl,q⟩;obtain⟨t,rfl⟩:=h;obtain⟨l,rfl⟩:=e;exact rule i j t _ s _ _ ⟨.bl _,H,I,rfl,q⟩
def sO(i j:Int):Prop:=0<=j/\j<=1000000/\i.natAbs<2^64
theorem gb:iI X (binaryOp .Add) (pj fun i j=>.int (i+j)):=AJ fun _ _ _ _ _ _ _ q=>add_int q
theorem ub:iI X (binaryOp .Sub) (pj fun i j=>.int (i-j)):=AJ fun _ _ _ _ _ _ _ q=>sub_int q
theorem gd:iI X (binaryOp .Mod) (rI (fun _ j=>0<j) fun i j=>.int (i%j)):=Co fun i j _ _ _ _ _ d q=>mod_int' (by lia) (by rwa[Int.fmod_eq_emod_of_nonneg i (by lia)])
theorem xA:iI X (binaryOp .Pow) (rI sO fun i j=>.int (i^j.toNat)):=Co fun _ _ _ _ _ _ _ d q=>pow_int_small d.1 d.2.1 d.2.2 q
theorem Sk{g:Int->Int} (rule:∀(i:Int)(t:Tok)(s:Shared)(Q:Value->Shared->Prop)(E:Value->Shared->Prop),Q (.int (g i) s.toks) {s with toks:=s.toks+1}->wpAny (model X.prog X.w) X.A (f (.int i t)) Q E s): Ex X f (rU fun i=>.int (g i)):=by rintro d s h H x v Q I e ⟨i,rfl,q⟩;obtain⟨t,rfl⟩:=e;exact rule i t s _ _ ⟨.int _,H,I.tok _,⟨_,rfl⟩,q⟩
theorem qQ:Ex X (unaryOp .USub) (rU fun i=>.int (-i)):=Sk fun _ _ _ _ _ q=>neg_int q
end
def nF:V->V->Bool |.non,.non=>true|.non,.int _=>true|.int _,.non=>true|.non,.bl _=>true|.bl _,.non=>true|.non,.str _=>true|.str _,.non=>true |.int _,.int _=>true|.bl _,.bl _=>true|.str _,.str _=>true|.rP _,.rP _=>true |.int _,.str _=>true|.str _,.int _=>true|.bl _,.str _=>true|.str _,.bl _=>true |_,_=>false
def Kc:R2:=fun x y H Q=>nF x y=true/\Q (.bl (decide (x=y))) H
def Kd:R2:=fun x y H Q=>nF x y=true/\Q (.bl (!decide (x=y))) H
theorem Ke:decide (V.int i=V.int j)=(i==j):=by grind
theorem Kf:decide (V.bl i=V.bl j)=(i==j):=by grind
theorem Kg:decide (V.str i=V.str j)=(i==j):=by grind
theorem Kh:decide (V.rP i=V.rP j)=(i.toList==j.toList):=by rw[uG];simp
section
variable {X : Cx} {a b c : Expr} {ta tb tc : TE} {pos : Pos}
theorem ie(I:Inv X pins σ H s)(q:Q (.bl k) H)(e:k=d):EP X pins σ Q (.bool d) s:=by subst e;exact⟨.bl k,H,I,rfl,q⟩
theorem iJ:iI X (compareOp .Eq) Kc:=by rintro o s p H x y v u Q I l d ⟨k,q⟩;cases x with
 |non=> cases l;cases y with |non=>cases d;exact PySem.EqNone.eq_none_none (ie I q (by simp)) |bl j=>cases d;exact PySem.EqNone.eq_none_bool (ie I q (by simp)) |int j=>obtain⟨g,rfl⟩:=d;exact PySem.EqNone.eq_none_int (ie I q (by simp)) |str j=>obtain⟨g,rfl⟩:=d;exact PySem.EqNone.eq_none_str (ie I q (by simp)) |_=>exact absurd (show false=true from k) fA
 |bl i=> cases l;cases y with |non=>cases d;exact PySem.EqNone.eq_bool_none (ie I q (by simp)) |bl j=>cases d;exact eq_bool (ie I q Kf) |str j=>obtain⟨g,rfl⟩:=d;exact PySem.EqMixed.eq_bool_str (ie I q (by simp)) |_=>exact absurd (show false=true from k) fA
 |int i=> obtain⟨t,rfl⟩:=l;cases y with |non=>cases d;exact PySem.EqNone.eq_int_none (ie I q (by simp)) |int j=>obtain⟨g,rfl⟩:=d;exact eq_int (ie I q Ke) |str j=>obtain⟨g,rfl⟩:=d;exact PySem.EqMixed.eq_int_str (ie I q (by simp)) |_=>exact absurd (show false=true from k) fA
 |str i=> obtain⟨t,rfl⟩:=l;cases y with |non=>cases d;exact PySem.EqNone.eq_str_none (ie I q (by simp)) |bl j=>cases d;exact PySem.EqMixed.eq_str_bool (ie I q (by simp)) |int j=>obtain⟨g,rfl⟩:=d;exact PySem.EqMixed.eq_str_int (ie I q (by simp)) |str j=>obtain⟨g,rfl⟩:=d;exact eq_str (ie I q Kg) |_=>exact absurd (show false=true from k) fA
 |rP i=> obtain⟨t,rfl⟩:=l;cases y with |rP j=>obtain⟨g,rfl⟩:=d;exact PySem.W.eq_bytes (ie I q Kh) |_=>exact absurd (show false=true from k) fA
 |_=>cases y<;>exact absurd (show false=true from k) fA
theorem xB:iI X (compareOp .NotEq) Kd:=by rintro o s p H x y v u Q I l d ⟨k,q⟩;cases x with
 |non=> cases l;cases y with |non=>cases d;exact PySem.EqNone.ne_none_none (ie I q (by simp)) |bl j=>cases d;exact PySem.EqNone.ne_none_bool (ie I q (by simp)) |int j=>obtain⟨g,rfl⟩:=d;exact PySem.EqNone.ne_none_int (ie I q (by simp)) |str j=>obtain⟨g,rfl⟩:=d;exact PySem.EqNone.ne_none_str (ie I q (by simp)) |_=>exact absurd (show false=true from k) fA
 |bl i=> cases l;cases y with |non=>cases d;exact PySem.EqNone.ne_bool_none (ie I q (by simp)) |bl j=>cases d;exact ne_bool (ie I q (dh not Kf)) |str j=>obtain⟨g,rfl⟩:=d;exact PySem.EqMixed.ne_bool_str (ie I q (by simp)) |_=>exact absurd (show false=true from k) fA
 |int i=> obtain⟨t,rfl⟩:=l;cases y with |non=>cases d;exact PySem.EqNone.ne_int_none (ie I q (by simp)) |int j=>obtain⟨g,rfl⟩:=d;exact ne_int (ie I q (dh not Ke)) |str j=>obtain⟨g,rfl⟩:=d;exact PySem.EqMixed.ne_int_str (ie I q (by simp)) |_=>exact absurd (show false=true from k) fA
 |str i=> obtain⟨t,rfl⟩:=l;cases y with |non=>cases d;exact PySem.EqNone.ne_str_none (ie I q (by simp)) |bl j=>cases d;exact PySem.EqMixed.ne_str_bool (ie I q (by simp)) |int j=>obtain⟨g,rfl⟩:=d;exact PySem.EqMixed.ne_str_int (ie I q (by simp)) |str j=>obtain⟨g,rfl⟩:=d;exact ne_str (ie I q (dh not Kg)) |_=>exact absurd (show false=true from k) fA
 |rP i=> obtain⟨t,rfl⟩:=l;cases y with |rP j=>obtain⟨g,rfl⟩:=d;exact PySem.W.ne_bytes (ie I q (dh not Kh)) |_=>exact absurd (show false=true from k) fA
 |_=>cases y<;>exact absurd (show false=true from k) fA
theorem uO:iI X (compareOp .Lt) (pj fun i j=>.bl (decide (i<j))):=uN fun _ _ _ _ _ _ _ q=>lt_int q
theorem Ki:iI X (compareOp .LtE) (pj fun i j=>.bl (decide (i<=j))):=uN fun _ _ _ _ _ _ _ q=>le_int q
theorem y4:iI X (compareOp .Gt) (pj fun i j=>.bl (decide (j<i))):=uN fun _ _ _ _ _ _ _ q=>gt_int q
theorem Ey:iI X (compareOp .GtE) (pj fun i j=>.bl (decide (j<=i))):=uN fun _ _ _ _ _ _ _ q=>ge_int q
theorem Kj:iI X (compareOp .Is) (fun x y H Q=>y=.non/\Q (.bl (decide (x=.non))) H):=by rintro d s g H x y v u Q I f e ⟨rfl,q⟩;cases e;refine is_none_gen (ie I q ?_);cases x<;>first |rfl |(obtain⟨t,rfl⟩:=f;rfl)
theorem Kk:iI X (compareOp .IsNot) (fun x y H Q=>y=.non/\Q (.bl (!decide (x=.non))) H):=by rintro d s g H x y v u Q I f e ⟨rfl,q⟩;cases e;refine isnot_none_gen (ie I q ?_);cases x<;>first |rfl |(obtain⟨t,rfl⟩:=f;rfl)
def isObj:HO->Bool |.lst _=>true |.ins _ _ _=>true |_=>false
theorem qR(b:Expr)(h:op≠.In:=by decide)(h2:op≠.NotIn:=by decide):behindInMarks op b=false:=by
 have d:(op==CmpOp.In)=false:=by cases op<;>first|rfl|simp_all
 have e:(op==CmpOp.NotIn)=false:=by cases op<;>first|rfl|grind
 cases b<;>simp[behindInMarks,d,e]
theorem Sm(g:iI X (compareOp op) r)(j:PE X a ta)(i:PE X b tb)(l:behindInMarks op b=false):PE X (.Compare a [op] [b] pos) (rQ r ta tb):=fun d s m H Q I h=>wpAny_Compare1 (xy j i I h fun v u n x y o f k e q=>g _ _ _ _ x y v u Q f k e q) l
def Ez(t:TE):TT:=fun d H Q=>t d H fun x e=>∃k,x=.bl k/\Q k e
theorem nG(j:iI X (compareOp op) r)(m:PE X a ta)(f:PE X b tb)(p:behindInMarks op b=false):PT X (.Compare a [op] [b] pos) (Ez (rQ r ta tb)):=by intro d s E H Q I h;refine wpAny_isTrue_Compare1 (bS (m _ s _ H _ I h) fun v B ⟨x,_,w,q,l⟩=>bS (f _ _ _ _ _ w l) fun u C ⟨y,_,i,g,n⟩=> bS (j _ _ _ _ x y v u _ i q g n) fun c D ⟨z,_,o,A,k,e,t⟩=>?_) p;subst e;cases A;exact jj ⟨_,o,t⟩
theorem AK:(sizeLine:Nat)<2^63:=by decide
theorem mD(r:Vals [x] us):∃u,us=[u]/\RelV x u:=by cases r with |cons f e=>cases e;simp_all
theorem AL(r:Vals [x,y] us):∃u e,us=[u,e]/\RelV x u/\RelV y e:=by cases r with |cons h f=> cases f with |cons i g=>cases g;grind
theorem Cp:mV X (.builtin "abs") (fun xs H Q=>∃i,xs=[.int i]/\Q (.int (if i<0 then-i else i)) H):=by rintro d s f H xs g Q I r ⟨i,rfl,q⟩;obtain⟨u,rfl,t,rfl⟩:=mD r;exact call_abs_int fun u e=>⟨.int _,H,I.tok _,⟨_,rfl⟩,q⟩
theorem EA(f:X.calm=true):mV X (.builtin "max") (fun xs H Q=>∃i j,xs=[.int i,.int j]/\Q (.int (if j>i then j else i)) H):=by
 rintro e s n H xs m Q I r ⟨i,j,rfl,q⟩;obtain⟨u,h,rfl,⟨t,rfl⟩,⟨l,rfl⟩⟩:=AL r;refine max_two_ints (I.ok.hd f) fun o g k=>⟨_,H,I.kept k,?_,q⟩;by_cases d:j>i;.rw[aq d,aq d];exact⟨_,rfl⟩
 .rw[ao d,ao d];exact⟨_,rfl⟩
theorem Cq(f:X.calm=true):mV X (.builtin "min") (fun xs H Q=>∃i j,xs=[.int i,.int j]/\Q (.int (if j<i then j else i)) H):=by
 rintro e s n H xs m Q I r ⟨i,j,rfl,q⟩;obtain⟨u,h,rfl,⟨t,rfl⟩,⟨l,rfl⟩⟩:=AL r;refine min_two_ints (I.ok.hd f) fun o g k=>⟨_,H,I.kept k,?_,q⟩;by_cases d:j<i;.rw[aq d,aq d];exact⟨_,rfl⟩
 .rw[ao d,ao d];exact⟨_,rfl⟩
end
structure pk(h:Heap)(x dx C:Addr)(mA:Str->Option Value):Prop where
 obj:h.get? x=some (PySem.W.instObj C dx)ns:h.Ns1 dx mA
 ne:dx≠x
theorem So{h:Heap}(n:h.Ns1 d l):∃od,h.get? d=some od/\∀name,PySem.W.lookIn name od=some (l name):=by
  obtain⟨o,j,m,i,k,g,_,c⟩:=n;refine⟨o,i,fun name=>?_⟩;have e:=c name;unfold nsFind findBy at e;rw[<-Array.find?_toList] at e;unfold PySem.W.lookIn;rw[k];dsimp;split;.simp_all
  . have a:j.toList.any (·.refKey)=false:=by rw[List.any_eq_false];intro y f;obtain⟨z,t,b⟩:=g y (Array.mem_toList_iff.mp f);simp[DictEntry.refKey,b]
    simp_all
theorem pk.look(I:pk h x b C c):∃od,PySem.W.InstAt h x (PySem.W.instObj C b) C (some od)/\∀name,PySem.W.lookIn name od=some (c name):= let⟨_,a,d⟩:=So I.ns;⟨_,⟨I.obj,rfl,rfl,a⟩,d⟩
section
variable{prog:Program}{w:World}{A:Around}{E:Value->Shared->Prop}{s:Shared}{K:PySem.W.Frag}{x dx C f:Addr}{mA:Str->Option Value}{name:Str}{v:Value}
theorem Sq(X:K.In s.heap)(I:pk s.heap x dx C mA)(d:PySem.W.plainGet K C name=true)(e:PySem.W.hasDictIn K C=true) (c:PySem.W.findIn K (.ref C) name=some none)(g:mA name=some v)(a:PySem.W.handedIn v=true)(h:Q v {s with toks:=s.toks+1}): wpAny (model prog w) A (getAttr (.ref x) name b) Q E s:=let⟨_,J,_⟩:=I.look;PySem.W.get_value X J (oV d).1 (PySem.W.findObj_own e c rfl (by simp_all)) a h
theorem Sr(X:K.In s.heap)(I:pk s.heap x dx C mA)(a:PySem.W.plainGet K C name=true) (c:PySem.W.findIn K (.ref C) name=some (some (.ref f)))(b:PySem.W.isFn K (.ref f)=true)(d:mA name=none)(h:Q (.ref f,[.ref x]) s): wpAny (model prog w) A (getMethod (.ref x) name pl) Q E s:=let⟨_,J,_⟩:=I.look;PySem.W.method_fn X J (oV a).1 (oV a).2 c (e_.mp b) (by show(PySem.W.lookIn _ _).map _=some _;simp_all) h
theorem jV(X:K.In s.heap)(I:pk s.heap x dx C mA) (p:PySem.W.findIn K (.ref C) "__setattr__"=some (some (.builtin "object.__setattr__")))(q:PySem.W.plainOver K C=true)(l:PySem.W.takerIn K C name=some none)(o:PySem.W.hasDictIn K C=true) (m:PySem.Within mA ns)(hsz:ns.length<=sizeLine) (h:∀h',pk h' x dx C (fun y=>if y=name then some v else mA y)->Heap.SameBut dx s.heap h'->Q () {s with heap:=h',toks:=s.toks+2}): wpAny (model prog w) A (setAttr (.ref x) name v) Q E s:=by obtain⟨t,J,z⟩:=I.look;refine PySem.W.set_plain X J p (PySem.W.osa_open X J q l fun b=>?_);obtain⟨r,k,g⟩:=oO o;refine ah (ax (ah (ah (wpAny_loadPart I.obj (ah (PySem.W.Looks.here (oS X k) ?_))))));rw[g];refine ax (ah (ax (ah (wpAny_nsSet1 I.ns fun h' c a=>?_))));obtain⟨u,n,j,e,i,d⟩:=c.count (PySem.Within.cons _ v m);exact ah (wpAny_lookBehind e (by rw[i];exact pastItsLine_dict (bK d (by simp_all))) (ax (h _ ⟨(a.2 _ (aR I.ne)).trans I.obj,c,I.ne⟩ a)))
theorem Ss(X:K.In s.heap)(c:PySem.W.makesIn K C=true) (hi:PySem.W.findIn K (.ref C) "__init__"=some (some (.ref f)))(d:PySem.W.typeIn K (.ref f)=some (.type "function")) (h:codeAny (model prog w) (A.under (.builtin "type.__call__" ⟨.ref C::vs,b⟩)) (.call (.ref f) ⟨.ref (s.heap.objs.size+1)::vs,b⟩) (PySem.W.InitBack (s.heap.objs.size+1) R) {s with heap:=(s.heap.push PySem.W.emptyDict).push (PySem.W.instObj C s.heap.objs.size)}): codeAny (model prog w) A (.call (.ref C) ⟨vs,b⟩) R s:=PySem.W.make_core (PySem.W.makes_of X c) (PySem.W.looks_findIn X hi) (fun a=>PySem.W.bind_fn X _ d) (.inl rfl) h
end
def gr(f:Str)(v:V):List (Str×V)->List (Str×V) |[]=>[(f,v)] |(g,x)::r=>if g=f then(g,v)::r else(g,x)::gr f v r
theorem Kl(f g:Str)(v:V):∀fs:List (Str×V),(gr f v fs).lookup g=if g=f then some v else fs.lookup g
  |[]=>by
    show List.lookup g [(f,v)]=_;by_cases h:g=f;.simp_all
    .simp_all |(k,x)::r=>by
    have c:=Kl f g v r;rw[show gr f v _=(if k=f then(k,v)::r else(k,x)::gr f v r) from rfl];by_cases b:k=f
    . rw[aq b];by_cases h:g=k;.simp_all
      .simp[List.lookup,(kn.mpr h),ao (fun e:g=f=>h (e.trans b.symm))]
    .grind
theorem EB(f:Str)(v:V):∀fs:List (Str×V),f∈(gr f v fs).map (·.1)/\∀g,g∈fs.map (·.1)->g∈(gr f v fs).map (·.1)
  |[]=>⟨by simp[gr],fun g h=>by simp at h⟩ |(k,x)::r=>by
    obtain⟨d,c⟩:=EB f v r;rw[show gr f v _=(if k=f then(k,v)::r else(k,x)::gr f v r) from rfl];by_cases b:k=f;.subst b;simp
    . rw[ao b];refine⟨?_,fun g h=>?_⟩;.rw[bH];simp_all
      . rcases aY.mp h with e|e;.grind
        .grind
theorem Km(f:Str)(v:V):∀fs:List (Str×V),(gr f v fs).length<=fs.length+1
 |[]=>by simp[gr] |(k,x)::r=>by
  have c:=Km f v r;rw[show gr f v _=(if k=f then(k,v)::r else(k,x)::gr f v r) from rfl];by_cases b:k=f;.rw[aq b,gm,gm];lia
  .rw[ao b,gm,gm];lia
theorem hO.some_of(r:hO (some v) o):∃u,o=some u/\RelV v u:=by cases o with |none=>exact r.elim |some u=>exact⟨u,rfl,r⟩
theorem hO.none_of(r:hO none o):o=none:=by cases o with |none=>rfl |some u=>exact r.elim
theorem Su(r:RelV v u):PySem.W.handedIn u=true:=by cases v with |non=>cases r;rfl |bl b=>cases r;rfl |int i=>obtain⟨t,e⟩:=r;cases e;rfl |str x=>obtain⟨t,e⟩:=r;cases e;rfl |rP b=>obtain⟨t,e⟩:=r;cases e;rfl |xk b=>obtain⟨t,e⟩:=r;cases e;rfl |ref a=>cases r;rfl |ty n=>cases r;rfl
section
variable{P:Program}{w:World}{H H':Hp}{h h':Heap}{a C dx:Addr}{fs Ei:List (Str×V)}
theorem Cr(c:ic P w H h)(e:H a=some (.ins C dx fs)):∃b,pk h a dx C b/\(∀f,hO (fs.lookup f) (b f))/\PySem.Within b (fs.map (·.1))/\fs.length<=1000/\H dx=some (.own a):=let⟨d,z,g,i,_,n,r,q⟩:=(c a _ e);⟨_,⟨i,n,g⟩,r,q,z,d⟩
end
structure dI(K:PySem.W.Frag)(C:Addr):Prop where
 pg:PySem.W.plainGet K C Str.empty=true
 hd:PySem.W.hasDictIn K C=true
 po:PySem.W.plainOver K C=true
 sa:PySem.W.findIn K (.ref C) "__setattr__"=some (some (.builtin "object.__setattr__"))
theorem dI.get{K:PySem.W.Frag}(c:dI K C)(f:Str):PySem.W.plainGet K C f=true:=c.pg
def aE(K:PySem.W.Frag)(C:Addr)(f:Str):Prop:=PySem.W.findIn K (.ref C) f=some none
theorem aE.wm{K:PySem.W.Frag}(n:aE K C f):PySem.W.takerIn K C f=some none:=by unfold PySem.W.takerIn;rw[n];rfl
structure Meth(K:PySem.W.Frag)(C:Addr)(m:Str)(f:Addr):Prop where
 at_:PySem.W.findIn K (.ref C) m=some (some (.ref f))fn:PySem.W.isFn K (.ref f)=true
 kp:PySem.W.keepIn K (.ref f)=true
section
variable{X:Cx}{pins:List (Addr×Obj)}{σ:St}{H:Hp}{s:Shared}{a C dx:Addr}{fs:List (Str×V)}{f:Str}{v:V}{A:Around}{E:Value->Shared->Prop}
theorem Sv(I:Inv X pins σ H s)(e:H a=some (.ins C dx fs))(c:dI X.K C)(n:aE X.K C f)(l:fs.lookup f=some v) (h:∀u s',Inv X pins σ H s'->RelV v u->Q u s'):wpAny (model X.prog X.w) A (getAttr (.ref a) f b) Q E s:=by obtain⟨g,O,r,_,_,_⟩:=Cr I.bI e;obtain⟨u,i,d⟩:=hO.some_of (v:=v) (o:=g f) (by grind);exact Sq I.iD O (c.get f) c.hd n i (Su d) (h u _ (I.tok _) d)
theorem Kn(I:Inv X pins σ H s)(e:H a=some (.ins C dx fs))(c:dI X.K C)(k:Meth X.K C m g)(l:fs.lookup m=none) (h:Q (.ref g,[.ref a]) s):wpAny (model X.prog X.w) A (getMethod (.ref a) m pl) Q E s:=by obtain⟨b,O,r,_,_,_⟩:=Cr I.bI e;have d:b m=none:=hO.none_of (by grind);exact Sr I.iD O (c.get m) k.at_ k.fn d h
theorem Sw(I:Inv X pins σ H s)(e:H a=some (.ins C dx fs))(c:dI X.K C)(n:aE X.K C f)(G:fs.length<1000)(B:RelV y u) (h:∀s',Inv X pins σ (upd H a (.ins C dx (gr f y fs))) s'->Q () s'):wpAny (model X.prog X.w) A (setAttr (.ref a) f u) Q E s:=by
  obtain⟨D,O,r,i,_,t⟩:=Cr I.bI e;have m:(fs.map (·.1)).length<=sizeLine:=by rw[aW,fc];lia
  refine jV I.iD O c.sa c.po n.wm c.hd i m fun p d j=>h _ ?_;have k:∃o,p.get? _=some o:=let⟨o,_,_,x,_⟩:=d.ns;⟨o,x⟩;refine I.write (by rw[e];exact True.intro) (.inr t) (fun b q l z=>(j.2 b l).trans z) k (⟨by rwa[bj O.ne],?_,O.ne,d.obj,_,d.ns,fun g=>?_,fun g w=>?_⟩);.have:=Km f y fs;lia
  . rw[Kl];by_cases q:g=f;.rwa[aq q,aq q]
    simp_all
  . by_cases q:g=f;.rw[q];exact(EB f y _).1
    .refine(EB f y _).2 g (i g fun z=>w ?_);simp_all
theorem Inv.made(I:Inv X pins σ H s):Inv X pins σ (upd (upd H s.heap.objs.size (.own (s.heap.objs.size+1))) (s.heap.objs.size+1) (.ins C s.heap.objs.size [])) {s with heap:=(s.heap.push PySem.W.emptyDict).push (PySem.W.instObj C s.heap.objs.size)}:=by
 have d:(s.heap.push PySem.W.emptyDict).get? _=some _:=cg _ rfl;have i:((s.heap.push PySem.W.emptyDict).push (PySem.W.instObj C s.heap.objs.size)).get? (s.heap.objs.size+1)=some (PySem.W.instObj C s.heap.objs.size):=by have:=cg (s.heap.push PySem.W.emptyDict) (o:=PySem.W.instObj C s.heap.objs.size) rfl;simp_all
 have j:(s.heap.push _).Ns _ _:=⟨_,_,_,d,rfl,(fun e g=>absurd g (by simp)),fun _=>rfl⟩;refine(I.laid (o:=.own _) (t':=s.toks) (fun b u q=>aO _ q) (aG _) ⟨_,d⟩).laid (fun b u q=>aO _ q) (lW (iO _ _)) ?_;have c:s.heap.objs.size≠s.heap.objs.size+1:=a_ (fB _);refine⟨by rw[bj c,cw],bU _,c,i,_,(Heap.Ns1.of_empty j).at fun o q=>aO _ q,fun _=>True.intro,fun y h=>absurd rfl h⟩
theorem Sx{f:Str}{s:Shared}(c:attributeBase e f env (eval e env)=eval e env) (h:wpAny (model prog w) A (eval e env) (fun o b=>wpAny (model prog w) A (getAttr o f true) Q E b) E s):wpAny (model prog w) A (eval (.Attribute e f pos) env) Q E s:= Attribute_any_ h (by rw[arm_eval_Attribute,c])
end
def uP(K:PySem.W.Frag)(g:TE)(f:Str):TE:=fun e H Q=>g e H fun x c=>∃a C d b v,x=.ref a/\c a=some (.ins C d b)/\dI K C/\aE K C f/\b.lookup f=some v/\Q v c
def jL(K:PySem.W.Frag)(h g:TE)(f:Str):TS:=fun D b H=>g b H fun y i=>h b i fun x d=>∃a C e c,x=.ref a/\d a=some (.ins C e c)/\dI K C/\aE K C f/\c.length<1000/\ D.nx b (upd d a (.ins C e (gr f y c)))
section
variable{X:Cx}{o e value:Expr}{f:Str}{pos pos' AM:Pos}{ta tv:TE}
theorem gJ(k:PE X e ta)(r:attributeBase e f X.env (eval e X.env)=eval e X.env):PE X (.Attribute e f pos) (uP X.K ta f):=by intro b s w H Q I h;refine Sx r (bS (k _ s _ H _ I h) fun u t ⟨x,_,d,p,a,C,_,_,v,g,j,c,n,l,q⟩=>?_);subst g;obtain rfl:u=Value.ref a:=p;exact Sv d j c n l fun y z i m=>⟨v,_,i,m,q⟩
theorem pw(k:PE X o ta)(i:PE X value tv)(j:swapsWith value (some (.Attribute o f pos')) pos.line X.env=pure false):PS X (.Assign [.Attribute o f pos'] value pos) (jL X.K ta tv f):=by intro b s B H D I h;refine plainObj_wpAny_Assign_Attribute (bS (i _ s _ H _ I h) fun u A ⟨y,_,z,t,q⟩=>bS (k _ _ _ _ _ z q) fun r G ⟨x,_,g,m,a,C,_,_,p,w,c,n,l,d⟩=>?_) j;subst p;obtain rfl:r=Value.ref a:=m;exact Sw g w c n l t fun E v=>⟨_,_,v,d⟩
end
section
variable{X:Cx}{pins:List (Addr×Obj)}{σ:St}{H:Hp}{s:Shared}{A:Around}{E:Value->Shared->Prop}{Q:Value->Shared->Prop}{c:Value}{b:Bool}
inductive iY(K:PySem.W.Frag)(H:Hp):V->Value->Prop where |non:iY K H .non (.type "NoneType") |bl(x:Bool):iY K H (.bl x) (.type "bool") |int(i:Int):iY K H (.int i) (.type "int") |str(x:Str):iY K H (.str x) (.type "str") |xk(x:UInt64):iY K H (.xk x) (.type "float") |lst{a:Addr}{xs:List V}(e:H a=some (.lst xs)):iY K H (.ref a) (.type "list") |jI{a:Addr}{o:Obj}{xs:List V}(e:H a=some (.jI o (.lst xs))):iY K H (.ref a) (.type "list") |tup{a:Addr}{xs:List V}(e:H a=some (.tup xs)):iY K H (.ref a) (.type "tuple") |dK{a:Addr}{cq:List (Key×V)}(e:H a=some (.dK cq)):iY K H (.ref a) (.type "dict") |dT{a:Addr}{cq:List (List Key×V)}(e:H a=some (.dT cq)):iY K H (.ref a) (.type "dict") |ins{a C dx:Addr}{fs:List (Str×V)}(e:H a=some (.ins C dx fs))(cl:dI K C)(ha:PySem.W.findIn K (.ref C) "__class__"=some (some (.builtin "object.__class__"))) (hn:PySem.W.specialIn K (.builtin "object.__class__") "__get__"=some (some (.builtin "getset_descriptor.__get__")))(Sy:PySem.W.takesIn K (.builtin "object.__class__")=some true) (hm:PySem.W.mroIn K C (.type "object")=some true):iY K H (.ref a) (.ref C)
theorem Sz(I:Inv X pins σ H s)(d:RelV x u)(L:iY X.K H x t)(e:PySem.W.kitOne X.K t c=some b)(h:∀tk,Q (.bool b) {s with toks:=tk}): wpAny (model X.prog X.w) A (call (.builtin "isinstance") [u,c]) Q E s:=by cases L with |non=>cases d;exact eY PySem.W.kitx_none I.iD True.intro e (fun z=>nomatch z) h |bl y=>cases d;exact eY PySem.W.kitx_bool I.iD True.intro e (fun z=>nomatch z) h |int i=>obtain⟨t,q⟩:=d;cases q;exact eY PySem.W.kitx_int I.iD True.intro e (fun z=>nomatch z) h |str y=>obtain⟨t,q⟩:=d;cases q;exact eY PySem.W.kitx_str I.iD True.intro e (fun z=>nomatch z) h |xk y=>obtain⟨t,q⟩:=d;cases q;exact eY PySem.W.kitx_float I.iD True.intro e (fun z=>nomatch z) h |@lst a k f=> cases d;obtain⟨_,_,n,_,g⟩:=(I.bI a _ f);exact eY PySem.W.kitx_list I.iD ⟨_,g,rfl⟩ e (fun z=>nomatch z) h |@jI a ob k f=> cases(d);obtain⟨_,_,_,n,_,g⟩:=(I.bI a _ f);exact eY PySem.W.kitx_list I.iD ⟨_,g,rfl⟩ e (fun z=>nomatch z) h |@tup a k f=> cases d;obtain⟨_,_,_,p⟩:=(I.bI a _ f);obtain⟨o,g,j,_⟩:=p;exact eY PySem.W.kitx_tuple I.iD ⟨o,g,j⟩ e (fun z=>nomatch z) h |@dK a l f=> cases d;obtain⟨_,_,vs,_,p⟩:=(I.bI a _ f);obtain⟨o,B,R,g,j,_⟩:=p;exact eY PySem.W.kitx_dict I.iD ⟨o,g,j.1⟩ e (fun z=>nomatch z) h |@dT a l f=> cases d;obtain⟨_,_,k,_,o,B,R,g,j,_⟩:=(I.bI a _ f);exact eY PySem.W.kitx_dict I.iD ⟨o,g,j.1⟩ e (fun z=>nomatch z) h |@ins a C dx fs f r D M m G=> cases d;obtain⟨mA,O,_⟩:=Cr I.bI f;obtain⟨od,J,_⟩:=O.look;exact eY (PySem.W.kitx_own (r.get _) r.hd D M m G) I.iD J e (fun z=>nomatch z) h
end
structure cu(k:Nat)(A:Around):Prop where
 hd:A.handled=none
 dp:A.depth+3*k+5<recursionLimit
 un:A.units+16*k+200<cLine
theorem cu.mono(r:cu k A)(h:j<=k):cu j A:=⟨r.hd,by have:=r.dp;lia,by have:=r.un;lia⟩
theorem cu.deeper(r:cu (k+1) A)(env:Env):cu k (A.deeper env):= ⟨r.hd,by have:=r.dp;show A.depth+1+3*k+5<_;lia,by have:=r.un;show A.units+3+16*k+200<_;lia⟩
theorem SD{A:Around}{us:List Value}{a:List (Str×Value)}:(A.under (.builtin "type.__call__" ⟨.ref C::us,a⟩)).depth=A.depth+1:=by rfl
theorem SF{A:Around}:(A.under (.builtin "type.__call__" ⟨.ref C::us,a⟩)).units=A.units+1:=rfl
theorem cu.make(r:cu (k+1) A)(C:Addr)(us:List Value)(a:List (Str×Value)):cu k (A.under (.builtin "type.__call__" ⟨.ref C::us,a⟩)):= ⟨r.hd,by have:=r.dp;rw[SD];lia,by have:=r.un;rw[SF];lia⟩
theorem cu.depth(r:cu k A):A.depth<recursionLimit:=by have:=r.dp;lia
theorem cu.units(r:cu k A):A.units+64<cLine:=by have:=r.un;lia
def cV:TA:=fun _ H Q=>Q [] H
def fR(f:TE)(e:TA):TA:=fun a H Q=>f a H fun x c=>e a c fun d b=>Q (x::d) b
section
variable{X:Cx}{e:Expr}{es:List Expr}{te:TE}{t:TA}{pos:Pos}
theorem dY:PA X [] cV:=fun _ _ _ _ H Q I h=>p6 ⟨_,H,I,.nil,h⟩
theorem cy(k:PE X e te)(l:PA X es t)(g:starEach (e::es) X.env=(false,eval e X.env)::starEach es X.env:=by rfl):PA X (e::es) (fR te t):=by intro pos a s o H Q I h;rw[g];exact nz (bS (k _ s _ H _ I h) fun u n ⟨x,_,i,f,j⟩=>bS (l _ _ _ _ _ _ i j) fun p m ⟨_,_,d,c,b⟩=>⟨_,_,d,.cons f c,b⟩)
def sP(t:TA):TE:=fun c H Q=>t c H fun a b=>a.length<=sizeLine/\∀p,b p=none->Q (.ref p) (upd b p (.tup a))
def AN(t:TA):TE:=fun c H Q=>t c H fun a b=>a.length<=sizeLine/\∀p,b p=none->Q (.ref p) (upd b p (.lst a))
theorem mW(h:PA X es t):PE X (.Tuple es f pos) (sP t):=by intro a s i H Q I d;refine wpAny_Tuple_spliced (bS (h _ _ s _ H _ I d) fun g j ⟨_,_,c,r,z,q⟩=>⟨by rwa[<-r.length],(⟨.ref _,_,c.laid (fun b u e=>aO _ e) (aG _) ?_,rfl,q _ (c.bI.fresh (aG _))⟩)⟩);exact⟨z,_,r,⟨_,cg _ rfl,rfl,_,rfl⟩⟩
theorem mX(h:PA X es t):PE X (.List es pos) (AN t):=by intro a s i H Q I d;refine wpAny_List_spliced (bS (h _ _ s _ H _ I d) fun g f ⟨_,_,c,r,z,q⟩=>⟨by rwa[<-r.length],(⟨.ref _,_,c.laid (fun b u e=>aO _ e) (aG _) ?_,rfl,q _ (c.bI.fresh (aG _))⟩)⟩);exact⟨z,_,0,r,cg _ rfl⟩
end
abbrev Sp:=List V->Hp->VK->XK->Prop
abbrev jo:=List Env->Hp->Shared->XK->Value->Shared->Prop
structure pz(P:Program)(w:World)(K:PySem.W.Frag)(mg:Str->Option Value)(base:Heap)(A:Around)(outer:List Env)(s:Shared)(H:Hp):Prop where
 frames:A.frames=some outer
 mod:Mod K mg base
 bs:∀b o,base.get? b=some o->s.heap.get? b=some o/\H b=none
 uJ:base.objs.size<=s.heap.objs.size
 jK:s.heap.FunFrames base outer
 t8:∀b∈kZ outer,H b=none
 bI:ic P w H s.heap
 bare:AllBare s.gens
 tb:qJ K H
def CE(a:List Env)(P:Program)(w:World)(H:Hp)(s:Shared)(Q:VK)(u:Value)(s':Shared):Prop:= ∃v b,s'.os=s.os/\AllBare s'.gens/\Un (kZ a) [] H b s.heap s'.heap/\ic P w b s'.heap/\RelV v u/\Q v b
def CR(CX:jo)(a:List Env)(P:Program)(w:World)(H:Hp)(s:Shared)(Q:VK)(E:XK)(r:Result)(s':Shared):Prop:= match r with |.ok (.ret u)=>CE a P w H s Q u s' |.ok _=>False |.error e=>CX a H s E e s'
structure cz(P:Program)(w:World)(K:PySem.W.Frag)(mg:Str->Option Value)(base:Heap)(CX:jo)(k:Nat)(f:Addr)(fd:FuncData)(ps:List Str)(sp:Sp):Prop where
 len:∀vs H Q E,sp vs H Q E->vs.length=ps.length
 run:∀(A:Around)(outer:List Env)(s:Shared)(H:Hp)(args:Args)(us:List Value)(vs:List V)(Q:VK)(E:XK),cu k A->pz P w K mg base A outer s H->BindsTo s fd args (ps.zip us)->Vals vs us->sp vs H Q E-> codeAny (model P w) A (.call (.ref f) args) (CR CX outer P w H s Q E) s
theorem pz.make{K:PySem.W.Frag}(e:pz P w K mg b A a s H)(C:Addr)(us:List Value)(c:List (Str×Value)): pz P w K mg b (A.under (.builtin "type.__call__" ⟨.ref C::us,c⟩)) a s H:=⟨by first|rfl|(simpa[Around.under,Code.envs,Code.isFrame,pushEnvs] using e.frames),e.mod,e.bs,e.uJ,e.jK,e.t8,e.bI,e.bare,e.tb⟩
section
variable{X:Cx}{pins:List (Addr×Obj)}{σ:St}{H:Hp}{s s':Shared}
theorem Inv.uQ(I:Inv X pins σ H s):pz X.prog X.w X.K X.mg X.base X.A X.stack s H:= ⟨I.ok.frames,I.ok.mod,I.bs,bK I.ok.uJ I.sz,I.stack,I.jT,I.bI,I.bare,I.ok.tb.grown I.base.iC⟩
theorem Inv.after(I:Inv X pins σ H s)(h:CE X.stack X.prog X.w H s Q u s'):EP X pins σ Q u s':=by obtain⟨v,j,os,a,f,c,r,q⟩:=h;obtain⟨i,g,d,t,e⟩:=s';obtain rfl:e=s.os:=os;exact⟨v,_,I.call f c a (fun b z=>absurd z (by simp)),r,q⟩
end
def uc(sp:Sp)(mE:List V)(E:XK)(t:TA):TE:=fun c H Q=>t c H fun a b=>sp (a++mE) b Q E
def wo(C:Addr)(m:Str)(sp:Sp)(mE:List V)(E:XK)(g:TE)(t:TA):TE:=fun d H Q=>g d H fun x c=>∃a f b,x=.ref a/\c a=some (.ins C f b)/\b.lookup m=none/\ t d c fun h e=>sp (x::(h++mE)) e Q E
def EC(C:Addr)(sp:Sp)(mE:List V)(E:XK)(t:TA):TE:=fun d H Q=>t d H fun c b=>∀x a,b x=none->b a=none->a≠x-> sp (.ref x::(c++mE)) (upd (upd b a (.own x)) x (.ins C a [])) (fun v e=>v=.non/\Q (.ref x) e) E
def Binds(K:PySem.W.Frag)(fd:FuncData)(ps:List Str)(ds:List Value):Prop:= ∀(s:Shared)(a:List Value),K.In s.heap->(a++ds).length=ps.length->BindsTo s fd ⟨a,[]⟩ (ps.zip (a++ds))
theorem Binds.all{K:PySem.W.Frag}(h:∀us:List Value,us.length=ps.length->bindArgs fd ⟨us,[]⟩=pure (ps.zip us)):Binds K fd ps []:=fun s us _ a=>by rw[dQ] at a⊢;exact .of_eq (h _ a)
def nI(CX:jo)(X:Cx)(E:XK):Prop:=∀(a:List (Addr×Obj))(c:St)(H:Hp)(s:Shared)(e:Value)(b:Shared),Inv X a c H s->CX X.stack H s E e b->X.xe e b
section
variable{X:Cx}{CX:jo}{k:Nat}{f C:Addr}{fd:FuncData}{ps:List Str}{sp:Sp}{mE:List V}{ds:List Value}{E:XK}{x m:Str}{p pos apos:Pos}{e o:Expr}{es:List Expr}{ta:TE}{t:TA}
theorem ED(F:cz X.prog X.w X.K X.mg X.base CX k f fd ps sp)(j:cu k X.A)(q:Binds X.K fd ps ds)(hd:Vals mE ds)(n:nI CX X E) (I:Inv X pins σ H s)(r:Vals vs us)(h:sp (vs++mE) H Q E):wpAny (model X.prog X.w) X.A (call (.ref f) us) (EP X pins σ Q) X.xe s:=by
 have c:=r.append hd;have l:(us++ds).length=ps.length:=by rw[<-c.length];exact F.len _ _ _ _ h
 refine gC (gB (F.run _ _ s H _ _ _ Q E j I.uQ (q s _ I.iD l) c h) fun r y a=>?_);cases r with |error e=>exact n _ _ H s e _ I a |ok v=> cases v with |ret u=>exact I.after a |next=>exact False.elim a |brk=>exact False.elim a |cont=>exact False.elim a
theorem Ko(F:cz X.prog X.w X.K X.mg X.base CX k f fd ps sp)(n:cu k X.A)(w:Gl X x)(u:X.mg x=some (.ref f))(l:PySem.W.keepIn X.K (.ref f)=true)(g:Binds X.K fd ps ds)(hd:Vals mE ds)(i:nI CX X E) (j:PA X (e::es) t)(b:(x==("__debug__":Str))=false:=by decide)(v:starEach (e::es) X.env=(false,eval e X.env)::starEach es X.env:=by rfl)(a:(backTo pos (starEach es X.env)).any (·.1)=false:=by rfl): PE X (.Call (.Name x p) (e::es) [] pos) (uc sp mE E t):=fun c s z H Q I h=>iv (Aw I w u (lZ I.ok.mod.wg l (bS (j _ _ s _ H _ I h) fun A y ⟨_,_,d,r,q⟩=>⟨d.iD,ED F n g hd i d r q⟩) v a) b)
theorem SH(M:PE X o ta)(c:dI X.K C)(n:Meth X.K C m f)(F:cz X.prog X.w X.K X.mg X.base CX k f fd ps sp)(G:cu k X.A)(w:Binds X.K fd ps ds)(hd:Vals mE ds)(D:nI CX X E)(y:PA X (e::es) t) (d:starEach (e::es) X.env=(false,eval e X.env)::starEach es X.env:=by rfl)(b:(backTo pos (starEach es X.env)).any (·.1)=false:=by rfl) (B:eval (.Call (.Attribute o m apos) (e::es) [] pos) X.env=(do
 let g<-eval o X.env
 standAt apos.atName let(f,first)<-holding [g] (getMethod g m pl)callWith pos f first (backTo pos (starEach (e::es) X.env)) (backToKw pos (keywordEach [] X.env))):=by rfl): PE X (.Call (.Attribute o m apos) (e::es) [] pos) (wo C m sp mE E ta t):=by intro v s T H Q I h;refine PySem.W.methodCall_KW (bS (M _ s _ H _ I h) fun u R ⟨x,_,j,z,a,_,_,J,L,l,q⟩=>?_) B;subst J;obtain rfl:u=Value.ref a:=z;exact Kn j L c n l (lZ I.ok.mod.wg n.kp (bS (y _ _ _ _ _ _ j q) fun O S ⟨N,_,i,r,A⟩=>⟨i.iD,ED (vs:=.ref a::N) F G w hd D i (.cons rfl r) A⟩) d b)
theorem SJ(A:PE X o ta)(c:dI X.K C)(i:Meth X.K C m f)(F:cz X.prog X.w X.K X.mg X.base CX k f fd ps sp)(w:cu k X.A)(r:Binds X.K fd ps ds)(hd:Vals mE ds)(j:nI CX X E) (y:eval (.Call (.Attribute o m apos) [] [] pos) X.env=(do
 let g<-eval o X.env
 standAt apos.atName let(f,first)<-holding [g] (getMethod g m pl)callWith pos f first (backTo pos (starEach [] X.env)) (backToKw pos (keywordEach [] X.env))):=by rfl): PE X (.Call (.Attribute o m apos) [] [] pos) (wo C m sp mE E ta cV):=by intro d s D H Q I h;refine PySem.W.methodCall_KW (bS (A _ s _ H _ I h) fun u B ⟨x,_,b,n,a,_,_,z,v,l,q⟩=>?_) y;subst z;obtain rfl:u=Value.ref a:=n;exact Kn b v c i l (PySem.W.callWith_K0 b.iD i.kp (ED (vs:=[.ref a]) F w r hd j b (.cons rfl .nil) q))
structure Mk(K:PySem.W.Frag)(C f:Addr):Prop where
 makes:PySem.W.makesIn K C=true
 init:PySem.W.findIn K (.ref C) "__init__"=some (some (.ref f))fn:PySem.W.isFn K (.ref f)=true
 kp:PySem.W.keepIn K (.ref C)=true
theorem SK(M:Mk X.K C f)(F:cz X.prog X.w X.K X.mg X.base CX k f fd ps sp)(z:cu (k+1) X.A)(n:Binds X.K fd ps ds)(hd:Vals mE ds) (y:nI CX X E)(I:Inv X pins σ H s)(r:Vals vs us) (h:∀x c,H x=none->H c=none->c≠x->sp (.ref x::(vs++mE)) (upd (upd H c (.own x)) x (.ins C c [])) (fun v L=>v=.non/\Q (.ref x) L) E): wpAny (model X.prog X.w) X.A (call (.ref C) us) (EP X pins σ Q) X.xe s:=by
 have l:=h _ _ (I.bI.fresh (ip _)) (I.bI.fresh (aG _)) (a_ (fB _));have b:=Inv.made (C:=C) I;have i:Vals (V.ref (s.heap.objs.size+1)::(vs++mE)) _:=.cons rfl (r.append hd);have G:(Value.ref (s.heap.objs.size+1)::us++ds).length=ps.length:=by have e:=i.length;rw[F.len _ _ _ _ l] at e;grind
 refine gC (Ss I.iD M.makes M.init (e_.mp M.fn) (gB (F.run _ _ _ _ _ _ _ _ E (z.make C _ _) (b.uQ.make C _ _) (n _ _ b.iD G) i l) fun r O a=>?_));cases r with |error e=>exact y _ _ _ _ e _ b a |ok D=> cases D with |ret u=> obtain⟨v,R,q,w,B,J⟩:=b.after a;subst B;exact⟨w,⟨V.ref _,_,q,rfl,J⟩⟩ |next=>exact False.elim a |brk=>exact False.elim a |cont=>exact False.elim a
theorem SM(M:Mk X.K C f)(F:cz X.prog X.w X.K X.mg X.base CX k f fd ps sp)(j:cu (k+1) X.A)(v:Gl X x)(l:X.mg x=some (.ref C))(g:Binds X.K fd ps ds)(hd:Vals mE ds)(n:nI CX X E) (i:PA X (e::es) t)(b:(x==("__debug__":Str))=false:=by decide)(u:starEach (e::es) X.env=(false,eval e X.env)::starEach es X.env:=by rfl)(a:(backTo pos (starEach es X.env)).any (·.1)=false:=by rfl): PE X (.Call (.Name x p) (e::es) [] pos) (EC C sp mE E t):=fun c s z H Q I h=>iv (Aw I v l (lZ I.ok.mod.wg M.kp (bS (i _ _ s _ H _ I h) fun y w ⟨_,_,d,r,q⟩=>⟨d.iD,SK M F j g hd n d r q⟩) u a) b)
end
def PK(X:Cx)(c:List Keyword)(t:TA):Prop:= ∀(b:Pos)(a:List (Addr×Obj))(s:Shared)(d:St)(H:Hp)(Q:List V->Hp->Prop),Inv X a d H s->t d H Q->wpAny (model X.prog X.w) X.A (evalAll ((backToKw b (keywordEach c X.env)).map (·.2))) (AP X a d Q) X.xe s
section
variable{X:Cx}{CX:jo}{k:Nat}{f C:Addr}{fd:FuncData}{ps ks:List Str}{sp:Sp}{E:XK}{x m:Str}{p pos apos EE:Pos}{e o:Expr}{es:List Expr}{Kq:List Keyword}{te ta:TE}{t tk:TA}{nm:Option Str}
theorem SN:PK X [] cV:=fun _ _ _ _ H Q I h=>wpAny_evalAll_nil ⟨_,H,I,.nil,h⟩
theorem SQ(i:PE X e te)(n:PK X Kq t):PK X (⟨nm,e,EE⟩::Kq) (fR te t):=fun pos a s v H Q I h=>wpAny_evalAll_cons (ah (bS (i _ s _ H _ I h) fun u r ⟨x,_,j,g,l⟩=>ah (gE (ax (bS (n _ _ _ _ _ _ j l) fun w q ⟨_,_,d,c,b⟩=>⟨_,_,d,.cons g c,b⟩)))))
variable{g:List Value->List Value->List Value}{gV:List V->List V->List V}
end
structure b_(N P:List Str)(sc:Scope):Prop where
 kind:sc.kind=.function
 co:sc.isCoroutine=false
 gen:sc.isGenerator=false
 nd:N.Nodup
 pre:N.take P.length=P
 par:∀x∈P,sc.names.lookup x=some .local\/sc.names.lookup x=some .cell
 xC:∀y∈sc.names,y.2≠.free
theorem Kr{kindOf:Str->Option NameKind}:∀{a:List (Str×Value)}{m:Str->Option Value},(∀v,(x,v)∉a)->bindL kindOf a m x=m x
  |[],_,_=>rfl |(n,v)::r,m,h=>by
    unfold bindL;rw[Kr fun w c=>h w (bJ _ c)];split
    . have:x≠n:=by grind
      simp_all
    .rfl
theorem Ks{kindOf:Str->Option NameKind}:∀{a:List (Str×Value)}{m:Str->Option Value},(∀v,(x,v)∉a)->bindC kindOf a m x=m x
  |[],_,_=>rfl |(n,v)::r,m,h=>by
    unfold bindC;rw[Ks fun w c=>h w (bJ _ c)];split;.rfl
    . have:x≠n:=by grind
      simp_all
theorem Kt{kindOf:Str->Option NameKind}:∀{P:List Str}{vs:List Value}{i:Nat}{m:Str->Option Value},P.Nodup->P[i]?=some x->vs[i]?=some v->kindOf x=some .local-> bindL kindOf (P.zip vs) m x=some v |[],_,_,_,_,h,_,_=>by simp at h |_::_,[],_,_,_,_,h,_=>by simp at h |p::P,w::vs,0,m,c,d,b,e=>by simp at d b;subst d;subst b;show bindL _ ((p,w)::P.zip _) m p=_;unfold bindL;rw[Kr fun v f=>(gp.mp c).1 (nE f).1,aq e];simp |p::P,w::vs,i+1,m,c,d,b,e=>by show bindL _ ((p,w)::P.zip _) m x=_;exact Kt (i:=i) (gp.mp c).2 (by simp_all) (by simp_all) e
theorem Ku{kindOf:Str->Option NameKind}:∀{P:List Str}{vs:List Value}{i:Nat}{m:Str->Option Value},P.Nodup->P[i]?=some x->vs[i]?=some v->kindOf x≠some .local-> bindC kindOf (P.zip vs) m x=some v |[],_,_,_,_,h,_,_=>by simp at h |_::_,[],_,_,_,_,h,_=>by simp at h |p::P,w::vs,0,m,c,e,b,d=>by simp at e b;subst e;subst b;show bindC _ ((p,w)::P.zip _) m p=_;unfold bindC;rw[Ks fun v f=>(gp.mp c).1 (nE f).1,ao d];simp |p::P,w::vs,i+1,m,c,e,b,d=>by show bindC _ ((p,w)::P.zip _) m x=_;exact Ku (i:=i) (gp.mp c).2 (by simp_all) (by simp_all) d
def start(N:List Str)(vs:List V):St:=vs.map some++List.replicate (N.length-vs.length) none
def nJ(CX:jo)(P:Program)(w:World)(K:PySem.W.Frag)(mg:Str->Option Value)(d:Heap)(N:List Str)(b:Str)(scope:Scope)(f:Addr)(g:Value)(A:Around)(a:List Env)(s:Shared)(H:Hp)(E:XK):Cx where prog:=P;w:=w;K:=K;mg:=mg;base:=d;A:=A.deeper (envOfC b scope s.heap.objs.size f g);N:=N;fC:=s;qK:=H;env:=envOfC b scope s.heap.objs.size f g;outer:=a;stack:=envOfC b scope s.heap.objs.size f g::a;ex:=[];calm:=true;fn:=fun _=>true;pn:=[];xe:=fun e h=>wpAny (model P w) (A.deeper (envOfC b scope s.heap.objs.size f g)) (leaving (envOfC b scope s.heap.objs.size f g) e) (fun _ c=>CX a H s E e c) (fun i c=>CX a H s E i c) h
theorem Kv{a:Scope}(h:a.names.lookup x=some .cell):∃c,(cellsFrom n a.names []).lookup x=some c:=Option.isSome_iff_exists.mp (oP _ n [] (.inl h))
theorem SV{K:PySem.W.Frag}(S:b_ N ps scope)(hd:A.handled=none)(d:pz P w K mg l A j s H)(U:vs.length=ps.length)(r:Vals vs us) (x:InCallC s s.heap.objs.size (bindL (envOfC g scope s.heap.objs.size f C).kindOf (ps.zip us) fun _=>none) (cellsFrom (s.heap.objs.size+1) scope.names []) (bindC (envOfC g scope s.heap.objs.size f C).kindOf (ps.zip us) fun _=>none) L): Inv (nJ CX P w K mg l N g scope f C A j s H E) [] (start N vs) H L:=by
  have Q:ps.length<=N.length:=by have:=dh List.length S.pre;grind
  obtain⟨G,R,rfl,I⟩:=x.done;have n:∀b,b∉(nJ CX P w K mg l N g scope f C A j s H E).ex:=fun b z=>absurd (show b∈[] from z) (by simp);refine⟨⟨d.mod,S.kind,rfl,rfl,aG _,fun y z c G m=>?_,fun y o=>?_,fun y c _ h=>?_,fun _=>hd,Around.frames_deeper d.frames,.inr ⟨rfl,rfl⟩,fun b z=>absurd z (n b),d.bs,d.uJ,fun b _ _=>n b,fun b z=>absurd z (n b),d.jK,d.t8,d.tb⟩, rfl,d.bare,Un.kept I,⟨_,x.toInCall.ns,fun i y v G m T=>?_⟩,fun y c h=>⟨_,x.cell y c h⟩,d.bI.fresh (aG _),fun y c h=>?_,fun p t=>absurd (show p∈[] from t) (by simp),d.bI.kept I,?_⟩;.exact name_of_addr x.apart (f_ G) (f_ m)
  . rcases o with o|o;.exact Kv o
    .exact absurd rfl (S.xC _ (f_ o))
  .exact il (x.above y c (f_ h))
  . have D:i<vs.length:=by
      unfold start at m;by_cases D:i<vs.length;.exact D
      .rw[iR (by simp_all),lD] at m;simp_all
    have M:vs[i]?=some v:=by unfold start at m;rw[gk (by simpa using D),cj] at m;cases e:vs[i]? with |none=>simp_all |some a=>rw[e] at m;cases m;rfl
    obtain⟨u,J,O⟩:=r.get M;have t:ps[i]?=some y:=by rwa[<-S.pre,List.getElem?_take_of_lt (by lia)]
    have B:ps.Nodup:=by rw[<-S.pre];exact S.nd.sublist (List.take_sublist _ _)
    refine⟨u,O,?_⟩;rcases S.par y (ib t) with k|k;.exact .inl ⟨k,Kt B t J k⟩
    .obtain⟨c,e⟩:=Kv k;refine .inr ⟨.inl k,c,e,?_⟩;have q:=x.cell y c e;rwa[Ku B t J (by show scope.names.lookup y≠_;rw[k];decide)] at q
  .exact d.bI.fresh (il (x.above y c (f_ h)))
  .unfold start;show _=N.length;rw[h7,aW,List.length_replicate];lia
theorem Cs{K:PySem.W.Frag}{X kV C Y d ct oc:Value}(lk:K.lookup f=some ⟨oc,od,.func (PySem.W.fnOf name a g j scope X kV C Y an d ct),uR⟩)(L:PySem.W.codeIn K d a=true)(S:b_ N ps scope) (z:∀vs H Q E,sp vs H Q E->vs.length=ps.length) (m:∀(A:Around)(c:List Env)(s:Shared)(H:Hp)(vs:List V)(Q:VK)(E:XK),cu k (A.deeper (envOfC a scope s.heap.objs.size f d))->sp vs H Q E-> ∃t,mz (nJ CX P w K mg i N a scope f d A c s H E) j t/\t {nx:=fun _ H'=>Q .non H',rt:=Q} (start N vs) H): cz P w K mg i CX (k+1) f (PySem.W.fnOf name a g j scope X kV C Y an d ct) ps sp:=by
 refine⟨z,fun A c s H args us vs Q E M G hb r B=>?_⟩;have T:=G.mod.wg.keeps fun b o e=>(G.bs b o e).1;have l:∀y∈ps.zip us,scope.names.lookup y.1=some .local\/(scope.names.lookup y.1=some _/\((cellsFrom (s.heap.objs.size+1) _ []).lookup y.1).isSome=true):=fun⟨n,v⟩ hy=>by
  rcases S.par n (nE hy).1 with q|q;.simp_all
  .exact .inr ⟨q,oP _ _ _ (.inl q)⟩
 refine codeAny_call_function M.depth (T _ _ lk) rfl S.co S.gen rfl (PySem.W.codeRec_of T L) (hb _ _ _ _ (wpAny_newFunctionEnv_cells S.kind l fun env he s1 x=>?_));subst he;refine⟨(G.mod.nolimit.keeps fun b o e=>(G.bs b o e).1).keeps x.toInCall.keep,codeAny_func ?_⟩;obtain⟨t,ht,hq⟩:=m A _ s H _ Q E (M.deeper _) B;have I:Inv (nJ CX P w K _ _ N _ _ f _ A _ s H E) _ _ H _:=SV S M.hd G (z _ _ _ _ B) r x;refine di (ht _ _ _ H _ I hq) (fun fl R p=>?_) fun e R p=>p;have D:∀{h:St}{H':Hp}{v:V}{u:Value},Inv (nJ CX P w K mg i N a scope f d A c s H E) [] h _ R->RelV v u->Q v _->CE _ P w H s Q u _:= fun{h H' v u} J O q=>⟨v,H',J.os,J.bare,J.base,J.bI,O,q⟩;cases fl with |ret u=> obtain⟨v,h,H',J,O,q⟩:=p;exact D J O q |next=> obtain⟨h,H',J,q⟩:=p;exact D (v:=V.non) J rfl q |brk=> obtain⟨_,_,_,q⟩:=p;exact False.elim q |cont=> obtain⟨_,_,_,q⟩:=p;exact False.elim q
section
variable{X:Cx}{x:Str}{p pos:Pos}{e:Expr}{es:List Expr}{t:TA}{id T:String}{r:List V->Hp->VK->Prop}
def rR(r:List V->Hp->VK->Prop)(t:TA):TE:=fun c H Q=>t c H fun a b=>r a b Q
theorem xD(m:mV X (.builtin id) r)(n:Gl X x)(q:X.mg x=none)(g:bootBuiltins x=some (.builtin id))(k:PA X (e::es) t)(o:x≠"__name__":=by decide)(b:(x==("__debug__":Str))=false:=by decide) (d:starEach (e::es) X.env=(false,eval e X.env)::starEach es X.env:=by rfl)(a:(backTo pos (starEach es X.env)).any (·.1)=false:=by rfl):PE X (.Call (.Name x p) (e::es) [] pos) (rR r t):=fun c s l H Q I h=>iv (pe I n q g (PyProof.Rows.callWith_builtin1 (bS (k _ _ s l H _ I h) fun u v ⟨_,_,i,f,j⟩=>m _ _ _ _ _ _ Q i f j) d a) o b)
theorem qw(l:mV X (.type T) r)(m:Gl X x)(o:X.mg x=none)(g:bootBuiltins x=some (.type T))(j:PA X (e::es) t)(n:x≠"__name__":=by decide)(b:(x==("__debug__":Str))=false:=by decide) (d:starEach (e::es) X.env=(false,eval e X.env)::starEach es X.env:=by rfl)(a:(backTo pos (starEach es X.env)).any (·.1)=false:=by rfl):PE X (.Call (.Name x p) (e::es) [] pos) (rR r t):=fun c s u H Q I h=>iv (pe I m o g (eW (bS (j _ _ s _ H _ I h) fun v q ⟨_,_,i,f,k⟩=>l _ _ _ _ _ _ Q i f k) d a) n b)
end
end L2
namespace HT
open PySem PyProof.Rows
section
variable {prog : Program} {w : World} {A : Around} {E : Value → Shared → Prop} {s : Shared}
theorem uS(p:IsTup s.heap t vs.toArray)(o:IsTup s.heap b ws.toArray)(r:vs≠[]) (h1:ws=[]->Q (.ref t) s)(h2:ws≠[]->Q (.ref s.heap.objs.size) {s with heap:=s.heap.push {cls:=.type "tuple",data:=.seq (vs++ws).toArray}}) (hsz:vs.length+ws.length<=sizeLine):wpAny (model prog w) A (binaryOp .Add (.ref t) (.ref b)) Q E s:=by
 obtain⟨⟨i,q,g,v⟩,c,j,n,k⟩:=id p;obtain⟨⟨h,m,data2,l⟩,a,e,u,d⟩:=id o;subst j k e d;by_cases f:ws=[];.exact concat_meets ⟨_,c,rfl⟩ ⟨_,a,rfl⟩ noFill_tuple_add seq_tuple_add oK oG (oF _ _) (tuple_addW1 t b _ _ n _ _ _ _ _ (by simp_all) (by simp[f])) ⟨c,a,h1 f⟩
 .refine concat_meets ⟨_,c,rfl⟩ ⟨_,a,rfl⟩ noFill_tuple_add seq_tuple_add oK oG (oF _ _) (tuple_addW2 t b _ _ n _ _ _ _ _ (by simp_all) (by grind) (by trivial)) ⟨c,a,?_⟩;simp_all
def dV(n d:Nat):Option Int->Nat |none=>d |some v=>if v<0 then(v+(n:Int)).toNat else min v.toNat n
theorem Kw(v:Int)(n d:Nat):(if v<0 then max (v+(n:Int)) 0 else min v (n:Int))=((dV n d (some v):Nat):Int):=by show(if v<0 then max _ 0 else min v n)=((if v<0 then(v+n).toNat else min _ n):Nat);grind
theorem SW(lo hi:Option Int)(n:Nat):Builtin.Slice.sliceAdjust lo hi 1 (n:Int)=(((dV n 0 lo:Nat):Int),((dV n n hi:Nat):Int)):=by
 refine Prod.ext ?_ ?_;.cases lo with |none=>rfl |some v=>exact Kw v n 0
 .cases hi with |none=>rfl |some v=>exact Kw v n n
theorem SX(i j:Nat):Builtin.Slice.slicePlaces (i:Int) (j:Int) 1=j-i:=by unfold Builtin.Slice.slicePlaces;lia
theorem Ky(p:IsPart v o)(h:Q o s):wpAny (model prog w) A (Builtin.Slice.slicePartIndex v) Q E s:=by cases p with |none=>exact slicePart_none h |int i t=>exact slicePart_int h
theorem Kz{lo hi:Option Int}{n:Nat}(i:s.heap.IsSliceOf c g d .none)(pl:IsPart g lo)(e:IsPart d hi) (h:Q (((dV n 0 lo:Nat):Int),1,dV n n hi-dV n 0 lo) s):wpAny (model prog w) A (Builtin.Slice.sliceApplied (.ref c) (pure (n:Int))) Q E s:=by obtain⟨os,a,f,b⟩:=id i;refine ah (ah (cm a b rfl (ah (cm a b rfl (ah (cm a b rfl (ax (ah (slicePart_none (ah (Ky pl (ah (Ky e (ah (ax ?_)))))))))))))));show wpAny _ _ (match Builtin.Slice.sliceAdjust _ _ 1 _ with|(lo,hi)=>pure (lo,(1:Int),Builtin.Slice.slicePlaces lo hi 1)) _ _ s;rw[SW _ _ n];show wpAny _ _ (pure _) _ _ s;rw[SX];exact ax h
theorem SY(xs:Array Value)(i k:Nat):((List.range k).filterMap fun(m:Nat)=>xs[((i:Int)+(m:Int)*1).toNat]?).toArray=((xs.toList.drop i).take k).toArray:=by
 have e:(fun(m:Nat)=>xs[((i:Int)+m*1).toNat]?)=fun m=>xs[i+m]?:=by
  funext m;have:((i:Int)+m*1).toNat=i+m:=by lia
  rw[this]
 have:=pick_run xs i k;have b:((fun x=>xs[x]?)∘fun x=>i+x)=fun m=>xs[i+m]?:=rfl;grind
theorem iZ{lo hi:Option Int}(b:IsTup s.heap t items)(g:s.heap.IsSliceOf k i l .none)(pl:IsPart i lo)(j:IsPart l hi) (o:¬(dV items.size 0 lo=0/\dV items.size items.size hi=items.size)) (h:Q (.ref s.heap.objs.size) {s with heap:=s.heap.push {cls:=.type "tuple",data:=.seq ((items.toList.drop (dV items.size 0 lo)).take (dV items.size items.size hi-dV items.size 0 lo)).toArray}}) (hsz:items.size<=sizeLine):wpAny (model prog w) A (getItem (.ref t) (.ref k)) Q E s:=by
 have a:sizeOk (.seq ((items.toList.drop (dV items.size 0 lo)).take (dV items.size items.size hi-dV items.size 0 lo)).toArray):=by show((items.toList.drop _).take _).toArray.size<=sizeLine;rw[d9,qo,sD,oC];omega
 obtain⟨os,d,e,m⟩:=id g;have f:s.TypeIs (.ref _) _:=⟨_,d,e⟩;unfold getItem;try with_reducible refine dB ?_
 refine ah (wpAny_sequenceKey b.typeIs rfl (ah (iw b.typeIs jf (iy jf b.typeIs entry_tuple_getitem ?_ (args_tuple_getitem _ _)))));show wpAny _ _ (Builtin.Tuple.tupleItemsOf _>>=_) _ _ s;refine ah (tupleItemsOf_ b (ah (jk f (ah (Kz g pl j ?_)))));have c:¬(((dV items.size 0 lo:Int)==0&&(1:Int)==1&&(dV items.size items.size hi-dV items.size 0 lo)==items.size)=true):=by intro q;rw[ka,ka] at q;have n:=eq_of_beq q.1.1;simp_all
 show wpAny _ _ (if((dV _ 0 _:Int)==0&&1==1&&(dV _ _ _-dV _ 0 _)==items.size)=true then _ else _) _ _ s;rw[ao c,SY];first |exact ah (kr (ax ⟨_,rfl,ax h⟩) a) |rfl |rfl |rfl
end
end HT
namespace L2
open PySem PySem.Spec PyProof.Rows
abbrev TO:=St->Hp->(Option Int->Hp->Prop)->Prop
def PO(X:Cx)(e:Option Expr)(t:TO):Prop:= ∀(a:List (Addr×Obj))(s:Shared)(b:St)(H:Hp)(Q:Option Int->Hp->Prop),Inv X a b H s->t b H Q-> wpAny (model X.prog X.w) X.A (evalPart e X.env) (fun u d=>∃o c,Inv X a b c d/\IsPart u o/\Q o c) X.xe s
def KA:TO:=fun _ H Q=>Q none H
def KC(t:TE):TO:=fun a H Q=>t a H fun x b=>∃i,x=.int i/\Q (some i) b
section
variable{X:Cx}{e:Expr}{te:TE}{lo hi:Option Expr}{tl th:TO}{pos p2:Pos}
theorem nK:PO X none KA:=fun a s b H Q I h=>ax ⟨_,H,I,.none,h⟩
theorem mF(h:PE X e te):PO X (some e) (KC te):=by intro a s j H Q I b;refine bS (h _ s _ H _ I b) fun u g ⟨x,_,f,d,c⟩=>?_;obtain⟨i,rfl,q⟩:=c;obtain⟨t,rfl⟩:=d;exact⟨_,_,f,.int i t,q⟩
def Ct(X:Cx)(r:V->Option Int->Option Int->Hp->VK->Prop):Prop:= ∀(a:List (Addr×Obj))(s:Shared)(f:St)(H:Hp)(x:V)(v d c:Value)(lo hi:Option Int)(b:Addr)(Q:VK),Inv X a f H s->RelV x v->s.heap.IsSliceOf b d c .none->IsPart d lo->IsPart c hi->r x lo hi H Q-> ∃T id,typeLookup (.type T) "__getitem__"=pure (some (.builtin id))/\s.TypeIs v T/\wpAny (model X.prog X.w) X.A (getItem v (.ref b)) (EP X a f Q) X.xe s
def EF(r:V->Option Int->Option Int->Hp->VK->Prop)(te:TE)(tl th:TO):TE:=fun a H Q=>te a H fun x d=>tl a d fun l b=>th a b fun u c=>r x l u c Q
theorem mY(f:Ct X r)(D:PE X e te)(z:PO X lo tl)(C:PO X hi th):PE X (.Subscript e (.Slice lo hi none p2) pos) (EF r te tl th):=by intro c s G H Q I h;refine Subscript_ (bS (D _ s _ H _ I h) fun v J ⟨x,_,j,t,g⟩=>(wpAny_Slice (bS (z _ _ _ _ _ j g) fun y L ⟨l,_,m,i,k⟩=>bS (C _ _ _ _ _ m k) fun p a ⟨u,_,w,n,B⟩=>(ax ?_))));have o:Inv X _ _ _ {a with heap:=a.heap.push {cls:=.type "slice",data:=.fields #[y,p,.none]}}:=w.kept fun b M q=>aO _ q;obtain⟨T,id,A,d,E⟩:=f _ _ _ _ x v _ _ l u _ Q o t (Heap.IsSliceOf.new ..) i n B;exact tail_any d A E rfl
def mG(xs:List V)(lo hi:Option Int):List V:=(xs.drop (HT.dV xs.length 0 lo)).take (HT.dV xs.length xs.length hi-HT.dV xs.length 0 lo)
theorem KD(xs:List V)(lo hi:Option Int):(mG xs lo hi).length<=xs.length:=by unfold mG;rw[qo,sD];lia
def EG(K:PySem.W.Frag):V->Option Int->Option Int->Hp->VK->Prop:=fun x lo hi H Q=>∃a b,x=.ref a/\jU K H a b/\ ¬(HT.dV b.length 0 lo=0/\HT.dV b.length b.length hi=b.length)/\∀p,H p=none->Q (.ref p) (upd H p (.tup (mG b lo hi)))
theorem S0:Ct X (EG X.K):=by rintro f s t H x v u y lo hi w Q I m l n j ⟨a,i,rfl,h,o,q⟩;cases m;obtain⟨d,r,g,k⟩:=I.tuple h;have c:d.toArray.size=i.length:=r.length.symm;refine⟨_,_,jf.lookup,g.typeIs,(HT.iZ g l n j (by simp_all) ?_ (by lia))⟩;rw[c];refine⟨.ref _,_,I.laid (fun b p q=>aO _ q) (aG _) ?_,rfl,q _ (I.bI.fresh (aG _))⟩;exact⟨bK (KD _ _ _) k,_,(r.drop _).take _,IsTup.new _ _⟩
def S1(K:PySem.W.Frag):R2:=fun x y H Q=>∃a b d c,x=.ref a/\y=.ref b/\jU K H a d/\jU K H b c/\d≠[]/\d.length+c.length<=sizeLine/\ (c=[]->Q (.ref a) H)/\(c≠[]->∀p,H p=none->Q (.ref p) (upd H p (.tup (d++c))))
theorem Vals.jW(r:Vals xs us):us=[]↔xs=[]:=by cases r with |nil=>simp |cons _ _=>simp
theorem S2:iI X (binaryOp .Add) (S1 X.K):=by rintro g s t H x y v u Q I n h ⟨a,b,C,A,rfl,rfl,k,o,i,B,j,l⟩;cases n;cases h;obtain⟨m,d,p,_⟩:=I.tuple k;obtain⟨f,c,p2,_⟩:=I.tuple o;refine HT.uS p p2 (fun z=>i (d.jW.mp z)) (fun z=>⟨.ref a,H,I,rfl,j (c.jW.mp z)⟩) (fun z=>(⟨.ref _,_,I.laid (fun b r q=>aO _ q) (aG _) ?_,rfl,l (fun w=>z (c.jW.mpr w)) _ (I.bI.fresh (aG _))⟩)) (by rwa[<-d.length,<-c.length]);exact⟨by simp_all,_,d.append c,IsTup.new _ _⟩
end
noncomputable def gK(n:Nat)(i:Int):Option Nat:=if 0<=i then(if i<n then some i.toNat else none) else if-(n:Int)<=i then some (i+n).toNat else none
def jd{α:Type}(xs:List α)(i:Int):Option α:=(gK xs.length i).bind fun j=>xs[j]?
theorem KG(h:gK n i=some j):seqIndex? i n=some j/\j<n/\-(n:Int)<=i/\i<n:=by
  unfold gK at h;by_cases b:0<=i
  . rw[aq b] at h;by_cases a:i<n;.rw[aq a] at h;have e:=dU h;exact⟨by rw[seqIndex_of b a,e],by lia,by lia,a⟩
    simp_all
  . rw[ao b] at h;by_cases a:-n<=i;.rw[aq a] at h;have e:=dU h;exact⟨by rw[l8 (by lia) a,e],by lia,a,by lia⟩
    simp_all
theorem EH(h:jd xs i=some v):∃j,seqIndex? i xs.length=some j/\xs[j]?=some v/\j<xs.length/\-(xs.length:Int)<=i/\i<xs.length:=by unfold jd at h;cases e:gK xs.length i with |none=>simp_all |some j=> obtain⟨a,d,b,c⟩:=KG e;simp_all
theorem mH{xs:List α}{j:Nat}{v:α}(h:xs[j]?=some v):jd xs (j:Int)=some v:=by
 have a:=(b'.mp h).1;have e:gK xs.length j=some j:=by unfold gK;rw[aq (by lia),aq (by lia)];simp
 unfold jd;simp_all
def EI(b:Expr):Prop:=∀o i,subscripted b false o i=operate [o,i] (getItem o i)
def EJ(X:Cx)(r:R2):Prop:= ∀(c a:Expr)(b:List (Addr×Obj))(s:Shared)(d:St)(H:Hp)(x y:V)(v u:Value)(Q:VK),Inv X b d H s->RelV x v->RelV y u->r x y H Q-> subscripted a false v u=operate [v,u] (getItem v u)->wpAny (model X.prog X.w) X.A (subscriptTail c a v u) (EP X b d Q) X.xe s
def KH(X:Cx)(id:String)(r:V->List V->Hp->VK->Prop):Prop:= ∀(a:List (Addr×Obj))(s:Shared)(d:St)(H:Hp)(x:V)(b:List V)(v:Value)(c:List Value)(Q:VK),Inv X a d H s->RelV x v->Vals b c->r x b H Q-> wpAny (model X.prog X.w) X.A (call (.builtin id) (v::c)) (EP X a d Q) X.xe s
section
variable{X:Cx}{a b:Expr}{ta tb:TE}{pos:Pos}
theorem xE{r:R2}(f:EJ X r)(i:PE X a ta)(j:PE X b tb)(g:EI b):PE X (.Subscript a b pos) (rQ r ta tb):=fun c s n H Q I h=>Subscript_ (xy i j I h fun v u l x y m k e d q=>f a b _ _ _ _ x y v u Q k e d q (g _ _))
def qS(K:PySem.W.Frag):R2:=fun x y H Q=>∃p c i v,x=.ref p/\y=.int i/\fX K H p c/\jd c i=some v/\Q v H
def uT(K:PySem.W.Frag):R2:=fun x y H Q=>∃p c i v,x=.ref p/\y=.int i/\jU K H p c/\jd c i=some v/\Q v H
theorem EK:EJ X (qS X.K):=by
  rintro h g n s T H x y v u Q I A J ⟨p,L,i,z,rfl,rfl,D,E,q⟩ m;cases A;obtain⟨t,rfl⟩:=J;obtain⟨f,r,d,O⟩:=I.list D;obtain⟨j,l,o,R,C,G⟩:=EH E;obtain⟨w,S,e⟩:=r.get o;have N:=r.length;have M:=AK;have c:EP X _ _ Q w s:=⟨z,H,I,e,q⟩;by_cases k:0<=i
  . have B:i.toNat=j:=by rw[seqIndex_of k G] at l;simp_all
    exact item_listR d.isList k (by lia) (by simp_all) c m
  . have B:(i+f.toArray.size).toNat=j:=by rw[l8 (by lia) C] at l;simp_all
    exact subscriptTail_builtinR d.isList.typeIs slot_list_getitem.lookup (wpAny_getItem_list_neg d.isList (by lia) (by simp_all) (by lia) (by simp_all) ⟨rfl,c⟩) m
theorem Cu:EJ X (uT X.K):=by rintro f e h s O H x y v u Q I m n ⟨p,E,i,z,rfl,rfl,o,C,q⟩ B;cases m;obtain⟨t,rfl⟩:=n;obtain⟨A,r,g,J⟩:=I.tuple o;obtain⟨j,G,k,M,N,D⟩:=EH C;obtain⟨w,l,d⟩:=r.get k;have L:=AK;have c:EP X _ _ Q w s:=⟨z,H,I,d,q⟩;exact subscriptTail_builtinR g.typeIs slot_tuple_getitem.lookup (getItem_tuple g (by lia) (by lia) (by rwa[d9,<-r.length]) (by simpa using l) ⟨rfl,c⟩) B
theorem S4(its:List Value)(n j:Nat)(u:Value):Obj.mapSeq (·.setIfInBounds j u) {cls:=.type "list",data:=.seq its.toArray n}={cls:=.type "list",data:=.seq (its.set j u).toArray n}:=by simp[Obj.mapSeq]
theorem Inv.lst{pins:List (Addr×Obj)}{σ:St}{H:Hp}{s:Shared}{p:Addr}{xs:List V}(I:Inv X pins σ H s)(h:H p=some (.lst xs)): ∃(its:List Value) (n:Nat),Vals xs its/\s.heap.get? p=some {cls:=.type "list",data:=.seq its.toArray n}/\xs.length<=sizeLine:=by obtain⟨z,its,n,r,e⟩:=I.bI p _ h;simp_all
theorem Inv.xF{its qT:List Value}(I:Inv X pins σ H s)(h:H p=some (.lst xs)) (i:s.heap.get? p=some {cls:=.type "list",data:=.seq its.toArray n})(c:f {cls:=.type "list",data:=.seq its.toArray n}={cls:=.type "list",data:=.seq qT.toArray g})(r:Vals ys qT)(hz:ys.length<=sizeLine)(t:Nat): Inv X pins σ (upd H p (.lst ys)) {s with heap:=s.heap.update p f,toks:=t}:=by
 have e:(s.heap.update p f).get? p=some {cls:=.type "list",data:=.seq qT.toArray g}:=by rw[jC f i (by rw[c]<;>rfl),c]
 refine I.write (by rw[h];trivial) (.inl rfl) (fun b u d q=>(fO _ _ (aR d)).trans q) ⟨_,e⟩ ?_;exact⟨hz,_,_,r,e⟩
def Cv:V->V->V->Hp->(Hp->Prop)->Prop:=fun o i v H Q=>∃p c k j,o=.ref p/\i=.int k/\H p=some (.lst c)/\gK c.length k=some j/\Q (upd H p (.lst (c.set j v)))
theorem Cw:xq X Cv:=by
  rintro w s G H o i v M L u Q I C x z ⟨p,E,k,j,rfl,rfl,f,A,q⟩;cases C;obtain⟨t,rfl⟩:=x;obtain⟨c,n,r,d,D⟩:=I.lst f;obtain⟨g,N,B,y⟩:=KG A;have m:=r.length;have J:=AK;have h:Inv X _ _ _ {s with heap:=s.heap.update p _}:= I.xF f d (S4 _ n j u) (r.set z j) (by simp_all) _;by_cases l:0<=k
  . have e:k.toNat=j:=by rw[seqIndex_of l y] at g;simp_all
    exact PySem.W.ki_setAt d l (by lia) (by rwa[d9,<-m]) (by rw[e];exact⟨_,h,q⟩)
  . have e:(k+c.toArray.size).toNat=j:=by rw[l8 (by lia) B] at g;simp_all
    exact PySem.W.ki_setBack d (by lia) (by rwa[d9,<-m]) (by lia) (by rw[e];exact⟨_,h,q⟩)
theorem S5(lo hi:Option Int)(n:Nat):(sliceBounds lo hi none n).1=((HT.dV n 0 lo:Nat):Int)/\(sliceBounds lo hi none n).2.1=((HT.dV n n hi:Nat):Int)/\(sliceBounds lo hi none n).2.2=1:=by
 refine⟨?_,?_,rfl⟩;.cases lo with |none=>rfl |some i=> simp[sliceBounds,HT.dV];grind
 .cases hi with |none=>rfl |some i=> simp[sliceBounds,HT.dV,show 1>0 by decide];grind
theorem S6(its:List Value)(lo hi:Option Int):slicePick its.toArray lo hi none=((its.drop (HT.dV its.length 0 lo)).take (HT.dV its.length its.length hi-HT.dV its.length 0 lo)).toArray:=by obtain⟨c,e,d⟩:=S5 _ _ _;unfold slicePick;rw[c,e,d];simp only[sliceRange_one,pick_run]<;>rfl
def AO(K:PySem.W.Frag):V->Option Int->Option Int->Hp->VK->Prop:=fun x lo d H Q=>∃a c,x=.ref a/\fX K H a c/\∀p,H p=none->Q (.ref p) (upd H p (.lst (mG c lo d)))
theorem qx:Ct X (AO X.K):=by rintro d s p H x v u t lo n m Q I k j g l ⟨a,w,rfl,h,q⟩;cases k;obtain⟨f,r,e,i⟩:=I.list h;have c:=r.length;refine⟨_,_,slot_list_getitem.lookup,e.isList.typeIs,(wpAny_getItem_list_slice e.isList j g l .none (by simp) ?_ (by simp_all))⟩;rw[S6,<-c];refine⟨.ref _,_,I.laid (fun b o q=>aO _ q) (aG _) ?_,rfl,q _ (I.bI.fresh (aG _))⟩;exact⟨bK (KD _ _ _) i,_,0,(r.drop _).take _,cg _ rfl⟩
def uU:V->Bool |.non=>true |.bl _=>true |.int _=>true |.str _=>true |_=>false
noncomputable def ud:V->V->Bool |.non,.non=>true |.bl a,.bl b=>a==b |.bl a,.int b=>(if a then 1 else 0)==b |.int a,.bl b=>a==(if b then 1 else 0) |.int a,.int b=>a==b |.str a,.str b=>a==b |_,_=>false
theorem S7(j:RelV y u)(c:RelV x v)(k:uU y=true)(i:uU x=true):SeqAt.EqAt A s u v (ud y x):=by cases y with
 |non=> cases j;cases x with |non=>cases c;exact SeqAt.EqAt.same _ |bl b=>cases c;exact SeqAt.EqAt.none_bool b |int b=>obtain⟨t,rfl⟩:=c;exact SeqAt.EqAt.none_int b t |str b=>obtain⟨t,rfl⟩:=c;exact SeqAt.EqAt.none_str b t |_=>exact absurd (show false=true from i) fA
 |bl a=> cases j;cases x with |non=>cases c;exact SeqAt.EqAt.bool_none a |bl b=>cases c;exact SeqAt.EqAt.bool_bool a b |int b=>obtain⟨t,rfl⟩:=c;exact SeqAt.EqAt.bool_int a b t |str b=>obtain⟨t,rfl⟩:=c;exact SeqAt.EqAt.bool_str a b t |_=>exact absurd (show false=true from i) fA
 |int a=> obtain⟨g,rfl⟩:=j;cases x with |non=>cases c;exact SeqAt.EqAt.int_none a g |bl b=>cases c;exact SeqAt.EqAt.int_bool a g b |int b=>obtain⟨t,rfl⟩:=c;exact SeqAt.EqAt.int_int a g b t |str b=>obtain⟨t,rfl⟩:=c;exact SeqAt.EqAt.int_str a g b t |_=>exact absurd (show false=true from i) fA
 |str a=> obtain⟨g,rfl⟩:=j;cases x with |non=>cases c;exact SeqAt.EqAt.str_none a g |bl b=>cases c;exact SeqAt.EqAt.str_bool a g b |int b=>obtain⟨t,rfl⟩:=c;exact SeqAt.EqAt.str_int a g b t |str b=>obtain⟨t,rfl⟩:=c;exact SeqAt.EqAt.str_str a g b t |_=>exact absurd (show false=true from i) fA
 |_=>exact absurd (show false=true from k) fA
def xG(x:V)(u:Value):Bool:=match u with |.none=>ud .non x |.bool b=>ud (.bl b) x |.int i _=>ud (.int i) x |.str z _=>ud (.str z) x |_=>false
theorem KI(r:RelV y u)(f:uU y=true):xG x u=ud y x:=by cases y with |non=>cases r;rfl |bl b=>cases r;rfl |int i=>obtain⟨t,rfl⟩:=r;rfl |str z=>obtain⟨t,rfl⟩:=r;rfl |_=>exact absurd f fA
theorem AQ:∀{xs:List V}{us:List Value},Vals xs us->xs.all uU=true->us.any (xG x)=xs.any fun y=>ud y x |_,_,.nil,_=>rfl |y::xs,u::us,.cons r t,f=>by rw[kb,ka] at f;rw[iQ,iQ,KI r f.1,AQ t f.2]
theorem AR(e:RelV x v)(g:uU x=true):∀{xs:List V}{us:List Value},Vals xs us->xs.all uU=true->∀u∈us,SeqAt.EqAt A s u v (xG x u)
 |_,_,.nil,_=>fun u d=>by cases d |y::xs,u::us,.cons r t,f=>fun h d=>by
  rw[kb,ka] at f;rcases aY.mp d with rfl|d;.rw[KI r f.1];exact S7 r e f.1 g
  .exact AR e g t f.2 _ d
def Cy(x:V)(xs:List V):Bool:=xs.any fun y=>ud y x
def Cz(K:PySem.W.Frag)(d:Bool):R2:=fun x y H Q=>∃p c,y=.ref p/\(fX K H p c\/jU K H p c)/\uU x=true/\c.all uU=true/\Q (.bl (if d then !Cy x c else Cy x c)) H
theorem KJ:iI X (compareOp .In) (Cz X.K false):=by
 rintro i s m H x y v u Q I h j ⟨p,n,rfl,d,g,e,q⟩;cases j;rcases d with d|d;.obtain⟨c,r,f,k⟩:=I.list d;refine SeqAt.in_listAt _ f.isList (fun w l=>AR h g r e w (by simp_all)) ⟨.bl _,H,I,rfl,?_⟩;rwa[show c.toArray.any _=c.any (xG x) by simp,AQ r e]
 .obtain⟨c,r,f,k⟩:=I.tuple d;refine SeqAt.in_tupleAt _ f (fun w l=>AR h g r e w (by simp_all)) ⟨.bl _,H,I,rfl,?_⟩;rwa[show c.toArray.any _=c.any (xG x) by simp,AQ r e]
theorem S8:iI X (compareOp .NotIn) (Cz X.K true):=by
 rintro i s m H x y v u Q I h j ⟨p,n,rfl,d,g,e,q⟩;cases j;rcases d with d|d;.obtain⟨c,r,f,k⟩:=I.list d;refine SeqAt.notIn_listAt _ f.isList (fun w l=>AR h g r e w (by simp_all)) ⟨.bl _,H,I,rfl,?_⟩;rwa[show c.toArray.any _=c.any (xG x) by simp,AQ r e]
 .obtain⟨c,r,f,k⟩:=I.tuple d;refine SeqAt.notIn_tupleAt _ f (fun w l=>AR h g r e w (by simp_all)) ⟨.bl _,H,I,rfl,?_⟩;rwa[show c.toArray.any _=c.any (xG x) by simp,AQ r e]
theorem ft:mV X (.builtin "len") (fun xs H Q=>∃p ys,xs=[.ref p]/\(fX X.K H p ys\/jU X.K H p ys)/\Q (.int ys.length) H):=by
 rintro h s m H xs l Q I r ⟨p,ys,rfl,d,q⟩;obtain⟨u,rfl,j⟩:=mD r;cases j;have k:=AK;rcases d with d|d;.obtain⟨e,f,g,i⟩:=I.list d;have c:=f.length;exact Calls.call_len_list g.isList (by simp<;>lia) ⟨.int _,H,I.tok _,⟨s.toks+1,by simp_all⟩,q⟩
 .obtain⟨e,f,g,i⟩:=I.tuple d;have c:=f.length;exact len_tuple g (by simp<;>lia) ⟨.int _,H,I.tok _,⟨s.toks+1,by simp_all⟩,q⟩
theorem wq:mV X (.type "list") (fun xs H Q=>∃p ys,xs=[.ref p]/\(fX X.K H p ys\/jU X.K H p ys)/\∀l,H l=none->Q (.ref l) (upd H l (.lst ys))):=by
 rintro y s A H xs B Q I r ⟨p,ys,rfl,h,q⟩;obtain⟨u,rfl,z⟩:=mD r;cases z;have k:∀(c:List _),Vals _ c->ys.length<=sizeLine->∀(f:Heap)(m:Nat),(∀b C,s.heap.get? b=some _->f.get? b=some _)-> f.get? _=some {cls:=.type _,dict:=none,data:=.seq _ m,slots:=#[]}->EP X _ _ Q _ {s with heap:=f}:=fun c d j f m i e=> ⟨.ref _,_,I.laid i (aG _) (show dv _ _ _ _ _ (.lst _) from⟨j,_,_,d,e⟩),rfl,q _ (I.bI.fresh (aG _))⟩;rcases h with h|h;.obtain⟨c,d,t,j⟩:=I.list h;have g:=d.length;obtain⟨o,x,w,n,v⟩:=t.isList;exact call_list_seq p (.inl rfl) x w v (fun f m i e=>k _ d j _ _ i e) (by simp<;>lia)
 .obtain⟨c,d,t,j⟩:=I.tuple h;have g:=d.length;obtain⟨o,x,w,n,v⟩:=t;exact call_list_seq p (.inr rfl) x w v (fun f m i e=>k _ d j _ _ i e) (by simp<;>lia)
def EL(K:PySem.W.Frag)(T:String)(x:V)(H:Hp):Prop:=match x with |.str _=>T="str" |.int _=>T="int" |.ref p=>(T="list"/\∃d,fX K H p d)\/(T="tuple"/\∃o,K.lookup p=some o/\o.cls=.type "tuple"/\o.dict=none)\/ (T="dict"/\((∃c,H p=some (.dK c))\/∃c,H p=some (.dT c)))\/(T="set"/\∃S n,H p=some (.set S n)) |_=>False
theorem KL(I:Inv X pins σ H s)(r:RelV x v)(g:EL X.K T x H): s.TypeIs v T/\∀a,v=.ref a->∃l,s.heap.get? a=some l/\l.dict=none:=by
  cases x with |str z=> obtain⟨t,rfl⟩:=r;cases(g);exact⟨rfl,fun _ e=>nomatch e⟩ |int i=> obtain⟨t,rfl⟩:=r;cases g;exact⟨rfl,fun _ e=>nomatch e⟩ |ref p=>
    cases r;rcases g with⟨rfl,C,B⟩|⟨rfl,o,d,A,j⟩|⟨rfl,d⟩|⟨rfl,S,n,d⟩;.obtain⟨y,_,m,_⟩:=I.list B;refine⟨m.isList.typeIs,fun a e=>?_⟩;cases e;obtain⟨o,n,e,c,j,_⟩:=m;exact⟨o,e,j⟩
    .refine⟨⟨o,I.iD p o d,A⟩,fun a e=>?_⟩;cases e;exact⟨o,I.iD _ o d,j⟩
    . have z:∃o,s.heap.get? p=some o/\o.ExactDict:=by
        rcases d with⟨h,d⟩|⟨h,d⟩;.obtain⟨_,_,_,_,o,_,_,e,f,_⟩:=I.bI p _ d;grind
        .obtain⟨_,_,_,_,o,_,_,e,f,_⟩:=I.bI p _ d;exact⟨o,e,f⟩
      obtain⟨o,e,f⟩:=z;refine⟨⟨o,e,f.1⟩,fun a k=>?_⟩;cases k;exact⟨o,e,f.2.1⟩
    .obtain⟨o,_,_,_,e,f,_⟩:=I.bI p _ d;refine⟨⟨o,e,f.1⟩,fun a k=>?_⟩;cases k;exact⟨o,e,f.2.1⟩ |_=>exact False.elim g
def xH(K:PySem.W.Frag)(T:String)(r:V->List V->Hp->VK->Prop)(d:TE):TE:=fun e H Q=>d e H fun x c=>EL K T x c/\r x [] c Q
def xI(K:PySem.W.Frag)(T:String)(r:V->List V->Hp->VK->Prop)(f:TE)(t:TA):TE:=fun c H Q=>f c H fun x d=>EL K T x d/\t c d fun e g=>r x e g Q
variable{o e:Expr}{es:List Expr}{to:TE}{t:TA}{name:Str}{apos dD:Pos}{T id:String}{r:V->List V->Hp->VK->Prop}
theorem EM(q:PlainAttrs T)(f:Slot T name id)(g:typeOf (.builtin id)=pure (.type "method_descriptor"))(n:KH X id r)(m:PE X o to) (c:attributeBase o name X.env (eval o X.env)=eval o X.env:=by rfl)(d:(apos.endLine==dD.line)=true:=by rfl):PE X (.Call (.Attribute o name apos) [] [] dD) (xH X.K T r to):=by intro k s z H Q I h;refine wpAny_Call_method0_late c d (bS (m _ s _ H _ I h) fun v y ⟨x,_,j,i,p,u⟩=>?_);obtain⟨w,l⟩:=KL j i p;exact⟨T,_,q,f,g,w,l,xj rfl (PySem.evalArgs_none (n _ _ _ _ x _ v _ Q j i .nil u))⟩
theorem AS(u:PlainAttrs T)(g:Slot T name id)(j:typeOf (.builtin id)=pure (.type "method_descriptor"))(z:KH X id r)(C:PE X o to)(A:PA X (e::es) t) (c:attributeBase o name X.env (eval o X.env)=eval o X.env:=by rfl) (f:((backTo dD (starEach (e::es) X.env)).all (fun x=>!x.1)&&(backToKw dD (keywordEach [] X.env)).all (fun x=>x.1.isSome) &&decide ((e::es).length+([]:List Keyword).length+(if([]:List Keyword).isEmpty then 0 else 1)<30))=true:=by rfl) (d:(apos.endLine==dD.line)=true:=by rfl)(q:starEach (e::es) X.env=(false,eval e X.env)::starEach es X.env:=by rfl)(i:(backTo dD (starEach es X.env)).any (·.1)=false:=by rfl): PE X (.Call (.Attribute o name apos) (e::es) [] dD) (xI X.K T r to t):=by intro n s N H Q I h;refine wpAny_Call_method_late c f d rfl (bS (C _ s _ H _ I h) fun v J ⟨x,_,l,k,B,E⟩=>?_);obtain⟨D,p⟩:=KL l k B;refine⟨T,_,u,g,j,D,p,?_⟩;have m:=A dD _ _ _ _ _ l E;rw[q] at m⊢;exact xj (by grind) (p5 (bS m fun M L ⟨_,_,G,w,y⟩=>z _ _ _ _ x _ v _ Q G k w y))
end
def EO(X:Cx)(id:String)(r:V->List V->Hp->VK->Prop):Prop:= ∀(a:List (Addr×Obj))(s:Shared)(d:St)(H:Hp)(x:V)(b:List V)(v:Value)(c:List Value)(Q:VK),Inv X a d H s->RelV x v->Vals b c->r x b H Q-> wpAny (model X.prog X.w) X.A (call (.builtin id) (v::c)) (EP X a d Q) X.xe s
theorem Vals.one:∀{x:V}{us:List Value},Vals [x] us->∃u,us=[u]/\RelV x u |_,_,.cons r .nil=>⟨_,rfl,r⟩
theorem Vals.zero:∀{us:List Value},Vals [] us->us=[] |_,.nil=>rfl
theorem Vals.dropLast(h:Vals xs us):Vals xs.dropLast us.dropLast:=by induction h with |nil=>exact .nil |cons r t c=> cases t with |nil=>simp_all |cons q d=>exact .cons r c
theorem Vals.reverse(h:Vals xs us):Vals xs.reverse us.reverse:=by induction h with |nil=>exact .nil |cons r t b=>rw[qt,qt];exact Vals.append b (.cons r .nil)
section
variable{X:Cx}{pins:List (Addr×Obj)}{σ:St}{H:Hp}{s:Shared}{l b:Addr}{xs ys zs:List V}
theorem Inv.uV{its qT:List Value}(I:Inv X pins σ H s)(c:H l=some (.lst xs)) (e:s.heap.get? l=some {cls:=.type "list",data:=.seq its.toArray n})(g:f its.toArray=qT.toArray)(d:Vals ys qT)(hz:ys.length<=sizeLine): Inv X pins σ (upd H l (.lst ys)) {s with heap:=s.heap.update l (Obj.mapSeq f),toks:=t'}:=by have q:=PySem.IsL.update e f;rw[g] at q;refine I.write (by rw[c];exact trivial) (.inl rfl) (fun i u a h=>(fO _ _ (aR a)).trans h) ⟨_,q⟩ ?_;exact⟨hz,_,_,d,q⟩
theorem Inv.ER(I:Inv X pins σ H s)(a:Vals ys its)(hz:ys.length<=sizeLine): Inv X pins σ (upd H s.heap.objs.size (.lst ys)) {s with heap:=s.heap.push {cls:=.type "list",data:=.seq its.toArray},toks:=t'}:= I.laid (fun _ _ q=>aO _ q) (aG _) ⟨hz,_,0,a,cg _ rfl⟩
theorem Inv.fresh(I:Inv X pins σ H s):H s.heap.objs.size=none:=I.bI.fresh (aG _)
theorem Inv.qU(I:Inv X pins σ H s)(a:H l=some (.lst xs)):xs.length<=sizeLine/\∃(its:List Value) (n:Nat),Vals xs its/\xs.length=its.length/\s.heap.get? l=some {cls:=.type "list",data:=.seq its.toArray n}:=let⟨z,_,n,r,e⟩:=I.bI l _ a;⟨z,_,n,r,r.length,e⟩
theorem KN(h:n<=sizeLine):Builtin.List.listTooLong n=false:=by unfold Builtin.List.listTooLong;simp_all
end
section
variable {X : Cx}
def y6:V->List V->Hp->VK->Prop:=fun x b H Q=>∃l a y,x=.ref l/\b=[y]/\H l=some (.lst a)/\a.length<sizeLine/\Q .non (upd H l (.lst (a++[y])))
theorem CA:EO X "list.append" y6:=by rintro a s m H x i v k Q I c d ⟨l,j,y,rfl,rfl,b,o,q⟩;cases c;obtain⟨u,rfl,f⟩:=d.one;obtain⟨z,g,n,r,h,e⟩:=I.qU b;refine call_meets F.slot_list_append ⟨_,e,rfl⟩ F.entry_list_append (F.args_list_append_2 _ _) (PySem.list_append l _ n u (by simp_all)) ⟨e,(⟨.non,_,I.uV b e (by simp) (r.append (.cons f .nil)) ?_,rfl,q⟩)⟩;rw[h7,sF];lia
def KO:V->List V->Hp->VK->Prop:=fun x d H Q=>∃l b c a,x=.ref l/\d=[.ref b]/\H l=some (.lst c)/\H b=some (.lst a)/\c.length+a.length<=sizeLine/\Q .non (upd H l (.lst (c++a)))
theorem KP:EO X "list.extend" KO:=by
 rintro h s G H x E v w Q I i o ⟨l,b,A,B,rfl,rfl,g,m,y,q⟩;cases i;obtain⟨u,rfl,k⟩:=o.one;cases k;obtain⟨z,c,n,r,C,e⟩:=I.qU g;obtain⟨J,a,D,j,p,t⟩:=I.qU m;have f:c.toArray.size+a.toArray.size<=sizeLine:=by rw[d9,d9];lia
 have d:¬(!c.toArray.isEmpty&&Builtin.List.listTooLong (c.toArray.size+a.toArray.size))=true:=by rw[KN f];simp
 refine call_meets F.slot_list_extend ⟨_,e,rfl⟩ F.entry_list_extend (F.args_list_extend_2 _ _) (AutoSeq1.list_extend_list_list_0 l _ n b _ _ d (by lia) (by lia)) ⟨e,t,(⟨.non,_,I.uV g e (by simp) (r.append j) ?_,rfl,q⟩)⟩;simp_all
def xJ:V->List V->Hp->VK->Prop:=fun x b H Q=>∃l a y,x=.ref l/\b=[]/\H l=some (.lst a)/\a[a.length-1]?=some y/\Q y (upd H l (.lst a.dropLast))
theorem ES:EO X "list.pop" xJ:=by
 rintro f s t H x o v p Q I g h ⟨l,m,y,rfl,rfl,d,i,q⟩;cases g;have b:=h.zero;subst b;obtain⟨z,a,n,r,j,e⟩:=I.qU d;obtain⟨u,w,k⟩:=r.get i;have c:=by show a.toArray[a.length-1]?=some u;rwa[<-xh,<-j]
 refine call_meets F.slot_list_pop ⟨_,e,rfl⟩ F.entry_list_pop (F.args_list_pop_1 _) (MeetsSeq.list_pop_last l _ n u c (by simp_all)) ⟨e,(⟨y,_,I.uV d e ?_ r.dropLast ?_,k,q⟩)⟩;.simp
 .rw[List.length_dropLast];lia
end
section
variable {κ : Type} [DecidableEq κ]
def gM(cq:List (κ×V))(k:κ):Option V:=(cq.find? fun a=>decide (a.1=k)).map (·.2)
def putK(cq:List (κ×V))(k:κ)(v:V):List (κ×V):= if(cq.any fun a=>decide (a.1=k))=true then cq.map (fun a=>if a.1=k then(a.1,v) else a) else cq++[(k,v)]
theorem ET{p:κ×V}(e:p.1=k):gM (p::r) k=some p.2:=by simp[gM,e]
theorem EU{p:κ×V}(e:¬p.1=k):gM (p::r) k=gM r k:=by simp[gM,e]
theorem KQ(k:κ):∀cq:List (κ×V),(cq.any fun b=>decide (b.1=k))=(gM cq k).isSome
 |[]=>rfl |p::r=>by
  rw[iQ];by_cases e:p.1=k;.simp[ET e,cP e,Bool.true_or]
  .rw[EU e,b8 e];exact KQ k r
theorem KR(cq:List (κ×V))(k:κ)(v:V):(putK cq k v).length<=cq.length+1:=by
 unfold putK;split;.simp
 simp
theorem hO.jq(r:hO o u):o.isSome=u.isSome:=by cases o with
 |none=>cases u with |none=>rfl |some _=>exact r.elim
 |some _=>cases u with |none=>exact r.elim |some _=>rfl
theorem hO.getD(r:hO o u)(a:RelV d d'):RelV (o.getD d) (u.getD d'):=by cases o with
 |none=>cases u with |none=>exact a |some _=>exact r.elim
 |some _=>cases u with |none=>exact r.elim |some _=>exact r
theorem KV.val(r:KV cq vs)(k:κ):hO (gM cq k) (valueAt vs k):=by induction r with |nil=>exact True.intro |@cons p q i a h t l=>
    obtain⟨c,j⟩:=h;by_cases e:p.1=k
    . have b:valueAt (q::a) k=some q.2:=by simp[valueAt,(c.symm.trans e)]
      rwa[ET e,b]
    . have f:¬q.1=k:=fun z=>e (c.trans z);have b:valueAt (q::a) k=valueAt a k:=by simp[valueAt,f]
      rwa[EU e,b]
theorem KV.any(r:KV cq vs)(k:κ):(cq.any fun a=>decide (a.1=k))=vs.any fun a=>decide (a.1=k):=by induction r with |nil=>rfl |cons h t c=>rw[iQ,iQ,c,h.1]
theorem KV.xK(r:KV cq vs)(k:κ)(f:RelV y u): KV (cq.map fun a=>if a.1=k then(a.1,y) else a) (vs.map fun a=>if a.1=k then(a.1,u) else a):=by induction r with |nil=>exact .nil |@cons p q g i h t c=>
 refine .cons ?_ c;by_cases e:p.1=k;.simp_all
 simp_all
theorem KV.put(r:KV cq vs)(k:κ)(a:RelV y u):KV (putK cq k y) (stored vs k u):=by
 unfold putK stored;rw[r.any k];by_cases e:(vs.any fun b=>decide (b.1=k))=true;.rw[aq e,aq e];exact r.xK k a
 .rw[ao e,ao e];exact Paired.snoc r ⟨rfl,a⟩
theorem KV.length{cq:List (κ×V)}(r:KV cq vs):cq.length=vs.length:=Paired.length r
end
theorem CB(r:RelV (kV k) u):(qI P w).is k u=true:=by cases k with |inl i=>obtain⟨t,e⟩:=r;subst e;exact RZ P w i t |inr x=>obtain⟨t,e⟩:=r;subst e;exact R0 P w x t
theorem KS:∀{ks:List Key}{us:List Value},Vals (ks.map kV) us->ItemsAre (qI P w) ks us |[],_,r=>by cases r;exact .nil |k::ks,_,r=>by cases r with |cons h t=>exact .cons (CB h) (KS t)
abbrev KT(H:Hp):List (List Key×V)->List (List Key×Addr×Value)->Prop:=Paired fun p q=>p.1=q.1/\H q.2.1=some (.tup (p.1.map kV))/\RelV p.2 q.2.2
theorem KT.val(r:KT H cq xs)(k:List Key):hO (gM cq k) ((atKey xs k).map (·.2)):=by induction r with |nil=>exact True.intro |@cons p q i a h t l=>
    obtain⟨c,_,j⟩:=h;by_cases e:p.1=k
    . have b:atKey (q::a) k=some q.2:=by simp[atKey,(c.symm.trans e)]
      rwa[ET e,b]
    . have f:¬q.1=k:=fun z=>e (c.trans z);have b:atKey (q::a) k=atKey a k:=by simp[atKey,f]
      rwa[EU e,b]
theorem KT.xK(r:KT H cq xs)(k:List Key)(i:RelV y u): KT H (cq.map fun a=>if a.1=k then(a.1,y) else a) (xs.map (putAt k u)):=by induction r with |nil=>exact .nil |@cons p q g f h t d=>
 refine .cons ?_ d;unfold putAt;by_cases e:p.1=k;.simp_all
 simp_all
theorem KT.put(r:KT H cq xs)(k:List Key)(d:H b=some (.tup (k.map kV)))(a:RelV y u): KT H (putK cq k y) (storedH xs k b u):=by
 have e:(cq.any fun c=>decide (c.1=k))=(atKey xs k).isSome:=by rw[KQ,(r.val k).jq,Option.isSome_map]
 unfold putK storedH;rw[e];by_cases q:(atKey xs k).isSome=true;.rw[aq q,aq q];exact r.xK k a
 .rw[ao q,ao q];exact Paired.snoc r ⟨rfl,d,a⟩
theorem KT.keeps(r:KT H cq xs)(a:∀b ys,H b=some (.tup ys)->H' b=some (.tup ys)):KT H' cq xs:= Paired.xl r fun _ _ z=>⟨z.1,a _ _ z.2.1,z.2.2⟩
section
variable{P:Program}{w:World}{H:Hp}{h:Heap}{a:Addr}
theorem KU(b:ic P w H h)(e:Rd H a u):dv P w H h a u:=e.ok b
theorem AU(b:ic P w H h)(e:Rd H a (.dK cq)):cq.length<=sizeLine/\(a==sysModules)=false/\∃vs,KV cq vs/\h.DictOf (qI P w) a vs:= KU b e
theorem S9(b:ic P w H h)(e:H a=some (.dK cq)):cq.length<=sizeLine/\(a==sysModules)=false/\∃vs,KV cq vs/\h.DictOf (qI P w) a vs:=AU b (.inl e)
theorem CC(f:ic P w H h)(e:H a=some (.tup (ks.map kV))):(tupleKind (qI P w)).is h ks a:=let⟨_,_,r,o,b,d,n,c⟩:=(f a _ e);⟨o,_,n,b,d,c,by simpa using KS r⟩
theorem CD(f:ic P w H h)(e:Rd H a (.dT cq)):cq.length<=sizeLine/\(a==sysModules)=false/\ ∃xs,KT H cq xs/\h.DictOfH (tupleKind (qI P w)) a xs:=by
 obtain⟨z,y,xs,r,o,D,A,k,i,n,s,g⟩:=(KU f e);refine⟨z,y,_,r,o,_,_,k,i,n,s,fun x b=>?_,g⟩;have c:∀{l:List _}{m:List _},KT H l m->∀x∈m,(tupleKind (qI P w)).is h x.1 x.2.1:=by intro l m q;induction q with |nil=>simp |@cons p q C v B t u=>
  intro x b;rcases aY.mp b with e|b;.exact CC f (by simp_all)
  .exact u x b
 exact c r x b
theorem S_(b:ic P w H h)(e:H a=some (.dT cq)):cq.length<=sizeLine/\(a==sysModules)=false/\ ∃xs,KT H cq xs/\h.DictOfH (tupleKind (qI P w)) a xs:=CD b (.inl e)
end
def pA(H:Hp)(a:Addr)(y:V)(r:Option V):Prop:= (∃c k,Rd H a (.dK c)/\y=kV k/\r=gM c k)\/∃c k b,Rd H a (.dT c)/\y=.ref b/\H b=some (.tup (k.map kV))/\r=gM c k
def sQ(H:Hp)(a:Addr)(y v:V)(H':Hp):Prop:= (∃c k,H a=some (.dK c)/\y=kV k/\c.length<sizeLine/\H'=upd H a (.dK (putK c k v)))\/ ∃c k b,H a=some (.dT c)/\y=.ref b/\H b=some (.tup (k.map kV))/\c.length<sizeLine/\H'=upd H a (.dT (putK c k v))
theorem pA.k{k:Key}(e:H a=some (.dK cq)):pA H a (kV k) (gM cq k):=.inl ⟨_,k,.inl e,rfl,rfl⟩
theorem sQ.k{k:Key}(e:H a=some (.dK cq))(b:cq.length<sizeLine):sQ H a (kV k) v (upd H a (.dK (putK cq k v))):=.inl ⟨_,k,e,rfl,b,rfl⟩
section
variable{X:Cx}{pins:List (Addr×Obj)}{σ:St}{H:Hp}{s:Shared}{a:Addr}{y v:V}{u r:Value}{o:Option V}{A:Around}{E:Value->Shared->Prop}
theorem Inv.big(I:Inv X pins σ H s):sysModules<s.heap.objs.size:=f9 (by decide) ((I.mod.glob.keeps I.bk).lt)
theorem S'(p:A.units+1<cLine)(I:Inv X pins σ H s)(g:pA H a y o)(m:RelV y u)(h:∀s',Inv X pins σ H s'->Q (.bool (!o.isSome)) s'): wpAny (model X.prog X.w) A (compareOp .NotIn u (.ref a)) Q E s:=by
 rcases g with⟨i,k,e,d,l⟩|⟨i,k,b,e,d,n,l⟩;.subst d;obtain⟨z,f,t,c,j⟩:=AU I.bI e;refine wpAny_notIn_of (CB m) f j.mapOf ?_;rw[<-(c.val k).jq,<-l];exact h _ (I.tok _)
 .subst d;cases(m);obtain⟨z,f,w,c,j⟩:=CD I.bI e;refine wpAny_notIn_heap (oX p) (CC I.bI n) f j ?_;have q:=(c.val k).jq;rw[Option.isSome_map] at q;rw[<-q,<-l];exact h _ (I.tok _)
theorem KW(I:Inv X pins σ H s)(h:Ar (H a))(f:Heap.SameBut a s.heap h')(g:∃q,h'.get? a=some q)(c:dv X.prog X.w (upd H a d) h' a d): Inv X pins σ (upd H a d) {s with heap:=h',toks:=t'}:= I.write h (.inl rfl) (fun b q e z=>(f.2 b e).trans z) g c
theorem KY(z:cq.length<=sizeLine)(hd:(a==sysModules)=false)(b:KV cq vs)(dd:h'.DictOf (qI P w) a vs): dv P w H' h' a (.dK cq):=⟨z,hd,_,b,dd⟩
theorem Ta{Q:Unit->Shared->Prop}(Y:A.units+1<cLine)(I:Inv X pins σ H s)(g:sQ H a y v H')(B:RelV y u)(G:RelV v r)(h:∀s',Inv X pins σ H' s'->Q () s'): wpAny (model X.prog X.w) A (setItem (.ref a) u r) Q E s:=by
  rcases g with⟨d,k,e,n,l,m⟩|⟨d,k,b,e,n,J,l,m⟩
  . subst n m;obtain⟨z,p,T,f,w⟩:=S9 I.bI e;have C:T.length<=sizeLine:=by rwa[<-f.length]
    have x:(putK d k v).length<=sizeLine:=by have:=KR d k v;lia
    refine wpAny_setItem_pairs (CB B) w fun D i t=>h _ ?_;have U:∃q,D.get? a=some q:=let⟨q,_,_,j,_⟩:=i;⟨q,j⟩;exact KW I (by rw[e];exact True.intro) t U (KY x p (f.put k G) i)
  . subst n m;cases B;obtain⟨z,p,L,f,w⟩:=S_ I.bI e;have C:L.length<=sizeLine:=by rwa[<-Paired.length f]
    have x:(putK d k v).length<=sizeLine:=by have:=KR d k v;lia
    refine wpAny_setItem_heap (hsz:=C) (oX Y) (CC I.bI J) w fun D i t=>h _ ?_;obtain⟨q,es,ep,j,M,S,O,_,R⟩:=i;refine KW I (by rw[e];exact True.intro) t ⟨q,j⟩ ⟨x,p,_,(f.put k J G).keeps fun c Z N=>?_,q,_,_,j,M,S,O,R⟩;rwa[bj (R1 N e (fun z=>nomatch z))]
end
section
variable{X:Cx}{pins:List (Addr×Obj)}{σ:St}{H:Hp}{s:Shared}{a:Addr}{cq:List (Key×V)}{k:Key}{u:Value}{A:Around}{E:Value->Shared->Prop}
end
def KZ(f e:TE):TE:=fun b H Q=>f b H fun y d=>e b d fun x c=>∃a o,x=.ref a/\pA c a y o/\Q (.bl (!o.isSome)) c
def K4(h e d:TE):TS:=fun D b H=>d b H fun v g=>h b g fun x i=>e b i fun y f=>∃a c,x=.ref a/\sQ f a y v c/\D.nx b c
section
variable{X:Cx}{o i e value:Expr}{pos pos' AM:Pos}{td ty tv:TE}
theorem EV(n:X.A.units+1<cLine)(hi:PE X i ty)(p:PE X o td):PC X .NotIn i o (KZ ty td):=by intro b s w H Q I h;refine bS (hi _ s _ H _ I h) fun t v ⟨y,_,m,c,f⟩=>bS (p _ _ _ _ _ m f) fun u r ⟨x,_,j,l,a,_,d,g,q⟩=>?_;subst d;obtain rfl:u=Value.ref a:=l;exact S' n j g c fun z k=>⟨.bl _,_,k,rfl,q⟩
theorem EW(B:X.A.units+1<cLine)(k:PE X o td)(hi:PE X i ty)(j:PE X value tv)(m:swapsWith value (some (.Subscript o i pos')) pos.line X.env=pure false): PS X (.Assign [.Subscript o i pos'] value pos) (K4 td ty tv):=by intro b s E H D I h;refine wpAny_Assign_Subscript (bS (j _ s _ H _ I h) fun r L ⟨v,_,A,t,l⟩=>bS (k _ _ _ _ _ A l) fun u J ⟨x,_,f,n,c⟩=>bS (hi _ _ _ _ _ f c) fun C M ⟨y,_,q,p,a,_,d,g,z⟩=>?_) m;subst d;obtain rfl:u=Value.ref a:=n;exact Ta B q g p t fun G w=>⟨_,_,w,z⟩
end
theorem Tb(h:Heap)(a:sysModules<h.objs.size):dv P w H (h.push {cls:=.type "dict",data:=.dict #[]}) h.objs.size (.dK []):= ⟨bU _,kn.mpr (aR (a_ a)),_,.nil,Heap.DictOf.new h⟩
def K5:TE:=fun _ H Q=>∀p,H p=none->Q (.ref p) (upd H p (.dK []))
section
variable {X : Cx} {pos : Pos}
theorem EX:PE X (.Dict [] [] pos) K5:=fun a s b H Q I h=> wpAny_Dict_empty ⟨.ref _,_,I.laid (fun _ _ q=>aO _ q) (aG _) (Tb _ I.big),rfl,h _ (I.bI.fresh (aG _))⟩
end
structure M2(X:Cx)(o:Expr)(m:Str)(apos:Pos)(e f:Expr)(dD:Pos):Prop where
 base:attributeBase o m X.env (eval o X.env)=eval o X.env
 qy:((backTo dD (starEach [e,f] X.env)).all (fun x=>!x.1)&&(backToKw dD (keywordEach [] X.env)).all (fun x=>x.1.isSome) &&decide (([e,f]:List Expr).length+([]:List Keyword).length+(if([]:List Keyword).isEmpty then 0 else 1)<30))=true
 line:(apos.endLine==dD.line)=true
 trees:backTo dD (starEach [e,f] X.env)=[(false,eval e X.env),(false,eval f X.env)]
def K6(H:Hp)(a:Addr):Prop:=(∃b,Rd H a (.dK b))\/∃b,Rd H a (.dT b)
theorem Tc(I:Inv X pins σ H s)(d:K6 H a): s.TypeIs (.ref a) "dict"/\(∀b,Value.ref a=.ref b->∃f,s.heap.get? b=some f/\f.dict=none)/\(a==sysModules)=false:=by
 rcases d with⟨g,e⟩|⟨g,e⟩;.obtain⟨_,j,l,_,c⟩:=AU I.bI e;refine⟨c.typeIs,fun b q=>?_,j⟩;cases q;obtain⟨f,_,_,h,i,_⟩:=c;exact⟨_,h,i.2.1⟩
 .obtain⟨_,j,k,_,c⟩:=CD I.bI e;refine⟨c.typeIs,fun b q=>?_,j⟩;cases q;obtain⟨f,_,_,h,i,_⟩:=c;exact⟨_,h,i.2.1⟩
section
variable{X:Cx}{pins:List (Addr×Obj)}{σ:St}{H:Hp}{s:Shared}{a:Addr}{y d:V}{u r:Value}{o:Option V}{A:Around}{E:Value->Shared->Prop}
theorem Td(t:A.units+1<cLine)(I:Inv X pins σ H s)(g:pA H a y o)(q:RelV y u)(p:RelV d r)(h:∀n s',Inv X pins σ H s'->RelV (o.getD d) n->Q n s'): wpAny (model X.prog X.w) A (call (.builtin "dict.get") [.ref a,u,r]) Q E s:=by
 rcases g with⟨i,k,e,m,l⟩|⟨i,k,b,e,m,v,l⟩;.subst m;obtain⟨z,j,w,c,f⟩:=AU I.bI e;refine call_meetsIn oH f.typeIs PySem.F.entry_dict_get (PySem.F.args_dict_get_3 _ _ _) (meets_dict_get_default _ a (CB q) j r) ⟨_,f.mapOf,h _ _ (I.tok _) ?_⟩;rw[l];exact(c.val k).getD p
 .subst m;cases q;obtain⟨z,j,x,c,f⟩:=CD I.bI e;refine call_meetsIn oH f.typeIs PySem.F.entry_dict_get (PySem.F.args_dict_get_3 _ _ _) (meetsH_dict_get_default _ a b j r) ⟨oX t,k,_,CC I.bI v,f,h _ _ (I.tok _) ?_⟩;rw[l];exact(c.val k).getD p
end
def K7(e h g:TE):TE:=fun b H Q=>e b H fun x d=>∃a,x=.ref a/\K6 d a/\h b d fun y f=>g b f fun z c=>∃o,pA c a y o/\Q (o.getD z) c
section
variable{X:Cx}{o e f:Expr}{apos dD:Pos}{td ty tx:TE}
theorem K8(G:X.A.units+1<cLine)(k:PE X o td)(C:PE X e ty)(E:PE X f tx)(m:M2 X o "get" apos e f dD):PE X (.Call (.Attribute o "get" apos) [e,f] [] dD) (K7 td ty tx):=by intro c s L H Q I h;refine wpAny_Call_method m.base m.qy m.line PySem.F.plainAttrs_dict oH PySem.F.type_dict_get (bS (k _ s _ H _ I h) fun u J ⟨x,_,i,q,a,w,d,l⟩=>?_);subst w;obtain rfl:u=Value.ref a:=q;obtain⟨p,n,_⟩:=Tc i d;refine⟨p,n,?_⟩;rw[m.trees];exact xj rfl (p5 (nz (bS (C _ _ _ _ _ i l) fun O N ⟨y,_,t,v,r⟩=> nz (bS (E _ _ _ _ _ t r) fun S T ⟨z,_,B,j,_,g,D⟩=>p6 (Td G B g v j fun M R A b=>⟨_,_,A,b,D⟩)))))
end
section
variable{X:Cx}{pins:List (Addr×Obj)}{σ:St}{H:Hp}{s:Shared}{a:Addr}{cq:List (Key×V)}{A:Around}{E:Value->Shared->Prop}
end
section
variable{X:Cx}{pins:List (Addr×Obj)}{σ:St}{H:Hp}{s:Shared}{a:Addr}{y:V}{u:Value}{A:Around}{E:Value->Shared->Prop}
end
end L2
namespace K9
open PySem PySem.W PySem.Calls PyProof.Rows
theorem Te:∀(ns:List Int)(vs:List Value),WellAll P h vs (ns.map WData.int)->IntsAre vs ns:=by intro ns;induction ns with |nil=> intro vs w;cases w;exact .nil |cons n ns d=> intro vs w;cases w with |cons a b=> cases a;exact .cons _ _ (d _ b)
theorem Tf{l:OpenLaw}(w:l.most=some n)(c:l.row.toRowW.claim.pre b=true)(i:WellAll P h g b): ∃a vs ns,g=[Value.ref a]/\b=[WData.list (ns.map WData.int)]/\h.get? a=some {cls:=.type "list",data:=.seq vs.toArray}/\IntsAre vs ns/\ns.length<=n:=by
 have t:l.pre.holds [] _=true:=(pre_splitW c).2;obtain⟨d,r,rfl,q,p⟩:=hasAllW_cons ((pre_splitW c).1);obtain rfl:=hasAllW_nil p;obtain⟨y,rfl,s⟩:=hasW_list q;obtain⟨ns,rfl⟩:=items_int s;have f:ns.length<=n:=by
  have j:(WTm.not (.lt (.lit (.int n)) (.len (.arg 0)))).holds [] {args:=[.list (ns.map .int)]}=true:=by have j:=(holds_andW t).1;simp_all
  have x:=condW_of j rfl;simp_all
 cases i with |cons v u=> cases u;cases v with |list o e=>exact⟨_,_,_,rfl,rfl,o,Te _ _ e,f⟩
theorem Tg(l:OpenLaw)(a:List WData):l.row.toRowW.claim.post a (.bool true) a=true:= postW_of rfl (w_eq_bool rfl w_lit) rfl
theorem nL{l:OpenLaw}{x:World->Heap->Prop}(hn:l.most=some n)(s:d.params.defaults=[]) (call:∀(w:World)(c b:Shared)(mg A:Str->Option Value)(m:Addr)(o:Obj)(D p j:Value)(a:Addr)(vs:List Value)(ns:List Int), Ground q e [] E w c mg A b.heap->x w b.heap-> b.heap.get? m=some o->o.data=.func (docDef d.name d.params d.body d.scope D p j)->b.heap.CodeRec p d.name->mg d.name=some (.ref m)-> b.heap.get? a=some {cls:=.type "list",data:=.seq vs.toArray}->IntsAre vs ns->ns.length<=n->b.gens=#[]-> codeAny (model l.prog w) callerA (.call (.ref m) ⟨[.ref a],[]⟩) (fun r s'=>r=.ok (.ret (.bool true))/\OldK b.heap s'.heap/\s'.os=b.os/\AllBare s'.gens) b): WalkO q e E x l.row.toRowW d [] (fun f vs=>PySem.call f vs):=by intro w c b mg A G Y m o D p j O L T hd u z v N B C as k y V t U;obtain rfl:O=.none:=Dflts.none z s;obtain rfl:L=.none:=Dflts.noKw z;obtain⟨a,vs,ns,rfl,rfl,h,g,i⟩:=Tf hn k t;refine enter_call (gB (call w _ _ _ _ _ o _ _ _ a _ _ G Y T (fd_plain hd) u v h g i N) fun r s' J=>?_);obtain⟨rfl,Q,M,I⟩:=J;exact⟨.inl ⟨_,_,_,rfl,fun _=>rfl,.bool _,Tg l _,fun _=>⟨List.Pairwise.nil,fun _ H=>(nomatch H)⟩⟩,Q,M,I⟩
section
variable{prog:Program}{w:World}{A:Around}{E:Value->Shared->Prop}{s:Shared}{K:Frag}
end
end K9
namespace L2
open PySem PySem.Spec PyProof.Rows
theorem K_:∀{vs:List Value}{ns:List Int},IntsAre vs ns->Vals (ns.map V.int) vs |_,_,.nil=>.nil |_,_,.cons n t h=>.cons ⟨t,rfl⟩ (K_ h)
def jr(s:Stmt)(j:Nat):Stmt:=match s with |.ClassDef _ _ _ a _ _ _ _ _ _ _=>a.getD j (.Pass ⟨0,0,0,0⟩) |_=>.Pass ⟨0,0,0,0⟩
def nM(s:Stmt):Arguments:=match s with |.FunctionDef _ a _ _ _ _ _ _ _ _=>a |_=>{posonlyargs:=[],args:=[],vararg:=none,kwonlyargs:=[],kw_defaults:=[],kwarg:=none,defaults:=[]}
def kS(s:Stmt):List Stmt:=match s with |.FunctionDef _ _ b _ _ _ _ _ _ _=>b |_=>[]
noncomputable def cM(s:Stmt):Scope:=match s with |.FunctionDef _ _ _ _ _ _ a _ _ _=>a |_=>{kind:=.function,names:=[],isGenerator:=false,isCoroutine:=false}
abbrev kT:jo:=fun _ _ _ _ _ _=>False
abbrev E0:XK:=fun _ _ _=>False
theorem bz:nI kT X E0:=fun _ _ _ _ _ _ _ h=>h.elim
structure jM(K:PySem.W.Frag)(x qual:Str)(st:Stmt)(f:Addr)(fd:FuncData):Prop where
 ex:∃(oc:Value) (od:Option Addr) (kV doc pm:Value) (an:Option Addr) (qV ct:Value) (uR:Array (Option Value)), fd=PySem.W.fnOf x qual (nM st) (kS st) (cM st) .none kV doc pm an qV ct/\K.lookup f=some ⟨oc,od,.func fd,uR⟩/\PySem.W.codeIn K qV qual=true
 kp:PySem.W.keepIn K (.ref f)=true
section
variable{P:Program}{w:World}{K:PySem.W.Frag}{mg:Str->Option Value}{base:Heap}
theorem jM.ok{st:Stmt}(F:jM K x b st f fd)(S:b_ N ps (cM st))(g:∀vs H Q E,sp vs H Q E->vs.length=ps.length) (c:∀(d:Value)(A:Around)(a:List Env)(s:Shared)(H:Hp)(vs:List V)(Q:VK)(E:XK),cu k (A.deeper (envOfC b (cM st) s.heap.objs.size f d))->sp vs H Q E-> ∃t,mz (nJ kT P w K mg base N b (cM st) f d A a s H E).AA (kS st) t/\t {nx:=fun _ H'=>Q .non H',rt:=Q} (start N vs) H):cz P w K mg base kT (k+1) f fd ps sp:=by obtain⟨v,p,kV,l,o,u,d,r,m,rfl,j,i⟩:=F.ex;refine Cs j i S g fun A a s H vs Q E n e=>?_;obtain⟨t,h,q⟩:=c _ A _ s H _ Q E n e;exact⟨t,h.AA,q⟩
theorem jM.binds{st:Stmt}(F:jM K x b st f fd) (h:∀(kV a d:Value)(an:Option Addr)(c e:Value)(us:List Value),us.length=ps.length->bindArgs (PySem.W.fnOf x b (nM st) (kS st) (cM st) .none kV a d an c e) ⟨us,[]⟩=pure (ps.zip us)):Binds K fd ps []:=by obtain⟨l,k,kV,a,d,an,c,e,g,rfl,j,i⟩:=F.ex;exact .all (h _ _ _ _ _ _)
theorem CF{st:Stmt}{kV d e b g:Value}(l:K.lookup f=some ⟨i,od,.func (PySem.W.fnOf x a (nM st) (kS st) (cM st) .none kV d e an b g),h⟩) (c:PySem.W.codeIn K b a=true)(k:PySem.W.keepIn K (.ref f)=true):jM K x a st f (PySem.W.fnOf x a (nM st) (kS st) (cM st) .none kV d e an b g):=⟨⟨_,_,_,_,_,_,_,_,_,rfl,l,c⟩,k⟩
end
theorem ue(a:cu k A):A.units+1<cLine:=je (Nat.add_le_add_left (by decide) _) a.units
section
variable {X : Cx}
theorem pv(i:Nat)(b:X.N[i]?=some x:=by rfl)(c:As X.env.scope x:=by first|exact Or.inl rfl|exact Or.inr (Or.inl rfl)|exact Or.inr (Or.inr rfl))(hd:(x==("__debug__":Str))=false:=by decide) (a:(x==("__classdict__":Str))=false:=by decide):PE X (.Name x pos) (cS i):=R_ b c hd a
end
def aC(H H':Hp):Prop:=∀b o,H b=some o->H' b=some o
theorem aC.refl(H:Hp):aC H H:=fun _ _ h=>h
theorem aC.trans(a:aC H d)(b:aC d e):aC H e:=fun c o h=>b c o (a c o h)
theorem aC.free(e:aC H H')(h:H' l=Option.none):H l=Option.none:=by cases q:H l with |none=>rfl |some o=> rw[e l o q] at h;cases h
theorem aC.seq{K:PySem.W.Frag}(e:aC H H')(h:fX K H a xs):fX K H' a xs:=by
 rcases h with(h|⟨o,h⟩)|h;.exact .inl (.inl (e _ _ h))
 .exact .inl (.inr ⟨o,e _ _ h⟩)
 .exact .inr h
def eI(i:Int):Prop:=i.natAbs<2^8000
theorem log2_lt{n k:Nat}(b:0<k)(h:n<2^k):n.log2<k:=by
 by_cases a:n=0;.simp_all
 .exact(Nat.log2_lt a).mpr h
theorem eI.log(h:eI i):i.natAbs.log2<8000:=log2_lt (by decide) h
theorem eI.bits(h:eI i):Builtin.Int.intBits i<=2^20:=by have a:=h.log;unfold Builtin.Int.intBits;grind
section
variable {X : Cx}
theorem sR:iI X (binaryOp .Mult) (rI (fun i j=>eI i/\eI j) fun i j=>.int (i*j)):=Co fun _ _ _ _ _ _ _ a q=>mul_int q (.of_bits a.1.bits a.2.bits)
theorem lJ:iI X (binaryOp .FloorDiv) (rI (fun _ j=>j≠0/\eI j) fun i j=>.int (i.fdiv j)):=Co fun _ _ _ _ _ _ _ a q=> floordiv_int a.1 q (.inl (PyProof.noPylong_of_log2 (f9 a.2.log (by decide))))
end
def AV:V->Option Value |.ty n=>some (.type n) |.ref a=>some (.ref a) |_=>none
section
variable {X : Cx}
theorem Th(h:AV c=some cv)(r:RelV c u):u=cv:=by cases c with |ty n=>cases h;exact r |ref a=>cases h;exact r |_=>cases h
def K'(K:PySem.W.Frag):List V->Hp->VK->Prop:=fun d H Q=>∃x c a t b,d=[x,c]/\AV c=some a/\iY K H x t/\PySem.W.kitOne K t a=some b/\Q (.bl b) H
theorem Ti:mV X (.builtin "isinstance") (K' X.K):=by rintro a s j H i k Q I r ⟨x,c,l,t,b,rfl,g,h,f,q⟩;obtain⟨u,v,rfl,e,d⟩:=AL r;cases Th g d;exact Sz I e h f fun m=>⟨.bl b,H,I.tok _,rfl,q⟩
end
def EY(K:PySem.W.Frag)(a:Addr):It:= ⟨fun i H=>∃b x,fX K H a b/\b[i]?=some x,fun i H x c=>∃p y,x=.ref p/\H p=none/\c=upd H p (.tup [.int i,y])/\∀b,fX K H a b->b[i]?=some y,fun i H=>∃b,fX K H a b/\b.length<=i⟩
theorem Tj{K:PySem.W.Frag}(a e g:Addr)(M:e≠g): Turn P w K (.Tuple es k pos) (EY K a) [e,g] e (fun i h=>(∃l,IsEnum h e g i l)/\h.IsListIter g a i) where
  mem:=by simp
  obj:=fun i h st b f=>by
    obtain⟨⟨l,h1⟩,o,h2,c,d⟩:=st;rcases aY.mp f with rfl|f;.exact⟨_,h1,fun v z=>by cases(show Data.fields _=Data.cell v from z)⟩
    . have e':b=g:=by simp_all
      subst e';exact⟨o,h2,fun v z=>by rw[d] at z;cases z⟩
  keep:=fun i h h' st k=>let⟨⟨l,h1⟩,h2⟩:=st;⟨⟨l,k e (by simp) _ h1⟩,h2.at fun o q=>k g (by simp) o q⟩;item:=by
    intro X hP U hK hc i B s σ H E I S st hg;subst hP U hK;obtain⟨xs,x,R,hx⟩:=hg;obtain⟨Y,rv,p,hz⟩:=I.list R;obtain⟨u,hu,ru⟩:=rv.get hx;obtain⟨⟨l,D⟩,y⟩:=st;obtain⟨f0,f1,f2,f3,f4,f5⟩:=S e (by simp);obtain⟨g0,T,g2,g3,g4,g5⟩:=S g (by simp);have J:H s.heap.objs.size=none:=I.bI.fresh (aG _);have eT:e≠s.heap.objs.size:=a_ (aM D);have iT:g≠s.heap.objs.size:=let⟨_,z,_⟩:=y;a_ (aM z);refine wpAny_pyNext_enum_item D y p.isList (x:=u) (by simpa using hu) M fun h' ho L ht hsz hk=>⟨_,rfl,(wpAny_letOwnedTupleGo_enum ho fun t N O=>?_)⟩;have C:Heap.SameBut e h' t:=O;have Tn:t.get? s.heap.objs.size=some {cls:=.type "tuple",data:=.seq #[.int i s.toks,u]}:=(C.2 _ eT.symm).trans ht;have j:∀b o,b≠e->b≠g->s.heap.get? b=some o->t.get? b=some o:=fun b o z1 z2 q=>(C.2 b z1).trans (hk b o z1 z2 q);have Q:∀b o,H b=some o->b≠e/\b≠g:=fun b o q=>⟨(fun z=>by rw[z,f0] at q;cases q),(fun z=>by rw[z,g0] at q;cases q)⟩;refine⟨.ref s.heap.objs.size,upd H s.heap.objs.size (.tup [.int i,x]),?_,rfl,⟨_,x,rfl,J,rfl,fun Z hy=>by rwa[I.iX hy R]⟩,⟨⟨_,by simpa using N⟩,L.at fun o q=>(C.2 g M.symm).trans q⟩,fun b f=>?_⟩
    . show Inv X B σ (upd H s.heap.objs.size (.tup [.int i,x])) {s with heap:=t,toks:=s.toks+1};refine I.step (h':=t) (g':=s.gens) (d':=s.drawn) (t':=s.toks+1) (ch:=[e,g]) (fun b f=>?_) (fun b o _ _ f q _=>?_) (fun b o _ _ f q _=>⟨o.slots,?_⟩) (fun b o f q n=>?_) (fun b o f q=>⟨o,?_⟩) (fun b Z q=>?_) (fun b o Z q=>?_) (fun b ps q=>⟨#[],?_⟩) (fun m hm=>?_) ?_ I.bare
      . rcases aY.mp f with rfl|f;.exact⟨f3,f1,f4,f5⟩
        . have z:b=g:=by simpa using f
          subst z;exact⟨g3,T,g4,g5⟩
      .exact j b o (fun z=>f (by simp[z])) (fun z=>f (by simp[z])) q
      .exact j b o (fun z=>f (by simp[z])) (fun z=>f (by simp[z])) q
      .rwa[bj (a_ (aM q))]
      .exact j b o (fun z=>f (by simp[z])) (fun z=>f (by simp[z])) q
      .rwa[bj (dC q J)]
      .rwa[bj (dC q J)]
      .rw[bj (dC q J),q];simp
      .obtain⟨o,To,ep,Tp,r⟩:=hm;exact⟨o,To,ep,j _ o (aR f1) (aR T) Tp,r⟩
      . intro b o q;by_cases f:b=s.heap.objs.size;.subst f;rw[cw] at q;cases q;exact⟨by show 2<=sizeLine;decide,[.int i s.toks,u],.cons ⟨_,rfl⟩ (.cons ru .nil),⟨_,Tn,rfl,_,rfl⟩⟩
        . rw[bj f] at q;refine(I.bI b o q).iB (fun c v A G=>?_) (fun c G=>by rwa[bj (dC G J)]) fun c Z G=>by rwa[bj (dC G J)]
          rcases A with rfl|A;.exact j _ v (Q _ _ q).1 (Q _ _ q).2 G
          .exact j _ v (Q _ _ A).1 (Q _ _ A).2 G
    . rcases aY.mp f with rfl|f;.rwa[bj eT]
      . have z:=by simpa using f
        subst z;rwa[bj iT]
  done:=by intro X hP U hK hc i B s σ H E I S st hg;subst hP U hK;obtain⟨xs,R,hx⟩:=hg;obtain⟨Y,rv,p,hz⟩:=I.list R;obtain⟨⟨l,D⟩,y⟩:=st;obtain⟨g0,T,g2,g3,g4,g5⟩:=S g (by simp);have hl:=rv.length;exact wpAny_pyNext_enum_end (I.ok.hd hc) D y p.isList (by simp;lia) fun h' eb=>⟨rfl,I.turned (fun b o f q=>eb b o f q) g0 T g3 g4 g5⟩
  self:=fun _ _ _ _ _ st h=>let⟨⟨_,D⟩,_⟩:=st;mq D h
section
variable {X : Cx}
def EZ(K:PySem.W.Frag)(d:TA):TI:=fun e H R=>d e H fun c b=>∃a,c=[.ref a]/\(∃f,fX K b a f)/\R (EY K a) b
theorem AW(J:Gl X "enumerate")(z:X.mg "enumerate"=none)(w:PA X [l] y)(E:starEach [l] X.env=[(false,eval l X.env)]:=by rfl): PI X (.Tuple es k M) (.Call (.Name "enumerate" p) [l] [] pos) (EZ X.K y):=by
 intro j s O H R I h;refine Call_ (pe I J z boot_enumerate (eW (bS (w _ _ s _ H _ I h) fun L d ⟨_,_,f,A,o⟩=>?_) E rfl));obtain⟨a,e,⟨N,t⟩,q⟩:=o;subst e;obtain⟨u,rfl,x⟩:=mD A;cases x;obtain⟨r,Q,C,S⟩:=f.list t;refine call_enumerate_list C.isList fun B m i D G=>?_;have v:Inv X _ _ _ {d with heap:=B}:=f.kept G;have g:d.heap.objs.size+1≠d.heap.objs.size:=by lia
 refine mq m ⟨_,_,_,_,_,rfl,v,Tj a _ _ g,⟨⟨_,m⟩,i⟩,fun b n=>?_,q⟩;have c:d.heap.objs.size<=b:=by
  rcases aY.mp n with rfl|n;.lia
  simp_all
 exact f.k8 c (f.bI.fresh c)
end
theorem E1:∀(b:List (Str×NameKind))(f:List (Str×Addr)),(∀y∈b,y.2=.free->∃c,env.cells.lookup y.1=some c)-> ∃cl,(forIn (m:=Sem) b f fun(x:Str×NameKind) (cs:List (Str×Addr))=>if(x.2==NameKind.free)=true then do let c<-cellOf env x.1;pure (ForInStep.yield ((x.1,c)::cs)) else pure (ForInStep.yield cs))=pure cl/\ (∀p∈cl,p∈f\/env.cells.lookup p.1=some p.2)/\(∀p∈f,p∈cl)/\∀y∈b,y.2=.free->∃c,(y.1,c)∈cl
  |[],f,_=>⟨_,rfl,fun p g=>.inl g,fun p g=>g,fun y d=>by cases d⟩ |(n,k)::r,f,h=>by
    by_cases s:k=.free
    . subst s;obtain⟨c,t⟩:=h _ kg rfl;obtain⟨cl,e,l,j,q⟩:=E1 r ((n,c)::f) fun y d=>h y (bJ _ d);refine⟨_,?_,fun p g=>?_,fun p g=>j p (bJ _ g),fun y d i=>?_⟩
      . have o:cellOf env n=pure c:=by unfold cellOf;rw[t]
        rw[sC];simp only[o];exact e
      . rcases l p g with z|z
        . rcases aY.mp z with rfl|z;.simp_all
          grind
        .exact .inr z
      . rcases aY.mp d with rfl|d;.exact⟨c,j _ kg⟩
        .exact q y d i
    . obtain⟨cl,e,l,j,q⟩:=E1 r _ fun y d=>h y (bJ _ d);refine⟨_,?_,l,j,fun y d i=>?_⟩
      . have u:(k==NameKind.free)=false:=by simpa using s
        rw[sC];simp only[u,if_false];exact e
      . rcases aY.mp d with rfl|d;.exact absurd i s
        .exact q y d i
theorem La{f:Str->Option Addr}:∀{cl:List (Str×Addr)}{x:Str}{c:Addr},(∀p∈cl,f p.1=some p.2)->(x,c)∈cl->cl.lookup x=some c |[],_,_,_,h=>by cases h |(n,d)::r,x,c,h,b=>by rw[fq];cases e:x==n with |true=> have i:=h _ b;simp_all |false=>
 rcases aY.mp b with z|z;.cases z;simp at e
 .exact La (fun p g=>h p (bJ _ g)) z
theorem Lb(h:∀y∈scope.names,y.2=.free->∃c,env.cells.lookup y.1=some c): ∃cl,closureFor scope env=pure cl/\(∀x c,cl.lookup x=some c->env.cells.lookup x=some c)/\∀y∈scope.names,y.2=.free->cl.lookup y.1=env.cells.lookup y.1:=by
 obtain⟨cl,e,k,_,i⟩:=E1 _ [] h;have a:=fun p d=>(k p d).elim (fun z=>by cases z) id;refine⟨_,?_,fun x c z=>a _ (f_ z),fun y g j=>?_⟩;.simp only[closureFor];grind
 .obtain⟨c,b⟩:=i y g j;rw[a _ b];exact La (f:=fun x=>env.cells.lookup x) a b
section
variable{prog:Program}{w:World}{A:Around}{R:Result->Shared->Prop}{s:Shared}
theorem Tq(I:Nat->Shared->Prop) (y:∀n s,I n s->wpAny (model prog w) A (pyNext E) (fun r d=>match r with |none=>R (.ok .next) d |some v=>wpAny (model prog w) A (letOwnedTupleGo a E v) (fun _ b=>wpAny (model prog w) A (assign a env v) (fun _ g=> wpAny (model prog w) A (forIn C true fun c r=>if r=true then do let u<-isTrue c env (eval c env);pure (ForInStep.yield u) else pure (ForInStep.yield r)) (fun u f=> if u=true then wpAny (model prog w) A (eval z env) (fun x i=> wpAny (model prog w) A (call (.builtin "list.append") [B,x]) (fun _ j=>∃m,m<n/\I m j) (fun _ _=>False) i) (fun _ _=>False) f else∃m,m<n/\I m f) (fun _ _=>False) g) (fun _ _=>False) b) (fun _ _=>False) d) (fun _ _=>False) s) (n:Nat)(h:I n s): codeAny (model prog w) A (.compLoop (.ListComp z [⟨a,D,C,0⟩] scope pos) 0 E B env) R s:=by refine codeAny_loop rfl I (fun n s G=>(wpAny_noted ?_)) n h;rw[compTurn_list];refine ah (gE (ah (di (y n s G) (fun r d l=>?_) fun _ _ e=>e.elim)));cases r with |none=>exact ax l |some v=> refine ah (di l (fun _ b o=>(ah (di o (fun _ g p=>ah (di p (fun u f k=>?_) fun _ _ e=>e.elim)) fun _ _ e=>e.elim))) fun _ _ e=>e.elim);cases u with |false=>exact ax ⟨rfl,k⟩ |true=> exact ah (ah (di k (fun x i q=>ah (di q (fun _ j t=>ax (ax ⟨rfl,t⟩)) fun _ _ e=>e.elim)) fun _ _ e=>e.elim))
end
noncomputable def Cx.comp(X:Cx)(scope:Scope)(cl:List (Str×Addr))(C:Addr)(a:List Str)(s:Shared)(H:Hp)(fp:List Addr)(pins:List (Addr×Obj)):Cx:= {X with N:=a,fC:=s,qK:=H,env:=compEnvC scope cl C X.env,outer:=X.stack,stack:=X.stack,ex:=fp,fn:=fun x=>scope.names.lookup x==some .cell,pn:=X.pn++pins,xe:=fun _ _=>False}
def qz(σ:St)(a:List Nat)(n:Nat):St:=a.map (fun i=>(σ[i]?).getD none)++List.replicate n none
def Lc:Option TT->TT |none=>fun _ H Q=>Q true H |some t=>t
def Ld(D:Addr)(J:It)(g:TG)(r:Option TT)(q:TE)(Q:VK)(k:St)(p:Hp):Prop:= ∃W:Nat->Nat->List V->St->Hp->Prop,(∃m,W 0 m [] k p)/\∀i m c e d,W i m c e d->d D=some (.lst c)/\ ((J.stop i d/\Q (.ref D) d)\/(J.go i d/\∃N:List V->St->Hp->Prop,(∀h f j,N h f j->∃o,o<m/\W (i+1) o h f j)/\ ∀x j,J.AG i d x j->g x e j fun a s=>Lc r a s fun b n=>if b=true then q a n fun y l=>l D=some (.lst c)/\c.length<sizeLine/\N (c++[y]) a (upd l D (.lst (c++[y]))) else N c a n))
def y7(c:TI)(d:List Nat)(n:Nat)(g:TG)(e:Option TT)(f:TE):TE:=fun a H Q=>c a H fun J b=>∀D,b D=none->Ld D J g e f Q (qz a d n) (upd b D (.lst []))
structure gN(X:Cx)(scope:Scope)(N':List Str)(ix:List Nat)(n:Nat)(tg elt:Expr)(ifs:List Expr)(g:TG)(tc:Option TT)(te:TE):Prop where
 kind:scope.kind=.function
 xM:∀y∈scope.names,y.2=.free->(y.1,NameKind.cell)∉scope.names
 names:∀y∈scope.names,y.2=.local->scope.names.lookup y.1=some .local
 free:∀y∈scope.names,y.2=.free->X.env.kindOf y.1=some .cell\/X.env.kindOf y.1=some .free
 len:ix.length+n=N'.length
 take:∀(j i:Nat),ix[j]?=some i->∃x,N'[j]?=some x/\X.N[i]?=some x/\scope.names.lookup x=some .free
 tgt:∀(cl:List (Str×Addr))(C:Addr)(s:Shared)(H:Hp)(fp:List Addr)(pins:List (Addr×Obj)),PG (X.comp scope cl C N' s H fp pins) tg g
 elt:∀(cl:List (Str×Addr))(C:Addr)(s:Shared)(H:Hp)(fp:List Addr)(pins:List (Addr×Obj)),PE (X.comp scope cl C N' s H fp pins) elt te
 test:(ifs=[]/\tc=none)\/∃c t,ifs=[c]/\tc=some t/\∀(cl:List (Str×Addr))(C:Addr)(s:Shared)(H:Hp)(fp:List Addr)(pins:List (Addr×Obj)),PT (X.comp scope cl C N' s H fp pins) c t
theorem Le{env:Env}:∀{b:List (Str×NameKind)}{x:Str},b.lookup x=some .free-> (b.map fun(n,k)=>if(k==NameKind.free&&env.scope.kind==.function&&env.kindOf n==some .cell) then(n,NameKind.cell) else(n,k)).lookup x=some .cell\/ (b.map fun(n,k)=>if(k==NameKind.free&&env.scope.kind==.function&&env.kindOf n==some .cell) then(n,NameKind.cell) else(n,k)).lookup x=some .free |[],_,h=>by simp at h |(n,k)::r,x,h=>by have e:=@Le env r x;show List.lookup x ((if(k==NameKind.free&&env.scope.kind==.function&&env.kindOf n==some .cell)=true then(n,NameKind.cell) else(n,k))::_)=_\/List.lookup x ((if(k==NameKind.free&&env.scope.kind==.function&&env.kindOf n==some _)=true then(n,NameKind.cell) else(n,k))::_)=_;cases c:x==n with
 |true=>
  simp[fq,c] at h;cases h;by_cases d:(NameKind.free==NameKind.free&&env.scope.kind==.function&&env.kindOf n==some .cell)=true;.grind
  .grind |false=>
  simp[fq,c] at h;by_cases d:(k==NameKind.free&&env.scope.kind==.function&&env.kindOf n==some .cell)=true;.rw[aq d];simp only[fq,c];exact e h
  .rw[ao d];simp only[fq,c];exact e h
theorem Lf{env:Env}:∀{a:List (Str×NameKind)}{x:Str}, ((a.map fun(n,k)=>if(k==NameKind.free&&env.scope.kind==.function&&env.kindOf n==some .cell) then(n,NameKind.cell) else(n,k)).lookup x=some .cell\/ (a.map fun(n,k)=>if(k==NameKind.free&&env.scope.kind==.function&&env.kindOf n==some .cell) then(n,NameKind.cell) else(n,k)).lookup x=some .free)->(x,NameKind.free)∈a\/(a.lookup x=some .cell/\(x,NameKind.cell)∈a) |[],_,h=>by simp at h |(n,k)::r,x,h=>by cases f:x==n with
    |true=>
      have e:=by simpa using f
      subst e;by_cases d:(k==NameKind.free&&env.scope.kind==.function&&env.kindOf x==some .cell)=true
      . have i:=by
          have:(k==NameKind.free)=true:=by simp_all
          simpa using this
        subst i;exact .inl kg
      . rw[bH] at h;have c:(match(x,k) with|(n,k)=>if(k==NameKind.free&&env.scope.kind==.function&&env.kindOf n==some _)=true then(n,NameKind.cell) else(n,k))=(x,k):=ao d;rw[c] at h;simp[fq,beq_self_eq_true] at h;rcases h with h|h;.cases h;(simp)
        .cases h;simp |false=>
      refine((@Lf env r x) ?_).imp (bJ _) fun z=>⟨by simp[fq,f];exact z.1,bJ _ z.2⟩;rw[bH] at h;by_cases d:(k==NameKind.free&&env.scope.kind==.function&&env.kindOf n==some .cell)=true;.have c:(match(n,k) with|(n,k)=>if(k==NameKind.free&&env.scope.kind==.function&&env.kindOf n==some _)=true then(n,NameKind.cell) else(n,k))=(n,NameKind.cell):=aq d;rw[c] at h;simpa[fq,f] using h
      .have c:(match(n,k) with|(n,k)=>if(k==NameKind.free&&env.scope.kind==.function&&env.kindOf n==some _)=true then(n,NameKind.cell) else(n,k))=(n,k):=ao d;rw[c] at h;simpa[fq,f] using h
theorem E2:∀(d:List (Str×NameKind))(n:Nat)(b:List (Str×Addr)),(x,NameKind.cell)∈d->(cellsFrom n d b).lookup x=some c->(∀y,b.lookup x=some y->n<=y\/True)->n<=c
  |[],_,_,h,_,_=>by cases h |(y,k)::r,n,b,h,e,_=>by
    unfold cellsFrom at e;by_cases f:(x,NameKind.cell)∈r
    . split at e;.exact Nat.le_of_succ_le (E2 r _ _ f e fun _ _=>.inr trivial)
      .exact E2 r n _ f e fun _ _=>.inr trivial
    . rcases aY.mp h with z|z
      . have o:∀(r:List _)(g:Nat)(b:List _),(x,NameKind.cell)∉r->(cellsFrom g r b).lookup x=b.lookup x:=by intro r;induction r with |nil=>intro _ _ _;rfl |cons p r m=>
            intro g b q;obtain⟨j,s⟩:=p;unfold cellsFrom;split;.rw[m _ _ fun z=>q (bJ _ z),fq,show(x==j)=false by simp_all]
            simp_all
        simp_all
      .exact absurd z f
theorem CG:∀(b:List (Str×NameKind))(n:Nat)(c:List (Str×Addr)),(x,NameKind.cell)∉b->(cellsFrom n b c).lookup x=c.lookup x
 |[],_,_,_=>rfl |(y,k)::r,n,c,h=>by
  unfold cellsFrom;split;.rw[CG r _ _ fun z=>h (bJ _ z),fq,show(x==y)=false by simp_all]
  .exact CG r _ _ fun z=>h (bJ _ z)
theorem E3:∀(g:List (Str×NameKind))(n:Nat)(e:List (Str×Addr)),(∀x c,e.lookup x=some c->c<n)->(∀x y c,e.lookup x=some c->e.lookup y=some c->x=y)-> ∀x y c,(cellsFrom n g e).lookup x=some c->(cellsFrom n g e).lookup y=some c->x=y
  |[],_,_,_,h=>h |(z,k)::r,n,e,i,l=>by
    unfold cellsFrom;split
    . have j:∀x c,((z,n)::e).lookup x=some c->(x=z/\c=n)\/e.lookup x=some c:=fun x c h=>by rw[fq] at h;cases u:x==z with |true=>simp_all |false=>simp_all
      refine E3 r _ _ (fun x c h=>?_) fun x y c q p=>?_
      . rcases j x c h with⟨_,z⟩|z;.rw[z];simp
        .exact kh (i x c z)
      . rcases j x c q with⟨t,o⟩|a<;>rcases j y c p with⟨s,m⟩|b;.grind
        .have:=i y c b;rw[o] at this;exact absurd this (de _)
        .have:=i x c a;rw[m] at this;exact absurd this (de _)
        .exact l x y c a b
    .exact E3 r n _ i l
theorem Ts(f:Q (newEnv scope s.heap.objs.size a (cellsFrom (s.heap.objs.size+1) scope.names cl) b none .none (some env) builtinsNs) {s with heap:=pushCells (s.heap.push {cls:=.type "dict",data:=.dict #[]}) scope.names}): wpAny M A (newFunctionEnv scope a cl [] b none .none (some env)) Q E s:=by refine ah (wpAny_alloc (ah (wpAny_layCells _ (fun e d c=>rfl) _ _ _ _ ?_)));rw[iO _];exact ah (ax (ax f))
section
variable{X:Cx}{scope:Scope}{N':List Str}{ix:List Nat}{n:Nat}{tg elt iter:Expr}{ifs:List Expr}{g:TG}{tc:Option TT}{te:TE}{pos:Pos}
theorem Tt(B:gN X scope N' ix n tg elt ifs g tc te)(I:Inv X pins σ H s) (N:∀b∈fp,jn X pins H b)(T:∀b∈fp,∃o,s.heap.get? b=some o)(t:∀x c,cl.lookup x=some c->X.env.cells.lookup x=some c\/(s.heap.objs.size+1<c/\∃v,h1.IsCell c v))(J:∀y∈scope.names,y.2=.free->cl.lookup y.1=X.env.cells.lookup y.1) (L:∀x y c,cl.lookup x=some c->cl.lookup y=some c->x=y)(M:∀x,scope.names.lookup x=some .cell->∃c,cl.lookup x=some c)(G:∀x c,scope.names.lookup x=some .cell->cl.lookup x=some c->s.heap.objs.size+1<c) (D:∀b o,s.heap.get? b=some o->h1.get? b=some o)(hD:h1.get? s.heap.objs.size=some {cls:=.type "list",data:=.seq #[] 0})(hC:h1.Ns (s.heap.objs.size+1) m): Inv (X.comp scope cl (s.heap.objs.size+1) N' s H fp pins) [] (qz σ ix n) (upd H s.heap.objs.size (.lst [])) {s with heap:=h1,toks:=tk}:=by
  have hn:H s.heap.objs.size=none:=I.bI.fresh (aG _);have lt:∀{b:Addr}{o:Obj},s.heap.get? b=some o->b≠s.heap.objs.size/\b≠s.heap.objs.size+1:=fun e=>⟨a_ (aM e),a_ (kh (aM e))⟩;have d:∀x c,X.env.cells.lookup x=some c->c<s.heap.objs.size:=fun x c e=>let⟨v,o,k,_⟩:=I.cell x c e;aM k;have E:∀b∈fp,b≠s.heap.objs.size+1:=fun b f=>by grind
  . have A:Un (kZ X.stack) fp H (upd H s.heap.objs.size (.lst [])) s.heap h1:=Un.laid D (aG _) hn;refine⟨⟨I.ok.mod,?_,I.ok.glob,I.ok.blt,ip _,L,fun x hx=>?_,fun x c z e=>il (f9 (fB _) (G x c (by simpa using(show(scope.names.lookup x==some NameKind.cell)=true from z)) e)),I.ok.hd,I.ok.frames,.inl rfl,fun b f=>⟨E b f,fun x c e=>(t x c e).elim (fun z=>(N b f).2.2.2.2.1 x c z) fun z w=>by obtain⟨o,k⟩:=T b f;have:=aM k;rw[<-w] at this;exact de _ (f9 (f9 (fB _) z.1) this)⟩, I.bs,bK I.ok.uJ I.sz,fun b o e f=>?_,fun b f z=>?_,I.stack,I.jT,I.ok.tb.grown I.base.iC⟩, rfl,I.bare,A,⟨m,hC,fun i x v e1 r e3=>?_⟩,fun x c e=>?_,?_,fun x c e=>?_,fun p Z=>?_,?_,?_⟩;.exact B.kind
    . show∃c,cl.lookup x=some c;rcases Lf hx with a|a;case inr=>exact M x a.1
      have z:=J _ a rfl;rw[z];exact I.ok.has x (B.free _ a rfl)
    . obtain⟨_,_,_,f3,_⟩:=N b f;rcases f3 with z|z;.exact I.ok.sJ b o e z
      .exact absurd (cN (aM e) (bK I.ok.uJ z)) (de _)
    . rcases aY.mp (I.gG b z) with e|e;.exact(N b f).2.1 e
      .exact(N b f).2.2.1 e
    . have O:i<ix.length:=by
        unfold qz at r;by_cases O:i<ix.length;.exact O
        .rw[iR (by simpa using O),lD] at r;split at r<;>cases r
      obtain⟨j,C⟩:∃j,ix[i]?=some j:=⟨ix[i],by simp⟩;obtain⟨y,y1,y2,y3⟩:=B.take i j C;have Q:x=y:=by have z:N'[i]?=some x:=e1;rw[y1] at z;exact(dU z).symm
      subst Q;have ev:σ[j]?=some (some v):=by unfold qz at r;rw[gk (by simpa using O),cj,C] at r;have z:(σ[j]?).getD none=some v:=dU r;cases q:σ[j]? with |none=>rw[q] at z;cases z |some w=>rw[q] at z;exact dh some z
      obtain⟨m0,hn0,hl⟩:=I.loc;have Y:(x,NameKind.free)∈scope.names:=f_ y3;have kx:=B.free _ Y rfl;have R:As X.env.scope x:=kx.elim (fun z=>.inr (.inl z)) fun z=>.inr (.inr z);obtain⟨u,ru,lu⟩:=hl j x v y2 ev R;refine⟨u,ru,.inr ⟨?_,?_⟩⟩;.exact Le y3
      . rcases lu with⟨z,_⟩|⟨_,c,hc,l⟩;.rcases kx with w|w<;>(rw[w] at z;cases z)
        . refine⟨c,?_,?_⟩;.show cl.lookup x=some c;rwa[J _ Y rfl]
          .obtain⟨o,k,S⟩:=l;exact⟨o,D c o k,S⟩
    . rcases t x c e with z|⟨_,z⟩;.obtain⟨v,o,k,S⟩:=I.cell x c z;exact⟨v,o,D c o k,S⟩
      omega
    .show upd H _ _ (s.heap.objs.size+1)=none;rw[bj (Nat.succ_ne_self _)];exact I.bI.fresh (ip _)
    . rcases t x c e with z|⟨z,_⟩;.have:=d x c z;rw[bj (a_ this)];exact I.gF x c z
      .rw[bj (eU (f9 (fB _) z))];exact I.bI.fresh (il (f9 (fB _) z))
    . rw[dQ] at Z;obtain⟨U,q2,q3,q4,q5⟩:=I.pin p Z;refine⟨D _ _ U,by rwa[bj (lt U).1],(lt U).2,fun z=>?_,q5⟩;rcases aY.mp (I.gG _ z) with e|e;.exact q3 e
      .exact q4 e
    .exact I.bI.laid D (aG _) ⟨bU _,_,0,.nil,hD⟩
    .unfold qz;rw[h7,aW,List.length_replicate];exact B.len
theorem Tu(I:Inv X pins σ H s)(c:∀b∈fp,jn X pins H b) (J:Inv (X.comp scope cl C N' s H fp pins) [] f H' s'):Inv X pins σ H' s':=by obtain⟨h,g,d,t,e⟩:=s';obtain rfl:e=s.os:=J.os;exact I.call J.base J.bI J.bare fun b a=>⟨(c b a).2.2.2.1,(c b a).2.1,(c b a).2.2.2.2.1,(c b a).2.2.2.2.2⟩
theorem Lg{it:Addr}{RR:Value->Addr->Result->Shared->Prop}(B:gN X scope N' ix n tg elt ifs g tc te)(hc:X.calm=true)(I:Inv X pins σ H s)(T:Turn X.prog X.w X.K tg J fp it tn)(st:tn 0 s.heap)(hf:∀b∈fp,jn X pins H b) (wt:∀x c,cl.lookup x=some c->X.env.cells.lookup x=some c)(Tv:∀y∈scope.names,y.2=.free->cl.lookup y.1=X.env.cells.lookup y.1) (body:∀D,H D=none->Ld D J g tc te Q (qz σ ix n) (upd H D (.lst []))) (Tw:∀D C H' s' m,Inv X pins σ H' s'->s'.heap.Ns C m->jn X pins H' C->Q (.ref D) H'->RR (.ref D) C (.ok .next) s'): wpAny (model X.prog X.w) X.A (newList []) (fun A O=>wpAny (model X.prog X.w) X.A (newFunctionEnv scope X.env.globals cl [] X.env.qual none .none (some X.env)) (fun AX xN=> codeAny (model X.prog X.w) X.A (.compStart (.ListComp elt [⟨tg,iter,ifs,0⟩] scope pos) 0 (.ref it) A {AX with scope:=relabel scope X.env}) (RR A AX.locals) xN) E O) E s:=by
  refine kr (Ts ?_);dsimp only;generalize E4:s.heap.push {cls:=.type "list",dict:=none,data:=.seq ([]:List Value).toArray}=j;have hC:j.objs.size=s.heap.objs.size+1:=by rw[<-E4,iO]
  obtain⟨l,U⟩:∃l,l=cellsFrom (j.objs.size+1) scope.names cl:=⟨_,rfl⟩;rw[<-U];obtain⟨f,eh⟩:∃f,f=pushCells (j.push {cls:=.type "dict",data:=.dict #[]}) scope.names:=⟨_,rfl⟩;rw[<-eh];have kp:∀b o,j.get? b=some o->f.get? b=some o:=fun b o e=>by rw[eh];exact pushCells_keeps _ _ b o (aO _ e)
  have Z:f.Ns j.objs.size fun _=>none:=by rw[eh];exact(Heap.Ns.new j (.type "dict")).keeps (pushCells_keeps _ _)
  have below:∀b,b<s.heap.objs.size->b≠j.objs.size:=fun b M=>by lia
  have old:∀b o,s.heap.get? b=some o->f.get? b=some o:=fun b o e=>kp b o (E4▸aO _ e);have E5:f.get? s.heap.objs.size=some {cls:=.type "list",data:=.seq #[] 0}:=kp _ _ (E4▸cg _ rfl);have Tx:∀x c,cl.lookup x=some c->c<s.heap.objs.size:=fun x c e=>let⟨v,o,ho,_⟩:=I.cell x c (wt x c e);aM ho;have own:∀x c,(x,NameKind.cell)∈scope.names->l.lookup x=some c->s.heap.objs.size+1<c:=fun x c h e=>by rw[U] at e;have:=E2 scope.names _ cl h e fun _ _=>.inr trivial;lia
  have AY:∀x c,l.lookup x=some c->X.env.cells.lookup x=some c\/(s.heap.objs.size+1<c/\∃v,f.IsCell c v):=fun x c e=>by
    by_cases hx:(x,NameKind.cell)∈scope.names
    . refine .inr ⟨own x c hx e,none,?_⟩;have CH:=cellsFrom_ok scope.names (j.push {cls:=.type "dict",data:=.dict #[]}) 0 [] ⟨fun _ _ hm=>(nomatch hm),List.Pairwise.nil⟩ (bU _);have e2:(cellsFrom (j.objs.size+1) scope.names []).lookup x=some c:=by
        have gen:∀(a:List (Str×NameKind))(n:Nat)(A:List (Str×Addr)),(x,NameKind.cell)∈a->(cellsFrom n a A).lookup x=(cellsFrom n a []).lookup x:=by
          have E6:∀(a:List (Str×NameKind))(n:Nat)(A Y:List (Str×Addr)),(x,NameKind.cell)∈a\/A.lookup x=Y.lookup x->(cellsFrom n a A).lookup x=(cellsFrom n a Y).lookup x:=by intro a;induction a with |nil=>intro n A Y h;exact h.elim (fun z=>by cases z) id |cons p r ih=>
              intro n A Y h;obtain⟨y,k⟩:=p;unfold cellsFrom;split
              . rename_i hk;have Tz:k=.cell:=by simp_all
                subst Tz;refine ih _ _ _ ?_;by_cases exy:x=y;.simp_all
                . rcases h with z|z;.simp_all
                  .exact .inr (by simp only[fq,show(x==y)=false by simp_all];exact z)
              . rename_i hk;refine ih _ _ _ ?_;rcases h with z|z
                . rcases aY.mp z with w|w;.cases w;exact absurd rfl hk
                  .exact .inl w
                .exact .inr z
          exact fun a n A h=>E6 a n A [] (.inl h)
        rwa[<-gen scope.names _ cl hx,<-U]
      rw[iO] at CH;rw[eh];exact(CH.empty x c (f_ e2)).1
    .rw[U,CG _ _ _ hx] at e;exact .inl (wt x c e)
  have E7:∀y∈scope.names,y.2=.free->l.lookup y.1=X.env.cells.lookup y.1:=fun y hy hf=>by rw[U,CG _ _ _ (B.xM y hy hf)];exact Tv y hy hf
  have E8:∀x y c,l.lookup x=some c->l.lookup y=some c->x=y:=by rw[U];exact E3 scope.names _ cl (fun x c e=>cN (Tx x c e) (by rw[hC];lia)) fun x y c e1 e2=>I.ok.inj x y c (wt x c e1) (wt y c e2)
  have pC:∀x,scope.names.lookup x=some .cell->∃c,l.lookup x=some c:=fun x h=>by rw[U];exact Option.isSome_iff_exists.mp (oP scope.names _ cl (.inl h))
  have E9:∀x c,scope.names.lookup x=some .cell->l.lookup x=some c->s.heap.objs.size+1<c:=fun x c h e=>own x c (f_ h) e;have sL:∀b,b<s.heap.objs.size->(∀x c,X.env.cells.lookup x=some c->c≠b)->∀x c,l.lookup x=some c->c≠b:=fun b M hold x c e z=>by
    rcases AY x c e with w|⟨w,_⟩;.exact hold x c w z
    .rw[z] at w;exact de _ (f9 (f9 (fB _) w) M)
  have E_:∀b∈fp,∃o,s.heap.get? b=some o:=fun b M=>let⟨o,e,_⟩:=T.obj 0 _ st b M;⟨o,e⟩;have AZ:tn 0 f:=T.keep 0 _ _ st fun b _ o e=>old b o e;have TB:H s.heap.objs.size=none:=I.bI.fresh (aG _);obtain⟨W,⟨m0,w0⟩,turn⟩:=body _ TB;have J0:Inv (X.comp scope l j.objs.size N' s H fp pins) [] (qz σ ix n) (upd H s.heap.objs.size (.lst [])) {s with heap:=f}:=by rw[hC] at Z⊢;exact Tt (tk:=s.toks) B I hf E_ AY E7 E8 pC E9 old E5 Z
  have k8:∀{H':Hp},(∀b∈fp,H' b=none)->∀b∈fp,jn (X.comp scope l j.objs.size N' s H fp pins) [] H' b:=fun hn b M=>by
    obtain⟨f0,f1,f2,f3,f4,f5⟩:=hf b M;obtain⟨o,e⟩:=E_ b M;refine⟨hn b M,below b (aM e),fun z=>?_,.inl M,sL b (aM e) f4,fun p hp=>f5 p ?_⟩
    . rcases aY.mp (I.gG b z) with q|q;.exact f1 q
      .exact f2 q
    .rwa[dQ] at hp
  have TC:∀b∈fp,upd H s.heap.objs.size (.lst []) b=none:=fun b M=>by obtain⟨o,e⟩:=E_ b M;rw[bj (a_ (aM e))];exact(hf b M).1
  have loop:∀O:Shared,O={s with heap:=f}-> codeAny (model X.prog X.w) X.A (.compLoop (.ListComp elt [⟨tg,iter,ifs,0⟩] scope pos) 0 (.ref it) (.ref s.heap.objs.size) (compEnvC scope l j.objs.size X.env)) (RR (.ref s.heap.objs.size) j.objs.size) O:=by
    rintro O rfl;refine Tq (fun k s'=>∃i S G L,Inv (X.comp scope l j.objs.size N' s H fp pins) [] G L s'/\tn i s'.heap/\(∀b∈fp,L b=none)/\W i k S G L) ?_ m0 ⟨0,[],_,_,J0,AZ,TC,w0⟩;rintro k s3 ⟨i,S,wu,L,I3,Lh,Li,w3⟩;obtain⟨hD3,alt⟩:=turn i k S wu L w3;rcases alt with⟨stop,q⟩|⟨go,N,hN,step⟩
    . refine bS (T.done (X.comp scope l j.objs.size N' s H fp pins) rfl rfl rfl hc i [] s3 wu L _ I3 (k8 Li) Lh stop) fun r s4 ⟨hr,I4⟩=>?_;subst hr;obtain⟨m4,TF,_⟩:=I4.loc;refine Tw _ _ L s4 m4 (Tu I hf I4) TF ⟨I4.free,fun z=>?_,fun z=>?_,.inr (bK I.sz (by omega)),fun x c e z=>?_,fun p hp z=>?_⟩ q;.have lt:=I.lt;rw[<-z,hC] at lt;exact absurd lt (Nat.not_lt.mpr (ip _))
      .exact I.Av (show s.heap.objs.size<=j.objs.size by omega) z
      .obtain⟨v,o,ho,_⟩:=I.cell x c e;have lt:=aM ho;rw[z,hC] at lt;exact absurd lt (Nat.not_lt.mpr (ip _))
      .have lt:=aM (I.pin p hp).1;rw[z,hC] at lt;exact absurd lt (Nat.not_lt.mpr (ip _))
    . refine bS (T.item (X.comp scope l j.objs.size N' s H fp pins) rfl rfl rfl hc i [] s3 wu L _ I3 (k8 Li) Lh go) fun r s4 ⟨u,hr,h4⟩=>?_;subst hr;refine bS h4 fun _ s5 ⟨x,H5,I5,r5,y5,Fb,TH⟩=>?_;have back:∀{A0:St}{H7:Hp}{s7:Shared}{A1:List V},Inv (X.comp scope l j.objs.size N' s H fp pins) ([]++yZ fp s5.heap) A0 H7 s7->N A1 A0 H7-> ∃m,m<k/\∃i S G L,Inv (X.comp scope l j.objs.size N' s H fp pins) [] G L s7/\tn i s7.heap/\(∀b∈fp,L b=none)/\W i m S G L:=fun{A0 H7 s7 A1} I7 n7=>by obtain⟨m',hm,w7⟩:=hN A1 A0 H7 n7;refine⟨m',hm,i+1,A1,A0,H7,I7.gI,T.keep _ _ _ Fb fun b M o e=>(I7.pin (b,o) (dz _ (dz _ (AI M e)))).1,fun b M=>?_,w7⟩;obtain⟨o,e,d⟩:=T.obj _ _ Fb b M;exact(I7.pin (b,o) (dz _ (dz _ (AI M e)))).2.1
      refine bS (B.tgt l j.objs.size s H fp pins _ s5 wu H5 x u _ (I5.pinned (k8 TH) (T.obj _ _ Fb)) r5 (step x H5 y5)) fun _ s6 ⟨R,H6,I6,q6⟩=>?_;have fin:∀(b:Bool)(s7:Shared),TP (X.comp scope l j.objs.size N' s H fp pins) ([]++yZ fp s5.heap) R (fun b H4=>if b=true then te R H4 fun y H5=>H5 s.heap.objs.size=some (.lst S)/\S.length<sizeLine/\N (S++[y]) R (upd H5 s.heap.objs.size (.lst (S++[y]))) else N S R H4) b s7-> if b=true then wpAny (model X.prog X.w) X.A (eval elt (compEnvC scope l j.objs.size X.env)) (fun x xN=> wpAny (model X.prog X.w) X.A (call (.builtin "list.append") [.ref s.heap.objs.size,x]) (fun _ A2=>∃m,m<k/\∃i S G L,Inv (X.comp scope l j.objs.size N' s H fp pins) [] G L A2/\tn i A2.heap/\(∀b∈fp,L b=none)/\W i m S G L) (fun _ _=>False) xN) (fun _ _=>False) s7 else∃m,m<k/\∃i S G L,Inv (X.comp scope l j.objs.size N' s H fp pins) [] G L s7/\tn i s7.heap/\(∀b∈fp,L b=none)/\W i m S G L:=by rintro b s7 ⟨H7,I7,q7⟩;cases b with |false=> rw[ao fA] at q7⊢;exact back I7 q7 |true=> rw[aq rfl] at q7⊢;refine bS (B.elt l j.objs.size s H fp pins _ s7 R H7 _ I7 q7) fun y s8 ⟨yv,H8,I8,r8,TJ,hz,n8⟩=>?_;exact bS (CA _ s8 R H8 (.ref s.heap.objs.size) [yv] (.ref s.heap.objs.size) [y] (fun _ H9=>N (S++[yv]) R H9) I8 rfl (.cons r8 .nil) ⟨_,S,yv,rfl,rfl,TJ,hz,n8⟩) fun _ s9 ⟨_,H9,I9,_,n9⟩=>back I9 n9
      rcases B.test with⟨e1,e2⟩|⟨c,t,e1,e2,ht⟩;.subst e1;subst e2;exact wpAny_tests_nil (fin true s6 ⟨H6,I6,q6⟩)
      .subst e1;subst e2;exact wpAny_tests_one (bS (ht l j.objs.size s H fp pins _ s6 R H6 _ I6 q6) fun b s7 z=>fin b s7 z)
  exact codeAny_compStart_list (loop _ rfl) (T.self X.A 0 _ _ _ AZ (loop _ rfl))
theorem kC(E:X.calm=true)(hi:PI X tg iter l)(B:gN X scope N' ix n tg elt ifs g tc te)(z:∀x,foldedSetIterable iter X.env x=pure x:=by intro _;rfl): PE X (.ListComp elt [⟨tg,iter,ifs,0⟩] scope pos) (y7 l ix n g tc te):=by intro k s σ H Q I h;obtain⟨cl,a,f,i⟩:=Lb fun y t S=>I.ok.has _ (B.free y t S);refine wpAny_comprehension_free rfl z a B.kind B.names (bS (hi _ s _ H _ I h) fun v s1 w=>bS w fun R s2 h2=>?_);obtain⟨it,fp,tn,J,H2,rfl,N,T,j,A,c⟩:=h2;refine Lg B E N T j A f i c fun D C H' s' m Z O r q=>⟨m,O,fun h' d=>?_⟩;obtain⟨M,p,U,u,Y,G⟩:=r;exact⟨.ref D,_,Z.turned (fun b o L e=>(d.2 b L).trans e) M p u Y G,rfl,q⟩
theorem TK(hN:X.N.Nodup)(w:X.N[i]?=some y)(p:Loc X.env.scope y)(hc:X.calm=true)(hi:PI X tg iter Y)(B:gN X scope N' ix n tg elt ifs g tc te) (E:swapsWith (.ListComp elt [⟨tg,iter,ifs,0⟩] scope pos) (some (.Name y py)) j.line X.env=pure true)(L:X.fn y=true\/X.env.scope.names.lookup y=some .local:=by first|exact .inl rfl|exact .inr rfl|assumption) (hs:∀x,foldedSetIterable iter X.env x=pure x:=by intro _;rfl): PS X (.Assign [.Name y py] (.ListComp elt [⟨tg,iter,ifs,0⟩] scope pos) j) (k7 (y7 Y ix n g tc te) (ua i)):=by
  intro N s σ H D I h;rw[exec_Assign_Name_used _ _ _ _ E];refine ah (gE (ah ?_));obtain⟨cl,c,u,M⟩:=Lb fun y p L=>I.ok.has _ (B.free y p L);refine ah (di (wpAny_comprehension_free rfl hs c B.kind B.names (bS (hi _ s _ H _ I h) fun v s1 h1=>bS h1 fun Sj s2 h2=>?_)) (fun _ s' hq=>ax (ax hq)) fun _ _ e=>e);obtain⟨it,fp,tn,J,H2,rfl,I2,T,t,f2,f⟩:=h2;refine Lg B hc I2 T t f2 u M f fun D' C H' s' m I' R hC q=>?_;obtain⟨Z,S,l,O,Q,U⟩:=hC
  have Ip := I'.pinned (fp := [C]) (fun b hb => by have e:b=C:=by simp_all
                                                   subst e;exact⟨Z,S,l,O,Q,U⟩) (fun b hb=>by
    have e:=by simpa using hb
    subst e;obtain⟨o,es,ep,A,r,_⟩:=R;exact⟨o,A,fun v z=>by rw[r] at z;cases z⟩);refine wpAny_assign_Name (Cf Ip hN w p (v:=.ref _) rfl (fun s'' d=>?_) L);obtain⟨o,es,ep,A,r,hr⟩:=R;have a:=d.pin _ (dz _ (dz _ (AI (by simp) A)));exact⟨m,⟨o,_,_,a.1,r,hr⟩,fun h' G=>⟨_,_,d.gI.turned (fun b o hb e=>(G.2 b hb).trans e) a.2.1 S O Q U,q⟩⟩
end
section
variable{X:Cx}{scope:Scope}{tg elt:Expr}{ifs:List Expr}{g:TG}{tc:Option TT}{te:TE}
theorem Fc(b:Scope)(u d:List Str)(l:List Nat)(n:Nat)(B:X.env.scope=b)(q:X.N=u)(h:scope.kind=.function)(o:(scope.names.all fun y=>y.2 !=.free||scope.names.all fun z=>!(z.1==y.1)||z.2 !=.cell)=true)(a:∀y∈scope.names,y.2=.local->scope.names.lookup y.1=some .local) (v:(scope.names.all fun y=>y.2 !=.free||(b.names.lookup y.1==some .cell||b.names.lookup y.1==some .free))=true)(r:l.length+n=d.length) (f:((List.range l.length).all fun j=>match d[j]?,u[l.getD j 0]? with|some x,some y=>x==y&&scope.names.lookup x==some .free|_,_=>false)=true) (p:∀(cl:List (Str×Addr))(C:Addr)(s:Shared)(H:Hp)(fp:List Addr)(pins:List (Addr×Obj)),PG (X.comp scope cl C d s H fp pins) tg g) (m:∀(cl:List (Str×Addr))(C:Addr)(s:Shared)(H:Hp)(fp:List Addr)(pins:List (Addr×Obj)),PE (X.comp scope cl C d s H fp pins) elt te) (k:(ifs=[]/\tc=none)\/∃c t,ifs=[c]/\tc=some t/\∀(cl:List (Str×Addr))(C:Addr)(s:Shared)(H:Hp)(fp:List Addr)(pins:List (Addr×Obj)),PT (X.comp scope cl C d s H fp pins) c t): gN X scope d l n tg elt ifs g tc te:= ⟨h,fun y D e L=>by grind,a,fun y D e=>by show X.env.scope.names.lookup _=_\/X.env.scope.names.lookup _=_;grind,r,fun j i e=>by
 obtain⟨J,_⟩:=b'.mp e;have E:l.getD j 0=i:=by rw[dR,e];rfl
 have z:=iP.mp f j (iU.mpr J);rw[E] at z;cases w:d[j]? with |none=>grind |some x=> cases A:u[i]? with |none=>rw[w,A] at z;cases z |some y=>
  rw[w,A] at z;have I:=by simpa using z
  obtain⟨rfl,G⟩:=I;exact⟨x,rfl,by rwa[q],G⟩,p,m,k⟩
end
structure uW(P:Program)(w:World)(K:PySem.W.Frag)(mg:Str->Option Value)(base:Heap)(CX:jo)(k:Nat)(x:Str)(ps:List Str)(sp:Sp):Prop where ex:∃(f:Addr) (fd:FuncData),cz P w K mg base CX k f fd ps sp/\mg x=some (.ref f)/\PySem.W.keepIn K (.ref f)=true/\Binds K fd ps []
section
variable{X:Cx}{CX:jo}{k:Nat}{x:Str}{ps:List Str}{sp:Sp}{E:XK}{p pos:Pos}{e:Expr}{es:List Expr}{t:TA}
theorem Lj(G:uW X.prog X.w X.K X.mg X.base CX k x ps sp)(g:cu k X.A)(i:Gl X x)(d:nI CX X E) (j:PA X (e::es) t)(a:(x==("__debug__":Str))=false:=by decide)(h:starEach (e::es) X.env=(false,eval e X.env)::starEach es X.env:=by rfl)(b:(backTo pos (starEach es X.env)).any (·.1)=false:=by rfl): PE X (.Call (.Name x p) (e::es) [] pos) (uc sp [] E t):=let⟨f,_,F,m,c,l⟩:=G.ex;Ko F g i m c l .nil d j a h b
end
structure nN(K:PySem.W.Frag)(x:Str)(st:Stmt)(f:Addr)(fd:FuncData):Prop where ns:PySem.W.nsIn K mainGlobals x=some (some (.ref f))fn:jM K x x st f fd
theorem sS{K:PySem.W.Frag}{st:Stmt}{kV d e b g:Value}(a:PySem.W.nsIn K mainGlobals x=some (some (.ref f))) (l:K.lookup f=some ⟨i,od,.func (PySem.W.fnOf x x (nM st) (kS st) (cM st) .none kV d e an b g),h⟩)(c:PySem.W.codeIn K b x=true)(k:PySem.W.keepIn K (.ref f)=true):∃f fd,nN K x st f fd:= ⟨f,_,a,CF l c k⟩
theorem nN.has{K:PySem.W.Frag}{st:Stmt}(D:nN K x st f fd)(X:K.In h)(G:h.Ns mainGlobals mg) (c:cz P w K mg a CX k f fd ps sp)(b:Binds K fd ps []):uW P w K mg a CX k x ps sp:=⟨f,_,c,dg X G D.ns,D.fn.kp,b⟩
theorem TL(c:H b=none)(h:H a=some o):upd H b u a=some o:=(bj (dC h c)).trans h
theorem aC.upd(a:H b=none):aC H (upd H b u):=fun _ _ h=>TL a h
section
variable{X:Cx}{pos:Pos}
end
theorem js{K:PySem.W.Frag}(h1:((Value.type S)==(Value.type T))=false)(h2:PySem.W.kitMeta T=true)(h3:(PySem.fastBuiltinMro S).map (·.contains (.type T))=some false):PySem.W.kitOne K (.type S) (.type T)=some false:=by unfold PySem.W.kitOne;rw[h1];show(if PySem.W.kitMeta T=true then PySem.W.subIn K _ _ else none)=some false;rwa[aq h2]
structure Tr(h:Heap)(e T:Addr)(cls:Value)(dJ:Option Addr)(fl:Value):Prop where
 ex:∃(oe:Obj) (vs:Array Value) (oT:Obj) (ts:Array Value),h.get? e=some oe/\oe.cls=cls/\oe.dict=dJ/\oe.data=.fields vs/\vs[1]?=some (.ref T)/\h.get? T=some oT/\oT.data=.fields ts/\ts[3]?=some fl
 ne:T≠e
structure kD(B:Heap)(l:List Env)(e:Addr)(cls:Value)(dJ:Option Addr)(fl:Value)(h:Heap):Prop where
 stays:B.StaysIn h
 out:B.get? e=none
 uX:h.FunFrames B l
 tr:∃T,B.get? T=none/\Tr h e T cls dJ fl
theorem Obj.kE(o:Obj)(f):(o.mapFields f).dict=o.dict:=by obtain⟨c,d,a,b⟩:=o;cases a<;>rfl
theorem y8{h:Heap}(e:h.get? a=some o)(hd:o.data=.fields vs)(c:h.get? b=some u)(d:∀ws,u.data≠.fields ws):b≠a:=by intro z;simp_all
section
variable{M:Model}{A:Around}{E:Value->Shared->Prop}{s:Shared}{B:Heap}{env:Env}{outer l:List Env}{L e:Addr}{cls:Value}{dJ:Option Addr}{Q:Unit->Shared->Prop}
theorem Fd(u:A.frames=some (env::outer))(k:s.heap.FunFrames B (env::outer))(U:env.frame=some L)(C:s.heap.get? e=some y)(hd:y.data=.fields vs)(hsz:1<vs.size) (n:B.StaysIn s.heap)(p:B.get? e=none)(h:∀h',kD B (env::outer) e y.cls y.dict (rawInt L) h'->s.heap.UpToSlots h'->Q () {s with heap:=h'}): wpAny M A (do let a<-frameOf env;let pl<-entryPlaceOf L Y;let b<-EntryCells.newEntry N a .none (rawInt L) .none pl;setField (.ref e) 1 b) Q E s:=by
  have r:e∉(env::outer).filterMap _:=fun w=>by obtain⟨_,o,Z,m⟩:=k.mem w;simp_all
  refine ah (wpAny_frameOf_fun u k U fun f c=>ah (wpAny_entryPlaceOf fun pl D=>?_));have H:=(c.2.1 e r).trans C;have j:B.StaysIn _:=fun b o q=>(c.2.1 b fun w=>by rw[(k.mem w).1] at q;cases q).trans (n b o q);refine ah (kr ?_ (D.sizeOk5 _ _ _ _ _));generalize v:({cls:=.type _,dict:=none,data:=.fields _}:Obj)=G;have O:∃x,G.data=.fields x/\x[3]?=some (rawInt L):=by subst v;simp
  have t:=let⟨_,d,_⟩:=O;lX d;have R:(f.push G).get? e=some _:=aO _ H;refine ku R hd hsz (h _ ?_ ?_)
  . have i:=eU (aM H);have J:∀b o,b≠e->f.get? b=some o->((f.push G).update e (Obj.mapFields (·.setIfInBounds 1 (Value.ref f.objs.size)))).get? b=some o:=fun b o g q=>by rw[fO _ _ (aR g)];exact aO _ q
    have I:=ki hd (·.setIfInBounds 1 (Value.ref f.objs.size));refine⟨fun b o q=>J b o (fun z=>by simp_all) (j b o q),p,k.of_keeps fun b o g m=>?_,_,j.fresh,⟨?_,i⟩⟩;.obtain⟨S,q⟩:=c.2.2 b o g;exact⟨_,J b _ (y8 C hd g m) q,rfl⟩
    .obtain⟨x,X,T⟩:=O;refine⟨_,_,_,_,jC _ R (lX I),Obj.cls_mapFields _ _,Obj.kE _ _,I,by simp_all,?_,X,T⟩;rw[fO _ _ (aR i)];exact cg _ t
  .intro b o g m;obtain⟨S,q⟩:=c.2.2 b o g;refine⟨S,?_⟩;rw[fO _ _ (aR (y8 C hd g m))];exact aO _ q
theorem Fe(F:kD B l e cls dJ fl s.heap)(h:∀h',kD B l e cls dJ .none h'->s.heap.UpToSlots h'->Q () {s with heap:=h'}):wpAny M A (setFlight (.ref e) none) Q E s:=by
 obtain⟨T,m,⟨w,x,y,v,j,t,i,r,p,f,a,u⟩,k⟩:=F.tr;have n:=(uF.mp u).1;have c:∀b o,b≠T->s.heap.get? b=some o->(s.heap.update T (Obj.mapFields (·.setIfInBounds 3 Value.none))).get? b=some o:=fun b o d q=>by rwa[fO _ _ (aR d)]
 exact ah (cm j r p (ku f a n (h _ ⟨fun b o q=>c b o (fun z=>by rw[z,m] at q;cases q) (F.stays b o q),F.out,F.uX.of_keeps fun b o d g=>⟨o,c b o (y8 f a d g) d,rfl⟩,T,m,⟨⟨_,_,_,_,c e _ (aR k) j,t,i,r,p,jC _ f (lX (ki a _)),ki a _,by simp[n]⟩,k⟩⟩ fun b o d g=>⟨_,c b o (y8 f a d g) d⟩)))
theorem TM(d:A.frames=some (env::outer))(g:env.frame=some L)(a:B.StaysIn h)(m:h.FunFrames B (env::outer))(c:Heap.MadeExcOf h s.heap e cls i) (k:∀h',kD B (env::outer) e cls none (rawInt L) h'->s.heap.UpToSlots h'->Q () {s with heap:=h'}):wpAny M A (noteFrame (.ref e) env) Q E s:=by
 obtain⟨t,f,_,_⟩:=c.there;have j:B.get? e=none:=by cases q:B.get? e with |none=>rfl |some o=>have z:=a e o q;rw[c.new] at z;cases z
 unfold noteFrame;simp[g];exact ah (cm f rfl rfl (Fd d (m.of_keeps fun b o n _=>⟨o,c.keeps b o n,rfl⟩) g f rfl (by simp) (fun b o q=>c.keeps b o (a b o q)) j k))
theorem TN(h:A.frames=some (env::outer))(p:env.frame=some L)(F:kD B (env::outer) e cls dJ .none s.heap) (k:∀h',kD B (env::outer) e cls dJ (rawInt L) h'->s.heap.UpToSlots h'->Q () {s with heap:=h'}):wpAny M A (noteFrame (.ref e) env) Q E s:=by
 obtain⟨T,v,⟨D,G,C,H,r,u,i,m,j,g,c,n⟩,x⟩:=F.tr;have w:=(uF.mp n).1;have a:∀b o,b≠T->s.heap.get? b=some o->(s.heap.update T (Obj.mapFields (·.setIfInBounds 3 Value.none))).get? b=some o:=fun b o d q=>by rwa[fO _ _ (aR d)]
 subst u;subst i;unfold noteFrame;simp[p];refine ah (cm r m j (ah (cm g c n (ah (ku g c w (Fd h (F.uX.of_keeps fun b o d f=>⟨o,a b o (y8 g c d f) d,rfl⟩) p (a e _ (aR x) r) m (uF.mp j).1 (fun b o q=>a b o (fun z=>by rw[z,v] at q;cases q) (F.stays b o q)) F.out fun h' y t=>?_))))));exact k _ y fun b o d f=>t b o (a b o (y8 g c d f) d) f
theorem kD.pop(F:kD B (env::outer) e cls dJ fl h):kD B outer e cls dJ fl h:=⟨F.stays,F.out,F.uX.2.2,F.tr⟩
end
structure TQ(P:Program)(w:World)(outer:List Env)(H:Hp)(s:Shared)(e:Addr)(cls:Value)(dJ:Option Addr)(H':Hp)(s':Shared):Prop where
 os:s'.os=s.os
 bare:AllBare s'.gens
 un:Un (kZ outer) [] H H' s.heap s'.heap
 lay:∃B,kD B outer e cls dJ .none s'.heap/\ic P w H' B/\∀b o,s.heap.get? b=some o->b∉kZ outer->∃o',B.get? b=some o'/\(H b=none->o'=o)
def qW(P:Program)(w:World):jo:=fun a H s E e f=>∃(d C:Addr) (b:Option Addr) (c:Hp),e=.ref d/\TQ P w a H s d (.ref C) b c f/\E (.ref C) b c
theorem ic.none_of(x:ic P w H B)(n:B.get? a=none):H a=none:=by cases q:H a with |none=>rfl |some o=> have b:=(x a o q);cases o with |lst i=>obtain⟨_,_,_,_,e⟩:=b;simp_all |tup i=>obtain⟨_,_,_,o,e,_⟩:=b;simp_all |dK c=>obtain⟨_,_,_,_,o,_,_,e,_⟩:=b;simp_all |dT c=>obtain⟨_,_,_,_,o,_,_,e,_⟩:=b;simp_all |set S J=>obtain⟨o,_,_,_,e,_⟩:=b;simp_all |ins C G r=>obtain⟨_,_,_,e,_⟩:=b;simp_all |own y=>obtain⟨_,e⟩:=b;simp_all |xd r=>obtain⟨_,⟨_,_,_,e,_⟩,_⟩:=b;simp_all |lI lo z=>obtain⟨_,_,_,e⟩:=b;simp_all |jI A u=>obtain⟨e,_⟩:=b;simp_all |pd v=>obtain⟨_,_,_,_,_,_,_,e,_⟩:=b;simp_all |met f y=>have e:B.get? a=some _:=b;simp_all |ext t=>obtain⟨_,⟨_,e⟩,_⟩:=b;simp_all
theorem Ff{h0 h1 h2 h3 B:Heap}(U:Un fs [] k t h0 h1)(V:Un fr [] t y h1 h2)(A:h0.objs.size<=L)(sub:∀b∈fr,b∈L::fs)(m:∀b∈fs,b∈fr)(p:∀b∈fs,k b=none) (j:∀b∈fs,∀o,h2.get? b=some o->∀vs,o.data≠.fields vs)(D:h2.UpToSlots h3)(st:B.StaysIn h3)(r:∀b o,h1.get? b=some o->b∉fr->∃f,B.get? b=some f/\(t b=none->f=o)): Un fs [] k y h0 h3/\∀b o,h0.get? b=some o->b∉fs->∃f,B.get? b=some f/\(k b=none->f=o):=by
  have s:∀b o,h0.get? b=some o->b∉fs->b∉fr:=fun b o e a x=>by
    rcases aY.mp (sub b x) with z|z;.exact absurd (cN (aM e) A) (by simp_all)
    .grind
  have c:∀b o,h0.get? b=some o->b∉fs->∃f,B.get? b=some f/\(k b=none->f=o):=fun b o e a=>by obtain⟨w,g⟩:=U.there b o e (by simp);obtain⟨H,h,z⟩:=r b _ g (s b o e a);refine⟨_,h,fun n=>?_⟩;have i:=U.keep b o e n a (by simp);rw[g] at i;cases i;exact z (U.free b o e n (by simp))
  have d:∀b o,h0.get? b=some o->b∈fs->∃v,h3.get? b=some {o with slots:=v}:=fun b o e a=>by have n:=p b a;obtain⟨N,g⟩:=U.slot b o e n a (by simp);obtain⟨J,h⟩:=V.slot b _ g (U.free b o e n (by simp)) (m b a) (by simp);obtain⟨G,C⟩:=D b _ h (j b a _ h);exact⟨_,C⟩
  refine⟨⟨fun b o e n a _=>?_,fun b o e n a _=>d b o e a,fun b o e n _=>?_,fun b o e _=>?_,fun b E e=>V.kA b _ (U.kA b _ e),fun b o u e=>V.jJ b o u (U.jJ b o u e),fun b I e=>?_⟩,c⟩;.obtain⟨f,l,z⟩:=c b o e a;rw[z n] at l;exact st b o l
  .obtain⟨w,g⟩:=U.there b o e (by simp);exact V.free b _ g (U.free b o e n (by simp)) (by simp)
  . by_cases a:b∈fs;.obtain⟨v,q⟩:=d b o e a;exact⟨_,q⟩
    .obtain⟨f,l,_⟩:=c b o e a;exact⟨_,st b _ l⟩
  .obtain⟨O,g⟩:=U.iC b _ e;obtain⟨M,h⟩:=V.iC b _ g;exact⟨_,by rw[h,Array.append_assoc]⟩
section
variable{P:Program}{w:World}{K:PySem.W.Frag}{mg:Str->Option Value}{base:Heap}{N:List Str}{qual:Str}{scope:Scope}{f:Addr}{cd:Value}{A:Around}{outer:List Env}{s0:Shared}{H0:Hp}{E:XK}
abbrev kF(P:Program)(w:World)(K:PySem.W.Frag)(mg:Str->Option Value)(base:Heap)(N:List Str)(qual:Str)(scope:Scope)(f:Addr)(cd:Value)(A:Around)(outer:List Env)(s0:Shared)(H0:Hp)(E:XK):Cx:=nJ (qW P w) P w K mg base N qual scope f cd A outer s0 H0 E
theorem TR(I:Inv (kF P w K mg base N qual scope f cd A outer s0 H0 E) pins σ H s)(r:Heap.MadeExcOf s.heap s'.heap ea (.ref C) m) (os:s'.os=s.os)(j:AllBare s'.gens)(q:E (.ref C) none H):(kF P w K mg base N qual scope f cd A outer s0 H0 E).xe (.ref ea) s':=by have l:∀i∈(kF P w K mg base N qual scope f cd A outer s0 H0 E).stack,∀a,i.frame=some a->a∈kZ _:=fun i y a x=>lH.mpr ⟨_,y,x⟩;have d:=I.stack;refine ah (TM I.ok.frames rfl (fun b o e=>oU _ e) (PySem.W.funFrames_hide d l) r fun G B up1=>(Fe B fun J p k=>?_));have c:∀b o,s.heap.get? b=some o->b∉kZ (kF P w K mg base N qual scope f cd A outer s0 H0 E).stack->(PySem.W.hideAll _ _).get? b=some o:=fun b o e g=>oQ _ e g;obtain⟨u,h⟩:=Ff I.base Un.refl I.ok.above I.gG (fun b g=>bJ _ g) I.ok.t8 (fun b g o e=>by obtain⟨_,D,t,L⟩:=d.mem (bJ _ g);simp_all) ((Heap.UpToSlots.of_keeps r.keeps).trans (up1.trans k)) p.stays (fun b o e g=>⟨o,c b o e g,fun _=>rfl⟩);refine⟨_,C,_,H,rfl,⟨os.trans I.os,j,u,_,p.pop,?_,h⟩,q⟩;intro a o e;refine(I.bI a o e).iB (fun b v g q=>c b v q fun z=>?_) (fun _ q=>q) fun _ _ q=>q;have n:=I.jT b z;simp_all
theorem TU(I:Inv (kF P w K mg base N qual scope f cd A outer s0 H0 E) pins σ H s)(h:qW P w (kF P w K mg base N qual scope f cd A outer s0 H0 E).stack H s E e s'): (kF P w K mg base N qual scope f cd A outer s0 H0 E).xe e s':=by obtain⟨x,C,n,p,rfl,F,q⟩:=h;obtain⟨B,k,d,c⟩:=F.lay;refine ah (TN I.ok.frames rfl k fun v m up1=>(Fe m fun y j g=>?_));obtain⟨u,a⟩:=Ff I.base F.un I.ok.above I.gG (fun b i=>bJ _ i) I.ok.t8 (fun b i o e=>by obtain⟨_,t,l,r⟩:=k.uX.mem (bJ _ i);simp_all) (up1.trans g) j.stays c;exact⟨_,C,_,_,rfl,⟨F.os.trans I.os,F.bare,u,B,j.pop,d,a⟩,q⟩
end
theorem TV{K:PySem.W.Frag}(X:K.In h)(q:PySem.W.excIn K C d newId=true): ∃bm N nm e bs hdct sn sub ab col dd k0 k1 k2 k3 k5 mN,h.get? C=some (excClassObj nm e C N bs bm hdct sn sub ab col dd k0 k1 k2 k3 k5 newId)/\h.Ns N mN/\mN "__init__"=none/\OwnTail h d bm:=by
  unfold PySem.W.excIn at q;split at q
  . rename_i dd f g l;split at q;.rename_i s bm k0 k1 k2 k3 n k5 k m;simp[e_] at q;obtain⟨⟨⟨⟨⟨rfl,rfl⟩,a⟩,o⟩,b⟩,c⟩:=q;obtain⟨nm,bs,p,t,e,r,sn,sub,ab,col,i⟩:=f;subst k a;obtain⟨j⟩:=g;subst m;exact⟨_,_,_,_,_,_,_,_,_,_,_,_,_,_,_,_,_,X _ _ l,.of_isNs (oR X b),PySem.W.nsMap_none_of_in X b c,PySem.W.tail_of_in X o⟩
    simp_all
  simp_all
def Made(X:Cx)(E:St->XK):Prop:=∀(a:List (Addr×Obj))(e:St)(H:Hp)(s c:Shared)(d C:Addr)(b:List Value),Inv X a e H s->Heap.MadeExcOf s.heap c.heap d (.ref C) b->c.os=s.os->AllBare c.gens->E e (.ref C) none H->X.xe (.ref d) c
def Fg(CX:jo)(X:Cx)(E:St->XK):Prop:=∀(a:List (Addr×Obj))(c:St)(H:Hp)(s:Shared)(e:Value)(b:Shared),Inv X a c H s->CX X.stack H s (E c) e b->X.xe e b
def Lk(C:Addr)(E:St->XK)(t:TA):TS:=fun _ a H=>t a H fun b c=>b.length<=sizeLine/\E a (.ref C) none c
section
variable{X:Cx}{x:Str}{np dD pos:Pos}{iE:Expr}{rest:List Expr}{C:Addr}{mZ wx:List Value}{newId Bn B wz wA gO:String}{E:St->XK}{t:TA}
theorem A3(hc:X.calm=true)(S:Gl X x)(d:X.mg x=some (.ref C))(u:PySem.W.excIn X.K C mZ newId=true)(G:ExcBaseFacts Bn newId wA wx)(c:mZ.contains (.type Bn)=true)(o:ExcBaseFacts B wz gO mZ)(hE:Made X E) (r:PA X (iE::rest) t)(n:starEach (iE::rest) X.env=(false,eval iE X.env)::starEach rest X.env:=by rfl)(b:(backTo dD (starEach rest X.env)).any (·.1)=false:=by rfl)(i:(x==("__debug__":Str))=false:=by decide): PS X (.Raise (some (.Call (.Name x np) (iE::rest) [] dD)) none pos) (Lk C E t):=by intro m s σ H D I h;obtain⟨tl,N,U,y,bs,a,M,e,Z,g,Q,w,v,J,R,L,mN,Y,p,f,T⟩:=TV I.ok.mod.wg u;refine wpAny_Raise_call_subU (nm:=U) (q:=y) (N:=N) (bs:=bs) (hdct:=a) (sn:=M) (sub:=e) (ab:=Z) (col:=g) (dd:=Q) (k0:=w) (k1:=v) (k2:=J) (k3:=R) (k5:=L) G c o (T.hasType o.hasBase) (I.ok.hd hc) (by rw[n];show(false||(backTo _ _).any _)=false;simp_all) f (Aw I S d ⟨rfl,?_⟩ i);have l:=r dD _ s _ H _ I h;rw[n] at l⊢;refine p5 (bS l fun us s1 ⟨_,_,j,O,z,q⟩=>?_);have k:=j.bk;exact⟨rfl,by rwa[<-O.length],k _ _ Y,p.keeps k,T.keeps k,fun h' ea A=>hE _ _ _ _ _ _ C _ j A rfl j.bare q⟩
end
def Fh(sp:Sp)(E:St->XK)(t:TA):TE:=fun a H Q=>t a H fun b c=>sp b c Q (E a)
section
variable{X:Cx}{CX:jo}{k:Nat}{x:Str}{ps:List Str}{sp:Sp}{E:St->XK}{p pos:Pos}{e:Expr}{es:List Expr}{t:TA}
theorem TX(G:uW X.prog X.w X.K X.mg X.base CX k x ps sp)(D:cu k X.A)(N:Gl X x)(M:Fg CX X E) (w:PA X (e::es) t)(i:(x==("__debug__":Str))=false:=by decide)(A:starEach (e::es) X.env=(false,eval e X.env)::starEach es X.env:=by rfl)(d:(backTo pos (starEach es X.env)).any (·.1)=false:=by rfl): PE X (.Call (.Name x p) (e::es) [] pos) (Fh sp E t):=by
 obtain⟨f,O,F,C,L,o⟩:=G.ex;intro n s y H Q I h;refine iv (Aw I N C (lZ I.ok.mod.wg L (bS (w _ _ s _ H _ I h) fun c m ⟨_,Z,a,r,q⟩=>⟨a.iD,?_⟩) A d) i);have U:c.length=ps.length:=by rw[<-r.length];exact F.len _ _ _ _ q
 have v:BindsTo m O ⟨c,[]⟩ (ps.zip c):=by have z:=o _ c a.iD (by simp_all);simp_all
 refine gC (gB (F.run X.A _ m _ _ _ _ Q _ D a.uQ v r q) fun R T b=>?_);cases R with |error S=>exact M _ y _ _ _ _ a b |ok B=> cases B with |ret u=>exact a.after b |next=>exact False.elim b |brk=>exact False.elim b |cont=>exact False.elim b
end
def Fi(C:Addr)(b:Option Addr)(ea:Addr):HO:=.ext fun h=>∃a,h.get? ea=some a/\a.cls=.ref C/\a.dict=b/\∃c,a.data=.fields c
theorem Inv.wB(I:Inv X pins σ H s)(A:H ea=none)(h0:X.fC.heap.get? ea=none)(h:ea≠X.env.locals)(l:∀x c,X.env.cells.lookup x=some c->c≠ea) (f:∀p∈X.pn++pins,p.1≠ea)(d:dv X.prog X.w (upd H ea o) s.heap ea o):Inv X pins σ (upd H ea o) s:=by
  have a:∀{b:Addr}{u:HO},H b=some u->b≠ea:=fun q z=>by simp_all
  refine⟨I.ok,I.os,I.bare,⟨I.base.keep,I.base.slot,fun b r q n g=>?_,I.base.there,fun b i q=>?_,fun b r u q=>?_,fun b B q=>?_⟩,I.loc,I.cell,?_,fun x c q=>?_,fun p q=>?_,fun b u q=>?_,I.len⟩;.rw[bj (fun z=>by rw[z,h0] at q;cases q)];exact I.base.free b _ q n g
  .have z:=I.base.kA b _ q;rwa[bj (a z)]
  .have z:=I.base.jJ b _ u q;rwa[bj (a z)]
  .obtain⟨m,z⟩:=I.base.iC b _ q;exact⟨m,by rwa[bj (a z)]⟩
  .rw[bj (aR h)];exact I.free
  .rw[bj (l x c q)];exact I.gF x c q
  .obtain⟨t,y,k,w,j⟩:=I.pin p q;exact⟨t,by rwa[bj (f p q)],k,w,j⟩
  . by_cases e:b=ea;.subst e;rw[cw] at q;grind
    .rw[bj e] at q;exact(I.bI b u q).iB (fun c v _ z=>z) (fun c z=>by rwa[bj (a z)]) fun c i z=>by rwa[bj (a z)]
section
variable{P:Program}{w:World}{X:Cx}{x n:Str}{np Fj pos:Pos}{body:List Stmt}{Fl:Stmt}{A4:List Stmt}{D':Addr}{tb:(St->XK)->TS}{th:TS}{i:Nat}
end
structure gQ(K:PySem.W.Frag)(C:Addr):Prop where
 ga:PySem.W.findIn K (.ref C) "__getattribute__"=some (some (.builtin "BaseException.__getattribute__"))gn:PySem.W.findIn K (.ref C) "__getattr__"=some none
 hd:PySem.W.hasDictIn K C=true
 ha:PySem.W.findIn K (.ref C) "__class__"=some (some (.builtin "object.__class__"))hn:PySem.W.specialIn K (.builtin "object.__class__") "__get__"=some (some (.builtin "getset_descriptor.__get__"))Sy:PySem.W.takesIn K (.builtin "object.__class__")=some true
 hm:PySem.W.mroIn K C (.type "object")=some true
 hb:PySem.W.mroIn K C (.type "BaseException")=some true
section
variable{X:Cx}
end
section
variable{P:Program}{w:World}{K:PySem.W.Frag}{mg:Str->Option Value}{base:Heap}{N:List Str}{qual:Str}{scope:Scope}{f:Addr}{cd:Value}{A:Around}{outer:List Env}{s0:Shared}{H0:Hp}{E:XK}
theorem A5:Made (kF P w K mg base N qual scope f cd A outer s0 H0 E) (fun _=>E):=fun _ _ _ _ _ _ _ _ I b os a q=>TR I b os a q
theorem y9:Fg (qW P w) (kF P w K mg base N qual scope f cd A outer s0 H0 E) (fun _=>E):=fun _ _ _ _ _ _ I h=>TU I h
theorem sT:nI (qW P w) X E0:=fun _ _ _ _ _ _ _ h=>by obtain⟨_,_,_,_,_,_,z⟩:=h;grind
theorem jM.CI{x qual:Str}{st:Stmt}{f:Addr}{N ps:List Str}(F:jM K x qual st f fd)(S:b_ N ps (cM st))(c:∀vs H Q E,sp vs H Q E->vs.length=ps.length) (b:∀(a:Value)(A:Around)(outer:List Env)(s:Shared)(H:Hp)(vs:List V)(Q:VK)(E:XK),cu k (A.deeper (envOfC qual (cM st) s.heap.objs.size f a))->sp vs H Q E-> ∃t,mz (kF P w K mg base N qual (cM st) f a A outer s H E) (kS st) t/\t {nx:=fun _ H'=>Q .non H',rt:=Q} (start N vs) H):cz P w K mg base (qW P w) (k+1) f fd ps sp:=by obtain⟨p,n,kV,h,l,m,a,o,j,rfl,g,d⟩:=F.ex;exact Cs g d S c fun A outer s H vs Q E i e=>b _ A _ s H _ Q E i e
end
end L2
namespace PM
open PySem L2
inductive D where |non|bl(b:Bool)|int(i:Int)|str(x:Str)|tup(l:List D)|lst(l:List D)|dJ(ks:List Key)(l:List D)|ig(l:List Int)|exc(c:Nat)|fd(ks:List Key)(l:List D)|obj(c:Nat)(ks:List Str)(l:List D)
structure Kx where
 f:W.Frag
 ca:Nat->Addr
 an:Nat->Str
def XA(K:Kx)(F:Hp)(c:Nat)(a:Option Addr):Prop:=if c<16 then a=none else∃b,a=some b/\F b=some (.xd [(K.an c,.int (((c/16:Nat):Int)-1))])
section
variable (K : Kx)
mutual
def Rep (F : Hp) : D -> V -> Prop
 | .non, v => v = .non
 | .bl b, v => v = .bl b
 | .int i, v => v = .int i
 | .str x, v => v = .str x
 | .ig l, v => ∃ a, v = .ref a /\ fX K.f F a (l.map V.int)
 | .exc c, v => ∃ a h, v = .ref a /\ F a = some (Fi (K.ca c) h a) /\ XA K F c h
 | .tup l, v => ∃ a g, v = .ref a /\ F a = some (.tup g) /\ aF F l g
 | .fd j l, v => ∃ a o f, v = .ref a /\ F a = some (.jI o (.dK f)) /\ f.map (·.1) = j /\ aF F l (f.map (·.2))
 | .obj c j l, v => ∃ a m k, v = .ref a /\ F a = some (.ins (K.ca c) m k) /\ k.map (·.1) = j /\ aF F l (k.map (·.2))
 | .lst l, v => ∃ a g, v = .ref a /\ F a = some (.lst g) /\ aF F l g
 | .dJ j l, v => ∃ a f, v = .ref a /\ F a = some (.dK f) /\ f.map (·.1) = j /\ aF F l (f.map (·.2))
def aF (F : Hp) : List D -> List V -> Prop
 | [], g => g = []
 | d :: l, g => ∃ v r, g = v :: r /\ Rep F d v /\ aF F l r
end
end
def cH{α:Type}(p:Prop)(a b:α):α:=@ite α p (Classical.propDecidable p) a b
@[simp] theorem fY(h:p):cH p a b=a:=aq h
theorem Ll(h:¬p):cH p a b=b:=ao h
structure Xc where c:Nat
inductive R(α:Type) where |no|ok(a:α)|ex(x:Xc)
namespace R
noncomputable def bind{α b:Type}:R α->(α->R b)->R b |.no,_=>.no |.ok a,f=>f a |.ex x,_=>.ex x
@[simp] theorem ak(a:α)(f:α->R b):(R.ok a).bind f=f a:=rfl
@[simp] theorem zAm {α β : Type} (f : α → R β) : (R.no : R α).bind f = .no := rfl
@[simp] theorem zAn {α β : Type} (x : Xc) (f : α → R β) : (R.ex x : R α).bind f = .ex x := rfl
end R
inductive Tr where |d(x:D)|l(ts:List Tr)|t(ts:List Tr)
mutual
def jt : Tr -> D
 | .d x => x
 | .l b => .lst (fe b)
 | .t b => .tup (fe b)
def fe : List Tr -> List D
 | [] => []
 | t :: b => jt t :: fe b
end
inductive Sl where |no|v(d:D)|o(d:D)|l(d:D)|p(T:Tr)
abbrev En:=List Sl
inductive O where |no|nx(δ:En)|rt(d:D)|ro(d:D)|bk(δ:En)|ct(δ:En)|ex(δ:En)(x:Xc)
structure Ext(F H F' H':Hp):Prop where
 ff:aC F F'
 hh:aC H H'
 fh:aC F' H'
 nw:∀p o,F p=none->H p=some o->F' p=none
theorem Ext.refl(s:aC F H):Ext F H F H:=⟨.refl _,.refl _,s,fun _ _ h _=>h⟩
theorem Ext.trans(a:Ext F H e g)(b:Ext e g h f):Ext F H h f:= ⟨a.ff.trans b.ff,a.hh.trans b.hh,b.fh,fun p o d c=>b.nw p o (a.nw p o d c) (a.hh p o c)⟩
theorem Ext.new(s:aC F H)(h:H p=none):Ext F H (upd F p o) (upd H p o):=by
  refine⟨aC.upd (s.free h),aC.upd h,fun b u q=>?_,fun q u c a=>?_⟩
  . by_cases e:b=p;.subst e;rwa[cw] at q⊢
    .rw[bj e] at q⊢;exact s _ _ q
  .rwa[bj (dC a h)]
theorem Ext.fD(s:aC F H)(h:H p=none):Ext F H F (upd H p o):=by refine⟨.refl _,aC.upd h,s.trans (aC.upd h),fun q u a b=>a⟩
theorem aC.rd(e:aC H H')(h:Rd H a u):Rd H' a u:=h.elim (fun h=>.inl (e _ _ h)) fun⟨o,h⟩=>.inr ⟨o,e _ _ h⟩
theorem aC.sU(e:aC H H')(h:H a=some u):Rd H' a u:=.inl (e _ _ h)
section
variable{K:Kx}{F F' H H':Hp}
theorem XA.mono(h:XA K F c a)(e:aC F F'):XA K F' c a:=by
 unfold XA at h⊢;split;.simp_all
 .rename_i d;rw[ao d] at h;obtain⟨g,f,b⟩:=h;exact⟨_,f,e _ _ b⟩
mutual
theorem Rep.mono (e : aC F F') : ∀ (d : D) {v : V}, Rep K F d v -> Rep K F' d v
 | .non, v, h => by simpa [Rep] using h
 | .bl b, v, h => by simpa [Rep] using h
 | .int b, v, h => by simpa [Rep] using h
 | .str b, v, h => by simpa [Rep] using h
 | .exc c, v, h => let ⟨a, _, f, g, i⟩ := h;⟨a, _, f, e _ _ g, i.mono e⟩
 | .fd _ l, v, h => let ⟨a, o, _, f, g, j, i⟩ := h;⟨a, o, _, f, e _ _ g, j, aF.mono e l i⟩
 | .obj c _ l, v, h => let ⟨a, o, _, f, g, j, i⟩ := h;⟨a, o, _, f, e _ _ g, j, aF.mono e l i⟩
 | .ig l, v, h => let ⟨a, f, g⟩ := h;⟨a, f, e.seq g⟩
 | .tup l, v, h => let ⟨a, _, f, g, i⟩ := h;⟨a, _, f, e _ _ g, aF.mono e l i⟩
 | .lst l, v, h => let ⟨a, _, f, g, i⟩ := h;⟨a, _, f, e _ _ g, aF.mono e l i⟩
 | .dJ _ l, v, h => let ⟨a, _, f, g, j, i⟩ := h;⟨a, _, f, e _ _ g, j, aF.mono e l i⟩
theorem aF.mono (e : aC F F') : ∀ (l : List D) {k : List V}, aF K F l k -> aF K F' l k
 | [], k, h => by simpa only [aF] using h
 | d :: l, k, h => by
  simp only [aF] at h ⊢
  obtain ⟨v, r, f, g, i⟩ := h
  exact ⟨v, r, f, Rep.mono e d g, aF.mono e l i⟩
end
theorem aF.length:∀{l:List D}{vs:List V},aF K F l vs->vs.length=l.length |[],vs,h=>by simp[aF] at h;simp_all |d::l,vs,h=>by obtain⟨v,r,rfl,_,a⟩:=h;simp[aF.length a]
theorem aF.get:∀{l:List D}{vs:List V}{i:Nat}{d:D},aF K F l vs->l[i]?=some d->∃v,vs[i]?=some v/\Rep K F d v |[],vs,i,d,h,e=>by simp at e |x::l,vs,0,d,h,e=>by obtain⟨v,r,rfl,b,a⟩:=h;simp_all |x::l,vs,i+1,d,h,e=>by obtain⟨v,r,rfl,b,a⟩:=h;obtain⟨u,f,c⟩:=aF.get a (i:=i) (d:=d) (by simp_all);simp_all
theorem aF.nil:aF K F [] []:=rfl
theorem aF.cons{d:D}{l:List D}{v:V}{vs:List V}(h1:Rep K F d v)(h2:aF K F l vs):aF K F (d::l) (v::vs):=by simp[aF];grind
theorem aF.append:∀{l:List D}{vs:List V}{b:List D}{a:List V},aF K F l vs->aF K F b a->aF K F (l++b) (vs++a) |[],vs,b,a,h,c=>by simp[aF] at h;simp_all |d::l,vs,b,a,h,c=>by obtain⟨v,r,rfl,f,e⟩:=h;exact .cons f (aF.append e c)
theorem aF.drop:∀{l:List D}{vs:List V}(n:Nat),aF K F l vs->aF K F (l.drop n) (vs.drop n) |l,vs,0,h=>h |[],vs,n+1,h=>by subst h;rfl |d::l,vs,n+1,h=>by obtain⟨v,r,rfl,b,a⟩:=h;exact aF.drop n a
theorem aF.take:∀{l:List D}{vs:List V}(n:Nat),aF K F l vs->aF K F (l.take n) (vs.take n) |l,vs,0,h=>rfl |[],vs,n+1,h=>by subst h;rfl |d::l,vs,n+1,h=>by obtain⟨v,r,rfl,a,b⟩:=h;exact .cons a (aF.take n b)
theorem aF.set:∀{l:List D}{vs:List V}{d:D}{v:V}(i:Nat),aF K F l vs->Rep K F d v->aF K F (l.set i d) (vs.set i v) |[],vs,d,v,i,h,_=>by subst h;rfl |x::l,vs,d,v,0,h,a=>by obtain⟨u,r,rfl,c,b⟩:=h;exact .cons a b |x::l,vs,d,v,i+1,h,a=>by obtain⟨u,r,rfl,c,b⟩:=h;exact .cons c (aF.set i b a)
theorem aF.ints{ns:List Int}:aF K F (ns.map .int) (ns.map .int):=by induction ns with |nil=>rfl |cons a l d=>exact .cons rfl d
end
section
variable (K : Kx)
def Top(F H:Hp):D->V->Prop |.lst l,v=>∃a g,v=.ref a/\Rd H a (.lst g)/\aF K F l g |.dJ f l,v=>∃a b,v=.ref a/\H a=some (.dK b)/\b.map (·.1)=f/\aF K F l (b.map (·.2)) |.obj c f l,v=>∃a h e,v=.ref a/\H a=some (.ins (K.ca c) h e)/\e.map (·.1)=f/\aF K F l (e.map (·.2)) |d,v=>Rep K F d v
def Own(F H:Hp):D->Addr->Prop |.lst l,a=>∃f,H a=some (.lst f)/\aF K F l f |.dJ e l,a=>∃b,H a=some (.dK b)/\b.map (·.1)=e/\aF K F l (b.map (·.2)) |.obj c e l,a=>∃g d,H a=some (.ins (K.ca c) g d)/\d.map (·.1)=e/\aF K F l (d.map (·.2)) |_,_=>False
mutual
def cL (F H : Hp) : Tr -> V -> List Addr -> Prop
 | .d x, v, e => e = [] /\ Rep K F x v
 | .l f, v, e => ∃ a c h, v = .ref a /\ e = a :: h /\ H a = some (.lst c) /\ aK F H f c h
 | .t f, v, e => ∃ a c, v = .ref a /\ F a = some (.tup c) /\ aK F H f c e
def aK (F H : Hp) : List Tr -> List V -> List Addr -> Prop
 | [], c, e => c = [] /\ e = []
 | t :: f, c, e => ∃ v r j g, c = v :: r /\ e = j ++ g /\ cL F H t v j /\ aK F H f r g
end
structure Tab(F H:Hp)(a:Addr)(bs:List Addr)(T:Tr):Prop where ok:cL K F H T (.ref a) (a::bs)nd:(a::bs).Nodup
def uY(c F H:Hp):Option Sl->Option (Option V)->Prop |some (.v d),s=>∃u,s=some (some u)/\Rep K F d u |some (.o d),s=>∃a,s=some (some (.ref a))/\c a=none/\F a=none/\Own K F H d a |some (.l d),s=>∃a,s=some (some (.ref a))/\c a=none/\F a=none/\Own K F H d a |some (.p T),s=>∃a e,s=some (some (.ref a))/\Tab K F H a e T/\∀b∈a::e,c b=none/\F b=none |_,_=>True
end
def Sl.own:Option Sl->Bool |some (.o _)=>true |some (.l _)=>true |some (.p _)=>true |_=>false
structure az(K:Kx)(Λ:List (Nat×Addr×HO))(F0 H0 F H:Hp)(σ:St)(δ:En):Prop where
 ext:Ext F0 H0 F H
 len:σ.length=δ.length
 slot:∀i:Nat,uY K H0 F H δ[i]? σ[i]?dist:∀(i j:Nat)(a:Addr),i≠j->Sl.own δ[i]?=true->Sl.own δ[j]?=true->σ[i]?=some (some (.ref a))->σ[j]?=some (some (.ref a))->False
 gu:∀x∈Λ,(∃d,δ[x.1]?=some (.l d))/\σ[x.1]?=some (some (.ref x.2.1))/\H x.2.1=some x.2.2tabs:∀(i:Nat)(T:Tr),δ[i]?=some (.p T)->∃a bs,σ[i]?=some (some (.ref a))/\Tab K F H a bs T/\(∀b∈a::bs,H0 b=none/\F b=none)/\(∀(j:Nat)(b:Addr),j≠i->Sl.own δ[j]?=true->σ[j]?=some (some (.ref b))->b∉a::bs)/\∀(j:Nat)(T':Tr),j≠i->δ[j]?=some (.p T')->∃a' bs',σ[j]?=some (some (.ref a'))/\Tab K F H a' bs' T'/\∀b∈a'::bs',b∉a::bs
section
variable{K:Kx}{Λ:List (Nat×Addr×HO)}{F0 H0 F H F' H' F1 H1:Hp}{σ:St}{δ:En}
theorem Own.mono(g:aC F F')(f:aC H H'):∀{d:D}{a:Addr},Own K F H d a->Own K F' H' d a |.lst l,a,h=>let⟨_,e,b⟩:=h;⟨_,f _ _ e,b.mono g⟩ |.dJ _ l,a,h=>let⟨_,e,i,b⟩:=h;⟨_,f _ _ e,i,b.mono g⟩ |.non,_,h=>h.elim |.bl _,_,h=>h.elim |.int _,_,h=>h.elim |.str _,_,h=>h.elim |.tup _,_,h=>h.elim |.ig _,_,h=>h.elim |.exc _,_,h=>h.elim |.fd _ _,_,h=>h.elim |.obj c _ l,a,h=>let⟨_,_,e,i,b⟩:=h;⟨_,_,f _ _ e,i,b.mono g⟩
theorem Own.obj:∀{d:D}{a:Addr},Own K F H d a->∃o,H a=some o |.lst l,a,h=>let⟨_,b,_⟩:=h;⟨_,b⟩ |.dJ _ l,a,h=>let⟨_,b,_⟩:=h;⟨_,b⟩ |.non,_,h=>h.elim |.bl _,_,h=>h.elim |.int _,_,h=>h.elim |.str _,_,h=>h.elim |.tup _,_,h=>h.elim |.ig _,_,h=>h.elim |.exc _,_,h=>h.elim |.fd _ _,_,h=>h.elim |.obj c _ l,a,h=>let⟨_,_,b,_⟩:=h;⟨_,b⟩
theorem Own.at(e:H' a=H a):∀{d:D},Own K F H d a->Own K F H' d a |.lst l,h=>let⟨_,b,f⟩:=h;⟨_,e.trans b,f⟩ |.dJ _ l,h=>let⟨_,b,g,f⟩:=h;⟨_,e.trans b,g,f⟩ |.non,h=>h.elim |.bl _,h=>h.elim |.int _,h=>h.elim |.str _,h=>h.elim |.tup _,h=>h.elim |.ig _,h=>h.elim |.exc _,h=>h.elim |.fd _ _,h=>h.elim |.obj c _ l,h=>let⟨_,_,b,g,f⟩:=h;⟨_,_,e.trans b,g,f⟩
theorem Rep.top(s:aC F H):∀{d:D}{v:V},Rep K F d v->Top K F H d v |.lst l,v,h=>let⟨a,_,b,f,e⟩:=h;⟨a,_,b,PM.aC.sU s f,e⟩ |.dJ _ l,v,h=>let⟨a,_,b,f,e⟩:=h;⟨a,_,b,s _ _ f,e⟩ |.non,_,h=>h |.bl _,_,h=>h |.int _,_,h=>h |.str _,_,h=>h |.tup _,_,h=>h |.ig _,_,h=>h |.exc _,_,h=>h |.fd _ _,_,h=>h |.obj c _ l,v,h=>let⟨a,_,_,b,f,e⟩:=h;⟨a,_,_,b,s _ _ f,e⟩
theorem Own.top:∀{d:D}{a:Addr},Own K F H d a->Top K F H d (.ref a) |.lst l,a,h=>let⟨_,b,e⟩:=h;⟨a,_,rfl,.inl b,e⟩ |.dJ _ l,a,h=>let⟨_,b,e⟩:=h;⟨a,_,rfl,b,e⟩ |.non,_,h=>h.elim |.bl _,_,h=>h.elim |.int _,_,h=>h.elim |.str _,_,h=>h.elim |.tup _,_,h=>h.elim |.ig _,_,h=>h.elim |.exc _,_,h=>h.elim |.fd _ _,_,h=>h.elim |.obj c _ l,a,h=>let⟨_,_,b,e⟩:=h;⟨a,_,_,rfl,b,e⟩
theorem Top.mono(b:aC F F')(i:aC H H'):∀{d:D}{v:V},Top K F H d v->Top K F' H' d v |.lst l,v,h=>let⟨a,_,e,f,g⟩:=h;⟨a,_,e,PM.aC.rd i f,g.mono b⟩ |.dJ _ l,v,h=>let⟨a,_,e,f,j,g⟩:=h;⟨a,_,e,i _ _ f,j,g.mono b⟩ |.non,_,h=>h |.bl _,_,h=>h |.int _,_,h=>h |.str _,_,h=>h |.tup l,v,h=>Rep.mono b _ h |.ig l,v,h=>Rep.mono b _ h |.exc l,v,h=>Rep.mono b _ h |.fd _ l,v,h=>Rep.mono b _ h |.obj c _ l,v,h=>let⟨a,_,_,e,f,j,g⟩:=h;⟨a,_,_,e,i _ _ f,j,g.mono b⟩
theorem Own.freeze(x:Ext F H F' H')(h0:F' p=none)(h1:H p=none)(o:Own K F' H' d p):∃g,Ext F H g H'/\aC F' g/\Rep K g d (.ref p):=by
  obtain⟨u,i⟩:=o.obj;have h:aC _ (upd _ p u):=aC.upd h0;refine⟨_,⟨x.ff.trans h,x.hh,fun b w q=>?_,fun q w a f=>?_⟩,h,?_⟩
  . by_cases e:b=p;.subst e;rw[cw] at q;simp_all
    .rw[bj e] at q;exact x.fh _ _ q
  .rw[bj (dC f h1)];exact x.nw q w a f
  .cases d with |lst l=> obtain⟨k,a,f⟩:=o;rw[i] at a;cases a;exact⟨p,_,rfl,cw,f.mono h⟩ |dJ n l=> obtain⟨k,a,f,j⟩:=o;rw[i] at a;cases a;exact⟨p,_,rfl,cw,f,j.mono h⟩ |obj c n l=> obtain⟨t,k,a,f,j⟩:=o;rw[i] at a;cases a;exact⟨p,_,_,rfl,cw,f,j.mono h⟩ |_=>exact o.elim
mutual
theorem cL.mono (e : aC F F') (b : aC H H') : ∀ (T : Tr) {v : V} {fp : List Addr}, cL K F H T v fp -> cL K F' H' T v fp
 | .d x, v, fp, h => ⟨h.1, Rep.mono e x h.2⟩
 | .l _, v, fp, h => let ⟨a, _, _, f, k, c, g⟩ := h;⟨a, _, _, f, k, b _ _ c, aK.mono e b _ g⟩
 | .t _, v, fp, h => let ⟨a, _, f, c, g⟩ := h;⟨a, _, f, e _ _ c, aK.mono e b _ g⟩
theorem aK.mono (e : aC F F') (b : aC H H') : ∀ (j : List Tr) {i : List V} {fp : List Addr}, aK K F H j i fp -> aK K F' H' j i fp
 | [], i, fp, h => by simpa only [aK] using h
 | t :: j, i, fp, h => by
  simp only [aK] at h ⊢
  obtain ⟨v, r, n, m, f, k, c, g⟩ := h
  exact ⟨v, r, n, m, f, k, cL.mono e b t c, aK.mono e b j g⟩
end
mutual
theorem cL.obj : ∀ (T : Tr) {v : V} {fp : List Addr}, cL K F H T v fp -> ∀ b ∈ fp, ∃ o, H b = some o
 | .d x, v, fp, h, b, c => by
  simp [cL] at h
  simp_all
 | .l _, v, fp, h, b, c => by
  obtain ⟨a, g, n, m, i, k, f⟩ := h
  rw [i] at c
  rcases aY.mp c with e | c
  . simp_all
  . exact aK.obj _ f b c
 | .t _, v, fp, h, b, c => let ⟨a, _, _, _, f⟩ := h;aK.obj _ f b c
theorem aK.obj : ∀ (j : List Tr) {g : List V} {fp : List Addr}, aK K F H j g fp -> ∀ b ∈ fp, ∃ o, H b = some o
 | [], g, fp, h, b, c => by
  simp only [aK] at h
  rw [h.2] at c; cases c
 | t :: j, g, fp, h, b, c => by
  simp only [aK] at h
  obtain ⟨v, r, p, q, m, i, k, f⟩ := h
  rw [i] at c
  rcases bO.mp c with c | c
  . exact cL.obj t k b c
  . exact aK.obj j f b c
end
mutual
theorem cL.at' : ∀ (T : Tr) {v : V} {fp : List Addr}, cL K F H T v fp -> (∀ b ∈ fp, H' b = H b) -> cL K F H' T v fp
 | .d x, v, fp, h, _ => by simpa [cL] using h
 | .l _, v, fp, h, e => by
  obtain ⟨a, g, p, c, m, j, i⟩ := h
  subst m
  exact ⟨a, _, _, c, rfl, (e a (by simp)).trans j, aK.at' _ i fun b f => e b (bJ _ f)⟩
 | .t _, v, fp, h, e => let ⟨a, _, c, j, i⟩ := h;⟨a, _, c, j, aK.at' _ i e⟩
theorem aK.at' : ∀ (k : List Tr) {g : List V} {fp : List Addr}, aK K F H k g fp -> (∀ b ∈ fp, H' b = H b) -> aK K F H' k g fp
 | [], g, fp, h, _ => by simpa only [aK] using h
 | t :: k, g, fp, h, e => by
  simp only [aK] at h ⊢
  obtain ⟨v, r, n, o, c, m, j, i⟩ := h
  subst m
  exact ⟨v, r, n, o, c, rfl, cL.at' t j fun b f => e b (jE _ f), aK.at' k i fun b f => e b (dz _ f)⟩
end
theorem Tab.mono(b:aC F F')(e:aC H H')(t:Tab K F H a bs T):Tab K F' H' a bs T:=⟨cL.mono b e T t.ok,t.nd⟩
theorem Tab.obj(t:Tab K F H a bs T):∀b∈a::bs,∃o,H b=some o:=cL.obj T t.ok
theorem Tab.at'(t:Tab K F H a bs T)(e:∀b∈a::bs,H' b=H b):Tab K F H' a bs T:=⟨cL.at' T t.ok e,t.nd⟩
theorem uY.mono(e:Ext F H F' H'):∀{x:Option Sl}{s:Option (Option V)},uY K H0 F H x s->uY K H0 F' H' x s |some (.v d),s,h=>let⟨u,f,c⟩:=h;⟨u,f,Rep.mono e.ff d c⟩ |some (.o d),s,h=>let⟨a,f,c,g,j⟩:=h;let⟨o,i⟩:=j.obj;⟨a,f,c,e.nw a o g i,j.mono e.ff e.hh⟩ |some (.l d),s,h=>let⟨a,f,c,g,j⟩:=h;let⟨o,i⟩:=j.obj;⟨a,f,c,e.nw a o g i,j.mono e.ff e.hh⟩ |some (.p T),s,h=>let⟨a,_,f,c,g⟩:=h;⟨a,_,f,c.mono e.ff e.hh,fun b k=>let⟨o,i⟩:=c.obj b k;⟨(g b k).1,e.nw b o (g b k).2 i⟩⟩ |some .no,_,_=>trivial |none,_,_=>trivial
mutual
theorem Lm : ∀ (T : Tr) {v : V} {f f' : List Addr}, cL K F H T v f -> cL K F H T v f' -> f = f'
 | .d x, v, f, f', c, g => by
  simp [cL] at c g
  simp_all
 | .l _, v, f, f', c, g => by
  obtain ⟨a, h, C, rfl, rfl, p, j⟩ := c
  obtain ⟨q, o, u, e, rfl, k, i⟩ := g
  cases e
  rw [p] at k
  cases k
  rw [Fm _ j i]
 | .t _, v, f, f', c, g => by
  obtain ⟨a, h, rfl, p, j⟩ := c
  obtain ⟨q, o, e, k, i⟩ := g
  cases e
  rw [p] at k
  cases k
  exact Fm _ j i
theorem Fm : ∀ (m : List Tr) {h : List V} {f f' : List Addr}, aK K F H m h f -> aK K F H m h f' -> f = f'
 | [], h, f, f', c, g => by
  simp only [aK] at c g
  rw [c.2, g.2]
 | t :: m, h, f, f', c, g => by
  simp only [aK] at c g
  obtain ⟨v, r, A, G, rfl, rfl, j, i⟩ := c
  obtain ⟨y, B, E, z, e, rfl, w, s⟩ := g
  cases e
  rw [Lm t j w, Fm m i s]
end
theorem wC(t:Tab K F H a bs T)(t':Tab K F H a bs' T):bs=bs':=(List.cons.inj (Lm T t.ok t'.ok)).2
theorem az.tab(I:az K Λ F0 H0 F H σ δ)(e:δ[i]?=some (.p T)):∃a bs,σ[i]?=some (some (.ref a))/\Tab K F H a bs T/\(∀b∈a::bs,H0 b=none/\F b=none)/\(∀(j:Nat)(b:Addr),j≠i->Sl.own δ[j]?=true->σ[j]?=some (some (.ref b))->b∉a::bs)/\∀(j:Nat)(d:Tr),j≠i->δ[j]?=some (.p d)->∃c bs',σ[j]?=some (some (.ref c))/\Tab K F H c bs' d/\∀b∈c::bs',b∉a::bs:=I.tabs i T e
theorem az.ju{d:En}{c:St}(I:az K Λ F0 H0 F H σ δ)(h1:∀(i:Nat)(T:Tr),d[i]?=some (.p T)->δ[i]?=some (.p T)/\c[i]?=σ[i]?) (h2:∀(i:Nat)(a:Addr)(bs:List Addr)(T:Tr),δ[i]?=some (.p T)->σ[i]?=some (some (.ref a))->Tab K F H a bs T->(∀b∈a::bs,H0 b=none/\F b=none)->(∀(j:Nat)(b:Addr),j≠i->Sl.own δ[j]?=true->σ[j]?=some (some (.ref b))->b∉a::bs)->Tab K F' H' a bs T/\∀b∈a::bs,F' b=none) (h3:∀(i j:Nat)(T:Tr)(a b:Addr)(bs:List Addr),δ[i]?=some (.p T)->σ[i]?=some (some (.ref a))->Tab K F H a bs T->j≠i->Sl.own d[j]?=true->c[j]?=some (some (.ref b))->(Sl.own δ[j]?=true/\σ[j]?=some (some (.ref b)))\/b∉a::bs): ∀(i:Nat)(T:Tr),d[i]?=some (.p T)->∃a bs,c[i]?=some (some (.ref a))/\Tab K F' H' a bs T/\(∀b∈a::bs,H0 b=none/\F' b=none)/\(∀(j:Nat)(b:Addr),j≠i->Sl.own d[j]?=true->c[j]?=some (some (.ref b))->b∉a::bs)/\∀(j:Nat)(q:Tr),j≠i->d[j]?=some (.p q)->∃h bs',c[j]?=some (some (.ref h))/\Tab K F' H' h bs' q/\∀b∈h::bs',b∉a::bs:=by
  intro i T Q;obtain⟨n,N⟩:=h1 i T Q;obtain⟨a,bs,m,v,s,u,E⟩:=I.tab n;obtain⟨f,l⟩:=h2 i a _ T n m v s u;refine⟨a,_,N.trans m,f,fun b e=>⟨(s b e).1,l b e⟩,fun j b g y B e=>?_,fun j q g L=>?_⟩
  . rcases h3 i j T a b _ n m v g y B with⟨w,z⟩|o;.exact u j b g w z e
    .exact o e
  .obtain⟨r,C⟩:=h1 j _ L;obtain⟨h,bs',k,t,G⟩:=E j _ g r;obtain⟨S,J,f,l,x,A,_⟩:=I.tab r;rw[k] at f;cases f;have M:=wC l t;subst M;exact⟨_,_,C.trans k,(h2 j _ _ _ r k t x A).1,G⟩
theorem Ln(e:Ext F H F' H')(t:Tab K F H a bs T)(f:∀b∈a::bs,H0 b=none/\F b=none):Tab K F' H' a bs T/\∀b∈a::bs,F' b=none:= ⟨t.mono e.ff e.hh,fun b c=>let⟨o,d⟩:=t.obj b c;e.nw b o (f b c).2 d⟩
theorem az.grow(I:az K Λ F0 H0 F H σ δ)(e:Ext F H F' H'):az K Λ F0 H0 F' H' σ δ:= ⟨I.ext.trans e,I.len,fun i=>(I.slot i).mono e,I.dist,fun x k=>let⟨d,c,l⟩:=I.gu x k;⟨d,c,e.hh _ _ l⟩,I.ju (fun i T h=>⟨h,rfl⟩) (fun i a n T _ _ t f _=>Ln e t f) fun i j T a b n _ _ _ _ g m=>.inl ⟨g,m⟩⟩
theorem az.same(I:az K Λ F0 H0 F H σ δ):aC F H:=I.ext.fh
theorem Ext.base(a:Ext F0 H0 F1 H1)(b:Ext F1 H0 F' H'):Ext F0 H0 F' H':= ⟨a.ff.trans b.ff,b.hh,b.fh,fun p o d c=>b.nw p o (a.nw p o d c) c⟩
theorem az.up(I:az K Λ F0 H0 F H σ δ):az K Λ F H0 F H σ δ:= ⟨⟨.refl _,I.ext.hh,I.ext.fh,fun p o a b=>a⟩,I.len,I.slot,I.dist,I.gu,I.tabs⟩
theorem az.down(a:Ext F0 H0 F1 H1)(I:az K Λ F1 H0 F H σ δ):az K Λ F0 H0 F H σ δ:= ⟨a.base I.ext,I.len,I.slot,I.dist,I.gu,I.tabs⟩
theorem az.put(I:az K Λ F0 H0 F H σ δ)(A:∃x,δ[i]?=some x/\∀d,x≠.l d)(r:Rep K F d v):az K Λ F0 H0 F H (σ.set i (some v)) (δ.set i (.v d)):=by
  obtain⟨x,z,J⟩:=A;have o:=(b'.mp z).1;have p:i<σ.length:=by rwa[I.len]
  refine⟨I.ext,by simp[I.len],fun j=>?_,fun j k a q c m g w=>?_,fun y L=>?_,I.ju (fun k C h=>by
      by_cases e:i=k;.simp_all
      .rw[aQ e] at h;exact⟨h,aQ e⟩) (fun _ _ _ _ _ _ t f _=>⟨t,fun b B=>(f b B).2⟩) fun k j C a b Q _ _ _ _ s N=>.inl (by
      by_cases e:i=j;.subst e;rw[bu o] at s;cases s
      .simp_all)⟩
  . by_cases e:i=j;.subst e;rw[bu o,bu p];exact⟨v,rfl,r⟩
    .rw[aQ e,aQ e];exact I.slot j
  . have u:∀k,Sl.own (δ.set i (.v d))[k]?=true->i≠k:=by rintro k h rfl;rw[bu o] at h;cases h
    have G:=u j c;have E:=u k m;rw[aQ G] at c g;rw[aQ E] at m w;exact I.dist j k a q c m g w
  . obtain⟨⟨M,c⟩,m,g⟩:=I.gu y L;have n:i≠y.1:=by intro e;rw[<-e,z] at c;exact J _ (dU c)
    exact⟨⟨M,by simp_all⟩,by rwa[aQ n],g⟩
theorem az.Fo(I:az K Λ F0 H0 F H σ δ)(Y:∃x,δ[i]?=some x/\∀d,x≠.l d)(e:Ext F H F' H')(h0:F' p=none)(h1:H p=none)(o:Own K F' H' d p): az K Λ F0 H0 F' H' (σ.set i (some (.ref p))) (δ.set i (.o d)):=by
  obtain⟨x,M,X⟩:=Y;have hi:=(b'.mp M).1;have c:i<σ.length:=by rwa[I.len]
  have fresh:∀k,Sl.own δ[k]?=true->σ[k]?≠some (some (V.ref p)):=fun k w e=>by have z:=I.slot k;cases q:δ[k]? with |none=>rw[q] at w;cases w |some y=> rw[q] at w z;cases y with |no=>cases w |v d=>cases w |o d=> obtain⟨a,s,_,_,G⟩:=z;rw[e] at s;obtain⟨u,C⟩:=G.obj;simp_all |l d=> obtain⟨a,s,_,_,G⟩:=z;obtain⟨u,C⟩:=G.obj;simp_all |p Q=> obtain⟨a,U,s,z2,_⟩:=z;rw[e] at s;cases s;obtain⟨u,C⟩:=z2.obj p (by simp);simp_all
  have J:=I.grow e;refine⟨J.ext,by simp[I.len],fun j=>?_,fun j k a A m B g r=>?_,fun y Z=>?_,I.ju (fun k Q h=>by
      by_cases e:i=k;.simp_all
      .simp_all) (fun k a U T _ _ t f _=>Ln e t f) fun k j Q a b U _ _ t _ N E=>by
      by_cases e:i=j;.subst e;rw[bu c] at E;cases E;refine .inr fun hb=>?_;obtain⟨u,C⟩:=t.obj p hb;rw[h1] at C;cases C
      .rw[aQ e] at N E;exact .inl ⟨N,E⟩⟩
  . by_cases e:i=j;.subst e;rw[bu hi,bu c];exact⟨p,rfl,I.ext.hh.free h1,h0,o⟩
    .rw[aQ e,aQ e];exact J.slot j
  . by_cases L:i=j;.subst L;rw[bu c] at g;cases g;rw[aQ A] at B r;exact fresh k B r
    . by_cases S:i=k;.subst S;rw[bu c] at r;cases r;rw[aQ L] at m g;exact fresh j m g
      .rw[aQ L] at m g;rw[aQ S] at B r;exact I.dist j k a A m B g r
  . obtain⟨⟨d',m⟩,B,g⟩:=J.gu y Z;have n:i≠y.1:=by intro e;rw[<-e,M] at m;exact X _ (dU m)
    exact⟨⟨_,by rwa[aQ n]⟩,by rwa[aQ n],g⟩
theorem az.chg(I:az K Λ F0 H0 F H σ δ)(c:δ[i]?=some (.o d))(B:σ[i]?=some (some (.ref a)))(o:Own K F (upd H a u) d' a): az K Λ F0 H0 F (upd H a u) σ (δ.set i (.o d')):=by
  have X:=(b'.mp c).1;have z:=I.slot i;rw[c] at z;obtain⟨a',Q,Y,N,z4⟩:=z;rw[B] at Q;cases Q;have g:∀(k:Nat)(b:Addr),i≠k->Sl.own _=true->σ[k]?=some (some _)->b≠a:=fun k b hk h1 h2 e=>by subst e;exact I.dist i k b hk (by rw[c];rfl) h1 B h2
  refine⟨⟨I.ext.ff,fun b w q=>?_,fun b w q=>?_,I.ext.nw⟩,by simp[I.len],fun j=>?_,fun j k b G m A g3 g4=>?_,fun y hy=>?_,I.ju (fun k U h=>by
      by_cases e:i=k;.subst e;rw[bu X] at h;cases h
      .rw[aQ e] at h;grind) (fun k r Z T m A t f dj=>by
      have e:i≠k:=fun e=>by simp_all
      exact⟨t.at' fun b s=>bj fun J=>dj i a e (by rw[c];rfl) B (J▸s),fun b s=>(f b s).2⟩) fun k j U r b Z _ _ _ _ S hs=>.inl (by
      by_cases e:i=j;.subst e;exact⟨by rw[c];rfl,hs⟩
      .rw[aQ e] at S;exact⟨S,hs⟩)⟩;.rw[bj (dC q Y)];exact I.ext.hh b w q
  .rw[bj (dC q N)];exact I.ext.fh b w q
  . by_cases e:i=j;.subst e;rw[bu X];exact⟨a,B,Y,N,o⟩
    .rw[aQ e];have w:=I.slot j;cases q:δ[j]? with |none=>trivial |some y=> rw[q] at w;cases y with |no=>trivial |v d=>exact w |o d=> obtain⟨b,x,L,E,C⟩:=w;exact⟨b,x,L,E,C.at (bj (g j b e (by rw[q];rfl) x))⟩ |l d=> obtain⟨b,x,L,E,C⟩:=w;exact⟨b,x,L,E,C.at (bj (g j b e (by rw[q];rfl) x))⟩ |p U=> obtain⟨r,Z,t1,t2,t3,t4,t5⟩:=I.tab q;exact⟨r,_,t1,t2.at' fun b s=>bj fun J=>t4 i a e (by rw[c];rfl) B (J▸s),t3⟩
  . have M:∀k:Nat,Sl.own (δ.set i (.o d'))[k]?=true->Sl.own δ[k]?=true:=by
      intro k h;by_cases e:i=k;.subst e;rw[c];rfl
      .rwa[aQ e] at h
    exact I.dist j k b G (M j m) (M k A) g3 g4
  . obtain⟨⟨d2,m⟩,A,g3⟩:=I.gu y hy;have n:i≠y.1:=by intro e;rw[<-e,c] at m;cases m
    exact⟨⟨_,by rwa[aQ n]⟩,A,by rwa[bj (g _ _ n (by rw[m];rfl) A)]⟩
theorem az.jI{i:Nat}{d:D}(I:az K Λ F0 H0 F H σ δ)(A:δ[i]?=some (.o d)):∃F',aC F F'/\az K Λ F0 H0 F' H σ (δ.set i (.v d)):=by
  have Q:i<δ.length:=(b'.mp A).1;have z:=I.slot i;rw[A] at z;obtain⟨a,M,z2,z3,E⟩:=z;obtain⟨u,S⟩:=E.obj;have m:aC F (upd F a u):=aC.upd z3;have sl:∀j:Nat,i≠j->Sl.own δ[j]?=true->σ[j]?≠some (some (V.ref a)):=fun j hj h e=>I.dist i j a hj (by rw[A];rfl) h M e;refine⟨upd F a u,m,⟨I.ext.ff.trans m,I.ext.hh,fun b w q=>?_,fun p o h1 g=>?_⟩,by simp[I.len],fun j=>?_,fun j k b Z J N X g4=>?_,fun y hy=>?_,I.ju (fun k ll h=>by
      by_cases e:i=k;.subst e;rw[bu Q] at h;cases h
      .simp_all) (fun k r bs T J N t f dj=>by
      have e:i≠k:=fun e=>by simp_all
      exact⟨t.mono m (.refl _),fun b x=>by rw[bj (show b≠a from fun B=>dj i a e (by rw[A];rfl) M (B▸x))];exact(f b x).2⟩) fun k j ll r b bs _ _ _ _ ho m=>.inl (by
      by_cases e:i=j;.subst e;rw[bu Q] at ho;cases ho
      .simp_all)⟩
  . by_cases e:b=a;.subst e;rw[cw] at q;cases q;exact S
    .rw[bj e] at q;exact I.ext.fh _ _ q
  .rw[bj (dC g z2)];exact I.ext.nw p o h1 g
  . by_cases e:i=j;.subst e;rw[bu Q];refine⟨.ref a,M,?_⟩;cases d with |lst l=> obtain⟨G,g,C⟩:=E;rw[S] at g;cases g;exact⟨a,G,rfl,cw,C.mono m⟩ |dJ ks l=> obtain⟨G,g,C,Y⟩:=E;rw[S] at g;cases g;exact⟨a,G,rfl,cw,C,Y.mono m⟩ |obj c ks l=> obtain⟨dx,G,g,C,Y⟩:=E;rw[S] at g;cases g;exact⟨a,dx,G,rfl,cw,C,Y.mono m⟩ |_=>exact E.elim
    .rw[aQ e];have w:=I.slot j;cases q:δ[j]? with |none=>trivial |some y=> rw[q] at w;cases y with |no=>trivial |v d=>obtain⟨v,s,L⟩:=w;exact⟨v,s,Rep.mono m d L⟩ |o d=> obtain⟨b,s,L,w3,U⟩:=w;exact⟨b,s,L,by rwa[bj (show b≠a from fun B=>sl j e (by rw[q];rfl) (by grind))],U.mono m (.refl _)⟩ |p ll=> obtain⟨r,bs,t1,t2,t3,t4,t5⟩:=I.tab q;exact⟨r,_,t1,t2.mono m (.refl _),fun b x=>⟨(t3 b x).1,by rw[bj (show b≠a from fun B=>t4 i a e (by rw[A];rfl) M (B▸x))];exact(t3 b x).2⟩⟩ |l d=> obtain⟨b,s,L,w3,U⟩:=w;exact⟨b,s,L,by rwa[bj (fun B=>sl j e (by rw[q];rfl) (by rw[s,B]))],U.mono m (.refl _)⟩
  . have ow:∀k:Nat,Sl.own (δ.set i (.v d))[k]?=true->Sl.own δ[k]?=true:=by
      intro k h;by_cases e:i=k;.subst e;rw[bu Q] at h;cases h
      .rwa[aQ e] at h
    exact I.dist j k b Z (ow j J) (ow k N) X g4
  . obtain⟨⟨d2,J⟩,N,X⟩:=I.gu y hy;have n:i≠y.1:=by intro e;rw[<-e,A] at J;cases J
    exact⟨⟨_,by rwa[aQ n]⟩,N,X⟩
end
abbrev c5:=Xc->Hp->Hp->Value->Option Addr->Prop
def eP{α:Type}(E:St->XK)(XO:c5)(σ:St)(F H:Hp)(P:α->Hp->Hp->Prop):R α->Prop |.no=>False |.ok a=>∀d b,Ext F H d b->P a d b |.ex x=>∀C c d b,Ext F H d b->XO x d b C c->E σ C c b
section
variable{E:St->XK}{XO:c5}{σ:St}{F H F1 H1:Hp}{α β:Type}{P P':α->Hp->Hp->Prop}
theorem eP.mono(e:Ext F H F1 H1):∀{r:R α},eP E XO σ F H P r->eP E XO σ F1 H1 P r |.no,h=>h |.ok _,h=>fun d c a=>h _ _ (e.trans a) |.ex _,h=>fun C b d c a x=>h C _ _ _ (e.trans a) x
theorem eP.imp(i:∀a F1 H1,Ext F H F1 H1->P a F1 H1->P' a F1 H1):∀{r:R α},eP E XO σ F H P r->eP E XO σ F H P' r |.no,h=>h |.ok _,h=>fun c d b=>i _ _ _ b (h _ _ b) |.ex _,h=>h
theorem eP.bind{P:β->Hp->Hp->Prop}:∀{r:R α},eP E XO σ F H P (r.bind f)->eP E XO σ F H (fun a F1 H1=>eP E XO σ F1 H1 P (f a)) r |.no,h=>h |.ok _,h=>fun c d b=>eP.mono b h |.ex _,h=>h
end
inductive uf(T:D->V->Prop):List D->List V->Prop where |nil:uf T [] [] |cons{d:D}{v:V}{ds:List D}{vs:List V}:T d v->uf T ds vs->uf T (d::ds) (v::vs)
section
variable(K:Kx)(XO:c5)(E:St->XK)
def SE(t:TE)(m:En->R D):Prop:=∀e g h F H a b Q,az K e g h F H a b->eP E XO a F H (fun d f c=>∀v,Rep K f d v->Q v c) (m b)->t a H Q
def lK(t:TE)(m:En->R D):Prop:=∀h g e F H a c Q,az K h g e F H a c->eP E XO a F H (fun d f b=>∀v,Top K f b d v->Q v b) (m c)->t a H Q
def iK(t:TE)(m:En->R D):Prop:=∀h g f F H a c Q,az K h g f F H a c->eP E XO a F H (fun d e b=>∀p,e p=none->H p=none->Own K e b d p->Q (.ref p) b) (m c)->t a H Q
def ST(t:TT)(m:En->R Bool):Prop:=∀g e d F H a c Q,az K g e d F H a c->eP E XO a F H (fun b _ f=>Q b f) (m c)->t a H Q
def SA(t:TA)(m:En->R (List D)):Prop:=∀e g i F H a c Q,az K e g i F H a c->eP E XO a F H (fun h f d=>∀b,aF K f h b->Q b d) (m c)->t a H Q
def ug(t:TA)(m:En->R (List D)):Prop:=∀i g h F H a c Q,az K i g h F H a c->eP E XO a F H (fun e f b=>∀d,uf (Top K f b) e d->Q d b) (m c)->t a H Q
end
section
variable{K:Kx}{XO:c5}{E:St->XK}{t ta tb te:TE}{m ma mb me:En->R D}
theorem SE.r(h:SE K XO E t m):lK K XO E t m:=fun g i f F H b c Q I a=>h _ _ _ F H _ _ Q I (a.imp fun d k j e p v r=>p v (r.top e.fh))
theorem iK.e(h:iK K XO E t m):SE K XO E t m:=fun i k v F H w j Q I a=>h _ _ _ F H _ _ Q I (by cases q:m _ with |no=>rwa[q] at a |ex x=>rwa[q] at a |ok d=> rw[q] at a;intro s n e p f c o;obtain⟨g,b,l,r⟩:=o.freeze e f c;exact a _ _ b _ r)
def ag(i:Nat)(δ:En):R D:=match δ[i]? with|some (.v d)=>.ok d|_=>.no
def aj(i:Nat)(δ:En):R D:=match δ[i]? with|some (.v d)=>.ok d|some (.o d)=>.ok d|some (.l d)=>.ok d|_=>.no
theorem ay:SE K XO E (cS i) (ag i):=by
 intro h e j F H f g Q I a;unfold ag at a;have z:=I.slot i;split at a;.rename_i d q;rw[q] at z;obtain⟨u,b,c⟩:=z;exact⟨u,b,a F H (.refl I.same) u c⟩
 .exact a.elim
theorem av:lK K XO E (cS i) (aj i):=by
 intro h e j F H f g Q I a;unfold aj at a;have z:=I.slot i;split at a;.rename_i d q;rw[q] at z;obtain⟨u,b,c⟩:=z;exact⟨u,b,a F H (.refl I.same) u (c.top I.same)⟩
 .rename_i d q;rw[q] at z;obtain⟨u,b,_,_,c⟩:=z;exact⟨_,b,a F H (.refl I.same) _ c.top⟩
 .rename_i d q;rw[q] at z;obtain⟨u,b,_,_,c⟩:=z;exact⟨_,b,a F H (.refl I.same) _ c.top⟩
 .exact a.elim
def mC(d:D)(_:En):R D:=.ok d
theorem aL:SE K XO E (tC (.int i)) (mC (.int i)):=fun f b d F H e c Q I a=>a F H (.refl I.same) _ rfl
theorem wD:SE K XO E (tC (.bl i)) (mC (.bl i)):=fun f b d F H e c Q I a=>a F H (.refl I.same) _ rfl
theorem gR:SE K XO E (tC .non) (mC .non):=fun f b d F H e c Q I a=>a F H (.refl I.same) _ rfl
theorem sV:SE K XO E (tC (.str i)) (mC (.str i)):=fun f b d F H e c Q I a=>a F H (.refl I.same) _ rfl
def R.of{α:Type}:Option α->R α |some a=>.ok a |none=>.no
@[simp] theorem R.au(a:α):R.of (some a)=.ok a:=rfl
@[simp] theorem R.of_none:R.of (none:Option α)=.no:=rfl
def m2(f:D->D->Option D)(ma mb:En->R D)(δ:En):R D:=(ma δ).bind fun x=>(mb δ).bind fun y=>R.of (f x y)
def m1(f:D->Option D)(ma:En->R D)(δ:En):R D:=(ma δ).bind fun x=>R.of (f x)
@[simp] theorem d_{ma mb:En->R D}:m2 f ma mb δ=(ma δ).bind fun x=>(mb δ).bind fun y=>R.of (f x y):=rfl
@[simp] theorem uZ{ma:En->R D}:m1 f ma δ=(ma δ).bind fun x=>R.of (f x):=rfl
variable(K) in
def SR(r:R2)(f:D->D->Option D):Prop:=∀F H x y b a d Q,aC F H->Top K F H b x->Top K F H a y->f b a=some d->(∀v e c,Ext F H e c->Rep K e d v->Q v c)->r x y H Q
variable(K) in
def Lo(r:R2)(f:D->D->Option D):Prop:=∀F H x y e c d Q,aC F H->Top K F H e x->Top K F H c y->f e c=some d->(∀p a b,Ext F H a b->a p=none->H p=none->Own K a b d p->Q (.ref p) b)->r x y H Q
theorem aA(j:SR K r f)(l:lK K XO E ta ma)(i:lK K XO E tb mb):SE K XO E (rQ r ta tb) (m2 f ma mb):=by intro o G B F H z s Q I a;refine l _ _ _ F H _ _ _ I (a.bind.imp fun A p w h g x k=>(i _ _ _ _ _ _ _ _ (I.grow h) (g.bind.imp fun J M L c b y n=>?_)));cases q:f _ _ with |none=>rw[q] at b;exact b.elim |some d=> rw[q] at b;exact j _ _ x y _ _ d Q c.fh (k.mono c.ff c.hh) n q fun v C u e r=>b _ _ e v r
theorem u4(j:Lo K r f)(n:lK K XO E ta ma)(i:lK K XO E tb mb):iK K XO E (rQ r ta tb) (m2 f ma mb):=by intro v M G F H J w Q I a;refine n _ _ _ F H _ _ _ I (a.bind.imp fun C B A g h x l=>(i _ _ _ _ _ _ _ _ (I.grow g) (h.bind.imp fun N T S c b y k=>?_)));cases q:f _ _ with |none=>rw[q] at b;exact b.elim |some d=> rw[q] at b;exact j _ _ x y _ _ d Q c.fh (l.mono c.ff c.hh) k q fun p L z e s u o=>b _ _ e p s (g.hh.free (c.hh.free u)) o
variable(K) in
def SU(r:V->Hp->VK->Prop)(f:D->Option D):Prop:=∀F H x b d Q,aC F H->Top K F H b x->f b=some d->(∀v a c,Ext F H a c->Rep K a d v->Q v c)->r x H Q
theorem qX(c:SU K r f)(h:lK K XO E ta ma):SE K XO E (Kb r ta) (m1 f ma):=by intro w l p F H u j Q I a;refine h _ _ _ F H _ _ _ I (a.bind.imp fun s o n g b x i=>?_);cases q:f _ with |none=>rw[q] at b;exact b.elim |some d=> rw[q] at b;exact c _ _ x _ d Q g.fh i q fun v k y e r=>b _ _ e v r
def af(_:En):R (List D):=.ok []
def ai(ma:En->R D)(a:En->R (List D))(δ:En):R (List D):=(ma δ).bind fun x=>(a δ).bind fun l=>.ok (x::l)
theorem cG:SA K XO E cV af:=fun f b d F H e c Q I a=>a F H (.refl I.same) _ .nil
theorem c7(d:SE K XO E ta ma)(e:SA K XO E g k):SA K XO E (fR ta g) (ai ma k):=by intro p q o F H r n Q I a;refine d _ _ _ F H _ _ _ I (a.bind.imp fun l z w f i x j=>(e _ _ _ _ _ _ _ _ (I.grow f) (i.bind.imp fun s v u b h y c=>?_)));exact h _ _ (.refl b.fh) _ (.cons (Rep.mono b.ff _ j) c)
theorem u5:ug K XO E cV af:=fun f b d F H e c Q I a=>a F H (.refl I.same) _ .nil
theorem uh(d:lK K XO E ta ma)(e:ug K XO E g k):ug K XO E (fR ta g) (ai ma k):=by intro p q o F H r n Q I a;refine d _ _ _ F H _ _ _ I (a.bind.imp fun l z w f i x j=>(e _ _ _ _ _ _ _ _ (I.grow f) (i.bind.imp fun s v u b h y c=>?_)));exact h _ _ (.refl b.fh) _ (.cons (j.mono b.ff b.hh) c)
def bY(ml:En->R (List D))(δ:En):R D:=(ml δ).bind fun l=>cH (l.length<=sizeLine) (.ok (.tup l)) .no
def bT(ml:En->R (List D))(δ:En):R D:=(ml δ).bind fun l=>cH (l.length<=sizeLine) (.ok (.lst l)) .no
theorem pD(h:SA K XO E e ml):SE K XO E (sP e) (bY ml):=by
 intro g i k F H o f Q I a;refine h _ _ _ F H _ _ _ I (a.bind.imp fun q n l c b j r=>?_);unfold cH at b;split at b;.exact⟨by rwa[r.length],fun p d=>b _ _ (.new c.fh d) _ ⟨p,_,rfl,cw,r.mono (aC.upd (c.fh.free d))⟩⟩
 .exact b.elim
theorem m7(h:SA K XO E e ml):iK K XO E (AN e) (bT ml):=by
 intro g i k F H o f Q I a;refine h _ _ _ F H _ _ _ I (a.bind.imp fun q n l c b j r=>?_);unfold cH at b;split at b;.refine⟨by rwa[r.length],fun p d=>b _ _ (.fD c.fh d) _ (c.fh.free d) (c.hh.free d) ⟨_,cw,r⟩⟩
 .exact b.elim
theorem kG:iK K XO E K5 (mC (.dJ [] [])):=fun f g d F H e c Q I a p b=>a F _ (.fD I.same b) p (I.same.free b) b ⟨_,cw,rfl,rfl⟩
def Fp:D->Option Bool |.bl b=>some b |_=>none
def aS(me:En->R D)(δ:En):R Bool:=(me δ).bind fun d=>R.of (Fp d)
theorem cW(h:SE K XO E te me):ST K XO E (Ez te) (aS me):=by intro i k g F H o f Q I a;refine h _ _ _ F H _ _ _ I (a.bind.imp fun d n l e c v r=>?_);cases d with |bl b=>exact⟨b,r,c _ _ (.refl e.fh)⟩ |_=>exact c.elim
theorem pE(h:SE K XO E te me):ST K XO E (tB te) (aS me):=cW h
variable{tA uL:TT}{nA nB:En->R Bool}
def k9(nA nB:En->R Bool)(δ:En):R Bool:=(nA δ).bind fun b=>if b=true then nB δ else .ok false
def jv(nA nB:En->R Bool)(δ:En):R Bool:=(nA δ).bind fun b=>if b=true then .ok true else nB δ
def qY(nA:En->R Bool)(δ:En):R Bool:=(nA δ).bind fun b=>.ok (!b)
theorem Fq(h:ST K XO E tA nA)(h':ST K XO E uL nB):ST K XO E (Ay tA uL) (k9 nA nB):=by intro g i f F H l e Q I a;refine h _ _ _ F H _ _ _ I (a.bind.imp fun b k j c d=>?_);cases b with |true=>exact h' _ _ _ _ _ _ _ _ (I.grow c) d |false=>exact d _ _ (.refl c.fh)
theorem ui(h:ST K XO E tA nA)(h':ST K XO E uL nB):ST K XO E (JW tA uL) (jv nA nB):=by intro g i f F H l e Q I a;refine h _ _ _ F H _ _ _ I (a.bind.imp fun b k j c d=>?_);cases b with |false=>exact h' _ _ _ _ _ _ _ _ (I.grow c) d |true=>exact d _ _ (.refl c.fh)
theorem Lp(h:ST K XO E tA nA):ST K XO E (Az tA) (qY nA):=fun g i f F H l e Q I a=>h _ _ _ F H _ _ _ I (a.bind.imp fun b k j c d=>d _ _ (.refl c.fh))
def Fs(ma mb:En->R D)(δ:En):R D:=(ma δ).bind fun d=>(R.of (Fp d)).bind fun b=>if b=true then mb δ else .ok (.bl false)
theorem TY(h:SE K XO E ta ma)(h':SE K XO E tb mb):SE K XO E (JY ta tb) (Fs ma mb):=by intro i k g F H o f Q I a;refine h _ _ _ F H _ _ _ I (a.bind.imp fun d n l e c v r=>?_);cases d with
 |bl b=> refine⟨b,r,?_⟩;cases b with |true=>exact h' _ _ _ _ _ _ _ _ (I.grow e) c |false=>exact c _ _ (.refl e.fh) _ rfl
 |_=>exact c.elim
def Ft(n:En->R Bool)(ma mb:En->R D)(δ:En):R D:=(n δ).bind fun b=>if b=true then ma δ else mb δ
theorem TZ(h:ST K XO E tA nA)(e:SE K XO E ta ma)(f:SE K XO E tb mb):SE K XO E (JZ tA ta tb) (Ft nA ma mb):=by intro o i l F H n g Q I a;refine h _ _ _ F H _ _ _ I (a.bind.imp fun b k j d c=>?_);cases b with |true=>exact e _ _ _ _ _ _ _ _ (I.grow d) c |false=>exact f _ _ _ _ _ _ _ _ (I.grow d) c
def qA(K:Kx)(XO:c5)(f:List D->R D):Sp:=fun b H Q E=>∃F a,aC F H/\aF K F a b/\eP (fun _=>E) XO [] F H (fun d e c=>∀v,Rep K e d v->Q v c) (f a)
def oa(f:List D->R D)(ml:En->R (List D))(δ:En):R D:=(ml δ).bind f
def R.i7{α:Type}:R α->R α |.ex _=>.no |r=>r
@[simp] theorem R.ba(a:α):(R.ok a).i7=.ok a:=rfl
def bq(f:List D->R D)(ml:En->R (List D))(δ:En):R D:=(ml δ).bind fun l=>(f l).i7
theorem eP.any{E c:St->XK}(h:eP E XO σ F H P r.i7):eP c XO b F H P r:=by cases r with |no=>exact h |ok a=>exact h |ex x=>exact h.elim
theorem y_(h:SA K XO E e ml):SE K XO E (Fh (qA K XO f) E e) (oa f ml):=by intro k l i F H u g Q I a;refine h _ _ _ F H _ _ _ I (a.bind.imp fun o s p c b n r=>⟨_,_,c.fh,r,?_⟩);cases q:f _ with |no=>rwa[q] at b |ok d=>rwa[q] at b |ex x=>rwa[q] at b
theorem fZ(h:SA K XO E d ml):SE K XO E (uc (qA K XO f) [] k d) (bq f ml):=by intro i j n F H q e Q I a;refine h _ _ _ F H _ _ _ I (a.bind.imp fun g p o b c l r=>⟨_,_,b.fh,by simp_all,c.any⟩)
variable(K) in
def SG(g:TG)(b:D->En->Option En):Prop:=∀i j e F H f h d v c Q,az K i j e F H f h->Rep K F d v->b d h=some c->(∀a,az K i j e F H a c->Q a H)->g v f H Q
variable(K) in
def CJ(g:yY)(b:List D->En->Option En):Prop:=∀i j e F H f h d v c Q,az K i j e F H f h->aF K F d v->b d h=some c->(∀a,az K i j e F H a c->Q a H)->g v f H Q
def aV(i:Nat)(d:D)(δ:En):Option En:=match δ[i]? with|none=>none|some (.l _)=>none|some _=>some (δ.set i (.v d))
def cX(i:Nat)(d:D)(δ:En):Option En:=match δ[i]? with|some .no=>some (δ.set i (.v d))|_=>none
def ef(l:List D)(δ:En):Option En:=match l with|[]=>some δ|_=>none
def eS(b:D->En->Option En)(c:List D->En->Option En)(l:List D)(δ:En):Option En:=match l with|d::r=>(b d δ).bind (c r)|[]=>none
def dM(n:Nat)(c:List D->En->Option En)(d:D)(δ:En):Option En:=match d with|.tup l=>if l.length=n then c l δ else none|_=>none
theorem cf:SG K (ua i) (aV i):=by
 intro l h g F H k f d v c Q I r e q;unfold aV at e;split at e;.cases e
 .cases e
 .rename_i x b a;cases e;exact q _ (I.put ⟨x,a,fun j z=>b _ (by rw[z])⟩ r)
theorem gZ:SG K (ua i) (cX i):=by
 intro j c f F H g h d v b Q I r e q;unfold cX at e;split at e;.rename_i a;cases e;exact q _ (I.put ⟨_,a,fun k z=>by cases z⟩ r)
 simp_all
theorem rS:CJ K xr ef:=by intro j f h F H i g d v c Q I r e q;cases d with |nil=>cases e;exact⟨r,q _ I⟩ |cons x l=>cases e
theorem jN(A:SG K g b)(f:CJ K h c):CJ K (Ck g h) (eS b c):=by intro J B C F H G i d v y Q I r e q;cases d with |nil=>cases e |cons x l=> obtain⟨u,w,rfl,n,k⟩:=r;change(b x _).bind _=some _ at e;cases z:b x i with |none=>simp_all |some s=> rw[z] at e;exact⟨u,w,rfl,A _ _ _ F H _ _ x u _ _ I n z fun j o=>f _ _ _ F H _ _ l w _ Q o k e q⟩
theorem rT(f:CJ K h c):SG K (xt K.f n h) (dM n c):=by intro w p o F H u k d v j Q I r e q;cases d with
 |tup l=>
  obtain⟨a,s,rfl,g,b⟩:=r;simp only[dM] at e;split at e;.exact⟨a,_,rfl,.inl (.inl (I.same _ _ g)),by rwa[b.length],f _ _ _ F H _ _ l _ _ Q I b e q⟩
  simp_all |_=>cases e
def mI(δ a:En):Prop:=δ.length=a.length/\∀i:Nat,δ[i]?=some .no\/δ[i]?=a[i]?
theorem mI.refl(δ:En):mI δ δ:=⟨rfl,fun _=>.inr rfl⟩
theorem mI.trans(h:mI a b)(h':mI b c):mI a c:=⟨h.1.trans h'.1,fun i=>by
  rcases h.2 i with z|z;.simp_all
  . rcases h'.2 i with y|y;.grind
    grind⟩
def BW(b:D->En->Option En):Prop:=∀d c a,b d c=some a->mI c a
def CK(b:List D->En->Option En):Prop:=∀d c a,b d c=some a->mI c a
theorem g_:BW (cX i):=by
  intro d b a e;unfold cX at e;split at e
  . cases e;refine⟨by simp,fun j=>?_⟩;by_cases h:i=j;.simp_all
    simp_all
  simp_all
theorem y':CK ef:=by intro d f b e;cases d with |nil=>cases e;exact .refl _ |cons x l=>cases e
theorem rV(h:BW b)(h':CK c):CK (eS b c):=by intro d f i e;cases d with |nil=>cases e |cons x l=> change(b x _).bind _=some _ at e;cases z:b x f with |none=>simp_all |some g=>rw[z] at e;exact(h _ _ _ z).trans (h' _ _ _ e)
theorem za(h:CK c):BW (dM n c):=by intro d f a e;cases d with
 |tup l=>
  simp only[dM] at e;split at e;.exact h _ _ _ e
  simp_all |_=>cases e
variable(K) in
def mJ(J:It)(P:Hp->Hp->Prop)(ds:List D):Prop:=∀b a,P b a->∀i:Nat,(∀d,ds[i]?=some d->J.go i a/\∀x e,J.AG i a x e->∃c,Ext b a c e/\Rep K c d x)/\(ds[i]?=none->J.stop i a)
variable(K XO E) in
def SI(d:TI)(m:En->R (List D)):Prop:=∀e f k F H a b R,az K e f k F H a b->eP E XO a F H (fun i h g=>∀J,mJ K J (fun c j=>aC h c/\aC c j) i->R J g) (m b)->d a H R
variable(K XO E) in
def xO(g:TI)(m:En->R (List D)):Prop:=∀e f i F H a c R,az K e f i F H a c->eP E XO a F H (fun d h b=>∀J,mJ K J (fun k j=>Ext h b k j) d->R J b) (m c)->g a H R
theorem SI.c{m:En->R (List D)}(h:SI K XO E wi m):xO K XO E wi m:=fun g i f F H l d R I a=>h _ _ _ F H _ _ R I (a.imp fun o k j e p J b=>p J fun q n x=>b _ _ ⟨x.ff,x.fh⟩)
def uj:D->Option (List D) |.lst l=>some l |.ig l=>some (l.map .int) |_=>none
def CL:D->Option (List D) |.tup l=>some l |_=>none
def cA(ml:En->R D)(δ:En):R (List D):=(ml δ).bind fun d=>R.of (uj d)
theorem CM(r:aF K k ds vs)(h:∀c b,P c b->aC k c/\aC c b/\fX K.f b a vs):mJ K (Eu K.f a) P ds:=by
 intro c b p i;obtain⟨f,j,q⟩:=h _ _ p;refine⟨fun d l=>?_,fun n=>?_⟩;.obtain⟨v,e,g⟩:=r.get l;refine⟨⟨_,v,q,e⟩,fun x o y=>?_⟩;obtain⟨rfl,y⟩:=y;have z:=y _ q;rw[e] at z;cases z;exact⟨_,.refl j,Rep.mono f _ g⟩
 .exact⟨_,q,by rw[r.length];simp_all⟩
theorem u6(h:SE K XO E te me):SI K XO E (Ew K.f te) (cA me):=by intro w u q F H s n R I a;refine h _ _ _ F H _ _ _ I (a.bind.imp fun d p o c e v r=>?_);cases d with |lst l=> obtain⟨a,y,rfl,b,i⟩:=r;exact⟨a,rfl,⟨_,.inl (PM.aC.sU c.fh b)⟩,e _ _ (.refl c.fh) _ (CM i fun k j x=>⟨x.1,x.2,.inl (PM.aC.rd x.2 (PM.aC.sU x.1 b))⟩)⟩ |ig l=> obtain⟨a,rfl,b⟩:=r;exact⟨a,rfl,⟨_,c.fh.seq b⟩,e _ _ (.refl c.fh) _ (CM .ints fun k j x=>⟨x.1,x.2,x.2.seq (x.1.seq b)⟩)⟩ |_=>exact e.elim
theorem qB(h:lK K XO E te me):xO K XO E (Ew K.f te) (cA me):=by intro w u q F H s n R I a;refine h _ _ _ F H _ _ _ I (a.bind.imp fun d p o c e v r=>?_);cases d with |lst l=> obtain⟨a,y,rfl,b,i⟩:=r;exact⟨a,rfl,⟨_,.inl b⟩,e _ _ (.refl c.fh) _ (CM i fun k j x=>⟨x.ff,x.fh,.inl (PM.aC.rd x.hh b)⟩)⟩ |ig l=> obtain⟨a,rfl,b⟩:=r;exact⟨a,rfl,⟨_,c.fh.seq b⟩,e _ _ (.refl c.fh) _ (CM .ints fun k j x=>⟨x.ff,x.fh,x.fh.seq (x.ff.seq b)⟩)⟩ |_=>exact e.elim
def u9(lo:Int)(n:Nat):List D:=(List.range n).map fun(k:Nat)=>D.int (lo+(k:Int))
theorem Lq(h:∀b c,P b c->aC b c):mJ K (AH lo n) P (u9 lo n):=by
  intro b c p i;unfold u9;rw[cj];have g:(List.range n)[i]?=if i<n then some i else none:=by grind
  rw[g];refine⟨fun d f=>?_,fun e=>?_⟩
  . by_cases a:i<n;.rw[aq a] at f;cases f;refine⟨a,fun x j y=>?_⟩;obtain⟨rfl,rfl⟩:=y;exact⟨_,.refl (h _ _ p),rfl⟩
    grind
  . by_cases a:i<n;.rw[aq a] at e;cases e
    .exact Nat.le_of_not_lt a
def lI(l:List D):Option (List D):=match l with |[.int j]=>cH (-(2^62)<=j/\j<2^62) (some (u9 0 j.toNat)) none |[.int i,.int j]=>cH (-(2^62)<=i/\i<2^62/\-(2^62)<=j/\j<2^62) (some (u9 i (j-i).toNat)) none |_=>none
def b9(ml:En->R (List D))(δ:En):R (List D):=(ml δ).bind fun l=>R.of (lI l)
theorem aF.one(r:aF K F [d] vs):∃v,vs=[v]/\Rep K F d v:=by simp[aF] at r;simp_all
theorem aF.two(r:aF K F [d,e] vs):∃v u,vs=[v,u]/\Rep K F d v/\Rep K F e u:=by simp[aF] at r;grind
theorem mK(g:∀δ l,ml δ=.ok l->l.length=1)(h:SA K XO E n ml):SI K XO E (J' n) (b9 ml):=by intro w y q F H p δ R I a;unfold b9 at a;cases c:ml _ with |no=>rw[c] at a;exact a.elim |ex x=>refine h _ _ _ F H _ _ _ I ?_;rwa[c] at a⊢ |ok l=> refine h _ _ _ F H _ _ _ I ?_;rw[c] at a⊢;intro o u f A r;match l,(g _ l c) with
 |[d],_=>
  obtain⟨v,rfl,i⟩:=r.one;have b:=eP.mono f a
  cases d with |int j=>
   subst i;change eP E _ _ _ _ _ (PM.R.of (cH _ _ _)) at b;by_cases e:-(2^62)<=j/\j<2^62;.rw[fY e] at b;exact⟨j,rfl,e.1,e.2,b _ _ (.refl f.fh) _ (Lq fun G B x=>x.2)⟩
   .rw[Ll e] at b;exact b.elim |_=>exact b.elim
theorem T1(n:∀δ l,ml δ=.ok l->l.length=2)(h:SA K XO E q ml):SI K XO E (Ka q) (b9 ml):=by intro B C y F H s δ R I a;unfold b9 at a;cases c:ml _ with |no=>rw[c] at a;exact a.elim |ex x=>refine h _ _ _ F H _ _ _ I ?_;rwa[c] at a⊢ |ok l=> refine h _ _ _ F H _ _ _ I ?_;rw[c] at a⊢;intro A z g J r;match l,(n _ l c) with |[d,o],_=> obtain⟨v,u,rfl,p,k⟩:=r.two;have b:=eP.mono g a;cases d with
 |int i=> cases o with |int j=>
  subst p k;change eP E _ _ _ _ _ (PM.R.of (cH _ _ _)) at b;by_cases f:-(2^62)<=i/\i<2^62/\-(2^62)<=j/\j<2^62;.rw[fY f] at b;exact⟨i,j,rfl,f,b _ _ (.refl g.fh) _ (Lq fun N L x=>x.2)⟩
  .rw[Ll f] at b;exact b.elim |_=>exact b.elim
 |_=>exact b.elim
theorem gf{ma:En->R D}:∀δ l,ai ma af δ=.ok l->l.length=1:=by intro δ l h;unfold ai af at h;cases e:ma _ with |ok d=>rw[e] at h;cases h;rfl |no=>simp_all |ex x=>simp_all
theorem Fu{ma mb:En->R D}:∀δ l,ai ma (ai mb af) δ=.ok l->l.length=2:=by intro δ l h;unfold ai af at h;cases e:ma _ with
 |ok d=> rw[e] at h;cases a:mb _ with |ok d=>rw[a] at h;cases h;rfl |no=>simp_all |ex x=>rw[a] at h;cases h
 |no=>simp_all |ex x=>simp_all
def qC(l:List D):List D:=l.mapIdx fun i d=>.tup [.int i,d]
theorem Lr(r:aF K o ds vs)(h:∀b c,P b c->aC o b/\aC b c/\fX K.f c a vs):mJ K (EY K.f a) P (qC ds):=by
 intro b c p i;obtain⟨l,g,q⟩:=h _ _ p;unfold qC;rw[List.getElem?_mapIdx];refine⟨fun d f=>?_,fun w=>?_⟩;.cases e:ds[i]? with |none=>simp_all |some x=> rw[e] at f;cases f;obtain⟨v,k,n⟩:=r.get e;refine⟨⟨_,v,q,k⟩,fun u A y=>?_⟩;obtain⟨s,B,rfl,j,rfl,y⟩:=y;have z:=y _ q;rw[k] at z;cases z;exact⟨_,.new g j,⟨_,_,rfl,cw,.cons rfl (.cons (Rep.mono (l.trans (aC.upd (g.free j))) _ n) .nil)⟩⟩
 .cases e:ds[i]? with |none=>exact⟨_,q,by rw[r.length];simp_all⟩ |some x=>simp_all
def xP:D->Option (List D) |.lst l=>some l |_=>none
def zb:List D->Option (List D) |[d]=>(xP d).map qC |_=>none
def qZ(ml:En->R (List D))(δ:En):R (List D):=(ml δ).bind fun l=>R.of (zb l)
theorem Ls(h:zb l=some r):∃x,l=[.lst x]/\r=qC x:=by cases l with |nil=>cases h |cons d t=> cases t with |cons _ _=>cases h |nil=> cases d with |lst x=>cases h;simp |_=>cases h
theorem Lu(h:SA K XO E e ml):SI K XO E (EZ K.f e) (qZ ml):=by intro k y s F H u n R I a;refine h _ _ _ F H _ _ _ I (a.bind.imp fun j p o c b g r=>?_);cases q:zb _ with |none=>rw[q] at b;exact b.elim |some z=> obtain⟨l,rfl,rfl⟩:=Ls q;obtain⟨v,rfl,f⟩:=aF.one r;obtain⟨a,g,rfl,d,i⟩:=f;exact⟨a,rfl,⟨_,.inl (PM.aC.sU c.fh d)⟩,b _ _ (.refl c.fh) _ (Lr i fun A w x=>⟨x.1,x.2,.inl (PM.aC.rd x.2 (PM.aC.sU x.1 d))⟩)⟩
theorem Fv(h:ug K XO E e ml):xO K XO E (EZ K.f e) (qZ ml):=by intro k s y F H u n R I a;refine h _ _ _ F H _ _ _ I (a.bind.imp fun w p o g b i r=>?_);cases q:zb _ with |none=>rw[q] at b;exact b.elim |some z=> obtain⟨l,rfl,rfl⟩:=Ls q;cases r with |cons r f=> cases f;obtain⟨a,i,rfl,c,j⟩:=r;exact⟨a,rfl,⟨_,.inl c⟩,b _ _ (.refl g.fh) _ (Lr j fun A v x=>⟨x.ff,x.fh,.inl (PM.aC.rd x.hh c)⟩)⟩
end
section
variable(K:Kx)(XO:c5)(E:St->XK)
def cI(g:List (Nat×Addr×HO))(F0 b:Hp)(f:Ends):O->Prop |.no=>False |.nx c=>∀a F H,az K g F0 b F H a c->f.nx a H |.bk c=>∀a F H,az K g F0 b F H a c->f.bk a H |.ct c=>∀a F H,az K g F0 b F H a c->f.ct a H |.rt d=>∀v F H,Ext F0 b F H->Rep K F d v->f.rt v H |.ro d=>∀p F H,Ext F0 b F H->F p=none->b p=none->Own K F H d p->f.rt (.ref p) H |.ex c x=>∀a F H C e,az K g F0 b F H a c->XO x F H C e->E a C e H
def SS(t:TS)(m:En->O):Prop:=∀f a c F H d b e,az K f a c F H d b->cI K XO E f a c e (m b)->t e d H
end
noncomputable def R.fu{α:Type}(r:R α)(δ:En)(f:α->O):O:=match r with|.no=>.no|.ok a=>f a|.ex x=>.ex δ x
@[simp] theorem R.dn(a:α)(δ:En)(f:α->O):(R.ok a).fu δ f=f a:=rfl
@[simp] theorem R.Fw {α : Type} (δ : En) (f : α → O) : (R.no : R α).fu δ f = .no := rfl
@[simp] theorem R.Fx(x:Xc)(δ:En)(f:α->O):(R.ex x:R α).fu δ f=.ex δ x:=rfl
section
variable{K:Kx}{XO:c5}{E:St->XK}{ta tb te:TE}{ma mb me:En->R D}{t u:TS}{m n:En->O}{Λ:List (Nat×Addr×HO)}{F0 H0 F H F1 H1:Hp}{σ:St}{δ:En}{Dn:Ends}
theorem cI.of(I:az K Λ F0 H0 F H σ δ)(a:cI K XO E Λ F0 H0 Dn (r.fu δ f)):eP E XO σ F H (fun a _ _=>cI K XO E Λ F0 H0 Dn (f a)) r:=by cases r with |no=>exact a |ok b=>exact fun _ _ _=>a |ex x=>exact fun C c g j e h=>a _ _ _ C _ (I.grow e) h
theorem cI.up(e:Ext F0 H0 F1 H1):∀{o:O},cI K XO E Λ F0 H0 Dn o->cI K XO E Λ F1 H0 Dn o |.no,h=>h |.nx _,h=>fun σ F H I=>h _ F H (I.down e) |.bk _,h=>fun σ F H I=>h _ F H (I.down e) |.ct _,h=>fun σ F H I=>h _ F H (I.down e) |.rt _,h=>fun v F H x=>h v F H (e.base x) |.ro _,h=>fun p F H x=>h p F H (e.base x) |.ex _ _,h=>fun σ F H C d I=>h _ F H C d (I.down e)
def cB(δ:En):O:=.nx δ
def aw(m n:En->O)(δ:En):O:=match m δ with|.nx a=>n a|r=>r
theorem eO:SS K XO E J1 cB:=fun Λ F0 H0 F H σ δ Dn I a=>a _ F H I
theorem bC(h:SS K XO E t m)(h':SS K XO E u n):SS K XO E (xm t u) (aw m n):=by intro Λ F0 H0 F H σ δ Dn I a;refine h _ _ _ F H _ _ _ I ?_;unfold aw at a;cases q:m _ with |no=>rwa[q] at a |nx b=>rw[q] at a;exact fun c l r e=>h' _ _ _ _ _ _ _ _ e a |rt d=>rwa[q] at a |ro d=>rwa[q] at a |bk b=>rwa[q] at a |ct b=>rwa[q] at a |ex b x=>rwa[q] at a
def aH(me:En->R D)(δ:En):O:=(me δ).fu δ .rt
theorem da(h:SE K XO E te me):SS K XO E (ph te) (aH me):=fun Λ F0 H0 F H σ δ Dn I a=>h _ _ _ F H _ _ _ I ((cI.of I a).imp fun d F1 H1 e p v r=>p v _ _ (I.ext.trans e) r)
def fi(me:En->R D)(δ:En):O:=(me δ).fu δ .ro
theorem k_(h:iK K XO E te me):SS K XO E (ph te) (fi me):=fun Λ F0 H0 F H σ δ Dn I a=>h _ _ _ F H _ _ _ I ((cI.of I a).imp fun d F1 H1 e p v b c o=>p v _ _ (I.ext.trans e) b (I.ext.hh.free c) o)
def A6(i:Nat)(δ:En):O:=match δ[i]? with|some (.o d)=>.ro d|_=>.no
theorem Lv:SS K XO E (ph (cS i)) (A6 i):=by
 intro Λ F0 H0 F H σ δ Dn I a;unfold A6 at a;split at a;.rename_i d q;have z:=I.slot i;rw[q] at z;obtain⟨p,c,b,f,e⟩:=z;exact⟨_,c,a p F H I.ext f b e⟩
 .exact a.elim
def bf(n:En->R Bool)(m m':En->O)(δ:En):O:=(n δ).fu δ fun b=>if b=true then m δ else m' δ
theorem eE(h:ST K XO E f c)(d:SS K XO E t m)(g:SS K XO E u n):SS K XO E (AB f t u) (bf c m n):=by intro Λ F0 H0 F H σ δ Dn I a;refine h _ _ _ F H _ _ _ I ((cI.of I a).imp fun b F1 H1 e p=>?_);cases b with |true=>exact d _ _ _ _ _ _ _ _ (I.grow e) p |false=>exact g _ _ _ _ _ _ _ _ (I.grow e) p
noncomputable def O.of:Option En->O |some δ=>.nx δ |none=>.no
@[simp] theorem O.au (δ : En) : O.of (some δ) = .nx δ := rfl
@[simp] theorem O.of_none:O.of none=.no:=rfl
def aB(me:En->R D)(b:D->En->Option En)(δ:En):O:=(me δ).fu δ fun d=>O.of (b d δ)
theorem dH(h:SE K XO E te me)(j:SG K g b):SS K XO E (k7 te g) (aB me b):=by intro Λ F0 H0 F H σ δ Dn I a;refine h _ _ _ F H _ _ _ I ((cI.of I a).imp fun d F1 H1 e p v r=>?_);cases q:b d _ with |none=>rw[q] at p;exact p.elim |some c=>rw[q] at p;exact j _ _ _ _ _ _ _ d v _ _ (I.grow e) r q fun i f=>p _ _ _ f
def dq(i:Nat)(d:D)(δ:En):Option En:=match δ[i]? with|none=>none|some (.l _)=>none|some _=>some (δ.set i (.o d))
theorem q_(h:iK K XO E te me):SS K XO E (k7 te (ua i)) (aB me (dq i)):=by
 intro Λ F0 H0 F H σ δ Dn I a;refine h _ _ _ F H _ _ _ I ((cI.of I a).imp fun d F1 H1 e p v g c o=>?_);unfold dq at p;split at p;.exact p.elim
 .exact p.elim
 .rename_i x f b;exact p _ _ _ (I.Fo ⟨x,b,fun j z=>f _ (by rw[z])⟩ e g c o)
def rf(i:Nat)(m:En->O)(δ:En):O:=match δ[i]? with|some (.o d)=>m (δ.set i (.v d))|some (.v _)=>m δ|_=>.no
theorem Lw(h:SS K XO E t m):SS K XO E t (rf i m):=by
 intro Λ F0 H0 F H σ δ Dn I a;unfold rf at a;split at a;.rename_i d q;obtain⟨c,_,b⟩:=I.jI q;exact h _ _ _ _ H _ _ _ b a
 .exact h _ _ _ F H _ _ _ I a
 .exact a.elim
def jF(b:D->En->Option En)(m:En->O):List D->En->O |[],δ=>.nx δ |d::l,δ=>match b d δ with |none=>.no |some e=>match m e with |.nx a=>jF b m l a |.ct a=>jF b m l a |.bk a=>.nx a |r=>r
def dE(mi:En->R (List D))(b:D->En->Option En)(m:En->O)(δ:En):O:=(mi δ).fu δ fun l=>jF b m l δ
theorem T3(v:mJ K J P ds)(Q:∀σ δ F H,az K Λ F0 H0 F H σ δ->P F H)(U:SG K g b)(C:SS K XO E t m)(I:az K Λ F0 H0 F H σ δ) (a:cI K XO E Λ F0 H0 Dn (jF b m ds δ)):∃W:Nat->Nat->St->Hp->Prop,(∃k,W 0 k σ H)/\∀i k σ H,W i k σ H-> (J.stop i H/\Dn.nx σ H)\/(J.go i H/\∃N:St->Hp->Prop,(∀c H',N c H'->∃s,s<k/\W (i+1) s c H')/\∀x H',J.AG i H x H'->g x σ H' fun p T=>t {Dn with nx:=N,ct:=N,bk:=Dn.nx} p T):=by
  let W:=fun i k σ H=>∃F δ,az K Λ F0 H0 F H σ δ/\k=ds.length-i/\i<=ds.length/\cI K XO E Λ F0 H0 Dn (jF b m (ds.drop i) δ);refine⟨W,⟨_,F,_,I,rfl,bU _,a⟩,?_⟩;rintro i k σ H ⟨F,δ,I,rfl,hi,a⟩;have j:=Q _ _ F H I;by_cases f:i<ds.length;.obtain⟨A,X⟩:=(v F H j i).1 ds[i] (by simp);refine .inr ⟨A,W _ (ds.length-(i+1)),fun c H' w=>⟨_,by omega,w⟩,fun x H' y=>?_⟩;obtain⟨F3,M,r⟩:=X x _ y;rw[(qc f)] at a;unfold jF at a;cases q:b _ _ with |none=>rw[q] at a;exact a.elim |some z=> rw[q] at a;refine U _ _ _ _ _ _ _ _ x _ _ (I.grow M) r q fun B S=>C _ _ _ _ _ _ _ _ S ?_;cases h:m _ with |no=>simp[h] at a;exact a |nx l=>simp[h] at a;exact fun c G H' o=>⟨_,_,o,rfl,f,a⟩ |ct l=>simp[h] at a;exact fun c G H' o=>⟨_,_,o,rfl,f,a⟩ |bk l=>simp[h] at a;exact a |rt d=>simp[h] at a;exact a |ro d=>simp[h] at a;exact a |ex L x=>simp[h] at a;exact a
  . have e:i=ds.length:=by lia
    subst e;rw[qf] at a;exact .inl ⟨(v F H j _).2 (by simp),a _ F H I⟩
theorem jO(hi:SI K XO E d mi)(f:SG K g b)(i:SS K XO E t m):SS K XO E (xw d g t) (dE mi b m):=by intro Λ F0 H0 F H σ δ Dn I a;refine hi _ _ _ F H _ _ _ I ((cI.of I a).imp fun j F1 H1 e p J h=>?_);have c:=I.grow e;exact T3 h (fun σ δ F H I=>⟨I.ext.ff,I.ext.fh⟩) f i c.up (p.up c.ext)
def jX(c:En->R Bool)(m:En->O):Nat->En->O |0,_=>.no |n+1,δ=>(c δ).fu δ fun b=>if b=true then(match m δ with|.nx a=>jX c m n a|.ct a=>jX c m n a|.bk a=>.nx a|r=>r) else .nx δ
open Classical in
def wF(c:En->R Bool)(m:En->O)(δ:En):O:=if h:∃n,jX c m n δ≠.no then jX c m (choose h) δ else .no
theorem Fy(r:ST K XO E y o)(v:SS K XO E t m):SS K XO E (J8 y t) (wF o m):=by
 intro Λ F0 H0 F H σ δ Dn I a;unfold wF at a;split at a;.refine⟨fun k σ H=>∃F δ,az K _ _ _ F H σ δ/\cI K _ E _ _ _ _ (jX _ m k δ),⟨_,F,_,I,a⟩,?_⟩;rintro k σ H ⟨F,δ,I,a⟩;cases k with |zero=>exact a.elim |succ k=> refine r _ _ _ F H _ _ _ I ((cI.of I a).imp fun b F1 H1 e p=>?_);cases b with |false=>exact p _ _ _ (I.grow e) |true=> refine⟨_,fun f j w=>⟨k,fB _,w⟩,v _ _ _ _ _ _ _ _ (I.grow e) ?_⟩;cases c:m _ with |no=>simp[c] at p;exact p |nx g=>simp[c] at p;exact fun f q j h=>⟨_,_,h,p⟩ |ct g=>simp[c] at p;exact fun f q j h=>⟨_,_,h,p⟩ |bk g=>simp[c] at p;exact p |rt d=>simp[c] at p;exact p |ro d=>simp[c] at p;exact p |ex s x=>simp[c] at p;exact p
 .exact a.elim
end
def qD:D->Option Key |.int i=>some (.inl i) |.str x=>some (.inr x) |_=>none
def gT(ks:List Key)(l:List D)(k:Key):Option D:=match ks,l with |a::r,d::t=>if a=k then some d else gT r t k |_,_=>none
def putL(ks:List Key)(l:List D)(k:Key)(x:D):List D:=match ks,l with |a::r,d::t=>(if a=k then x else d)::putL r t k x |_,t=>t
def putD(ks:List Key)(l:List D)(k:Key)(x:D):D:=if ks.any (fun a=>decide (a=k))=true then .dJ ks (putL ks l k x) else .dJ (ks++[k]) (l++[x])
def CN(ks:List Key)(l:List D)(k:Key):List D:=match ks,l with |a::r,d::t=>if a=k then CN r t k else d::CN r t k |_,t=>t
def Fz(ks:List Key)(l:List D)(k:Key):D:=.dJ (ks.filter fun a=>decide (a≠k)) (CN ks l k)
section
variable{K:Kx}{F H:Hp}
theorem FA(h:qD d=some k)(r:Rep K F d v):v=kV k:=by cases d with |int i=>cases h;exact r |str i=>cases h;exact r |_=>cases h
theorem Ly:∀{cq:List (Key×V)}{ks:List Key}{l:List D},cq.map (·.1)=ks->aF K F l (cq.map (·.2))-> (∀d,gT ks l k=some d->∃v,gM cq k=some v/\Rep K F d v)/\(gT ks l k=none->gM cq k=none) |[],ks,l,c,g=>by subst c;refine⟨fun d h=>?_,fun _=>rfl⟩;simp[gT] at h |(a,v)::cq,ks,l,c,g=>by subst c;cases l with |nil=>simp[aF] at g |cons d t=>
      obtain⟨o,r,e,m,n⟩:=g;cases e;have q:=Ly (k:=k) rfl n;simp[gT];by_cases f:a=k;.rw[aq f];refine⟨fun p e=>?_,fun e=>by cases e⟩;cases e;exact⟨v,by simp[gM,f],m⟩
      . have e:gM ((a,v)::cq) k=gM cq k:=by simp[gM,f]
        simp_all
theorem Lz(m:Rep K F x u):∀{cq:List (Key×V)}{ks:List Key}{l:List D},cq.map (·.1)=ks->aF K F l (cq.map (·.2))-> aF K F (putL ks l k x) ((cq.map (fun g=>if g.1=k then(g.1,u) else g)).map (·.2))
 |[],ks,l,h,f=>by subst h;cases l with |nil=>rfl |cons d t=>simp[aF] at f
 |(a,v)::cq,ks,l,h,f=>by subst h;cases l with |nil=>simp[aF] at f |cons d t=>
  obtain⟨p,r,e,n,j⟩:=f;cases e;refine .cons ?_ (Lz m rfl j);by_cases o:a=k;.simp_all
  simp_all
theorem T4(b:Rep K F x u)(h1:cq.map (·.1)=ks)(h2:aF K F l (cq.map (·.2))):Own K F (upd H a (.dK (putK cq k u))) (putD ks l k x) a:=by
 have e:ks.any (fun a=>decide (a=k))=cq.any (fun c=>decide (c.1=k)):=by rw[<-h1,List.any_map];rfl
 unfold putD putK;rw[e];split;.refine⟨_,cw,?_,Lz b h1 h2⟩;rw[<-h1,cK];refine kf fun c _=>?_;grind
 .exact⟨_,cw,by rw[h_,h1];rfl,by rw[h_];exact h2.append (.cons b .nil)⟩
end
section
variable{K:Kx}{XO:c5}{E:St->XK}{ta tb te ty td:TE}{ma mb me my md:En->R D}{t u:TS}{m n:En->O}{Λ:List (Nat×Addr×HO)}{F0 H0 F H F1 H1:Hp}{σ:St}{δ:En}{Dn:Ends}
theorem az.own{i:Nat}(I:az K Λ F0 H0 F H σ δ)(b:δ[i]?=some (.o d)):∃a,σ[i]?=some (some (.ref a))/\Own K F H d a:=by have z:=I.slot i;rw[b] at z;obtain⟨a,g,c,f,e⟩:=z;simp_all
def rX(i:Nat)(me:En->R D)(δ:En):O:=match δ[i]? with |some (.o (.lst l))=>(me δ).fu δ fun d=>cH (l.length<sizeLine) (.nx (δ.set i (.o (.lst (l++[d]))))) .no |_=>.no
theorem CO(h:SE K XO E te me):SS K XO E (uM (xI K.f "list" y6 (cS i) (fR te cV))) (rX i me):=by
  intro Λ F0 H0 F H σ δ Dn I a;unfold rX at a;split at a
  . rename_i l q;obtain⟨p,f,j,g,b⟩:=I.own q;refine⟨_,f,.inl ⟨rfl,_,.inl (.inl g)⟩,(h _ _ _ F H _ _ _ I ((cI.of I a).imp fun d F1 H1 e c v r=>?_))⟩;unfold cH at c;split at c;.exact⟨p,_,v,rfl,rfl,e.hh _ _ g,by rwa[b.length],c _ _ _ ((I.grow e).chg q f ⟨_,cw,(b.mono e.ff).append (.cons r .nil)⟩)⟩
    .exact c.elim
  .exact a.elim
def zAF(i:Nat)(mi me:En->R D)(δ:En):O:=match δ[i]? with
 |some (.o (.lst l))=>(me δ).fu δ fun d=>(mi δ).fu δ fun k=>match k with |.int k=>(match gK l.length k with|some j=>.nx (δ.set i (.o (.lst (l.set j d))))|none=>.no) |_=>.no
 |_=>.no
def zc(f:Int->Int->Int)(i:Nat)(mi me:En->R D)(δ:En):O:=match δ[i]? with |some (.o (.lst l))=>(mi δ).fu δ fun k=>(match k with |.int k=>(match gK l.length k with |some j=>(match l[j]? with |some (.int x)=>(me δ).fu δ fun y=>(match y with|.int y=>.nx (δ.set i (.o (.lst (l.set j (.int (f x y))))))|_=>.no) |_=>.no) |none=>.no) |_=>.no) |_=>.no
theorem LA(hi:SE K XO E J mi)(h:SE K XO E te me):SS K XO E (J5 (cS i) J te (qS K.f) (Cm f) Cv) (zc f i mi me):=by
 intro Λ F0 H0 F H σ δ Dn I a;unfold zc at a;split at a;.rename_i l q;obtain⟨p,B,S,L,g⟩:=I.own q;refine⟨_,B,(hi _ _ _ F H _ _ _ I ((cI.of I a).imp fun k F1 H1 e c v r=>?_))⟩;cases k with
  |int k=> subst r;dsimp at c;cases z:gK l.length k with |none=>rw[z] at c;exact c.elim |some j=> rw[z] at c;dsimp at c;cases s:l[j]? with |none=>rw[s] at c;exact c.elim |some d=> rw[s] at c;cases d with
   |int x=> obtain⟨w,N,Q⟩:=g.get s;subst Q;have C:=e.hh _ _ L;refine⟨p,_,k,_,rfl,rfl,.inl (.inl C),by unfold jd;rw[g.length,z];exact N,(h _ _ _ _ H1 _ _ _ (I.grow e) ((cI.of (I.grow e) c).imp fun y M T o A U G=>?_))⟩;cases y with |int y=> subst G;exact⟨x,y,rfl,rfl,p,_,k,j,rfl,rfl,o.hh _ _ C,by rwa[g.length],A _ M _ (((I.grow e).grow o).chg q B ⟨_,cw,((g.mono e.ff).mono o.ff).set j rfl⟩)⟩ |_=>exact A.elim
   |_=>exact c.elim
  |_=>exact c.elim
 .exact a.elim
def sW(i:Nat)(mk me:En->R D)(δ:En):O:=match δ[i]? with
 |some (.o (.dJ a l))=>(me δ).fu δ fun d=>(mk δ).fu δ fun k=>match qD k with |some k=>cH (a.length<sizeLine) (.nx (δ.set i (.o (putD a l k d)))) .no |none=>.no
 |_=>.no
theorem FC(o:SE K XO E tk mk)(h:SE K XO E te me):SS K XO E (K4 (cS i) tk te) (sW i mk me):=by
 intro Λ F0 H0 F H σ δ Dn I a;unfold sW at a;split at a;.rename_i y l q;obtain⟨p,g,B,w,j,x⟩:=I.own q;refine h _ _ _ F H _ _ _ I ((cI.of I a).imp fun d F1 H1 e c v r=>⟨_,g,(o _ _ _ _ _ _ _ _ (I.grow e) ((cI.of (I.grow e) c).imp fun k G C f b A s=>?_))⟩);cases z:qD k with |none=>rw[z] at b;exact b.elim |some k=>
  rw[z] at b;dsimp at b;unfold cH at b;split at b;.cases FA z s;exact⟨p,_,rfl,sQ.k (f.hh _ _ (e.hh _ _ w)) (by grind),b _ _ _ (((I.grow e).grow f).chg q g (T4 (Rep.mono f.ff _ r) j ((x.mono e.ff).mono f.ff)))⟩
  .exact b.elim
 .exact a.elim
def LB(i:Nat)(mk:En->R D)(δ:En):O:=match δ[i]? with
 |some (.o (.dJ a l))=>(mk δ).fu δ fun k=>match qD k with |some k=>(match gT a l k with|some _=>.nx (δ.set i (.o (Fz a l k)))|none=>.no) |none=>.no
 |_=>.no
def u_(f:Int->Int->Int)(i:Nat)(me:En->R D)(δ:En):O:=match δ[i]? with |some (.v (.int x))=>(me δ).fu δ fun y=>(match y with|.int y=>.nx (δ.set i (.v (.int (f x y))))|_=>.no) |_=>.no
theorem T5(h:SE K XO E te me):SS K XO E (xv i te (Cm f)) (u_ f i me):=by
 intro Λ F0 H0 F H σ δ Dn I a;unfold u_ at a;split at a;.rename_i x q;have z:=I.slot i;rw[q] at z;obtain⟨u,j,b⟩:=z;subst b;refine⟨_,j,h _ _ _ F H _ _ _ I ((cI.of I a).imp fun y F1 H1 e c v r=>?_)⟩;cases y with |int y=> subst r;exact⟨x,y,rfl,rfl,c _ _ _ ((I.grow e).put ⟨_,q,fun d z=>by cases z⟩ rfl)⟩ |_=>exact c.elim
 .exact a.elim
def dIn(k d:D):Option D:=match qD k,d with|some k,.dJ a l=>some (.bl (gT a l k).isSome)|_,_=>none
def va(k d:D):Option D:=match qD k,d with|some k,.dJ a l=>some (.bl (!(gT a l k).isSome))|_,_=>none
theorem LC(h:Top K F H (.dJ ks l) x):∃p o,x=.ref p/\pA H p (kV k) o/\(∀d,gT ks l k=some d->∃v,o=some v/\Rep K F d v)/\(gT ks l k=none->o=none):=by obtain⟨a,b,rfl,c,f,e⟩:=h;exact⟨a,_,rfl,.k c,Ly f e⟩
theorem FD(f:SE K XO E ty my)(hd:lK K XO E td md):SE K XO E (KZ ty td) (m2 va my md):=by intro Λ F0 H0 F H σ δ Q I a;refine f _ _ _ F H _ _ _ I (a.bind.imp fun G F1 H1 i c y s=>(hd _ _ _ _ _ _ _ _ (I.grow i) (c.bind.imp fun e J C h b x j=>?_)));unfold va at b;cases z:qD _ with |none=>rw[z] at b;exact b.elim |some k=> rw[z] at b;cases e with
 |dJ B l=> obtain⟨p,o,rfl,g,w,A⟩:=LC j;cases FA z s;refine⟨p,o,rfl,g,b _ _ (.refl h.fh) _ ?_⟩;cases q:gT _ l k with |none=>rw[A q];rfl |some d=>obtain⟨v,rfl,_⟩:=w d q;rfl
 |_=>exact b.elim
noncomputable def i2(f:Int->Int->D)(x y:D):Option D:=match x,y with|.int i,.int j=>some (f i j)|_,_=>none
def xQ(C:Int->Int->Prop)(f:Int->Int->D)(x y:D):Option D:=match x,y with|.int i,.int j=>cH (C i j) (some (f i j)) none|_,_=>none
theorem zd(h:∀i j F,Rep K F (f i j) (g i j)):SR K (pj g) (i2 f):=by intro F H x y c k d Q s l b e q;cases c with
 |int i=> cases k with |int j=> cases e;exact⟨i,j,l,b,q _ F H (.refl s) (h i j F)⟩ |_=>cases e
 |_=>cases e
theorem CP(h:∀i j F,Rep K F (f i j) (g i j)):SR K (rI C g) (xQ C f):=by intro F H x y c k d Q s l o e q;cases c with
 |int i=> cases k with
  |int j=>
   simp[xQ] at e;unfold cH at e;split at e;.rename_i b;cases e;exact⟨i,j,l,o,b,q _ F H (.refl s) (h i j F)⟩
   simp_all |_=>cases e
 |_=>cases e
def bL:D->D->Option D:=i2 fun i j=>.int (i+j)
def gU:D->D->Option D:=i2 fun i j=>.int (i-j)
def fE:D->D->Option D:=xQ (fun i j=>eI i/\eI j) fun i j=>.int (i*j)
def oDiv:D->D->Option D:=xQ (fun _ j=>j≠0/\eI j) fun i j=>.int (i.fdiv j)
def oMod:D->D->Option D:=xQ (fun _ j=>0<j) fun i j=>.int (i%j)
def iF:D->D->Option D:=xQ sO fun i j=>.int (i^j.toNat)
def oLt:D->D->Option D:=i2 fun i j=>.bl (decide (i<j))
def oLe:D->D->Option D:=i2 fun i j=>.bl (decide (i<=j))
def uk:D->D->Option D:=i2 fun i j=>.bl (decide (j<i))
def vd:D->D->Option D:=i2 fun i j=>.bl (decide (j<=i))
theorem gg:SR K (pj fun i j=>.int (i+j)) bL:=zd fun _ _ _=>rfl
theorem um:SR K (pj fun i j=>.int (i-j)) gU:=zd fun _ _ _=>rfl
theorem sX:SR K (rI (fun i j=>eI i/\eI j) fun i j=>.int (i*j)) fE:=CP fun _ _ _=>rfl
theorem lL:SR K (rI (fun _ j=>j≠0/\eI j) fun i j=>.int (i.fdiv j)) oDiv:=CP fun _ _ _=>rfl
theorem gh:SR K (rI (fun _ j=>0<j) fun i j=>.int (i%j)) oMod:=CP fun _ _ _=>rfl
theorem xR:SR K (rI sO fun i j=>.int (i^j.toNat)) iF:=CP fun _ _ _=>rfl
theorem ve:SR K (pj fun i j=>.bl (decide (i<j))) oLt:=zd fun _ _ _=>rfl
theorem LD:SR K (pj fun i j=>.bl (decide (i<=j))) oLe:=zd fun _ _ _=>rfl
theorem ze:SR K (pj fun i j=>.bl (decide (j<i))) uk:=zd fun _ _ _=>rfl
theorem FE:SR K (pj fun i j=>.bl (decide (j<=i))) vd:=zd fun _ _ _=>rfl
def eJ:D->Option D |.int i=>some (.int (-i)) |_=>none
theorem rg:SU K (rU fun i=>.int (-i)) eJ:=by intro F H x c d Q s b e q;cases c with |int i=>cases e;exact⟨i,b,q _ F H (.refl s) rfl⟩ |_=>cases e
noncomputable def fl:D->Option V |.non=>some .non |.bl b=>some (.bl b) |.int i=>some (.int i) |.str x=>some (.str x) |_=>none
theorem CQ(h:fl d=some v)(r:Top K F H d x):x=v:=by cases d with |non=>cases h;simpa[Top,Rep] using r |bl _=>cases h;simpa[Top,Rep] using r |int _=>cases h;simpa[Top,Rep] using r |str _=>cases h;simpa[Top,Rep] using r |_=>cases h
def oEq(x y:D):Option D:=match fl x,fl y with|some a,some b=>if nF a b=true then some (.bl (decide (a=b))) else none|_,_=>none
def og(x y:D):Option D:=match fl x,fl y with|some a,some b=>if nF a b=true then some (.bl (!decide (a=b))) else none|_,_=>none
theorem iM:SR K Kc oEq:=by
  intro F H x y j k d Q s f i e q;unfold oEq at e;split at e
  . rename_i a b g c;split at e;.rename_i h;cases e;cases CQ g f;cases CQ c i;exact⟨h,q _ F H (.refl s) rfl⟩
    simp_all
  simp_all
theorem xS:SR K Kd og:=by
  intro F H x y j k d Q s f i e q;unfold og at e;split at e
  . rename_i a b g c;split at e;.rename_i h;cases e;cases CQ g f;cases CQ c i;exact⟨h,q _ F H (.refl s) rfl⟩
    simp_all
  simp_all
def CS:D->Bool |.non=>true |_=>false
theorem LF(r:Top K F H d x):decide (x=.non)=CS d:=by cases d with |non=>subst r;rfl |bl _=>subst r;rfl |int _=>subst r;rfl |str _=>subst r;rfl |tup _=>obtain⟨a,_,rfl,_⟩:=r;rfl |lst _=>obtain⟨a,_,rfl,_⟩:=r;rfl |dJ _ _=>obtain⟨a,_,rfl,_⟩:=r;rfl |ig _=>obtain⟨a,rfl,_⟩:=r;rfl |exc _=>obtain⟨a,_,rfl,_⟩:=r;rfl |fd _ _=>obtain⟨a,_,_,rfl,_⟩:=r;rfl |obj _ _ _=>obtain⟨a,_,_,rfl,_⟩:=r;rfl
def CT(x y:D):Option D:=match y with|.non=>some (.bl (CS x))|_=>none
def zf(x y:D):Option D:=match y with|.non=>some (.bl (!CS x))|_=>none
theorem LG:SR K (fun x y H Q=>y=.non/\Q (.bl (decide (x=.non))) H) CT:=by intro F H x y g a d Q s c b e q;cases a with |non=>cases e;exact⟨b,q _ F H (.refl s) (by simp[Rep];rw[LF c])⟩ |_=>cases e
theorem LH:SR K (fun x y H Q=>y=.non/\Q (.bl (!decide (x=.non))) H) zf:=by intro F H x y g a d Q s c b e q;cases a with |non=>cases e;exact⟨b,q _ F H (.refl s) (by simp[Rep];rw[LF c])⟩ |_=>cases e
def aJ(x y:D):Option D:=match x,y with|.lst l,.int i=>jd l i|.ig l,.int i=>(jd l i).map .int|_,_=>none
def cC(x y:D):Option D:=match x,y with|.tup l,.int i=>jd l i|_,_=>none
theorem FF(r:aF K F l vs)(h:jd l i=some d):∃v,jd vs i=some v/\Rep K F d v:=by unfold jd at h⊢;rw[r.length];cases q:gK _ i with |none=>simp_all |some j=>rw[q] at h;exact r.get h
theorem dN:SR K (qS K.f) aJ:=by intro F H x y p k d Q s h o e q;cases p with
 |lst l=> cases k with |int i=> obtain⟨a,B,rfl,b,A⟩:=h;obtain⟨v,c,g⟩:=FF A e;exact⟨a,_,i,v,rfl,o,.inl b,c,q _ F H (.refl s) g⟩ |_=>cases e
 |ig l=> cases k with
  |int i=> obtain⟨a,rfl,b⟩:=h;simp only[aJ] at e;cases z:jd l i with |none=>simp_all |some n=> rw[z] at e;cases e;obtain⟨v,c,g⟩:=FF (l:=l.map _) (i:=i) (d:=.int n) .ints (by unfold jd at z⊢;cases q:gK l.length i with |none=>rw[q] at z;cases z |some j=> simp_all);exact⟨a,_,i,v,rfl,o,s.seq b,c,q _ F H (.refl s) g⟩
  |_=>cases e
 |_=>cases e
theorem lg:SR K (uT K.f) cC:=by intro F H x y c k d Q s p o e q;cases c with
 |tup l=> cases k with |int i=> obtain⟨a,w,rfl,j,r⟩:=p;obtain⟨v,b,h⟩:=FF r e;exact⟨a,_,i,v,rfl,o,.inl (.inl (s _ _ j)),b,q _ F H (.refl s) h⟩ |_=>cases e
 |_=>cases e
end
section
variable{K:Kx}{XO:c5}{E:St->XK}{ta tb te ty td:TE}{ma mb me my md:En->R D}{t u:TS}{m n:En->O}{Λ:List (Nat×Addr×HO)}{F0 H0 F H F1 H1:Hp}{σ:St}{δ:En}{Dn:Ends}
abbrev EN:St->XK:=fun _ _ _ _=>False
def pG:Sl->Sl |.o d=>.l d |.p _=>.no |s=>s
def c9(δ:En)(a:List Nat)(n:Nat):En:=a.map (fun i=>pG (δ[i]?.getD .no))++List.replicate n .no
def oh(f:D->R (Option D)):List D->R (List D) |[]=>.ok [] |d::l=>(f d).bind fun o=>(oh f l).bind fun r=>.ok (o.toList++r)
def iN(b:D->En->Option En)(e:Option (En->R Bool))(me:En->R D)(δ:En)(d:D):R (Option D):=match b d δ with |none=>.no |some a=>(match e with |none=>(me a).i7.bind fun x=>.ok (some x) |some c=>(c a).i7.bind fun k=>if k=true then(me a).i7.bind fun x=>.ok (some x) else .ok none)
def ij(mi:En->R (List D))(d:List Nat)(n:Nat)(b:D->En->Option En)(c:Option (En->R Bool))(me:En->R D)(δ:En):R D:= (mi δ).bind fun a=>cH (a.length<=sizeLine) ((oh (iN b c me (c9 δ d n)) a).i7.bind fun l=>.ok (.lst l)) .no
theorem FG{n:Nat}(I:az K Λ F0 H0 F H σ δ)(T:b.Nodup): ∃f,az K f F0 H0 F H (qz σ b n) (c9 δ b n)/\(∀i:Nat,Sl.own (c9 δ b n)[i]?=true->∃x∈f,x.1=i)/\∀x∈f,∃o,H x.2.1=some o:=by
  have J:∀j:Nat,j<b.length->(c9 δ b n)[j]?=some (pG (δ[b.getD j 0]?.getD .no)):=fun j c=>by unfold c9;rw[gk (by simpa using c),cj,bW c];simp[dR,bW c]
  have Z:∀j:Nat,j<b.length->(qz σ b n)[j]?=some ((σ[b.getD j 0]?).getD none):=fun j c=>by unfold qz;rw[gk (by simpa using c),cj,bW c];simp[dR,bW c]
  have Y:∀j:Nat,¬j<b.length->(c9 δ b n)[j]?=some .no\/(c9 δ b n)[j]?=none:=fun j c=>by
    unfold c9;rw[iR (by simpa using c),lD];split;.grind
    simp_all
  have r:∀j:Nat,Sl.own (c9 δ b n)[j]?=true->j<b.length/\∃d a o,δ[b.getD j 0]?=some d/\Sl.own (some d)=true/\(c9 δ b n)[j]?=some (pG d)/\(∃e,pG d=.l e)/\σ[b.getD j 0]?=some (some (.ref a))/\(qz σ b n)[j]?=some (some (.ref a))/\H a=some o/\H0 a=none/\F a=none:=fun j h=>by
    by_cases c:j<b.length;.refine⟨c,?_⟩;rw[J j c] at h;have z:=I.slot (b.getD j 0);cases q:δ[b.getD j 0]? with |none=>rw[q] at h;cases h |some s=> rw[q] at h z;cases s with |no=>cases h |v d=>cases h |o d=> obtain⟨a,g,k,S,Q⟩:=z;obtain⟨o,N⟩:=Q.obj;exact⟨_,a,o,rfl,rfl,by rw[J j c,q];rfl,⟨d,rfl⟩,g,by rw[Z j c,g];rfl,N,k,S⟩ |l d=> obtain⟨a,g,k,S,Q⟩:=z;obtain⟨o,N⟩:=Q.obj;exact⟨_,a,o,rfl,rfl,by grind,⟨d,rfl⟩,g,by rw[Z j c,g];rfl,N,k,S⟩ |p y=>cases h
    .rcases Y j c with z|z<;>(rw[z] at h;cases h)
  let f:List (Nat×Addr×HO):=(List.range b.length).filterMap fun(j:Nat)=>match(qz σ b n)[j]? with |some (some (V.ref a))=>if Sl.own (c9 δ b n)[j]?=true then(H a).map fun o=>(j,a,o) else none |_=>none;have C:∀x∈f,(qz σ b n)[x.1]?=some (some (.ref x.2.1))/\Sl.own (c9 δ b n)[x.1]?=true/\H x.2.1=some x.2.2:=fun x B=>by
    obtain⟨j,_,h⟩:=lH.mp B;split at h
    . rename_i a q;split at h;.rename_i ow;cases X:H a with |none=>rw[X] at h;cases h |some o=>rw[X] at h;cases h;exact⟨q,ow,X⟩
      .cases h
    .cases h
  have w:∀(j:Nat)(y:Tr),(c9 δ b n)[j]?≠some (.p y):=fun j y h=>by
    by_cases c:j<b.length;.rw[J j c] at h;cases q:δ[b.getD j 0]? with |none=>rw[q] at h;cases h |some s=>rw[q] at h;cases s<;>cases h
    .rcases Y j c with z|z<;>(rw[z] at h;cases h)
  refine⟨f,⟨I.ext,?_,fun j=>?_,fun i j a M h1 h2 h3 G=>?_,fun x B=>?_,fun j y h=>absurd h (w j y)⟩,fun j h=>?_,fun x B=>⟨_,(C x B).2.2⟩⟩;.unfold qz c9;simp
  . by_cases c:j<b.length;.rw[J j c,Z j c];have z:=I.slot (b.getD j 0);cases q:δ[b.getD j 0]? with |none=>trivial |some s=> rw[q] at z;cases s with |no=>trivial |v d=>obtain⟨u,g,k⟩:=z;exact⟨u,by rw[g];rfl,k⟩ |o d=>obtain⟨a,g,k⟩:=z;exact⟨a,by rw[g];rfl,k⟩ |l d=>obtain⟨a,g,k⟩:=z;exact⟨a,by rw[g];rfl,k⟩ |p y=>trivial
    .rcases Y j c with z|z<;>(rw[z];trivial)
  .obtain⟨A,d1,L,o1,i2,i3,i4,i5,i6,U,i8⟩:=r i h1;obtain⟨j1,d2,a2,o2,j2,j3,j4,j5,j6,j7,j8⟩:=r j h2;rw[U] at h3;cases h3;rw[j7] at G;cases G;refine I.dist (b.getD i 0) (b.getD j 0) a (fun e=>M ?_) (by rwa[i2]) (by rwa[j2]) i6 j6;rw[dR,dR,bW A,bW j1] at e;exact((List.getElem?_inj A T).mp (by rw[bW A,bW j1];exact dh some e))
  .obtain⟨m1,m2,m3⟩:=C x B;obtain⟨_,d,_,_,_,_,G,⟨e,h5⟩,_⟩:=r x.1 m2;exact⟨⟨e,by rw[G,h5]⟩,m1,m3⟩
  .obtain⟨A,d1,L,o1,i2,i3,i4,i5,i6,U,i8,_⟩:=r j h;refine⟨(j,L,o1),lH.mpr ⟨j,iU.mpr A,?_⟩,rfl⟩;rw[U];show(if Sl.own (c9 δ b n)[j]?=true then(H L).map fun o=>(j,L,o) else none)=_;rw[aq h,i8];rfl
theorem az.side(I:az K Λ F0 H0 F H σ δ)(C:∀i:Nat,Sl.own δ[i]?=true->∃x∈Λ,x.1=i)(G:∀x∈Λ,x.2.1≠p)(h0:H0 p=none)(h1:F p=none):az K Λ F0 H0 F (upd H p w) σ δ:=by
 have B:∀(i:Nat)(a:Addr),Sl.own _=true->σ[i]?=some (some (.ref a))->a≠p:=fun i a h M=>by obtain⟨x,g,e⟩:=C i h;have z:=(I.gu x g).2.1;grind
 have f:∀(j:Nat)(y:Tr),δ[j]?≠some (.p y):=fun j y h=>by obtain⟨x,g,e⟩:=C j (by rw[h];rfl);obtain⟨d,L⟩:=(I.gu x g).1;grind
 refine⟨⟨I.ext.ff,fun b o q=>?_,fun b o q=>?_,I.ext.nw⟩,I.len,fun i=>?_,I.dist,fun x g=>?_,fun j y h=>absurd h (f j _)⟩;.rw[bj (dC q h0)];exact I.ext.hh b o q
 .rw[bj (dC q h1)];exact I.ext.fh b o q
 .have z:=I.slot i;cases q:δ[i]? with |none=>trivial |some s=> rw[q] at z;cases s with |no=>trivial |v d=>exact z |o d=>obtain⟨a,c,k,r,A⟩:=z;exact⟨a,c,k,r,A.at (bj (B i a (by rw[q];rfl) c))⟩ |l d=>obtain⟨a,c,k,r,A⟩:=z;exact⟨a,c,k,r,A.at (bj (B i a (by rw[q];rfl) c))⟩ |p y=>grind
 .obtain⟨c,k,r⟩:=I.gu x g;exact⟨c,k,by rwa[bj (G x g)]⟩
theorem az.nO(w:mI δ c)(v:∀x∈Λ,∃d,δ[x.1]?=some (.l d))(I:az K Λ F0 H0 F H σ c):az K Λ F0 H0 F H σ δ:=by
  refine⟨I.ext,I.len.trans w.1.symm,fun i=>?_,fun i j a e q B y C=>?_,fun x o=>⟨v x o,(I.gu x o).2⟩,I.ju (fun k s h=>⟨(w.2 k).elim (fun z=>by simp_all) fun z=>by grind,rfl⟩) (fun _ _ _ _ _ _ t f _=>⟨t,fun b G=>(f b G).2⟩) fun k j s r b J _ _ _ _ p A=>.inl ⟨(w.2 j).elim (fun z=>by rw[z] at p;cases p) fun z=>by rwa[<-z],A⟩⟩
  . rcases w.2 i with z|z;.rw[z];trivial
    .rw[z];exact I.slot i
  . have g:∀k,Sl.own δ[k]?=true->Sl.own c[k]?=true:=fun k h=>by
      rcases w.2 k with z|z;.rw[z] at h;cases h
      .rwa[<-z]
    exact I.dist i j a e (g i q) (g j B) y C
theorem T6(h:(oh f (d::l)).i7=.ok r):∃o a,f d=.ok o/\(oh f l).i7=.ok a/\r=o.toList++a:=by unfold oh at h;cases q:f d with |no=>rw[q] at h;cases h |ex x=>rw[q] at h;cases h |ok o=> rw[q] at h;cases b:oh f l with |no=>rw[b] at h;cases h |ex x=>rw[b] at h;cases h |ok a=>rw[b] at h;cases h;simp
theorem ba{r:R α}{a:α}(h:r.i7=.ok a):r=.ok a:=by cases r with |no=>cases h |ok b=>simp_all |ex x=>cases h
theorem jG{n:Nat}(hi:xO K XO E wi mi)(A7:M.Nodup)(hg:SG K g b)(hw:BW b)(hc:(tc=none/\nc=none)\/∃c k,tc=some c/\nc=some k/\ST K XO EN c k)(he:SE K XO EN te me):iK K XO E (y7 wi M n g tc te) (ij mi M n b nc me):=by
  intro Λ F0 H0 F H σ δ Q I a;refine hi Λ F0 H0 F H σ δ _ I (a.bind.imp fun B F1 H1 e1 X J hJ p hp=>?_);unfold cH at X;split at X;case isFalse=>exact X.elim
  have I1:=I.grow e1;obtain⟨f,Ic,pC,rh⟩:=FG (n:=n) I1 A7;cases qg:(oh (iN b nc me (c9 δ M n)) B).i7 with |no=>rw[qg] at X;exact X.elim |ex x=>cases q2:oh (iN b nc me (c9 δ M n)) B<;>(rw[q2] at qg;cases qg) |ok l=>
  rw[qg] at X;have C:∀x∈f,∃d,(c9 δ M n)[x.1]?=some (.l d):=fun x hx=>(Ic.gu x hx).1;have A8:∀x∈f,x.2.1≠p:=fun x hx e=>by obtain⟨o,ho⟩:=rh x hx;simp_all
  have p0:H0 p=none:=I1.ext.hh.free hp;have f1:F1 p=none:=e1.fh.free hp;refine⟨fun i k A FH H2=>∃U Z l2,az K f F0 H0 U H2 FH (c9 δ M n)/\Ext F1 H1 U H2/\H2 p=some (.lst A)/\U p=none/\aF K U Z A/\(oh (iN b nc me (c9 δ M n)) (B.drop i)).i7=.ok l2/\l=Z++l2/\k=B.length-i/\i<=B.length/\A.length<=i, ⟨_,F1,[],l,?_,.fD e1.fh hp,cw,f1,.nil,qg,rfl,rfl,bU _,aG _⟩,?_⟩;.exact Ic.grow (.fD e1.fh hp)
  rintro i k A FH H2 ⟨U,Z,l2,I2,x2,hD,hF,r,qd,rfl,rfl,LI,A9⟩;refine⟨hD,?_⟩;by_cases vf:i<B.length;.have e:B.drop i=B[i]::B.drop (i+1):=qc vf;rw[e] at qd;obtain⟨o,l3,s,q3,rfl⟩:=T6 qd;obtain⟨h1,h2⟩:=(hJ U H2 x2 i).1 B[i] (by simp);refine .inr ⟨h1,fun S wG L=>∃G h,az K f F0 H0 G L wG (c9 δ M n)/\Ext F1 H1 G L/\L p=some (.lst S)/\G p=none/\aF K G h S/\Z++(o.toList++l3)=h++l3/\S.length<=i+1, fun S wG L ⟨G,h,w1,w2,w3,w4,w5,w6,w7⟩=>⟨_,by omega,G,h,l3,w1,w2,w3,w4,w5,q3,w6,rfl,vf,w7⟩,fun x L y=>?_⟩;obtain⟨F3,e3,rx⟩:=h2 x L y;have LJ:∀{F5 T:Hp},Ext U H2 F5 T->T p=some (.lst A)/\F5 p=none:=fun z=>⟨z.hh _ _ hD,z.nw p _ hF hD⟩;unfold iN at s;cases qb:b B[i] (c9 δ M n) with |none=>rw[qb] at s;cases s |some j=>
      rw[qb] at s;have LK:=hw _ _ _ qb;refine hg f F0 H0 F3 L FH _ _ x j _ (I2.grow e3) rx qb fun N I3=>?_;have fin:∀F4 H4,Ext F3 L F4 H4->(me j).i7.bind (fun x=>R.ok (some x))=.ok o->te N H4 fun y T=>T p=some (.lst A)/\A.length<sizeLine/\ ∃G h,az K f F0 H0 G (upd T p (.lst (A++[y]))) N (c9 δ M n)/\Ext F1 H1 G (upd T p (.lst (A++[y])))/\upd T p (.lst (A++[y])) p=some (.lst (A++[y]))/\G p=none/\aF K G h (A++[y])/\Z++(o.toList++l3)=h++l3/\(A++[y]).length<=i+1:=by intro F4 H4 Y qe;cases qm:me j with |no=>rw[qm] at qe;cases qe |ex x=>rw[qm] at qe;cases qe |ok d=> rw[qm] at qe;cases qe;refine he f F0 H0 F4 H4 N j _ (I3.grow Y) ?_;rw[qm];intro F5 T e5 v rv;have z:=e3.trans (Y.trans e5);obtain⟨z1,z2⟩:=LJ z;refine⟨z1,by lia,F5,Z++[d],(((I3.grow Y).grow e5).nO LK C).side pC A8 p0 z2,?_,cw,z2,(r.mono z.ff).append (.cons rv .nil),by simp,by simpa using A9⟩;have w:=x2.trans z;exact⟨w.ff,fun c o q=>by rw[bj (dC q hp)];exact w.hh c o q,fun c o q=>by rw[bj (dC q z2)];exact w.fh c o q,w.nw⟩
      rcases hc with⟨rfl,rfl⟩|⟨c,kc,rfl,rfl,T7⟩;.have z:=fin F3 L (.refl e3.fh) s;exact z
      .simp only at s;refine T7 f F0 H0 F3 L N j _ I3 ?_;cases qk:kc j with |no=>rw[qk] at s;cases s |ex x=>rw[qk] at s;cases s |ok bb=> rw[qk] at s;intro F4 H4 Y;cases bb with |true=>exact fin F4 H4 Y s |false=>
            rw[ao fA];have eo:o=none:=by cases s;rfl
            subst eo;have z:=e3.trans Y;obtain⟨z1,z2⟩:=LJ z;exact⟨F4,Z,(I3.grow Y).nO LK C,x2.trans z,z1,z2,r.mono z.ff,rfl,by lia⟩
  . have e:i=B.length:=by lia
    subst e;rw[qf] at qd;cases qd;refine .inl ⟨(hJ U H2 x2 _).2 (by simp),X _ _ x2 p hF (e1.hh.free hp) ⟨_,hD,?_⟩⟩;rwa[dQ]
noncomputable def pH(n:Nat)(ds:List D):En:=ds.map .v++List.replicate n .no
def bM(np nv:Nat)(m:En->O)(ds:List D):R D:=if ds.length=np then(match m (pH nv ds) with|.rt d=>.ok d|.nx _=>.ok .non|.ex _ x=>.ex x|_=>.no) else .no
theorem FI(s:aC F H)(r:aF K F ds vs)(h:N.length=np+nv)(k:ds.length=np):az K [] F H F H (L2.start N vs) (pH nv ds):=by
  have e:=r.length;unfold L2.start pH;have f:N.length-vs.length=nv:=by lia
  rw[f];refine⟨.refl s,by simp[e],fun i=>?_,fun i j a _ b _ _ _=>?_,fun x g=>(by cases g),fun i l b=>by
    by_cases c:i<ds.length;.rw[gk (by simp_all),cj,bW c] at b;cases b
    .rw[iR (by simpa using c),lD] at b;simp_all⟩
  . by_cases c:i<ds.length;.rw[gk (by grind),gk (by simp_all),cj,cj,bW c];obtain⟨v,b,d⟩:=r.get (bW _);rw[b];exact⟨v,rfl,d⟩
    .rw[iR (by simp_all),lD];split<;>trivial
  . by_cases c:i<ds.length;.rw[gk (by simpa using c),cj,bW c] at b;cases b
    .rw[iR (by simpa using c),lD] at b;split at b<;>cases b
theorem A_{E:XK}(h:SS K XO (fun _=>E) t m)(g:N.length=np+nv)(sp:qA K XO (bM np nv m) vs H Q E):t {nx:=fun _ H'=>Q .non H',rt:=Q} (L2.start N vs) H:=by
 obtain⟨F,i,s,r,a⟩:=sp;unfold bM at a;split at a;.rename_i f;refine h _ F H F H _ _ _ (FI s r g f) ?_;cases q:m _ with |no=>rwa[q] at a |nx δ=>rw[q] at a;exact fun σ b H' I=>a _ _ I.ext _ rfl |rt d=>rw[q] at a;exact fun v b H' e r=>a _ _ e v r |ro d=>rw[q] at a;exact a.elim |bk δ=>rw[q] at a;exact a.elim |ct δ=>rw[q] at a;exact a.elim |ex δ x=>rw[q] at a;exact fun σ b H' C c I w=>a C _ _ _ I.ext w
 .exact a.elim
def eQ(np nv:Nat)(m:En->O)(ds:List D):R D:=if ds.length=np then(match m (pH nv ds) with|.ro d=>.ok d|.ex _ x=>.ex x|_=>.no) else .no
def vg(K:Kx)(XO:c5)(f:List D->R D):Sp:=fun e H Q E=>∃F b,aC F H/\aF K F b e/\eP (fun _=>E) XO [] F H (fun d c a=>∀p,c p=none->H p=none->Own K c a d p->Q (.ref p) a) (f b)
theorem LL{E:XK}(h:SS K XO (fun _=>E) t m)(g:N.length=np+nv)(sp:vg K XO (eQ np nv m) vs H Q E):t {nx:=fun _ H'=>Q .non H',rt:=Q} (L2.start N vs) H:=by
 obtain⟨F,l,s,r,a⟩:=sp;unfold eQ at a;split at a;.rename_i j;refine h _ F H F H _ _ _ (FI s r g j) ?_;cases q:m _ with |no=>rwa[q] at a |nx δ=>rw[q] at a;exact a.elim |rt d=>rw[q] at a;exact a.elim |ro d=>rw[q] at a;exact fun p b H' e c i o=>a _ _ e p c i o |bk δ=>rw[q] at a;exact a.elim |ct δ=>rw[q] at a;exact a.elim |ex δ x=>rw[q] at a;exact fun σ b H' C f I w=>a C _ _ _ I.ext w
 .exact a.elim
theorem LM{E:XK}(sp:vg K XO (eQ np nv m) vs H Q E):vs.length=np:=by
 obtain⟨F,b,s,r,a⟩:=sp;unfold eQ at a;split at a;.rwa[r.length]
 .exact a.elim
theorem CU{E:XK}(sp:qA K XO (bM np nv m) vs H Q E):vs.length=np:=by
 obtain⟨F,b,s,r,a⟩:=sp;unfold bM at a;split at a;.rwa[r.length]
 .exact a.elim
theorem T8{E:XK}(c:f [.ig ns]=.ok (.bl true))(h:fX K.f H a (ns.map V.int))(q:∀H',Q (.bl true) H'):qA K XO f [.ref a] H Q E:=by
  refine⟨fun b=>if b=a then H b else none,[.ig ns],fun b o e=>?_,.cons ?_ .nil,?_⟩;.simp_all
  . refine⟨a,rfl,?_⟩;rcases h with(h|⟨o,h⟩)|h;.exact .inl (.inl (by simp_all))
    .exact .inl (.inr ⟨o,by simp_all⟩)
    .exact .inr h
  .rw[c];intro d H' _ v r;simp[Rep] at r;simp_all
theorem rY(h:SA K XO E g ml):iK K XO E (uc (vg K XO f) [] k g) (bq f ml):=fun Λ F0 H0 F H σ δ Q I a=>h _ _ _ F H _ _ _ I (a.bind.imp fun e F1 H1 b c s r=>⟨_,e,b.fh,by simp_all,eP.imp (fun d w v l p q j i o=>p q j (b.hh.free i) o) (eP.any c)⟩)
mutual
def mL : D -> Bool
 | .tup l => ri l
 | .lst _ => false
 | .dJ _ _ => false
 | .ig _ => false
 | .exc _ => false
 | .fd _ _ => false
 | .obj _ _ _ => false
 | _ => true
def ri : List D -> Bool
 | [] => true
 | d :: l => mL d && ri l
end
variable(K) in
def wH(F H:Hp)(d:D)(v:V):Prop:=Rep K F d v\/(∃a,v=.ref a/\Own K F H d a)\/∃T b,d=jt T/\cL K F H T v b
variable(K XO E) in
def xT(t:TA)(m:En->R (List D)):Prop:=∀Λ F0 H0 F H σ δ Q,az K Λ F0 H0 F H σ δ->eP E XO σ F H (fun c d b=>∀a,uf (wH K d b) c a->Q a b) (m δ)->t σ H Q
theorem wH.mono{F H f H':Hp}(e:Ext F H f H'):wH K F H d v->wH K f H' d v |.inl h=>.inl (Rep.mono e.ff _ h) |.inr (.inl ⟨a,b,c⟩)=>.inr (.inl ⟨a,b,c.mono e.ff e.hh⟩) |.inr (.inr ⟨T,_,b,c⟩)=>.inr (.inr ⟨T,_,b,cL.mono e.ff e.hh T c⟩)
theorem wI:xT K XO E cV af:=fun Λ F0 H0 F H σ δ Q I a=>a F H (.refl I.same) _ .nil
theorem pK(j:SE K XO E ta ma)(g:xT K XO E e k):xT K XO E (fR ta e) (ai ma k):=by intro Λ F0 H0 F H σ δ Q I a;refine j _ _ _ F H _ _ _ I (a.bind.imp fun l F1 H1 d h x f=>(g _ _ _ _ _ _ _ _ (I.grow d) (h.bind.imp fun p o q b i y c=>?_)));exact i _ _ (.refl b.fh) _ (.cons (.inl (Rep.mono b.ff _ f)) c)
theorem LN(x:xT K XO E B j):xT K XO E (fR (cS i) B) (ai (aj i) j):=by
 intro Λ F0 H0 F H σ δ Q I a;have c:∀d v,aj i _=.ok d->σ[i]?=some _->wH K F H d v->fR (cS i) _ _ H Q:=fun d v A r b=>by unfold ai at a;rw[A] at a;refine⟨v,r,x _ _ _ F H _ _ _ I (eP.imp (fun G M J h k y w=>?_) (eP.bind a))⟩;exact k _ _ (.refl h.fh) _ (.cons (b.mono h) w)
 have z:=I.slot i;unfold ai at a
 cases q:δ[i]? with |none=>
  have e:aj i δ=.no:=by unfold aj;rw[q]
  rw[e] at a;exact a.elim |some s=>
  rw[q] at z;cases s with |no=>
   have e:aj i δ=.no:=by unfold aj;rw[q]
   rw[e] at a;exact a.elim |v d=>obtain⟨u,f,g⟩:=z;exact c d u (by unfold aj;rw[q]) f (.inl g) |o d=>obtain⟨u,f,_,_,g⟩:=z;exact c d _ (by unfold aj;rw[q]) f (.inr (.inl ⟨u,rfl,g⟩)) |l d=>obtain⟨u,f,_,_,g⟩:=z;exact c d _ (by unfold aj;rw[q]) f (.inr (.inl ⟨u,rfl,g⟩)) |p L=>
   have e:aj i δ=.no:=by unfold aj;rw[q]
   rw[e] at a;exact a.elim
def hR(F H:Hp):Hp:=fun b=>match F b with |some o=>some o |none=>match H b with |some (.lst c)=>some (.lst c) |some (.dK a)=>some (.dK a) |some (.jI o u)=>some (.jI o u) |some (.ins C e d)=>some (.ins C e d) |_=>none
theorem wJ{F H:Hp}:aC F (hR F H):=fun b o h=>by unfold hR;rw[h]
theorem FJ{F H:Hp}(s:aC F H):aC (hR F H) H:=fun b o h=>by unfold hR at h;cases q:F b with |some u=>rw[q] at h;cases h;exact s _ _ q |none=> grind
theorem T9(s:aC F H)(h:H a=some (.lst vs)):hR F H a=some (.lst vs):=by unfold hR;cases q:F a with |some u=>rwa[s _ _ q] at h |none=>simp_all
mutual
theorem FK (s : aC F H) : ∀ (T : Tr) {v : V} {fp : List Addr}, cL K F H T v fp -> Rep K (hR F H) (jt T) v
 | .d x, v, fp, h => Rep.mono wJ x h.2
 | .l _, v, fp, h => by
  obtain ⟨a, c, o, rfl, j, f, g⟩ := h
  exact ⟨a, _, rfl, T9 s f, FN s _ g⟩
 | .t _, v, fp, h => by
  obtain ⟨a, c, rfl, f, g⟩ := h
  exact ⟨a, _, rfl, wJ _ _ f, FN s _ g⟩
theorem FN (s : aC F H) : ∀ (i : List Tr) {c : List V} {fp : List Addr}, aK K F H i c fp -> aF K (hR F H) (fe i) c
 | [], c, fp, h => by
  simp only [aK] at h
  rw [h.1]
  simp only [fe]
  exact .nil
 | t :: i, c, fp, h => by
  simp only [aK] at h
  obtain ⟨v, r, p, k, rfl, j, f, g⟩ := h
  simp only [fe]
  exact .cons (FK s t f) (FN s i g)
end
theorem FO{F H:Hp}(s:aC F H):∀{d:D}{v:V},wH K F H d v->Rep K (hR F H) d v:=by
 intro d v h;rcases h with h|⟨a,rfl,h⟩|⟨T,r,rfl,h⟩;.exact Rep.mono wJ _ h
 .cases d with
  |lst l=> obtain⟨g,e,b⟩:=h;refine⟨a,_,rfl,?_,b.mono wJ⟩;unfold hR;cases q:F a with |some u=>rwa[s _ _ q] at e |none=>simp_all
  |dJ p l=> obtain⟨g,e,f,b⟩:=h;refine⟨a,_,rfl,?_,f,b.mono wJ⟩;unfold hR;cases q:F a with |some u=>rwa[s _ _ q] at e |none=>simp_all
  |obj c p l=> obtain⟨j,g,e,f,b⟩:=h;refine⟨a,j,_,rfl,?_,f,b.mono wJ⟩;unfold hR;cases q:F a with |some u=>rwa[s _ _ q] at e |none=>simp_all
  |_=>exact h.elim
 .exact FK s T h
theorem FP{F H:Hp}(s:aC F H):∀{ds:List D}{vs:List V},uf (wH K F H) ds vs->aF K (hR F H) ds vs |_,_,.nil=>.nil |_,_,.cons h t=>.cons (FO s h) (FP s t)
open Classical in
def cJ(F H a:Hp):Hp:=fun b=>if F b=none/\H b≠none then none else a b
theorem FQ{F H f H':Hp}(e:Ext (hR F H) H f H')(h:f a=some o)(h1:∀vs,o≠.lst vs)(h2:∀cq,o≠.dK cq)(h3:∀q u,o≠.jI q u)(g:∀C d fs,o≠.ins C d fs):cJ F H f a=some o:=by
 unfold cJ;split;.rename_i l;exfalso;cases c:H a with |none=>simp_all |some u=>
  have b:hR F H a=match H a with|some (.lst vs)=>some (.lst vs)|some (.dK cq)=>some (.dK cq)|some (.jI o u)=>some (.jI o u)|some (.ins C d fs)=>some (.ins C d fs)|_=>none:=by unfold hR;rw[l.1]
  cases u with |lst vs=>rw[c] at b;have z:=e.ff a _ b;grind |dK vs=>rw[c] at b;have z:=e.ff a _ b;rw[h] at z;simp_all |jI q w=>rw[c] at b;have z:=e.ff a _ b;rw[h] at z;cases z;exact h3 q w rfl |ins C d fs=>rw[c] at b;have z:=e.ff a _ b;rw[h] at z;cases z;exact g C _ _ rfl |_=>rw[c] at b;have z:=e.nw a _ b c;rw[h] at z;cases z
 .exact h
mutual
theorem A' {F H f H' : Hp} (e : Ext (hR F H) H f H') : ∀ (d : D) {v : V}, mL d = true -> Rep K f d v -> Rep K (cJ F H f) d v
 | .non, v, _, h => h
 | .bl _, v, _, h => h
 | .int _, v, _, h => h
 | .str _, v, _, h => h
 | .lst _, v, c, h => by cases c
 | .dJ _ _, v, c, h => by cases c
 | .ig _, v, c, h => by cases c
 | .exc _, v, c, h => by cases c
 | .fd _ _, v, c, h => by cases c
 | .obj _ _ _, v, c, h => by cases c
 | .tup l, v, c, h => let ⟨a, _, j, o, k⟩ := h;⟨a, _, j, FQ e o (fun _ z => by cases z) (fun _ z => by cases z) (fun _ _ z => by cases z) (fun _ _ _ z => by cases z), FR e l c k⟩
theorem FR {F H f H' : Hp} (e : Ext (hR F H) H f H') : ∀ (l : List D) {i : List V}, ri l = true -> aF K f l i -> aF K (cJ F H f) l i
 | [], i, _, h => by simp only [aF] at h ⊢; exact h
 | d :: l, i, c, h => by
  simp only [ri, ka] at c
  simp only [aF] at h ⊢
  obtain ⟨v, r, j, o, k⟩ := h
  exact ⟨v, r, j, A' e d c.1 o, FR e l c.2 k⟩
end
theorem CV{F H a H':Hp}(e:Ext (hR F H) H a H'):Ext F H (cJ F H a) H':=by
  refine⟨fun b o h=>?_,e.hh,fun b o h=>?_,fun p o c f=>?_⟩;.unfold cJ;rw[ao (fun d=>by simp_all)];exact e.ff b o (wJ b o h)
  . unfold cJ at h;split at h;.cases h
    .exact e.fh b o h
  .unfold cJ;rw[aq ⟨c,by simp_all⟩]
def zg(f:List D->R D)(ml:En->R (List D))(δ:En):R D:=(ml δ).bind fun l=>(f l).i7.bind fun d=>if mL d=true then .ok d else .no
theorem LO(h:xT K XO E j ml):SE K XO E (uc (qA K XO f) [] o j) (zg f ml):=by intro Λ F0 H0 F H σ δ Q I a;refine h _ _ _ F H _ _ _ I (a.bind.imp fun l F1 H1 c b s r=>⟨_,_,FJ c.fh,by rw[dQ];exact FP c.fh r,?_⟩);cases q:f _ with |no=>rwa[q] at b |ex x=>rw[q] at b;exact b.elim |ok d=>
 rw[q] at b;intro z w e v g;simp[R.ba] at b;split at b;.rename_i i;exact b _ _ (CV e) v (A' e d i g)
 .exact b.elim
variable(K) in
def SC(r:List V->Hp->VK->Prop)(f:List D->Option D):Prop:=∀F H e b d Q,aC F H->uf (Top K F H) b e->f b=some d->(∀v c a,Ext F H c a->Rep K c d v->Q v a)->r e H Q
variable(K) in
def LP(r:List V->Hp->VK->Prop)(f:List D->Option D):Prop:=∀F H e c d Q,aC F H->uf (Top K F H) c e->f c=some d->(∀p b a,Ext F H b a->b p=none->H p=none->Own K b a d p->Q (.ref p) a)->r e H Q
def aN(f:List D->Option D)(ml:En->R (List D))(δ:En):R D:=(ml δ).bind fun l=>R.of (f l)
theorem dc(j:SC K r f)(h:ug K XO E i ml):SE K XO E (rR r i) (aN f ml):=by intro Λ F0 H0 F H σ δ Q I a;refine h _ _ _ F H _ _ _ I (a.bind.imp fun k F1 H1 c b o g=>?_);cases q:f _ with |none=>rw[q] at b;exact b.elim |some d=>rw[q] at b;exact j _ _ _ _ d Q c.fh g q fun v l p e r=>b _ _ e v r
theorem wK(j:LP K r f)(h:ug K XO E k ml):iK K XO E (rR r k) (aN f ml):=by intro Λ F0 H0 F H σ δ Q I a;refine h _ _ _ F H _ _ _ I (a.bind.imp fun s F1 H1 c b v i=>?_);cases q:f _ with |none=>rw[q] at b;exact b.elim |some d=>rw[q] at b;exact j _ _ _ _ d Q c.fh i q fun p w x e l g o=>b _ _ e p l (c.hh.free g) o
def aI:List D->Option D |[.lst l]=>some (.int l.length) |[.ig l]=>some (.int l.length) |[.tup l]=>some (.int l.length) |_=>none
theorem fF:SC K (fun xs H Q=>∃p ys,xs=[.ref p]/\(fX K.f H p ys\/jU K.f H p ys)/\Q (.int ys.length) H) aI:=by
 intro F H i h d Q s r e q;unfold aI at e;split at e;.cases e;cases r with |cons r c=> cases c;obtain⟨a,xs,rfl,f,g⟩:=r;exact⟨a,_,rfl,.inl (.inl f),q _ F H (.refl s) (by simp[Rep];rw[g.length])⟩
 .cases e;cases r with |cons r c=> cases c;obtain⟨a,rfl,f⟩:=r;exact⟨a,_,rfl,.inl (s.seq f),q _ F H (.refl s) (by simp only[Rep];simp)⟩
 .cases e;cases r with |cons r c=> cases c;obtain⟨a,xs,rfl,f,g⟩:=r;exact⟨a,_,rfl,.inr (.inl (.inl (s _ _ f))),q _ F H (.refl s) (by simp[Rep];rw[g.length])⟩
 simp_all
def nP:List D->Option D |[.int i]=>some (.int (if i<0 then-i else i)) |_=>none
theorem CW:SC K (fun xs H Q=>∃i,xs=[.int i]/\Q (.int (if i<0 then-i else i)) H) nP:=by
 intro F H c f d Q s r e q;unfold nP at e;split at e;.rename_i i;cases e;cases r with |cons r b=> cases b;subst r;exact⟨i,rfl,q _ F H (.refl s) rfl⟩
 simp_all
def kU:List D->Option D |[.lst l]=>some (.lst l) |[.tup l]=>some (.lst l) |_=>none
theorem wL:LP K (fun xs H Q=>∃p ys,xs=[.ref p]/\(fX K.f H p ys\/jU K.f H p ys)/\∀l,H l=none->Q (.ref l) (upd H l (.lst ys))) kU:=by
 intro F H i j d Q s r e q;unfold kU at e;split at e;.cases e;cases r with |cons r f=> cases f;obtain⟨a,xs,rfl,g,h⟩:=r;exact⟨a,_,rfl,.inl (.inl g),fun p b=>q _ F _ (.fD s b) (s.free b) b ⟨_,cw,h⟩⟩
 .cases e;cases r with |cons r f=> cases f;obtain⟨a,xs,rfl,g,h⟩:=r;exact⟨a,_,rfl,.inr (.inl (.inl (s _ _ g))),fun p b=>q _ F _ (.fD s b) (s.free b) b ⟨_,cw,h⟩⟩
 simp_all
def LQ:D->Option Int |.int i=>some i |_=>none
def bZ(_:En):R (Option Int):=.ok none
def dF(me:En->R D)(δ:En):R (Option Int):=(me δ).bind fun d=>(R.of (LQ d)).bind fun i=>.ok (some i)
variable(K XO E) in
def SO(t:TO)(m:En->R (Option Int)):Prop:=∀Λ F0 H0 F H σ δ Q,az K Λ F0 H0 F H σ δ->eP E XO σ F H (fun o _ a=>Q o a) (m δ)->t σ H Q
theorem nQ:SO K XO E KA bZ:=fun Λ F0 H0 F H σ δ Q I a=>a F H (.refl I.same)
theorem mM(h:SE K XO E te me):SO K XO E (KC te) (dF me):=by intro Λ F0 H0 F H σ δ Q I a;refine h _ _ _ F H _ _ _ I (a.bind.imp fun d F1 H1 e b v r=>?_);cases d with |int i=>exact⟨i,r,b _ _ (.refl e.fh)⟩ |_=>exact b.elim
def cutD(xs:List D)(lo hi:Option Int):List D:=(xs.drop (HT.dV xs.length 0 lo)).take (HT.dV xs.length xs.length hi-HT.dV xs.length 0 lo)
def gq(me:En->R D)(ml mh:En->R (Option Int))(δ:En):R D:=(me δ).bind fun d=>(ml δ).bind fun b=>(mh δ).bind fun a=>(R.of (uj d)).bind fun l=>.ok (.lst (cutD l b a))
theorem qF(h:lK K XO E te me)(z:SO K XO E w ml)(y:SO K XO E x mh):iK K XO E (EF (AO K.f) te w x) (gq me ml mh):=by intro Λ F0 H0 F H σ δ Q I a;refine h _ _ _ F H _ _ _ I (a.bind.imp fun d F1 H1 f k v r=>?_);refine z _ _ _ _ _ _ _ _ (I.grow f) (k.bind.imp fun C N L e s=>(y _ _ _ _ _ _ _ _ ((I.grow f).grow e) (s.bind.imp fun J G B b i=>?_)));cases d with |lst l=> obtain⟨p,M,rfl,g,j⟩:=r;refine⟨p,_,rfl,.inl (PM.aC.rd b.hh (PM.aC.rd e.hh g)),fun q c=>i _ _ (.fD b.fh c) q (b.fh.free c) (f.hh.free (e.hh.free (b.hh.free c))) ⟨_,cw,?_⟩⟩;unfold cutD mG;rw[<-j.length];exact(((j.mono e.ff).mono b.ff).drop _).take _ |ig l=> obtain⟨p,rfl,g⟩:=r;refine⟨p,_,rfl,b.hh.seq (e.hh.seq (f.fh.seq g)),fun q c=>i _ _ (.fD b.fh c) q (b.fh.free c) (f.hh.free (e.hh.free (b.hh.free c))) ⟨_,cw,?_⟩⟩;unfold cutD mG;rw[aW,aW];exact(aF.ints.drop _).take _ |_=>exact i.elim
end
def fS(x y:D):Option D:=match x,y with|.lst l,.lst r=>cH (l.length+r.length<=sizeLine) (some (.lst (l++r))) none|_,_=>none
def gW:Nat->D->Bool |_,.non=>true |_,.int _=>true |n+1,.tup l=>l.all (gW n) |n+1,.lst l=>l.all (gW n) |_,_=>false
open Classical in
def gv(x y:D):Option D:=cH (gW 8 x=true/\gW 8 y=true) (some (.bl (decide (x=y)))) none
open Classical in
def iG(x y:D):Option D:=cH (gW 8 x=true/\gW 8 y=true) (some (.bl (!decide (x=y)))) none
def vh:String->D->Bool |"int",.int _=>true |"int",.bl _=>true |"bool",.bl _=>true |"list",.lst _=>true |"tuple",.tup _=>true |"str",.str _=>true |_,_=>false
def FT:D->Bool |.ig _=>false |.exc _=>false |.fd _ _=>false |.obj _ _ _=>false |_=>true
def xU(c:String)(d:D):Option D:=match d with|.ig _=>none|.exc _=>none|.fd _ _=>none|.obj _ _ _=>none|d=>some (.bl (vh c d))
noncomputable def dG:List D->Option (List Int) |[]=>some [] |.int i::l=>(dG l).map (i::.) |_=>none
theorem rZ(ns:List Int):dG (ns.map .int)=some ns:=by induction ns with |nil=>rfl |cons a l c=>simp[dG,c]
theorem uo(h:dG l=some ns):l=ns.map .int:=by induction l generalizing ns with |nil=>cases h;rfl |cons d l e=> cases d with
 |int i=> simp[dG] at h;cases q:dG l with |none=>simp_all |some m=>grind
 |_=>cases h
def gi:List D->Option D |[.lst l]=>(dG l).map fun a=>.int a.sum |_=>none
def dO:List Int->Int->Int |[],m=>m |a::l,m=>dO l (if a>m then a else m)
def vi(l:List D)(d:D):Option D:=match l with |[.lst []]=>some d |[.lst (.int a::l)]=>(dG l).map fun b=>.int (dO b a) |_=>none
def xV(ml:En->R (List D))(md:En->R D)(δ:En):R D:=(ml δ).bind fun l=>(md δ).bind fun d=>R.of (vi l d)
def rj:List D->Option (List D) |[.lst l]=>some l.reverse |_=>none
def rk(ml:En->R (List D))(δ:En):R (List D):=(ml δ).bind fun l=>R.of (rj l)
theorem CY(h:jX c m n δ=o)(p:o≠.no):wF c m δ=o:=by
 have a:∀k n δ,jX c m n δ≠.no->jX c m (n+k) δ=jX c m n δ:=by intro k n;induction n with |zero=>intro δ h;exact absurd rfl h |succ n j=>
  intro δ h;have e:n+1+k=(n+k)+1:=by lia
  rw[e];unfold jX at h⊢;cases q:c _ with |no=>rfl |ex x=>rfl |ok b=> rw[q] at h;cases b with |false=>rfl |true=> cases i:m _<;>simp[i] at h⊢<;>exact j _ h
 have d:∃n,jX c m n _≠.no:=⟨n,by rwa[h]⟩;unfold wF;rw[dif_pos d];rw[<-(a n _ _ (Classical.choose_spec d)),Nat.add_comm,(a (Classical.choose _) n _ (by simp_all)),h]
theorem T_{α:Type}(env:α->En)(go:α->Bool)(d:α->α)(P:α->Prop)(p:α->Nat)(v:∀a,P a->c (env a)=.ok (go a))(x:∀a,P a->go a=true->m (env a)=.nx (env (d a))/\P (d a)/\p (d a)<p a) (a:α)(h:P a):∃b,P b/\go b=false/\wF c m (env a)=.nx (env b)/\∃k,b=Nat.repeat d k a:=by
 have r:∀n a,P a->p a<n->∃b,P b/\go b=false/\jX c m n (env a)=.nx (env b)/\∃k,b=Nat.repeat d k a:=by intro n;induction n with |zero=>lia |succ n o=> intro a i y;cases g:go a with |false=>exact⟨a,i,g,by unfold jX;rw[v a i,g];rfl,0,rfl⟩ |true=>
  obtain⟨w,t,u⟩:=x a i g;obtain⟨b,l,j,q,k,s⟩:=o _ t (by lia);refine⟨b,l,j,?_,k+1,?_⟩;.unfold jX;simp_all
  .rw[s];clear s q j l b u t w y i o;induction k with |zero=>rfl |succ k o=>show d _=d _;rw[o]
 obtain⟨b,l,j,q,k⟩:=r _ a h (fB _);exact⟨b,l,j,CY q (by simp),k⟩
theorem FU{b:Type}(enc:b->D)(g:b->Option D):∀(l:List b),(∀x∈l,f (enc x)=.ok (g x))->oh f (l.map enc)=.ok (l.filterMap g) |[],_=>rfl |x::l,h=>by rw[bH];unfold oh;rw[FU _ g l fun y c=>h y (bJ _ c)];cases q:g x with |none=>simp_all |some d=>simp_all
theorem small(h:n<=100000):n<=sizeLine:=bK h (by decide)
theorem LR(h:n<=100000):n<sizeLine:=je h (by decide)
theorem c8(n:Nat)(h:i.natAbs<=n)(h2:n<2^8000:=by decide+kernel):eI i:=je h h2
@[simp] theorem xW(i j:Int):bL (.int i) (.int j)=some (.int (i+j)):=rfl
@[simp] theorem CZ(i j:Int):gU (.int i) (.int j)=some (.int (i-j)):=rfl
theorem vj(h:eI i)(h':eI j):fE (.int i) (.int j)=some (.int (i*j)):=fY ⟨h,h'⟩
theorem Ua(h:j≠0)(h':eI j):oDiv (.int i) (.int j)=some (.int (i.fdiv j)):=fY ⟨h,h'⟩
theorem nR(h:0<j)(h':eI j):oDiv (.int i) (.int j)=some (.int (i/j)):=by rw[Ua (by omega) h',Int.fdiv_eq_ediv_of_nonneg _ (by omega)]
theorem hV(h:0<j):oMod (.int i) (.int j)=some (.int (i%j)):=fY h
theorem C0(h:sO i j):iF (.int i) (.int j)=some (.int (i^j.toNat)):=fY h
@[simp] theorem C1(i j:Int):oLt (.int i) (.int j)=some (.bl (decide (i<j))):=rfl
@[simp] theorem zAD (i j : Int) : oLe (.int i) (.int j) = some (.bl (decide (i ≤ j))) := rfl
@[simp] theorem Ub(i j:Int):uk (.int i) (.int j)=some (.bl (decide (j<i))):=rfl
@[simp] theorem LS(i j:Int):vd (.int i) (.int j)=some (.bl (decide (j<=i))):=rfl
@[simp] theorem zh(i:Int):eJ (.int i)=some (.int (-i)):=rfl
@[simp] theorem zi(i j:Int):oEq (.int i) (.int j)=some (.bl (decide (i=j))):=by simp[oEq,fl,nF]
@[simp] theorem FV(i j:Int):og (.int i) (.int j)=some (.bl (!decide (i=j))):=by simp[og,fl,nF]
@[simp] theorem zAJ (d : D) : CT d .non = some (.bl (CS d)) := rfl
@[simp] theorem lM(b:Bool):Fp (.bl b)=some b:=rfl
@[simp] theorem zAE(l:List D):uj (.lst l)=some l:=rfl
@[simp] theorem zAG (l : List D) : CL (.tup l) = some l := rfl
@[simp] theorem vm(i:Int):LQ (.int i)=some i:=rfl
@[simp] theorem Uc(l:List D):aI [.lst l]=some (.int l.length):=rfl
@[simp] theorem zAC (l : List D) : aI [.tup l] = some (.int l.length) := rfl
@[simp] theorem zAu (l : List D) : kU [.lst l] = some (.lst l) := rfl
@[simp] theorem zAt (a b : D) : cC (.tup [a, b]) (.int 0) = some a := rfl
@[simp] theorem zAe (a b : D) : cC (.tup [a, b]) (.int 1) = some b := rfl
theorem mH{l:List α}{k:Nat}{d:α}(h:l[k]?=some d):jd l (k:Int)=some d:=by have a:=(b'.mp h).1;unfold jd gK;rwa[aq (by omega),aq (by omega)]
theorem FW{k:Nat}(h:l[k]?=some d):aJ (.lst l) (.int (k:Int))=some d:=mH h
theorem xX(h0:0<=i)(h:l[i.toNat]?=some d):aJ (.lst l) (.int i)=some d:=by
 have e:i=i.toNat:=by lia
 rw[e];exact FW h
theorem Ba(h0:0<=n)(h:n<=100000):lI [.int n]=some (u9 0 n.toNat):=by show cH _ _ _=_;rw[fY (by lia)]
theorem FX(h0:-100000<=a/\a<=100000)(h:-100000<=b/\b<=100000):lI [.int a,.int b]=some (u9 a (b-a).toNat):=by show cH _ _ _=_;rw[fY (by lia)]
theorem LU(n:Nat):u9 0 n=(List.range n).map fun(k:Nat)=>D.int (k:Int):=by unfold u9;simp
theorem C2(l:List D):qC l=(l.zipIdx).map fun p=>D.tup [.int (p.2:Int),p.1]:=by unfold qC;rw[List.mapIdx_eq_zipIdx_map]
@[simp] theorem zAH (a b : α) : ([a, b].length ≤ sizeLine) = True := by simp [sizeLine]
def sv:Option D->Sl |none=>.no |some d=>.v d
theorem kW(h:δ[i]?=some (sv o)):aV i d δ=some (δ.set i (.v d)):=by unfold aV;rw[h];cases o<;>rfl
theorem Ud(h:δ[i]?=some (sv o)):dq i d δ=some (δ.set i (.o d)):=by unfold dq;rw[h];cases o<;>rfl
@[simp] theorem zAc:sv none=.no:=rfl
@[simp] theorem zAo (d : D) : sv (some d) = .v d := rfl
def dk(L:List Int):D:=.dJ (L.map .inl) (L.map fun _=>.bl true)
theorem LV(L:List Int)(t:Int):gT (L.map .inl) (L.map fun _=>.bl true) (.inl t)=if t∈L then some (.bl true) else none:=by induction L with |nil=>rfl |cons a l d=>
 simp[gT];by_cases h:a=t;.simp_all
 .grind
theorem Ue(L:List Int)(t:Int):putL (L.map .inl) (L.map fun _=>.bl true) (.inl t) (.bl true)=L.map fun _=>.bl true:=by induction L with |nil=>rfl |cons a l c=>simp[putL,c]
theorem Ug(L:List Int)(t:Int):putD (L.map .inl) (L.map fun _=>.bl true) (.inl t) (.bl true)=dk (if t∈L then L else L++[t]):=by
 unfold putD;by_cases h:t∈L;.rw[aq (by simp_all),aq h,Ue];rfl
 .rw[ao (by simp_all),ao h];simp[dk]
theorem Uh(L:List Int)(t:Int):Fz (L.map .inl) (L.map fun _=>.bl true) (.inl t)=dk (L.filter fun a=>decide (a≠t)):=by
 unfold Fz dk;congr 1;.induction L with |nil=>rfl |cons a l c=>
  simp only[bH,List.filter_cons];by_cases h:a=t;.subst h;simpa using c
  .have f:¬(Sum.inl a:Key)=Sum.inl t:=fun e=>h (Sum.inl.inj e);simp only[h,f,ne_eq,not_false_eq_true,decide_true,if_true,bH,c]
 .induction L with |nil=>rfl |cons a l c=>
  simp only[bH,CN,List.filter_cons];by_cases h:a=t;.subst h;simpa using c
  .have f:¬(Sum.inl a:Key)=Sum.inl t:=fun e=>h (Sum.inl.inj e);rw[ao f,c];simp[h]
@[simp] theorem zzt(L:List Int)(t:Int):va (.int t) (dk L)=some (.bl (!decide (t∈L))):=by simp[va,qD,dk,LV];grind
theorem Ui(h:δ[i]?=some (.o (dk L)))(h1:mk δ=.ok (.int t))(h2:me δ=.ok (.bl true))(a:L.length<=100000): sW i mk me δ=.nx (δ.set i (.o (dk (if t∈L then L else L++[t])))):=by unfold sW;rw[h];simp only[dk,h2,h1,R.dn,qD];rw[fY (by rw[aW];exact LR a),Ug];rfl
theorem zz0(h:δ[i]?=some (.o (dk L)))(h1:mk δ=.ok (.int t))(b:t∈L): LB i mk δ=.nx (δ.set i (.o (dk (L.filter fun a=>decide (a≠t))))):=by unfold LB;rw[h];simp only[dk,h1,R.dn,qD,LV,aq b];rw[Uh];rfl
def iL(l:List Int):D:=.lst (l.map .int)
theorem FY{α:Type}(enc:α->D)(p:α->Bool)(l:List α)(h:∀x∈l,f (enc x)=.ok (if p x=true then some (enc x) else none)):oh f (l.map enc)=.ok ((l.filter p).map enc):=by rw[FU _ _ l h];induction l with |nil=>rfl |cons a l e=>
 by_cases d:p a=true;.simp_all
 simp_all
theorem mO{α:Type}(enc:α->D)(g:α->D)(l:List α)(h:∀x∈l,f (enc x)=.ok (some (g x))):oh f (l.map enc)=.ok (l.map g):=by rw[FU _ _ l h,List.filterMap_eq_map']
theorem jP(h1:mi δ=.ok l)(d:l.length<=100000) (h2:oh (iN b a me (c9 δ c n)) l=.ok r):ij mi c n b a me δ=.ok (.lst r):=by unfold ij;rw[h1,R.ak,fY (small d),h2];rfl
theorem lN(h:mi δ=.ok l):dE mi b m δ=jF b m l δ:=by unfold dE;simp_all
theorem gw(h:m (pH nv ds)=.rt d)(a:ds.length=np:=by rfl):bM np nv m ds=.ok d:=by unfold bM;simp_all
theorem LW(h:m (pH nv ds)=.nx δ)(a:ds.length=np:=by rfl):bM np nv m ds=.ok .non:=by unfold bM;simp_all
theorem nU(h:m (pH nv ds)=.ro d)(a:ds.length=np:=by rfl):eQ np nv m ds=.ok d:=by unfold eQ;simp_all
theorem br(h:m δ=.nx a):aw m n δ=n a:=by unfold aw;rw[h]
theorem dP(h:me δ=.ok d)(h2:b d δ=some a):aB me b δ=.nx a:=by unfold aB;simp_all
theorem hZ(h:n δ=.ok true):bf n m m' δ=m δ:=by unfold bf;simp_all
theorem fG(h:n δ=.ok false):bf n m m' δ=m' δ:=by unfold bf;simp_all
theorem lO{g:Type}(enc:g->D)(P:List g->En->Prop)(a:List g) (step:∀pre x post δ,a=pre++x::post->P pre δ->∃c oi,b (enc x) δ=some c/\(m c=.nx oi\/m c=.ct oi)/\P (pre++[x]) oi)(δ:En)(h:P [] δ):∃oi,jF b m (a.map enc) δ=.nx oi/\P a oi:=by
 have f:∀(post pre:List _)(δ:En),a=pre++post->P pre δ->∃oi,jF b m (post.map enc) δ=.nx oi/\P a oi:=by intro post;induction post with |nil=>intro pre δ e h;exact⟨_,rfl,by simp_all⟩ |cons x post n=> intro pre δ e h;obtain⟨c,oi,p,d,l⟩:=step _ x _ _ e h;obtain⟨k,q,j⟩:=n _ _ (by rw[e];simp) l;refine⟨_,?_,j⟩;rw[bH];unfold jF;rw[p];rcases d with d|d<;>(simp[d];exact q)
 exact f _ _ _ rfl h
@[simp] theorem zAA(l:List Int):aI [iL l]=some (.int l.length):=by simp[iL]
@[simp] theorem zAB (l : List Int) : uj (iL l) = some (l.map .int) := rfl
theorem Uj{α:Type}{l:List α}{pre post:List (α×Nat)}{x:α×Nat}(h:l.zipIdx=pre++x::post):x.2=pre.length/\l[x.2]?=some x.1/\∀q∈pre,q.2<x.2:=by
 have b:∀(k:Nat)(y:α×Nat),(pre++x::post)[k]?=some y->l[k]?=some y.1/\y.2=k:=by intro k y c;rw[<-h,List.getElem?_zipIdx] at c;cases e:l[k]? with |none=>simp_all |some a=>grind
 obtain⟨i,d⟩:=b pre.length x (by simp);refine⟨d,by grind,fun q f=>?_⟩;obtain⟨k,c,e⟩:=lF f;obtain⟨_,g⟩:=b k q (by rw[gk c,bW c,e]);lia
theorem Uk{l:List D}(h:k<=l.length):cutD l none (some (k:Int))=l.take k:=by
 unfold cutD;have e:HT.dV l.length l.length (some k)=k:=by show(if k<0 then((k:Int)+l.length).toNat else min _ _)=k;grind
 rw[e];rfl
theorem Ul{l:List D}(h:k<=l.length):cutD l (some (k:Int)) none=l.drop k:=by
 unfold cutD;have e:HT.dV l.length 0 (some k)=k:=by show(if k<0 then((k:Int)+l.length).toNat else min _ _)=k;grind
 rw[e];show(l.drop k).take (l.length-k)=_;rw[lV (by simp)]
theorem Um(l:List Int)(lo hi:Option Int):∃cs:List Int,cutD (l.map .int) lo hi=cs.map .int/\cs.length<=l.length:=by refine⟨(l.drop (HT.dV l.length 0 lo)).take (HT.dV l.length l.length hi-HT.dV l.length 0 lo),?_,by rw[qo,sD];lia⟩;unfold cutD;simp
theorem Uo(h:l.length+r.length<=100000):fS (.lst l) (.lst r)=some (.lst (l++r)):=by show cH _ _ _=_;rw[fY (small h)]
theorem Up(a:gW 8 x=true)(b:gW 8 y=true)(h:x=y):gv x y=some (.bl true):=by unfold gv;simp_all
theorem Uq(a:gW 8 x=true)(b:gW 8 y=true)(h:x=y):iG x y=some (.bl false):=by unfold iG;simp_all
theorem LX(l:List Int):gW 8 (iL l)=true:=by show(l.map _).all _=true;rw[lC,iP];intro x _;rfl
end PM
namespace PM
open PySem L2 PyProof.Rows
section
variable{K:Kx}{ca:Nat->Addr}{an:Nat->Str}{XO:c5}{E:L2.St->XK}{ta tb te:TE}{ma mb me:En->R D}{X:Cx}
def LY:R2:=fun x y H Q=>∃l b c a,x=.ref l/\y=.ref b/\Rd H l (.lst c)/\Rd H b (.lst a)/\c.length+a.length<=sizeLine/\∀p,H p=none->Q (.ref p) (upd H p (.lst (c++a)))
theorem vo:iI X (binaryOp .Add) LY:=by
 rintro f s t H x y v u Q I o g ⟨l,b,p,G,rfl,rfl,m,h,A,q⟩;cases o;cases g;obtain⟨z,c,n,r,e⟩:=m.ok I.bI;obtain⟨B,a,C,d,k⟩:=h.ok I.bI;have w:=r.length;have j:=d.length;refine PySem.P.add_list e k ?_ (by rw[d9,d9];lia);have i:c.toArray++a.toArray=(c++a).toArray:=by simp
 rw[i];exact⟨.ref _,_,I.ER (r.append d) (by rw[h7];lia),rfl,q _ I.fresh⟩
theorem vp:Lo K LY fS:=by intro F H x y i j d Q s m k e q;cases i with
 |lst l=> cases j with
  |lst r=>
   simp[fS] at e;unfold cH at e;split at e;.cases e;obtain⟨a,u,rfl,n,h⟩:=m;obtain⟨b,t,rfl,o,g⟩:=k;exact⟨a,b,_,_,rfl,rfl,n,o,by rwa[h.length,g.length],fun p c=>q p F _ (.fD s c) (s.free c) c ⟨_,cw,h.append g⟩⟩
   simp_all |_=>cases e
 |_=>cases e
theorem sY:∀{ns:List Int}{xs:List V},aF K F (ns.map .int) xs->xs=ns.map V.int |[],xs,h=>by simpa[aF] using h |n::ns,xs,h=>by obtain⟨v,r,rfl,rfl,b⟩:=h;rw[sY b];rfl
def Bb:List V->Hp->VK->Prop:=fun b H Q=>∃(p:Addr) (a:List Int),b=[.ref p]/\Rd H p (.lst (a.map V.int))/\Q (.int a.sum) H
theorem Ur(h:gi ds=some d):∃ns:List Int,ds=[.lst (ns.map .int)]/\d=.int ns.sum:=by
 unfold gi at h;split at h;.rename_i l;cases z:dG l with |none=>simp_all |some ns=>rw[z] at h;cases h;exact⟨_,by rw[uo z],rfl⟩
 simp_all
theorem xY:SC K Bb gi:=by intro F H l i d Q s r e q;obtain⟨k,rfl,rfl⟩:=Ur e;cases r with |cons r g=> cases g;obtain⟨a,j,rfl,f,h⟩:=r;have c:=sY h;subst c;exact⟨a,_,rfl,f,q _ F H (.refl s) rfl⟩
theorem xZ(o:X.calm=true):mV X (.builtin "sum") Bb:=by
 rintro g s J H L M Q I r ⟨p,b,rfl,m,q⟩;obtain⟨u,rfl,G⟩:=mD r;cases G;obtain⟨z,d,n,j,e⟩:=m.ok I.bI;obtain⟨c,rfl,w⟩:∃c:List _,d=(b.zip c).map (fun p=>Value.int p.1 p.2)/\c.length=b.length:=by clear e m q z;induction b generalizing d with |nil=>cases j;simp |cons a l v=> cases j with |cons h t=> obtain⟨i,rfl⟩:=h;obtain⟨c,rfl,B⟩:=v _ t;exact⟨i::c,rfl,by simp[B]⟩
 have y:((b.zip c).map (fun p=>Value.int p.1 p.2)).toArray=intItems (b.zip c).toArray:=by simp[intItems]
 rw[y] at e;refine sum_intListG (I.ok.hd o) ⟨_,e,rfl,n,rfl⟩ fun S i N C=>?_;have x:preSum (numAt (b.zip c).toArray) (b.zip c).toArray.size=b.sum:=by rw[preSum_eq,lV (by simp)];have:(b.zip c).map _=b:=sG (by lia);rw[this]
 rw[x];exact⟨.int _,H,I.kept C,⟨_,rfl⟩,q⟩
def LZ:D->String |.non=>"NoneType" |.bl _=>"bool" |.int _=>"int" |.str _=>"str" |.tup _=>"tuple" |.lst _=>"list" |.dJ _ _=>"dict" |.ig _=>"list" |.exc _=>"object" |.fd _ _=>"object" |.obj _ _ _=>"object"
theorem Us{K:W.Frag}:PySem.W.kitOne K (.type "NoneType") (.type "str")=some false:=L2.js rfl rfl rfl
theorem Ut{K:W.Frag}:PySem.W.kitOne K (.type "bool") (.type "str")=some false:=L2.js rfl rfl rfl
theorem Uu{K:W.Frag}:PySem.W.kitOne K (.type "int") (.type "str")=some false:=L2.js rfl rfl rfl
theorem Uv{K:W.Frag}:PySem.W.kitOne K (.type "tuple") (.type "str")=some false:=L2.js rfl (by decide+kernel) (by decide+kernel)
theorem Uw{K:W.Frag}:PySem.W.kitOne K (.type "list") (.type "str")=some false:=L2.js rfl rfl rfl
theorem Ux{K:W.Frag}:PySem.W.kitOne K (.type "dict") (.type "str")=some false:=L2.js rfl rfl rfl
theorem Uy{K:W.Frag}(d:D)(h:FT d=true):PySem.W.kitOne K (.type (LZ d)) (.type "str")=some (vh "str" d):=by cases d with |non=>exact Us |bl b=>exact Ut |int b=>exact Uu |str b=>rfl |tup b=>exact Uv |lst b=>exact Uw |dJ b a=>exact Ux |ig b=>cases h |exc b=>cases h |fd b a=>cases h |obj b a g=>cases h
theorem Uz(M:∀d,FT d=true->PySem.W.kitOne K.f (.type (LZ d)) (.type c)=some (vh c d))(U:lK K XO E ta ma):SE K XO E (rR (K' K.f) (fR ta (fR (tC (.ty c)) cV))) (m1 (xU c) ma):=by
 intro Λ F0 Z F H u δ Q I a;refine U _ _ _ F H _ _ _ I (a.bind.imp fun d G C n g x f=>?_);by_cases e:FT d=true;case neg=> cases d with |ig _=>exact g.elim |exc _=>exact g.elim |fd _ _=>exact g.elim |obj _ _ _=>exact g.elim |_=>exact absurd rfl e
 have t:eP E XO u G C (fun d L w=>∀v,Rep K L d v->Q v w) (.ok (.bl (vh c d))):=by cases d with |ig l=>cases e |exc l=>cases e |fd _ _=>cases e |obj _ _ _=>cases e |_=>exact g
 suffices h:iY _ _ x _ from⟨x,_,_,_,_,rfl,rfl,h,M d e,(t _ _ (.refl n.fh) _ rfl)⟩
 cases d with |non=>subst f;exact .non |bl b=>subst f;exact .bl _ |int b=>subst f;exact .int _ |str b=>subst f;exact .str _ |tup l=> obtain⟨p,S,rfl,m,r⟩:=f;exact .tup (n.fh _ _ m) |lst l=>
  obtain⟨p,S,rfl,m,r⟩:=f;rcases m with h|⟨o,h⟩;.exact .lst h
  .exact .jI h |dJ ks l=>obtain⟨p,y,rfl,m,r⟩:=f;exact .dK m |ig l=>cases e |exc l=>cases e |fd _ _=>cases e |obj _ _ _=>cases e
def toPy:Nat->D->PyData |_,.non=>.none |_,.int i=>.int i |n+1,.tup l=>.tuple (l.map (toPy n)) |n+1,.lst l=>.list (l.map (toPy n)) |_,_=>.none
theorem zj:∀(n:Nat)(d:D),gW n d=true->(toPy n d).canLay0=true/\(toPy n d).depth<=n:=by intro n;induction n with
 |zero=> intro d h;cases d with |non=>exact⟨rfl,aG _⟩ |int i=>exact⟨rfl,aG _⟩ |_=>cases h
 |succ n t=>
  have b:∀l:List D,l.all (gW n)=true->PyData.canLayAll0 (l.map (toPy n))=true/\PyData.depthAll (l.map (toPy n))<=n:=by intro l;induction l with |nil=>intro _;exact⟨rfl,bU _⟩ |cons a l f=>
   intro h;rw[kb,ka] at h;obtain⟨c,o⟩:=t a h.1;obtain⟨s,u⟩:=f h.2;refine⟨?_,?_⟩;.simp[PyData.canLayAll0,c,s]
   .simp[PyData.depthAll];lia
  intro d h;cases d with |non=>exact⟨rfl,bU _⟩ |int i=>exact⟨rfl,bU _⟩ |tup l=>obtain⟨c,o⟩:=b l h;exact⟨by simpa[toPy,PyData.canLay0] using c,by simp[toPy,PyData.depth];omega⟩ |lst l=>obtain⟨c,o⟩:=b l h;exact⟨by simpa[toPy,PyData.canLay0] using c,by simp[toPy,PyData.depth];omega⟩ |_=>cases h
open Classical in
theorem C3:∀(n:Nat)(d d':D),gW n d=true->gW n d'=true->PyData.eqv (toPy n d) (toPy n d')=decide (d=d'):=by intro n;induction n with
 |zero=> intro d d' h c;cases d with
  |non=>cases d'<;>first|(simp[toPy,PyData.eqv];done)|cases c
  |int i=> cases d' with |int j=>simp[toPy,PyData.eqv];grind |_=>first|(simp[toPy,PyData.eqv])|cases c
  |_=>cases h
 |succ n u=>
  have k:∀l e:List D,l.all (gW n)=true->e.all (gW n)=true->PyData.eqvAll (l.map (toPy n)) (e.map (toPy n))=decide (l=e):=by intro l;induction l with |nil=>intro e _ _;cases e<;>simp[PyData.eqvAll] |cons a l r=> intro e h c;cases e with |nil=>rfl |cons b e=> rw[kb,ka] at h c;simp only[bH,PyData.eqvAll,u a b h.1 c.1,r _ h.2 c.2];by_cases w:a=b<;>by_cases v:l=e<;>simp
  intro d d' h c;cases d with
  |non=>cases d'<;>first|(simp[toPy,PyData.eqv];done)|cases c
  |int i=> cases d' with |int j=>simp[toPy,PyData.eqv];grind |_=>first|(simp[toPy,PyData.eqv])|cases c
  |tup l=> cases d' with |tup e=>simp only[toPy,PyData.eqv,k l _ h c];simp |_=>first|(simp[toPy,PyData.eqv])|cases c
  |lst l=> cases d' with |lst e=>simp only[toPy,PyData.eqv,k l _ h c];simp |_=>first|(simp[toPy,PyData.eqv])|cases c
  |_=>cases h
theorem L0(I:Inv X pins σ H s)(M:aC F H):∀(n:Nat)(d:D)(v:V)(u:Value),gW n d=true->Rep ⟨X.K,ca,an⟩ F d v->RelV v u->∃f,Reads s.heap u (toPy n d) f:=by intro n;induction n with
 |zero=> intro d v u h r b;cases d with |non=>subst r;cases b;exact⟨_,.none⟩ |int i=>subst r;obtain⟨t,rfl⟩:=b;exact⟨_,.int i t⟩ |_=>cases h
 |succ n U=>
  have p:∀(l:List D)(g:List V)(w:List _),l.all (gW n)=true->aF ⟨X.K,ca,an⟩ F l g->Vals g w->∃f,ReadsAll s.heap w (l.map (toPy n)) f:=by intro l;induction l with |nil=>intro g w _ r b;subst r;cases b;exact⟨_,.nil⟩ |cons a l A=> intro g w h r b;rw[kb,ka] at h;obtain⟨v,r',rfl,T,Q⟩:=r;cases b with |cons b x=> obtain⟨f,m⟩:=U a v _ h.1 T b;obtain⟨bs,q⟩:=A _ _ h.2 Q x;exact⟨_,.cons m q⟩
  intro d v u h r b;cases d with |non=>subst r;cases b;exact⟨_,.none⟩ |int i=>subst r;obtain⟨t,rfl⟩:=b;exact⟨_,.int i t⟩ |tup l=> obtain⟨a,g,rfl,m,q⟩:=r;cases b;obtain⟨G,C,⟨o,e,c,k,B⟩,_⟩:=I.tuple (.inl (.inl (M _ _ m)));obtain⟨f,Z⟩:=p l _ _ h q C;exact⟨_,.tuple e c B (by omega)⟩ |lst l=> obtain⟨a,g,rfl,m,q⟩:=r;cases b;obtain⟨G,C,⟨o,k,e,c,_,B⟩,_⟩:=I.list (.inl (PM.aC.sU M m));obtain⟨f,Z⟩:=p l _ _ h q C;exact⟨_,.list e c B (by omega)⟩ |_=>cases h
theorem UA(I:Inv X pins σ H s)(m:aC F H)(n:Nat):∀(l:List D)(vs:List V)(us:List Value),l.all (gW n)=true->aF ⟨X.K,ca,an⟩ F l vs->Vals vs us->∃f,ReadsAll s.heap us (l.map (toPy n)) f:=by intro l;induction l with |nil=>intro vs us _ r c;subst r;cases c;exact⟨_,.nil⟩ |cons a l e=> intro vs us h r c;rw[kb,ka] at h;obtain⟨v,p,rfl,g,j⟩:=r;cases c with |cons c d=> obtain⟨f,i⟩:=L0 I m n a v _ h.1 g c;obtain⟨q,k⟩:=e _ _ h.2 j d;exact⟨_,.cons i k⟩
theorem zk(I:Inv X pins σ H s)(i:aC F H)(h:gW n d=true)(r:Top ⟨X.K,ca,an⟩ F H d v)(b:RelV v u):∃g,Reads s.heap u (toPy n d) g:=by cases d with
 |lst l=> cases n with |zero=>cases h |succ n=> obtain⟨a,C,rfl,z,m⟩:=r;cases b;obtain⟨p,w,⟨o,k,e,c,_,A⟩,_⟩:=I.list (.inl z);obtain⟨g,B⟩:=UA I i n l _ _ h m w;exact⟨_,.list e c A (by simpa using B)⟩
 |dJ y l=>cases n<;>cases h |obj c y l=>cases n<;>cases h |_=>exact L0 (ca:=ca) (an:=an) I i n _ v u h r b
open Classical in
def vq(K:Kx)(c:Bool):R2:=fun x y H Q=>∃(F:Hp) (b a:D),aC F H/\Top K F H b x/\Top K F H a y/\gW 8 b=true/\gW 8 a=true/\Q (.bl (if c=true then !decide (b=a) else decide (b=a))) H
theorem FZ(o:X.A.units+64<cLine):iI X (compareOp .Eq) (vq ⟨X.K,ca,an⟩ false):=by rintro d s r H x y v u Q I g e ⟨F,l,p,c,i,f,b,a,q⟩;obtain⟨n,h⟩:=zk I c b i g;obtain⟨m,j⟩:=zk I c a f e;obtain⟨k,t⟩:=zj 8 _ b;obtain⟨m1,m2⟩:=zj 8 _ a;refine SeqAt.compareEq_reads h j k m1 (by lia) ?_;rw[C3 8 _ _ b a];exact⟨.bl _,H,I,rfl,q⟩
theorem C4(o:X.A.units+64<cLine):iI X (compareOp .NotEq) (vq ⟨X.K,ca,an⟩ true):=by rintro d s r H x y v u Q I g e ⟨F,l,p,c,i,f,b,a,q⟩;obtain⟨n,h⟩:=zk I c b i g;obtain⟨m,j⟩:=zk I c a f e;obtain⟨k,t⟩:=zj 8 _ b;obtain⟨m1,m2⟩:=zj 8 _ a;refine SeqAt.compareNe_reads h j k m1 (by omega) ?_;rw[C3 8 _ _ b a];exact⟨.bl _,H,I,rfl,q⟩
theorem F6:SR K (vq K false) gv:=by
 intro F H x y f c d Q s a b e q;unfold gv cH at e;split at e;.rename_i h;cases e;exact⟨F,_,_,s,a,b,h.1,h.2,q _ F H (.refl s) rfl⟩
 .cases e
theorem C5:SR K (vq K true) iG:=by
 intro F H x y f c d Q s a b e q;unfold iG cH at e;split at e;.rename_i h;cases e;exact⟨F,_,_,s,a,b,h.1,h.2,q _ F H (.refl s) rfl⟩
 simp_all
end
end PM
namespace L2
open PySem PySem.Spec PyProof.Rows
def F7(K:PySem.W.Frag)(a:Addr)(n:Nat):It:= ⟨fun i H=>i<n/\∃b,fX K H a b/\b.length=n,fun i H x c=>c=H/\∀b,fX K H a b->b[n-1-i]?=some x,fun i _=>n<=i⟩
theorem UB{P:Program}{K:PySem.W.Frag}(a g:Addr)(n:Nat):Turn P w K tg (F7 K a n) [g] g (fun i h=>i<=n/\h.IsRevIter g a ((n:Int)-1-i)) where
 mem:=by simp
 obj:=fun i h st b j=>by
  have e:b=g:=by simp_all
  subst e;obtain⟨_,o,e,c,d⟩:=st;exact⟨o,e,fun v z=>by rw[d] at z;cases z⟩
 keep:=fun i h m st k=>⟨st.1,st.2.at fun o e=>k g (by simp) o e⟩;item:=by
  intro X Q L O N i l s Z H E I q st D;subst Q L O;obtain⟨hi,M,R,hn⟩:=D;obtain⟨its,U,p,hz⟩:=I.list R;have T:M[n-1-i]?=some (M[n-1-i]'(by omega)):=bW _;obtain⟨u,hu,ru⟩:=U.get T;obtain⟨B,G,f2,t,C,r⟩:=q g (by simp);have J:(n:Int)-1-i=(n-1-i:Nat):=by lia
  have f:=st.2;rw[J] at f;refine wpAny_pyNext_rev_item f p.isList (x:=u) (by simpa using hu) fun m A Y=>?_;have S:Inv X _ _ H {s with heap:=m}:=I.turned (fun b o j e=>(Y.2 b j).trans e) B G t C r;have y:m.IsRevIter g a (n-1-(i+1)):=by
   have e1:n-1-((i+1):Int)=n-1-i-1:=by lia
   simp_all
  obtain⟨o,e,c,d⟩:=id A;exact⟨u,rfl,Et e c d rfl ⟨_,H,S,ru,⟨rfl,fun ys hy=>by rwa[I.iX hy R]⟩,⟨hi,y⟩,fun b j=>(q b j).1⟩⟩
 done:=by
  intro X Q L O N i l s Z H E I q st D;obtain⟨B,G,f2,t,C,r⟩:=q g (by simp);have f:=st.2;have J:(n:Int)-1-i=-1:=by have:n<=i:=D;lia
  rw[J] at f;exact wpAny_pyNext_rev_end (I.ok.hd N) f fun m eb=>⟨rfl,I.turned (fun b o j e=>eb b o j e) B G t C r⟩
 self:=fun _ _ _ _ _ st h=>o5 st.2 h
def L1(scope a:Scope):Scope:={scope with names:=scope.names.map fun(n,k)=>if(k==.free&&a.kind==.function&&a.names.lookup n==some .cell) then(n,.cell) else(n,k)}
section
variable{X:Cx}
def x4(K:PySem.W.Frag)(f:TA):TI:=fun e H R=>f e H fun d c=>∃a b,d=[.ref a]/\fX K c a b/\R (F7 K a b.length) c
theorem L3(z:Gl X "reversed")(v:X.mg "reversed"=none)(r:PA X [l] n)(k:starEach [l] X.env=[(false,eval l X.env)]:=by rfl): PI X D (.Call (.Name "reversed" p) [l] [] pos) (x4 X.K n):=by
 intro f s G H R I h;refine Call_ (pe I z v boot_reversed (eW (bS (r _ _ s _ H _ I h) fun A g ⟨_,_,c,x,j⟩=>?_) k rfl));obtain⟨a,i,e,w,q⟩:=j;subst e;obtain⟨u,rfl,t⟩:=mD x;cases t;obtain⟨d,m,y,C⟩:=c.list w;have E:=m.length;refine call_reversed_list y.isList ?_;have st:(g.heap.push (revObj a _)).IsRevIter _ a (i.length-1-(0:Nat)):=⟨_,cg _ rfl,rfl,by
  have e:((i.length:Int)-1-(0:Nat))=d.toArray.size-1:=by simp_all
  rw[e];rfl⟩;refine o5 st (⟨_,_,_,_,_,rfl,c.kept fun b o e=>aO _ e,UB a _ _,⟨bU _,st⟩,fun b B=>?_,q⟩);have e:b=g.heap.objs.size:=by simp_all
 subst e;exact c.k8 (aG _) (c.bI.fresh (aG _))
end
end L2
namespace PM
open PySem L2
section
variable{K:Kx}{XO:c5}{E:L2.St->XK}
theorem L4(r:aF K m ds vs)(h:∀c b,P c b->aC m c/\aC c b/\fX K.f b a vs):mJ K (F7 K.f a vs.length) P ds.reverse:=by
  intro c b p i;obtain⟨g,k,q⟩:=h _ _ p;have l:=r.length;refine⟨fun d e=>?_,fun o=>?_⟩
  . have j:i<ds.length:=by have:=(b'.mp e).1;simp_all
    rw[List.getElem?_reverse j] at e;obtain⟨v,s,n⟩:=r.get e;refine⟨⟨by lia,_,q,rfl⟩,fun x t y=>?_⟩;obtain⟨rfl,y⟩:=y;have z:=y _ q;rw[l,s] at z;cases z;exact⟨_,.refl k,Rep.mono g _ n⟩
  .have:=jD.mp o;rw[ke] at this;show vs.length<=i;lia
theorem L5(h:rj l=some r):∃x,l=[.lst x]/\r=x.reverse:=by
 unfold rj at h;split at h;.simp_all
 simp_all
theorem UC(h:SA K XO E e ml):SI K XO E (x4 K.f e) (rk ml):=by intro k u p F H s m R I a;refine h _ _ _ F H _ _ _ I (a.bind.imp fun j o n c b g r=>?_);cases q:rj _ with |none=>rw[q] at b;exact b.elim |some z=> obtain⟨l,rfl,rfl⟩:=L5 q;obtain⟨v,rfl,f⟩:=aF.one r;obtain⟨a,g,rfl,d,i⟩:=f;exact⟨a,_,rfl,.inl (PM.aC.sU c.fh d),b _ _ (.refl c.fh) _ (L4 i fun w t x=>⟨x.1,x.2,.inl (PM.aC.rd x.2 (PM.aC.sU x.1 d))⟩)⟩
theorem UD(h:ug K XO E e ml):xO K XO E (x4 K.f e) (rk ml):=by intro k p v F H s m R I a;refine h _ _ _ F H _ _ _ I (a.bind.imp fun u o n g b i r=>?_);cases q:rj _ with |none=>rw[q] at b;exact b.elim |some z=> obtain⟨l,rfl,rfl⟩:=L5 q;cases r with |cons r f=> cases f;obtain⟨a,i,rfl,c,j⟩:=r;exact⟨a,_,rfl,.inl c,b _ _ (.refl g.fh) _ (L4 j fun w t x=>⟨x.ff,x.fh,.inl (PM.aC.rd x.hh c)⟩)⟩
end
def jH(K:Kx):c5:=fun x F _ C a=>C=.ref (K.ca x.c)/\XA K F x.c a
def x5(c:Nat)(ml:En->R (List D))(δ:En):O:=(ml δ).fu δ fun l=>cH (l.length<=sizeLine) (.ex δ ⟨c⟩) .no
section
variable{K:Kx}{E:L2.St->XK}{ta:TE}{ma:En->R D}{t u:TS}{m n:En->O}{Λ:List (Nat×Addr×HO)}{F0 H0 F H:Hp}{σ:L2.St}{δ:En}
theorem Bc(b:C=K.ca c)(d:c<16)(h:SA K (jH K) E f ml):SS K (jH K) E (Lk C E f) (x5 c ml):=by
 intro Λ F0 H0 F H σ δ j I a;refine h _ _ _ F H _ _ _ I ((cI.of I a).imp fun l g k e p i r=>?_);unfold cH at p;split at p;.exact⟨by rwa[r.length],p _ _ _ _ _ (I.grow e) ⟨by rw[b],by unfold XA;simp_all⟩⟩
 .exact p.elim
end
end PM
namespace L2
open PySem PySem.Spec PyProof.Rows
section
variable{P:Program}{w:World}{B:Around}{Z:Result->Shared->Prop}{J S:Addr}{fp wr:List Addr}{n:Nat}{Pv:Nat->Value->Prop}{Sn:Nat->Heap->Prop}
theorem UE:(toString "max"++toString ".loop":String)="max.loop":=rfl
theorem UG (W : Walks P w B.in1 J fp wr n Pv Sn) (bt : Nat → Nat → Bool) (cmp : CmpOf P w B.in1 .Gt Pv bt) (nS : S ∉ fp) (df : Value) : ∀ (r i : Nat) (s : Shared) (best : Value) (c : Nat), i + 1 + r = n → Sn (i + 1) s.heap → Pv (argBest bt i) best →
    s.heap.get? S = some { cls := .type "list", dict := none, data := .seq #[best, best] c, slots := #[] } →
    (∀ v h' tk, Pv (argBest bt (n - 1)) v → (∀ b o, b ∉ wr → b ≠ S → s.heap.get? b = some o → h'.get? b = some o) → Z (.ok (.ret v)) { s with heap := h', toks := tk }) →
    codeAny (model P w) B (.builtin "max.loop" ⟨[.ref J, .none, .ref S], [("default", df)]⟩) Z s := by
  have nw : S ∉ wr := fun z => nS (W.sub _ z)
  intro r
  induction r with
  | zero =>
    intro i s best c hr st pb atS fin
    have ei : i + 1 = n := hr
    refine jg F.entry_max_loop ((si lz (A := B) _).symm ▸ ?_)
    refine ah (eG atS rfl (ah (kv (W.done s _ _ (ei ▸ st) fun h1 tk kp => (ah (mu (kp S _ nw atS) rfl (ah (gD (ax (fin best _ tk ?_ fun b o g1 g2 e => ?_))))))))))
    · rwa [← ei]
    · exact (fO _ _ (aR g2)).trans (kp b o g1 e)
  | succ r ih =>
    intro i s best c hr st pb atS fin
    have lt : i + 1 < n := by lia
    refine jg F.entry_max_loop ((si lz (A := B) _).symm ▸ (ah (eG atS rfl (ah (kv (W.item (i + 1) s _ _ lt st fun v h1 tk pv AZ kp => ?_))))))
    have x6 := kp S _ nw atS
    refine ah (ax (ah (kv (dB (ah (cmp (i + 1) (argBest bt i) v best _ _ _ pv pb (ah (dB (jj (ah (gD (ax ?_))))))))))))
    cases hb : bt (i + 1) (argBest bt i) with
    | true =>
      refine ah (mu x6 rfl (ah (gD ?_)))
      refine ax ⟨ko lz _, ih (i + 1) _ v _ (by lia) (W.frame _ _ _ AZ fun b g o e => (fO _ _ (fun z : S = b => nS (z ▸ g))).trans e) ?_ (jC _ x6 rfl) fun v2 h2 F8 p2 k2 => ?_⟩
      · simp [argBest, hb]; exact pv
      · exact fin v2 h2 F8 p2 fun b o g1 g2 e => k2 b o g1 g2 ((fO _ _ (aR g2)).trans (kp b o g1 e))
    | false =>
      refine ah (gD ?_)
      refine ax ⟨ko lz _, ih (i + 1) _ best c (by lia) AZ ?_ x6 fun v2 h2 F8 p2 k2 => ?_⟩
      · simp [argBest, hb, uH]; exact pb
      · exact fin v2 h2 F8 p2 fun b o g1 g2 e => k2 b o g1 g2 (kp b o g1 e)
theorem UH(W:Walks P w B.in1 J fp wr n Pv Sn)(t:Nat->Nat->Bool)(j:CmpOf P w B.in1 .Gt Pv t)(h:S∉fp)(r:Value)(st:Sn 0 s.heap)(atS:s.heap.get? S=some {cls:=.type "list",dict:=none,data:=.seq #[] c,slots:=#[]}) (f0:n=0->∀h' tk,(∀b o,b∉wr->b≠S->s.heap.get? b=some o->h'.get? b=some o)->Z (.ok (.ret r)) {s with heap:=h',toks:=tk}) (i:0<n->∀v h' tk,Pv (argBest t (n-1)) v->(∀b o,b∉wr->b≠S->s.heap.get? b=some o->h'.get? b=some o)->Z (.ok (.ret v)) {s with heap:=h',toks:=tk}): codeAny (model P w) B (.builtin "max.loop" ⟨[.ref J,.none,.ref S],[("default",r)]⟩) Z s:=by
  have C:S∉wr:=fun z=>h (W.sub _ z);refine jg F.entry_max_loop ((si lz (A:=B) _).symm▸(ah (eG atS rfl ?_)));by_cases m:n=0;.exact ah (kv (W.done s _ _ (m▸st) fun q tk d=>(ah (iA (ax (f0 m q tk fun b o f _ e=>d b o f e))))))
  . have l:0<n:=by lia
    refine ah (kv (W.item 0 s _ _ l st fun v q tk pv k d=>?_));have a:=d S _ C atS;refine ah (ax (ah (mu a rfl ?_)));rw[UE];refine ax ⟨rfl,UG W _ j h _ (n-1) 0 _ v _ (by omega) (W.frame _ _ _ k fun b g o e=>(fO _ _ (fun z:S=b=>h (z▸g))).trans e) pv (jC _ a rfl) fun E D x y u=>?_⟩;exact i l _ _ _ y fun b o f p e=>u b o f p ((fO _ _ (aR p)).trans (d b o f e))
end
section
variable{P:Program}{w:World}{B:Around}{E:Value->Shared->Prop}{s:Shared}{Q:Value->Shared->Prop}{l:Addr}{xs:Array (Int×Tok)}{df:Value}
theorem UI(a b:Value):argsOk "max" ⟨[a],[("default",b)]⟩:=by kernel_rfl
theorem UJ(y:B.handled=none)(C:s.heap.IsList l (intItems xs))(f0:xs.size=0->∀h' tk,(∀b o,s.heap.get? b=some o->h'.get? b=some o)->Q df {s with heap:=h',toks:=tk}) (m:0<xs.size->∀v h' tk,(intItems xs)[argBest (fun i j=>decide (numAt xs i>numAt xs j)) (xs.size-1)]?=some v->(∀b o,s.heap.get? b=some o->h'.get? b=some o)->Q v {s with heap:=h',toks:=tk}): wpAny (model P w) B (call (.builtin "max") [.ref l] [("default",df)]) Q E s:=by
  have a:wpAny (model P w) B.in1 (Builtin.«max» ⟨[.ref l],[("default",df)]⟩) (fun r d=>match r with |.done f=>(match(Except.ok f:Result) with|.ok (.ret v)=>Q v d|.ok _=>False|.error e=>E e d) |.again p=>p.quiet=true/\codeAny (model P w) B p (fun r d=>match r with|.ok (.ret v)=>Q v d|.ok _=>False|.error e=>E e d) d) E s:=by
    refine ah (wpAny_of_eq (show Builtin.Builtins.bindParams "max" ["key","default"] 0 ⟨[],[("default",df)]⟩=pure [none,some df] from rfl) (ah (ax (ah (iter_intList C fun I e st c G=>?_)))));subst e;refine ah (kr ?_);have n:∀b∈[s.heap.objs.size,l],b≠(s.heap.push {cls:=.type "list_iterator",data:=.fields #[.ref l,.int 0 0]}).objs.size:=fun b D z=>absurd (c b D) (by simp_all);have W:=Walks.list (prog:=P) (w:=w) (A:=B.in1) y s.heap.objs.size l G (intItems xs);refine ax ⟨ko lz _,UH W _ (CmpOf.ints_gt (numAt xs) (fun _ _=>intItems_at)) (fun z=>n _ z rfl) df (W.frame _ _ _ st fun b _ o e=>aO _ e) (cg _ rfl) (fun x h' tk kp=>?_) fun u v h' tk pv kp=>?_⟩
    . refine f0 (by simpa[intItems] using x) h' tk fun b o e=>?_;have g:=aO {cls:=.type "list_iterator",data:=.fields #[.ref l,.int 0 0]} e
      exact kp b o (fun z => by have:b=s.heap.objs.size:=by simp_all
                                exact de _ (this▸aM e)) (a_ (aM g)) (aO _ g)
    . refine m (by simpa[intItems] using u) v h' tk (by simpa[intItems] using pv) fun b o e=>?_;have g:=aO {cls:=.type "list_iterator",data:=.fields #[.ref l,.int 0 0]} e
      exact kp b o (fun z => by have:b=s.heap.objs.size:=by simp_all
                                exact de _ (this▸aM e)) (a_ (aM g)) (aO _ g)
  refine gC (oW F.plain_max F.entry_max ?_);simp only[checkBuiltinCall];cases H:Manifest.signature? _ with |none=>exact ax a |some q=> have t:=UI (.ref l) df;simp[argsOk,H] at t;show wpAny _ _ (Bind.checkArgs _ q _) _ _ s;rw[t];exact ax a
end
def L6(f:TA)(g:TE):TE:=fun c H Q=>f c H fun h i=>(fR g cV) c i fun e d=>∃(y:V) (a:Addr) (b:List Int),e=[y]/\h=[.ref a]/\Rd d a (.lst (b.map V.int))/\Q (match b with|[]=>y|n::l=>.int (PM.dO l n)) d
theorem jY:∀(l:List Int)(m:Int),m<=PM.dO l m/\(∀a∈l,a<=PM.dO l m)/\(PM.dO l m=m\/PM.dO l m∈l)
  |[],m=>⟨lB _,fun _ h=>(by cases h),.inl rfl⟩ |a::l,m=>by
    obtain⟨i,g,d⟩:=jY l (if a>m then a else m);unfold PM.dO;have e:(if a>m then a else m)=a/\a>m\/(if a>m then a else m)=m/\¬a>m:=by lia
    refine⟨by lia,fun b f=>?_,?_⟩
    . rcases aY.mp f with rfl|f;.lia
      simp_all
    . rcases d with d|d
      . rcases e with⟨e,_⟩|⟨e,_⟩;.exact .inr (by grind)
        grind
      .exact .inr (bJ _ d)
section
variable{X:Cx}
theorem L7(Y:X.calm=true)(U:Gl X "max")(o:X.mg "max"=none)(A:PA X [e] ta)(hd:PE X d td) (he:backTo pos (starEach [e] X.env)=(false,eval e X.env)::backTo pos (starEach [] X.env):=by rfl)(D:(backTo pos (starEach [e] X.env)).any (·.1)=false:=by rfl):PE X (.Call (.Name "max" p) [e] [⟨some "default",d,kp⟩] pos) (L6 ta td):=by
 intro k s S H Q I h;refine iv (pe I U o boot_max ?_);refine callWith_kw (bS (A pos k s S H _ I h) fun us s1 ⟨vs,H1,I1,r1,q1⟩=>(bS (SQ hd SN pos k s1 S H1 _ I1 q1) fun ws s2 ⟨zs,N,x,rz,y,a,c,e1,e2,R,q⟩=>?_)) he D;subst e1 e2;obtain⟨u,rfl,rx⟩:=mD r1;cases rx;obtain⟨df,rfl,ry⟩:=mD rz;obtain⟨z,r,n,O,C⟩:=R.ok x.bI;obtain⟨b,rfl,htl⟩:∃b:List Tok,r=(c.zip b).map (fun p=>Value.int p.1 p.2)/\b.length=c.length:=by clear C R q z;induction c generalizing r with |nil=>cases O;simp |cons a l ih=> cases O with |cons h t=> obtain⟨w,rfl⟩:=h;obtain⟨b,rfl,hl⟩:=ih _ t;exact⟨w::b,rfl,by simp[hl]⟩
 have Z:((c.zip b).map (fun p=>Value.int p.1 p.2)).toArray=intItems (c.zip b).toArray:=by simp[intItems]
 rw[Z] at C;have M:∀j,numAt (c.zip b).toArray j=c.getD j 0:=fun j=>by rw[numAt_eq];have:(c.zip b).map (·.1)=c:=sG (by omega);rw[this]
 have J:(c.zip b).toArray.size=c.length:=by simp_all
 refine UJ (x.ok.hd Y) ⟨_,C,rfl,n,rfl⟩ (fun L h' w G=>?_) fun hp v h' w hv G=>?_;.rw[J] at L;have:c=[]:=lG.mp L;subst this;exact⟨y,N,x.kept (t':=w) G,ry,q⟩
 .cases c with |nil=>grind |cons m l=>
  obtain⟨t,rfl⟩:=intItems_at hv;refine⟨.int (PM.dO l m),N,x.kept (t':=w) G,⟨t,?_⟩,q⟩;congr 1;obtain⟨g1,g2⟩:=argBest_gt (numAt ((m::l).zip b).toArray) (((m::l).zip b).toArray.size-1);obtain⟨k1,k2,k3⟩:=jY l m;have lb:∀a∈m::l,a<=numAt ((m::l).zip b).toArray (argBest (fun i j=>decide (numAt ((m::l).zip b).toArray i>numAt ((m::l).zip b).toArray j)) (((m::l).zip b).toArray.size-1)):=fun a A=>by obtain⟨j,E,ej⟩:=lF A;have:=g2 j (by grind);rwa[M j,dR,bW E,ej] at this
  have T:numAt ((m::l).zip b).toArray (argBest (fun i j=>decide (numAt ((m::l).zip b).toArray i>numAt ((m::l).zip b).toArray j)) (((m::l).zip b).toArray.size-1))<=PM.dO l m:=by
   generalize argBest _ _=j at g1;rw[M j];have E:j<(m::l).length:=by lia
   have o:(m::l).getD j 0∈m::l:=by rw[dR,bW E];simp
   rcases aY.mp o with z|z;.rwa[z]
   .exact k2 _ z
  have o:=k3.elim (fun z=>by rw[z];exact kg) fun z=>bJ _ z;exact so T (lb _ o)
end
end L2
namespace PM
open PySem L2
section
variable{K:Kx}{XO:c5}{E:L2.St->XK}{td te:TE}{md me:En->R D}
theorem UK(h:vi ds d=some r):∃ns:List Int,ds=[.lst (ns.map .int)]/\r=match ns with|[]=>d|n::l=>.int (dO l n):=by
 unfold vi at h;split at h;.simp_all
 .rename_i a l;cases z:dG l with |none=>simp_all |some ns=>rw[z] at h;cases h;exact⟨a::ns,by rw[uo z];rfl,rfl⟩
 simp_all
theorem L8(o:ug K XO E k ml)(hd:SE K XO E td md):SE K XO E (L6 k td) (xV ml md):=by intro w A N F H x v Q I a;refine o _ _ _ F H _ _ _ I (a.bind.imp fun L C B g h G r=>(hd _ _ _ _ _ _ _ _ (I.grow g) (h.bind.imp fun d S M e c y i=>?_)));cases q:vi _ d with |none=>rw[q] at c;exact c.elim |some z=> rw[q] at c;obtain⟨s,rfl,rfl⟩:=UK q;cases r with |cons r t=> cases t;obtain⟨p,J,rfl,m,u⟩:=r;have j:=sY u;subst j;refine⟨y,p,_,rfl,rfl,PM.aC.rd e.hh m,c _ _ (.refl e.fh) _ ?_⟩;cases s with |nil=>exact i |cons n l=>rfl
end
end PM
namespace L2
open PySem PySem.Spec PyProof.Rows
section
variable{X:Cx}
theorem L9(h1:attributeBase o m X.env (eval o X.env)=eval o X.env:=by rfl) (h2:((backTo a (starEach [e,f] X.env)).all (fun x=>!x.1)&&(backToKw a (keywordEach [] X.env)).all (fun x=>x.1.isSome)&&decide (([e,f]:List Expr).length+([]:List Keyword).length+(if([]:List Keyword).isEmpty then 0 else 1)<30))=true:=by rfl) (h3:(b.endLine==a.line)=true:=by rfl)(c:backTo a (starEach [e,f] X.env)=[(false,eval e X.env),(false,eval f X.env)]:=by rfl):M2 X o m b e f a:=⟨h1,h2,h3,c⟩
end
end L2
namespace PM
open PySem L2
section
variable{K:Kx}{XO:c5}{E:L2.St->XK}{td ty tx:TE}{md my mx:En->R D}
def UL:D->D->Option D:=xQ sO fun i j=>.int (i*2^j.toNat)
def x8(x y:D):Option D:=match x,y with|.int i,.lst l=>(dG l).map fun a=>.bl (decide (i∈a))|.int i,.tup l=>(dG l).map fun a=>.bl (decide (i∈a))|_,_=>none
def zl(x y:D):Option D:=match x,y with|.int i,.lst l=>(dG l).map fun a=>.bl (!decide (i∈a))|.int i,.tup l=>(dG l).map fun a=>.bl (!decide (i∈a))|_,_=>none
theorem C6{ns:List Int}:Cy (.int i) (ns.map V.int)=decide (i∈ns):=by
  rw[uG];unfold Cy;simp[p_];constructor
  . rintro⟨a,c,b⟩;have:=by simpa[ud] using b
    simp_all
  .intro h;exact⟨i,h,by simp[ud]⟩
theorem C7{ns:List Int}:(ns.map V.int).all uU=true:=by rw[lC,iP];intro x _;rfl
theorem L_:SR K (Cz K.f false) x8:=by intro F H x y j m d Q s p h e q;cases j with
 |int i=> subst p;cases m with
  |lst l=> obtain⟨a,o,rfl,g,c⟩:=h;simp only[x8] at e;cases z:dG l with |none=>simp_all |some t=> rw[z] at e;cases e;have b:=uo z;subst b;have f:=sY c;subst f;exact⟨a,_,rfl,.inl (.inl g),rfl,C7,q _ F H (.refl s) (by rw[C6];rfl)⟩
  |tup l=> obtain⟨a,o,rfl,g,c⟩:=h;simp only[x8] at e;cases z:dG l with |none=>rw[z] at e;cases e |some t=> rw[z] at e;cases e;have b:=uo z;subst b;have f:=sY c;subst f;exact⟨a,_,rfl,.inr (.inl (.inl (s _ _ g))),rfl,C7,q _ F H (.refl s) (by rw[C6];rfl)⟩
  |_=>cases e
 |_=>cases e
theorem UM:SR K (Cz K.f true) zl:=by intro F H x y j m d Q s p h e q;cases j with
 |int i=> subst p;cases m with
  |lst l=> obtain⟨a,o,rfl,g,c⟩:=h;simp only[zl] at e;cases z:dG l with |none=>simp_all |some t=> rw[z] at e;cases e;have b:=uo z;subst b;have f:=sY c;subst f;exact⟨a,_,rfl,.inl (.inl g),rfl,C7,q _ F H (.refl s) (by rw[C6];rfl)⟩
  |tup l=> obtain⟨a,o,rfl,g,c⟩:=h;simp only[zl] at e;cases z:dG l with |none=>simp_all |some t=> rw[z] at e;cases e;have b:=uo z;subst b;have f:=sY c;subst f;exact⟨a,_,rfl,.inr (.inl (.inl (s _ _ g))),rfl,C7,q _ F H (.refl s) (by rw[C6];rfl)⟩
  |_=>cases e
 |_=>cases e
def UN:D->Option (List Key×List D) |.dJ a l=>some (a,l) |_=>none
def Be(md my mx:En->R D)(δ:En):R D:=(md δ).bind fun d=>(R.of (UN d)).bind fun p=>(my δ).bind fun k=>(mx δ).bind fun x=>R.of ((qD k).map fun k=>(gT p.1 p.2 k).getD x)
theorem L'(hd:lK K XO E td md)(t:SE K XO E ty my)(A:SE K XO E tx mx):SE K XO E (K7 td ty tx) (Be md my mx):=by intro S F0 T F H σ Y Q I a;refine hd _ _ _ F H _ _ _ I (a.bind.imp fun d N X i e x j=>?_);cases d with
 |dJ ks l=> have h:=j;obtain⟨p,m,rfl,L,_⟩:=h;refine⟨p,rfl,.inl ⟨_,.inl L⟩,?_⟩;change eP E _ _ _ _ _ ((my _).bind _) at e;refine t _ _ _ _ _ _ _ _ (I.grow i) (e.bind.imp fun k F2 H2 f s y G=>(A _ _ _ _ _ _ _ _ ((I.grow i).grow f) (s.bind.imp fun Z F3 H3 c b z n=>?_)));cases q:qD k with |none=>rw[q] at b;exact b.elim |some u=> rw[q] at b;obtain⟨p',o,J,g,M,C⟩:=LC ((j.mono f.ff f.hh).mono c.ff c.hh);cases J;cases FA q G;refine⟨o,g,b _ _ (.refl c.fh) _ ?_⟩;cases w:gT _ l _ with |none=>rw[C w];simpa[w,Option.getD_none] using n |some U=>obtain⟨v,rfl,r⟩:=M _ w;simpa[w] using r
 |_=>exact e.elim
end
end PM
namespace L2
open PySem PySem.Spec PyProof.Rows
section
variable{X:Cx}
def F9(c:TA):TE:=fun d H Q=>c d H fun b a=>∃j:Int,b=[.int j]/\∀r,a r=none->Q (.ref r) (upd a r (.lI 0 j))
theorem Ma(l:Gl X "range")(f:X.mg "range"=none)(m:PA X [a] g)(k:starEach [a] X.env=[(false,eval a X.env)]:=by rfl):PE X (.Call (.Name "range" p) [a] [] pos) (F9 g):=by intro c s v H Q I h;refine Call_ (pe I l f boot_range (eW (bS (m _ _ s _ H _ I h) fun r w ⟨_,_,d,n,i⟩=>?_) k rfl));obtain⟨j,e,q⟩:=i;subst e;obtain⟨u,rfl,t,rfl⟩:=mD n;refine call_range_1 ⟨.ref _,_,?_,rfl,q _ (d.bI.fresh (aG _))⟩;exact d.laid (fun b o e=>aO _ e) (aG _) ⟨_,_,_,cg _ rfl⟩
def Mb:List V->Hp->VK->Prop:=fun a H Q=>∃(r:Addr) (j:Int),a=[.ref r]/\H r=some (.lI 0 j)/\(0<=j/\j<=100000)/\∀l,H l=none->Q (.ref l) (upd H l (.lst ((List.range j.toNat).map fun k:Nat=>.int (k:Int))))
theorem UO(E:X.calm=true):mV X (.type "list") Mb:=by
 rintro h s L H R S Q I r ⟨Z,j,rfl,w,hj,q⟩;obtain⟨u,rfl,D⟩:=mD r;cases D;obtain⟨J,M,T,e⟩:=I.bI _ _ w;have C:Builtin.Range.rangeSize 0 j 1=j.toNat:=by rw[l7];lia
 refine call_list_range (I.ok.hd E) e (small_one (by decide) (by decide) (by lia) (by omega)) C (by lia) fun N U x c' A Y a=>(⟨.ref _,_,?_,rfl,q _ (I.bI.fresh (aG _))⟩);obtain⟨O,B⟩:=a;refine I.laid A (aG _) ⟨by rw[aW,qi];exact bK (show j.toNat<=100000 by lia) (by decide),_,_,?_,by omega⟩;have c:∀(n:Nat)(l:List _)(o:Nat),l.length=n->(∀k v,l[k]?=some v->∃t,v=Value.int (o+k:Nat) t)->Vals ((List.range' o n).map fun k:Nat=>V.int k) l:=by intro n;induction n with |zero=>intro l o b _;rw[lG.mp b];exact .nil |succ n z=> intro l o b p;cases l with |nil=>simp at b |cons v l=> obtain⟨t,rfl⟩:=p 0 v rfl;refine .cons ⟨t,rfl⟩ (z l _ (by simpa using b) fun k v d=>?_);obtain⟨G,f⟩:=p (k+1) v (by simpa using d);exact⟨_,by rw[f];congr 2;lia⟩
 have:=c _ _ 0 (by omega) fun k v d=>let⟨t,f⟩:=B k v (by simpa using d);⟨t,by rw[f];congr 1;simp⟩;rwa[List.range_eq_range']
end
end L2
namespace PM
open PySem L2
section
variable{K:Kx}{XO:c5}{E:L2.St->XK}
def rl(l:List D):Option D:=match l with |[.int j]=>cH (0<=j/\j<=100000) (some (.lst ((List.range j.toNat).map fun k:Nat=>.int (k:Int)))) none |_=>none
def F_(ml:En->R (List D))(δ:En):R D:=(ml δ).bind fun l=>R.of (rl l)
theorem UP(h:rl l=some d):∃j:Int,l=[.int j]/\(0<=j/\j<=100000)/\d=.lst ((List.range j.toNat).map fun k:Nat=>.int (k:Int)):=by
  unfold rl at h;split at h
  . rename_i j;unfold cH at h;split at h;.cases h;exact⟨j,rfl,by omega,rfl⟩
    simp_all
  simp_all
theorem UQ(h:SA K XO E s ml):iK K XO E (rR Mb (fR (F9 s) cV)) (F_ ml):=by intro y x z F H C w Q I a;refine h _ _ _ F H _ _ _ I (a.bind.imp fun u p t f c A r=>?_);cases q:rl _ with |none=>rw[q] at c;exact c.elim |some d=> rw[q] at c;obtain⟨j,rfl,o,rfl⟩:=UP q;obtain⟨v,rfl,n⟩:=aF.one r;subst n;refine⟨j,rfl,fun B g=>⟨_,j,rfl,cw,o,fun l m=>?_⟩⟩;have e:Ext _ _ _ (upd _ _ (.lI 0 j)):=.fD f.fh g;have b:=e.hh.free m;refine c _ _ (e.trans (.fD e.fh m)) l (f.fh.free b) (f.hh.free b) ⟨_,cw,?_⟩;have:=aF.ints (K:=K) (F:=p) (ns:=(List.range j.toNat).map fun k:Nat=>k);rwa[cK,cK] at this
end
end PM
namespace L2
open PySem PySem.Spec PyProof.Rows
theorem Inv.vr(ch:List Addr)(I:Inv X pins σ H s)(d:∀b∈ch,jn X pins H b)(k:∀b o,b∉ch->s.heap.get? b=some o->h'.get? b=some o):Inv X pins σ H {s with heap:=h',toks:=t'}:=by
 have g:∀b u,H b=some u->b∉ch:=fun b u e z=>by obtain⟨i,_⟩:=d b z;simp_all
 refine I.step (fun b l=>?_) (fun b o _ _ a e _=>k b o a e) (fun b o _ _ a e _=>⟨_,k b o a e⟩) (fun _ _ _ _ n=>n) (fun b o a e=>⟨o,k b o a e⟩) (fun _ _ e=>e) (fun _ _ _ e=>e) (fun b w e=>⟨#[],by simp_all⟩) (fun m j=>?_) (fun b u e=>?_) I.bare;.obtain⟨i,h,t,B,x,A⟩:=d b l;grind
 .obtain⟨o,y,p,f,r⟩:=j;refine⟨o,_,_,k _ o (fun z=>?_) f,r⟩;obtain⟨_,h,_⟩:=d _ z;simp_all
 .refine(I.bI b u e).iB (fun c v a q=>k c v ?_ q) (fun _ q=>q) fun _ _ q=>q;grind
theorem Inv.wM(ch:List Addr)(I:Inv X pins σ H s)(h:∀b∈ch,jn X pins H b)(k:∀b o,b∉ch->s.heap.get? b=some o->h'.get? b=some o) (x:xs.length<=sizeLine)(t:Vals xs us)(y:h'.get? s.heap.objs.size=some {cls:=.type "tuple",data:=.seq us.toArray}):Inv X pins σ (upd H s.heap.objs.size (.tup xs)) {s with heap:=h',toks:=t'}:=by
  have d:=I.bI.fresh (aG _);have B:∀b u,H b=some u->b∉ch:=fun b u e z=>by obtain⟨j,_⟩:=h b z;simp_all
  refine I.step (fun b a=>?_) (fun b o _ _ a q _=>k b o a q) (fun b o _ _ a q _=>⟨_,k b o a q⟩) (fun b o a q n=>?_) (fun b o a q=>⟨o,k b o a q⟩) (fun b i q=>?_) (fun b o i q=>?_) (fun b J q=>⟨#[],?_⟩) (fun m A=>?_) ?_ I.bare;.obtain⟨j,l,G,E,D,C⟩:=h b a;grind
  .rwa[bj (a_ (aM q))]
  .rwa[bj (dC q d)]
  .rwa[bj (dC q d)]
  .rw[bj (dC q d),q];simp
  .obtain⟨o,w,L,g,r⟩:=A;refine⟨o,_,_,k _ o (fun z=>?_) g,r⟩;obtain⟨_,l,_⟩:=h _ z;simp_all
  . intro b o q;by_cases a:b=s.heap.objs.size;.subst a;rw[cw] at q;cases q;exact⟨x,_,t,⟨_,y,rfl,_,rfl⟩⟩
    . rw[bj a] at q;refine(I.bI b o q).iB (fun c v p f=>?_) (fun c f=>by rwa[bj (dC f d)]) fun c i f=>by rwa[bj (dC f d)]
      (first|rfl|omega|simp|simp_all|grind)
section
variable{X:Cx}
end
end L2
namespace PM
open PySem L2
section
variable{K:Kx}{XO:c5}{E:L2.St->XK}
def rm(l r:List D):List D:=List.zipWith (fun x y=>.tup [x,y]) l r
end
end PM
namespace PM
def jQ:List Int->Int->Int |[],m=>m |a::l,m=>jQ l (if a<m then a else m)
end PM
namespace L2
open PySem PySem.Spec PyProof.Rows
theorem Mc:∀(l:List Int)(m:Int),PM.jQ l m<=m/\(∀a∈l,PM.jQ l m<=a)/\(PM.jQ l m=m\/PM.jQ l m∈l)
  |[],m=>⟨lB _,fun _ h=>(by cases h),.inl rfl⟩ |a::l,m=>by
    obtain⟨i,g,d⟩:=Mc l (if a<m then a else m);unfold PM.jQ;have e:(if a<m then a else m)=a/\a<m\/(if a<m then a else m)=m/\¬a<m:=by lia
    refine⟨by lia,fun b f=>?_,?_⟩
    . rcases aY.mp f with rfl|f;.lia
      simp_all
    . rcases d with d|d
      . rcases e with⟨e,_⟩|⟨e,_⟩;.exact .inr (by simp_all)
        lia
      .exact .inr (bJ _ d)
section
variable{X:Cx}
def Ga(f:List Int->Int->Int):List V->Hp->VK->Prop:=fun a H Q=>∃(p:Addr) (n:Int) (l:List Int),a=[.ref p]/\Rd H p (.lst ((n::l).map V.int))/\Q (.int (f l n)) H
theorem Md{ns:List Int}(d:Vals (ns.map V.int) its):∃ts:List Tok,its.toArray=intItems (ns.zip ts).toArray/\(ns.zip ts).toArray.size=ns.length/\∀j,numAt (ns.zip ts).toArray j=ns.getD j 0:=by
 obtain⟨ts,rfl,f⟩:∃ts:List _,its=(ns.zip ts).map (fun p=>Value.int p.1 p.2)/\ts.length=ns.length:=by induction ns generalizing its with |nil=>cases d;simp |cons a l k=> cases d with |cons h t=> obtain⟨e,rfl⟩:=h;obtain⟨ts,rfl,g⟩:=k t;exact⟨e::ts,rfl,by simp[g]⟩
 refine⟨ts,by simp[intItems],by simp_all,fun j=>?_⟩;rw[numAt_eq];have:(ns.zip ts).map _=ns:=sG (by omega);rw[this]
theorem UR{f:Nat->Int}(a:∀j,f j=(m::l).getD j 0):f (argBest (fun i j=>decide (f i>f j)) ((m::l).length-1))=PM.dO l m:=by
  obtain⟨q,o⟩:=argBest_gt f _;obtain⟨p,d,e⟩:=jY l m;generalize argBest _ _=j at*;have k:j<(m::l).length:=by have:(m::l).length=l.length+1:=rfl;lia
  have b:(m::l).getD j 0∈m::l:=by rw[dR,bW k];simp
  rw[<-a j] at b;refine so ?_ ?_
  . rcases aY.mp b with z|z;.simp_all
    .exact d _ z
  .have h:PM.dO l m∈m::l:=e.elim (fun z=>by rw[z];simp) fun z=>bJ _ z;obtain⟨i,g,n⟩:=lF h;have:=o i (by(first|rfl|lia|simp|simp_all|grind));rwa[a i,dR,bW g,n] at this
theorem US{f:Nat->Int}(a:∀j,f j=(m::l).getD j 0):f (argBest (fun i j=>decide (f i<f j)) ((m::l).length-1))=PM.jQ l m:=by
  obtain⟨q,o⟩:=argBest_lt f _;obtain⟨p,d,e⟩:=Mc l m;generalize argBest _ _=j at*;have k:j<(m::l).length:=by have:(m::l).length=l.length+1:=rfl;omega
  have b:(m::l).getD j 0∈m::l:=by rw[dR,bW k];simp
  rw[<-a j] at b;refine so ?_ ?_;.have h:PM.jQ l m∈m::l:=e.elim (fun z=>by grind) fun z=>bJ _ z;obtain⟨i,g,n⟩:=lF h;have:=o i (by omega);rwa[a i,dR,bW g,n] at this
  . rcases aY.mp b with z|z;.lia
    .exact d _ z
theorem Me(h:X.calm=true):mV X (.builtin "max") (Ga PM.dO):=by rintro a s A H C x Q I r ⟨p,m,l,rfl,k,q⟩;obtain⟨u,rfl,o⟩:=mD r;cases o;obtain⟨z,i,n,c,e⟩:=k.ok I.bI;obtain⟨B,d,b,f⟩:=Md c;rw[d] at e;refine max_intList (I.ok.hd h) ⟨_,e,rfl,n,rfl⟩ (by simp_all) fun v w y g j=>?_;obtain⟨t,rfl⟩:=intItems_at g;refine⟨.int _,H,I.kept j,⟨t,?_⟩,q⟩;congr 1;rw[b];exact UR f
theorem UT(h:X.calm=true):mV X (.builtin "min") (Ga PM.jQ):=by rintro a s A H C x Q I r ⟨p,m,l,rfl,k,q⟩;obtain⟨u,rfl,o⟩:=mD r;cases o;obtain⟨z,i,n,c,e⟩:=k.ok I.bI;obtain⟨B,d,b,f⟩:=Md c;rw[d] at e;refine min_intList (I.ok.hd h) ⟨_,e,rfl,n,rfl⟩ (by grind) fun v w y g j=>?_;obtain⟨t,rfl⟩:=intItems_at g;refine⟨.int _,H,I.kept j,⟨t,?_⟩,q⟩;congr 1;rw[b];exact US f
end
end L2
namespace PM
open PySem L2
section
variable{K:Kx}
def vu:List D->Option D |[.int i,.int j]=>some (.int (if j>i then j else i)) |_=>none
def uq:List D->Option D |[.int i,.int j]=>some (.int (if j<i then j else i)) |_=>none
def ur(f:List Int->Int->Int):List D->Option D |[.lst (.int a::l)]=>(dG l).map fun b=>.int (f b a) |_=>none
theorem Gb:SC K (fun xs H Q=>∃i j,xs=[.int i,.int j]/\Q (.int (if j>i then j else i)) H) vu:=by
 intro F H h g d Q s r e q;unfold vu at e;split at e;.rename_i i j;cases e;cases r with |cons r f=> cases f with |cons b c=> cases c;subst r b;exact⟨i,j,rfl,q _ F H (.refl s) rfl⟩
 simp_all
theorem C8:SC K (fun xs H Q=>∃i j,xs=[.int i,.int j]/\Q (.int (if j<i then j else i)) H) uq:=by
 intro F H h g d Q s r e q;unfold uq at e;split at e;.rename_i i j;cases e;cases r with |cons r f=> cases f with |cons b c=> cases c;subst r b;exact⟨i,j,rfl,q _ F H (.refl s) rfl⟩
 simp_all
theorem UU(h:ur f ds=some d):∃(n:Int) (l:List Int),ds=[.lst ((n::l).map .int)]/\d=.int (f l n):=by
 unfold ur at h;split at h;.rename_i a l;cases z:dG l with |none=>simp_all |some b=>rw[z] at h;cases h;exact⟨a,_,by rw[uo z];rfl,rfl⟩
 simp_all
theorem Gd:SC K (Ga f) (ur f):=by intro F H m j d Q s r e q;obtain⟨n,l,rfl,rfl⟩:=UU e;cases r with |cons r g=> cases g;obtain⟨a,k,rfl,h,i⟩:=r;have c:=sY i;subst c;exact⟨a,n,l,rfl,h,q _ F H (.refl s) rfl⟩
end
end PM
namespace L2
open PySem PySem.Spec PyProof.Rows
section
variable{X:Cx}
theorem Mf(c:Vals (ns.map V.int) its):IntsAre its ns:=by induction ns generalizing its with |nil=>cases c;exact .nil |cons a l d=> cases c with |cons h t=> obtain⟨f,rfl⟩:=h;exact .cons _ _ (d t)
theorem UW(b:IntsAre its ns):Vals (ns.map V.int) its:=by induction b with |nil=>exact .nil |cons _ _ _ d=>exact .cons ⟨_,rfl⟩ d
end
end L2
namespace PM
open PySem L2
section
variable{K:Kx}
end
section
variable{K:Kx}{XO:c5}{E:L2.St->XK}{te:TE}{me:En->R D}
theorem aF.dropLast(h:aF K F l vs):aF K F l.dropLast vs.dropLast:=by rw[su,su,h.length];exact h.take _
def wN(i:Nat)(b:D->En->Option En)(δ:En):O:=match δ[i]? with |some (.o (.lst l))=>(match l[l.length-1]? with|some d=>O.of (b d (δ.set i (.o (.lst l.dropLast))))|none=>.no) |_=>.no
theorem Mg(n:SG K g b):SS K XO E (k7 (xH K.f "list" xJ (cS i)) g) (wN i b):=by
 intro A s t F H y r x I a;unfold wN at a;split at a;.rename_i l q;obtain⟨p,f,w,h,c⟩:=I.own q;cases e:l[l.length-1]? with |none=>simp[e] at a;exact a.elim |some d=> simp[e] at a;obtain⟨v,u,k⟩:=c.get e;refine⟨_,f,.inl ⟨rfl,_,.inl (.inl h)⟩,p,_,v,rfl,rfl,h,by rwa[c.length],?_⟩;cases z:b d _ with |none=>rw[z] at a;exact a.elim |some o=>rw[z] at a;exact n _ _ _ F _ _ _ d v _ _ (I.chg (d':=.lst _) q f ⟨_,cw,c.dropLast⟩) k z fun m j=>a _ F _ j
 .exact a.elim
end
end PM
namespace L2
open PySem PySem.Spec PyProof.Rows
section
variable{X:Cx}
end
end L2
namespace PM
open PySem L2
section
variable{K:Kx}{XO:c5}{E:L2.St->XK}{tl te:TE}{ml me:En->R D}
end
end PM
namespace L2
open PySem PySem.Spec PyProof.Rows
open Sem (wp)
section
variable{P:Program}{w:World}{B:Around}{Er:Value->Shared->Prop}{hp:Heap}{gs:Array GenState}{dr:Drawn}{tk:Nat}{os:OsState}
variable{nm q:Str}{C N:Addr}{bs bm mZ:List Value}{hdct:Bool}{sn:List Str}{sub:List Value}{ab:Bool}{col:Option Bool}{dd:Option Addr}{k0 k1 k2 k3 k5:Option Value}{B0 Bn newId wz gO wA:String}{wx:List Value}
abbrev sZ(a:List Value):Obj:={cls:=.type "tuple",data:=.seq a.toArray}
abbrev zm(C t:Addr):Obj:={cls:=.ref C,data:=.fields #[.ref t,.none,.none,.none,.bool false,.none]}
theorem UX(m:ExcBaseFacts Bn newId wA wx)(j:mZ.contains (.type Bn)=true)(v:ExcBaseFacts B0 wz gO mZ)(a:OwnTail hp mZ bm)(f:hp.get? C=some (excClassObj nm q C N bs bm hdct sn sub ab col dd k0 k1 k2 k3 k5 newId))(l:hp.Ns N ns)(p:ns "__init__"=some (.ref y))(u:hp.get? y=some fo)(s:fo.cls=.type "function") (run:∀h' e,Heap.MadeExcOf hp h' e (.ref C) c->wpAny (model P w) B (call (.ref y) (.ref e::c)) (fun r s'=>r=.none/\Q (.done (.ret (.ref e))) s') Er ⟨h',gs,dr,tk,os⟩)(t:c.length<=sizeLine): wpAny (model P w) B (Builtin.«type.__call__» ⟨.ref C::c,[]⟩) Q Er ⟨hp,gs,dr,tk,os⟩:=by
 repeat(first|with_reducible rfl|with_reducible rfl|wp_step)
 refine codeAny_call_builtin_code (sj _ m.quiet) (wpAny_check_new_subU m j a f (codeAny_exc_new_subU m j v a f ?_ t));show wpAny _ _ _ _ _ _;have h:∀b o,hp.get? b=some o->((hp.push (sZ c)).push (zm C hp.objs.size)).get? b=some o:=fun b o e=>aO _ (aO _ e);have d:=h _ _ f;have g:((hp.push (sZ c)).push (zm C hp.objs.size)).Ns N ns:=let⟨o,D,z,e,r⟩:=l;⟨o,D,z,h _ _ e,r⟩;have k:((hp.push (sZ c)).push (zm C hp.objs.size)).get? (hp.objs.size+1)=some (zm C hp.objs.size):=by heap_get
 have n:(Value.ref C::bm).contains (.ref C)=true:=by simp
 unfold isInstance;repeat(first|with_reducible refine wpAny_loadPart_at k ?_|(with_reducible refine wpAny_isSubtype_exc d ?_;rw[n])|wp_step)
 show wpAny _ _ (typeLookup (.ref C) _) _ _ _;refine wpAny_typeLookup_tail d g (a.keeps (h':=(hp.push (sZ c)).push (zm C hp.objs.size)) h) v.mroIs v.init.lookup ?_;rw[p];refine dB (ah ?_);unfold bindSpecial;refine ah (jk (T:="function") ⟨_,h _ _ u,s⟩ ?_);have i:Heap.MadeExcOf hp ((hp.push (sZ c)).push (zm C hp.objs.size)) (hp.objs.size+1) (.ref C) c:= ⟨h,lA (ip _),hp.objs.size,k,lA (aG _),aO _ (Heap.get?_push_at rfl rfl)⟩;refine ax (ah (di (run _ _ i) (fun r s' E=>?_) fun _ _ x=>x));obtain⟨rfl,A⟩:=E;wp_walk;exact A
theorem UY(n:ExcBaseFacts Bn newId wA wx)(i:mZ.contains (.type Bn)=true)(l:ExcBaseFacts B0 wz gO mZ)(b:OwnTail hp mZ bm)(a:hp.get? C=some (excClassObj nm q C N bs bm hdct sn sub ab col dd k0 k1 k2 k3 k5 newId))(d:hp.Ns N ns)(g:ns "__init__"=some (.ref k))(j:hp.get? k=some fo)(f:fo.cls=.type "function") (run:∀h' e,Heap.MadeExcOf hp h' e (.ref C) c->wpAny (model P w) (B.under (.builtin "type.__call__" ⟨.ref C::c,[]⟩)) (call (.ref k) (.ref e::c)) (fun r s'=>r=.none/\Q (.ref e) s') Er ⟨h',gs,dr,tk,os⟩)(h:c.length<=sizeLine): wpAny (model P w) B (call (.ref C) c) Q Er ⟨hp,gs,dr,tk,os⟩:=by
 have p:=tc_lookup;have o:=tc_bind (.ref C);refine gC (codeAny_of_tree ?_);repeat(any_goals(first|rfl|with_reducible rfl|wp_step))
 exact⟨rfl,codeAny_call_builtin_at (sj _ (by simp)) entry_typeCall (wpAny_check_type_call_sub a (UX n i l b a d g j f (fun h' e m=>run _ e m) h))⟩
end
end L2
namespace L2
open PySem PySem.Spec PyProof.Rows
section
variable{P:Program}{w:World}{B:Around}{Er:Value->Shared->Prop}{s:Shared}
end
section
variable{X:Cx}
end
end L2
namespace PM
open PySem L2
section
variable{K:Kx}{XO:c5}{E:L2.St->XK}
end
end PM
namespace L2
open PySem PySem.Spec PyProof.Rows
def uniq(ns:List Int):List Int:=ns.foldl step_dedup []
section
variable{X:Cx}
theorem UZ(ns:List Int):firstMet (fun i=>ns.getD i 0) ns.length=uniq ns:=by unfold firstMet uniq;congr 1;refine sy (by simp) fun i a b=>?_;simp_all
theorem Mh:AF X (qS X.K):=by
  rintro f s L H x y v u Q I h l ⟨p,D,i,z,rfl,rfl,n,A,q⟩;cases h;obtain⟨t,rfl⟩:=l;obtain⟨b,r,c,B⟩:=I.list n;obtain⟨j,e,g,G,m,k⟩:=EH A;obtain⟨w,C,a⟩:=r.get g;have E:=r.length;have J:=AK;by_cases d:0<=i
  . have o:i.toNat=j:=by rw[seqIndex_of d k] at e;simp_all
    exact wpAny_getItem_list c.isList d (by omega) (by simp_all) ⟨z,H,I,a,q⟩
  . have o:(i+b.toArray.size).toNat=j:=by rw[l8 (by omega) m] at e;rw[d9];simp_all
    exact wpAny_getItem_list_neg c.isList (by omega) (by simp_all) (by omega) (by simp_all) ⟨z,H,I,a,q⟩
def Mi:List V->Hp->VK->Prop:=fun a H Q=>∃(p:Addr) (S:Int->Bool) (n:Nat),a=[.ref p]/\H p=some (.set S n)/\Q (.int n) H
theorem Mj:mV X (.builtin "len") Mi:=by rintro b s v H l k Q I r ⟨p,S,n,rfl,d,q⟩;obtain⟨u,rfl,h⟩:=mD r;cases h;obtain⟨o,m,j,t,e,a,g,_,_,i,c,f⟩:=I.bI p _ d;exact call_len_set e a g c (by unfold scanBound at i;lia) ⟨.int n,H,I.tok _,⟨_,by rw[f]⟩,q⟩
end
end L2
namespace PM
open PySem L2
section
variable{K:Kx}{XO:c5}{E:L2.St->XK}
end
end PM
namespace L2
open PySem PySem.Spec PyProof.Rows
section
variable{X:Cx}
end
end L2
namespace PM
open PySem L2
section
variable{K:Kx}{XO:c5}{E:L2.St->XK}{tk te:TE}{mk me:En->R D}
end
section
variable{K:Kx}{XO:c5}{E:St->XK}{ta tb te:TE}{ma mb me:En->R D}{t u:TS}{m n:En->O}{Λ:List (Nat×Addr×HO)}{F0 H0 F H F' H' F1 H1:Hp}{σ:St}{δ:En}{Dn:Ends}
def bE(a:List (List Int)):D:=.lst (a.map iL)
structure kH(H:Hp)(a:Addr)(bs:List Addr)(ll:List (List Int)):Prop where
 top:H a=some (.lst (bs.map .ref))len:bs.length=ll.length
 row:∀(i:Nat)(b:Addr)(l:List Int),bs[i]?=some b->ll[i]?=some l->H b=some (.lst (l.map .int))nd:(a::bs).Nodup
theorem kH.mono(e:aC H H')(t:kH H a bs c):kH H' a bs c:=⟨e _ _ t.top,t.len,fun i b l f d=>e _ _ (t.row i b l f d),t.nd⟩
theorem kH.obj(t:kH H a bs d):∀b∈a::bs,∃o,H b=some o:=fun b c=>by
  rcases aY.mp c with rfl|c;.exact⟨_,t.top⟩
  . obtain⟨i,f,e⟩:=lF c;have g:i<d.length:=by rwa[<-t.len]
    exact⟨_,t.row i b d[i] (by simp_all) (bW _)⟩
def vw(l:List Int):Tr:=.l (l.map fun i=>.d (.int i))
def rq(a:List (List Int)):Tr:=.l (a.map vw)
theorem i9:∀{l:List Int}{vs:List V}{fp:List Addr},aK K F H (l.map fun i=>.d (.int i)) vs fp↔vs=l.map .int/\fp=[]
 |[],vs,fp=>by rfl |i::l,vs,fp=>by
  constructor;.rintro⟨v,r,b,c,rfl,rfl,⟨rfl,rfl⟩,h⟩;obtain⟨rfl,rfl⟩:=i9.mp h;simp
  .rintro⟨rfl,rfl⟩;exact⟨_,_,_,_,rfl,rfl,⟨rfl,rfl⟩,i9.mpr ⟨rfl,rfl⟩⟩
theorem qG:cL K F H (vw l) v fp↔∃b,v=.ref b/\fp=[b]/\H b=some (.lst (l.map .int)):=by
 constructor;.rintro⟨a,d,e,rfl,rfl,f,c⟩;obtain⟨rfl,rfl⟩:=i9.mp c;simp_all
 .rintro⟨b,rfl,rfl,h⟩;exact⟨b,_,_,rfl,rfl,h,i9.mpr ⟨rfl,rfl⟩⟩
theorem i_:∀{e:List (List Int)}{vs:List V}{bs:List Addr},aK K F H (e.map vw) vs bs↔vs=bs.map .ref/\bs.length=e.length/\∀(i:Nat)(b:Addr)(l:List Int),bs[i]?=some b->e[i]?=some l->H b=some (.lst (l.map .int))
 |[],vs,bs=>by
  simp only[iS,aK];constructor;.rintro⟨rfl,rfl⟩;simp
  .rintro⟨rfl,h,_⟩;cases bs with |nil=>simp |cons _ _=>simp at h
 |l::e,vs,bs=>by
  constructor;.rintro⟨v,r,z,y,rfl,rfl,p,w⟩;obtain⟨b,rfl,rfl,A⟩:=qG.mp p;obtain⟨rfl,q,x⟩:=i_.mp w;refine⟨rfl,by simp[q],fun i c r s g=>?_⟩;cases i with |zero=>simp_all |succ i=>exact x i c r (by simp_all) (by simp_all)
  .rintro⟨rfl,h,j⟩;cases bs with |nil=>simp at h |cons b bs=>exact⟨_,_,_,_,rfl,rfl,qG.mpr ⟨b,rfl,rfl,j 0 b l rfl rfl⟩,i_.mpr ⟨rfl,by simpa using h,fun i c r s g=>j (i+1) c r (by grind) (by simpa using g)⟩⟩
theorem vx:Tab K F H a bs (rq h)↔kH H a bs h:=by
 constructor;.intro t;have:=t.ok;obtain⟨j,k,i,l,c,f,d⟩:=this;cases c;obtain⟨rfl,g,e⟩:=i_.mp d;exact⟨f,g,e,t.nd⟩
 .intro t;exact⟨⟨a,_,_,rfl,rfl,t.top,i_.mpr ⟨rfl,t.len,t.row⟩⟩,t.nd⟩
def U0:Tr->Option Int |.d (.int i)=>some i |_=>none
def Ge{α:Type}(f:Tr->Option α):List Tr->Option (List α) |[]=>some [] |t::b=>(f t).bind fun x=>(Ge f b).bind fun r=>some (x::r)
def U1:Tr->Option (List Int) |.l a=>Ge U0 a |_=>none
def U2:Tr->Option (List (List Int)) |.l a=>Ge U1 a |_=>none
theorem Gf:∀(ts:List Tr),fe ts=ts.map jt |[]=>rfl |t::ts=>by simp[fe,Gf _]
@[simp] theorem zzZ(a:List (List Int)):jt (rq a)=bE a:=by unfold rq bE;simp only[jt,Gf,cK];congr 1;apply kf;intro l _;show jt _=iL l;unfold vw iL;simp only[jt,Gf,cK];rfl
def C9:Sl->Sl |.o d=>.v d |.l d=>.v d |.p T=>.v (jt T) |s=>s
def peek(δ:En):En:=δ.map C9
theorem U3(I:az K Λ F0 H0 F H σ δ):az K [] (hR F H) H (hR F H) H σ (peek δ):=by
 have g:∀i:Nat,(peek δ)[i]?=(δ[i]?).map C9:=fun i=>by unfold peek;simp
 have no:∀i,Sl.own (peek _)[i]?=false:=fun i=>by rw[g];cases q:δ[i]? with |none=>rfl |some s=>cases s<;>rfl
 refine⟨.refl (FJ I.same),by rw[I.len];simp[peek],fun i=>?_,fun i j a _ w=>by simp_all,fun x r=>(by cases r),fun i T h=>?_⟩;.have z:=I.slot i;rw[g];cases q:δ[i]? with |none=>trivial |some s=> rw[q] at z;cases s with |no=>trivial |v d=>obtain⟨u,b,e⟩:=z;exact⟨u,b,Rep.mono wJ d e⟩ |o d=>obtain⟨a,b,_,_,f⟩:=z;exact⟨_,b,FO I.same (.inr (.inl ⟨a,rfl,f⟩))⟩ |l d=>obtain⟨a,b,_,_,f⟩:=z;exact⟨_,b,FO I.same (.inr (.inl ⟨a,rfl,f⟩))⟩ |p T=>obtain⟨a,y,b,e,_⟩:=z;exact⟨_,b,FK I.same T e.ok⟩
 .have:=no i;rw[h] at this;cases this
def oj(m:En->R D)(δ:En):R D:=match m (peek δ) with|.ok d=>if mL d=true then .ok d else .no|_=>.no
theorem Gg(h:SE K XO E te me):SE K XO E te (oj me):=by intro Λ F0 H0 F H σ δ Q I a;refine h _ _ H _ H _ _ Q (U3 I) ?_;unfold oj at a;cases q:me _ with |no=>rwa[q] at a |ex x=>rw[q] at a;exact a.elim |ok d=>
 rw[q] at a;dsimp at a;split at a;.rename_i e;intro f i b v c;exact a _ _ (CV b) v (A' b d e c)
 .exact a.elim
variable(K XO E) in
def Bf(t:TE)(m:En->R (List (List Int))):Prop:=∀Λ F0 H0 F H σ δ Q,az K Λ F0 H0 F H σ δ->eP E XO σ F H (fun d F' H'=>∀a c,kH H' a c d->(∀b∈a::c,F' b=none/\H b=none)->Q (.ref a) H') (m δ)->t σ H Q
def vy:D->Option (List Int) |.lst l=>dG l |_=>none
theorem U4(h:vy d=some l):d=iL l:=by cases d with |lst x=>rw[uo h];rfl |_=>cases h
def x9(b:D->En->Option En)(me:En->R D)(δ:En)(d:D):R (List Int):=match b d δ with |none=>.no |some a=>(me a).i7.bind fun x=>R.of (vy x)
def r6(f:D->R (List Int)):List D->R (List (List Int)) |[]=>.ok [] |d::l=>(f d).bind fun o=>(r6 f l).bind fun r=>.ok (o::r)
def C_(mi:En->R (List D))(c:List Nat)(n:Nat)(b:D->En->Option En)(me:En->R D)(δ:En):R (List (List Int)):= (mi δ).bind fun a=>cH (a.length<=sizeLine) (r6 (x9 b me (c9 δ c n)) a).i7 .no
theorem U5(h:r6 f (d::l)=.ok r):∃o a,f d=.ok o/\r6 f l=.ok a/\r=o::a:=by unfold r6 at h;cases q:f d with |no=>simp_all |ex x=>simp_all |ok o=> rw[q] at h;cases b:r6 f l with |no=>simp_all |ex x=>simp_all |ok a=>rw[b] at h;cases h;simp
theorem U6{n:Nat}(hi:xO K XO E wi mi)(A7:L.Nodup)(hg:SG K g b)(hw:BW b)(he:iK K XO EN te me):Bf K XO E (y7 wi L n g none te) (C_ mi L n b me):=by
  intro Λ F0 H0 F H σ δ Q I a;refine hi Λ F0 H0 F H σ δ _ I (a.bind.imp fun v F1 H1 e1 Y J hJ p hp=>?_);unfold cH at Y;split at Y;case isFalse=>exact Y.elim
  rename_i hsz;have I1:=I.grow e1;obtain⟨s,Ic,pC,rh⟩:=FG (n:=n) I1 A7;cases B:(r6 (x9 b me (c9 δ L n)) v).i7 with |no=>rw[B] at Y;exact Y.elim |ex x=>cases q2:r6 (x9 b me (c9 δ L n)) v<;>(rw[q2] at B;cases B) |ok l=>
  rw[B] at Y;have qg:=ba B;have S:∀x∈s,∃d,(c9 δ L n)[x.1]?=some (.l d):=fun x hx=>(Ic.gu x hx).1;have A8:∀x∈s,x.2.1≠p:=fun x hx e=>by obtain⟨o,ho⟩:=rh x hx;grind
  have p0:H0 p=none:=I1.ext.hh.free hp;have f1:F1 p=none:=e1.fh.free hp;refine⟨fun i k ys U N=>∃F2 l1 l2 G,az K s F0 H0 F2 N U (c9 δ L n)/\Ext F1 H1 F2 N/\ys=G.map .ref/\kH N p G l1/\(∀c∈p::G,F2 c=none/\H1 c=none)/\r6 (x9 b me (c9 δ L n)) (v.drop i)=.ok l2/\l=l1++l2/\k=v.length-i/\i<=v.length/\ys.length<=i, ⟨_,F1,[],l,[],?_,.fD e1.fh hp,rfl,⟨cw,rfl,fun i c r h=>by simp at h,by simp⟩,fun c hc=>?_,qg,rfl,rfl,bU _,aG _⟩,?_⟩;.exact Ic.grow (.fD e1.fh hp)
  .rw[bP.mp hc];exact⟨f1,hp⟩
  rintro i k ys U N ⟨F2,l1,l2,G,I2,x2,rfl,tb,A,qd,rfl,rfl,LI,A9⟩;refine⟨tb.top,?_⟩;by_cases vf:i<v.length;.have e:v.drop i=v[i]::v.drop (i+1):=qc vf;rw[e] at qd;obtain⟨Z,l3,f,q3,rfl⟩:=U5 qd;obtain⟨h1,h2⟩:=(hJ F2 N x2 i).1 v[i] (by simp);refine .inr ⟨h1,fun X wG H'=>∃F' C,az K s F0 H0 F' H' wG (c9 δ L n)/\Ext F1 H1 F' H'/\X=C.map .ref/\kH H' p C (l1++[Z])/\(∀c∈p::C,F' c=none/\H1 c=none)/\X.length<=i+1, fun X wG H' ⟨F',C,w1,w2,w3,w4,w5,w6⟩=>⟨_,by omega,F',l1++[Z],l3,C,w1,w2,w3,w4,w5,q3,by simp,rfl,vf,w6⟩,fun x H' y=>?_⟩;obtain⟨F3,e3,rx⟩:=h2 x H' y;unfold x9 at f;cases qb:b v[i] (c9 δ L n) with |none=>rw[qb] at f;cases f |some T=> rw[qb] at f;dsimp only at f;refine hg s F0 H0 F3 H' U _ _ x T _ (I2.grow e3) rx qb fun wu I3=>?_;unfold Lc;simp only[if_true];cases qm:me T with |no=>rw[qm] at f;cases f |ex x=>rw[qm] at f;cases f |ok d=>
        rw[qm] at f;simp only[R.ba,R.ak] at f;have ed:d=iL Z:=by cases qa:vy d with |none=>rw[qa] at f;cases f |some r=>rw[qa] at f;cases f;exact U4 qa
        subst ed;refine he s F0 H0 F3 H' wu T _ I3 ?_;rw[qm];intro F5 H5 e5 c c0 c1 co;have z:=e3.trans e5;obtain⟨vs,cv,cr⟩:=co;have ex:=sY cr;subst ex;have Ml:=tb.mono z.hh;have z2:F5 p=none:=z.nw p _ (A p (by simp)).1 tb.top;have Mm:N c=none:=e3.hh.free c1;have sL:∀q∈p::G,q≠c:=fun q hq ee=>by obtain⟨o,ho⟩:=tb.obj q hq;rw[ee,Mm] at ho;cases ho
        refine⟨Ml.top,?_,F5,G++[c],((I3.grow e5).nO (hw _ _ _ qb) S).side pC A8 p0 z2,?_,by simp,⟨?_,by simp[tb.len],fun j q r M g2=>?_,?_⟩,fun q hq=>?_,by simpa using A9⟩;.lia
        .have w:=x2.trans z;exact⟨w.ff,fun c o q=>by rw[bj (dC q hp)];exact w.hh c o q,fun c o q=>by rw[bj (dC q z2)];exact w.fh c o q,w.nw⟩
        .rw[cw];simp
        . have qp:q≠p:=fun ee=>by
            have hm:=ib M;rw[ee] at hm;rcases bO.mp hm with w|w;.exact(gp.mp tb.nd).1 w
            .exact sL p (by simp) (bP.mp w)
          rw[bj qp];by_cases hj:j<G.length;.rw[gk hj] at M;rw[gk (by rw[<-tb.len];exact hj)] at g2;exact Ml.row j q r M g2
          . rw[iR (by omega)] at M;rw[iR (by rw[<-tb.len];omega),<-tb.len] at g2;have j0:j-G.length=0:=by have:=(b'.mp M).1;simp at this;omega
            rw[j0] at M g2;simp at M g2;subst M g2;exact cv
        .rw[<-gx,fQ];exact⟨tb.nd,by simp,fun q hq r hr ee=>sL q hq (by rw[ee];exact bP.mp hr)⟩
        . rw[<-gx] at hq;rcases bO.mp hq with w|w;.obtain⟨o,ho⟩:=tb.obj q w;exact⟨z.nw q o (A q w).1 ho,(A q w).2⟩
          .rw[bP.mp w];exact⟨c0,x2.hh.free Mm⟩
  . have e:i=v.length:=by lia
    subst e;rw[qf] at qd;cases qd;refine .inl ⟨(hJ F2 N x2 _).2 (by simp),Y F2 N x2 p G (by rw[dQ];exact tb) fun c hc=>⟨(A c hc).1,e1.hh.free (A c hc).2⟩⟩
def U7(i:Nat)(δ:En):Bool:=(List.range δ.length).all fun j=>j==i||match δ[j]? with|some (.p _)=>false|_=>true
theorem az.Gh(I:az K Λ F0 H0 F H σ δ)(hl:∃x,δ[i]?=some x/\∀d,x≠.l d)(e:Ext F H F' H')(t:Tab K F' H' a bs T)(h0:∀b∈a::bs,F' b=none/\H b=none): az K Λ F0 H0 F' H' (σ.set i (some (.ref a))) (δ.set i (.p T)):=by
  obtain⟨x,hx,U8⟩:=hl;have hi:i<δ.length:=(b'.mp hx).1;have r:i<σ.length:=by rwa[I.len]
  have fresh:∀(k:Nat)(b:Addr),k≠i->Sl.own δ[k]?=true->σ[k]?=some (some (.ref b))->b∉a::bs:=fun k b hki g M h=>by have z:=I.slot k;have hn':=(h0 b h).2;cases q:δ[k]? with |none=>rw[q] at g;cases g |some y=> rw[q] at g z;cases y with |no=>cases g |v d=>cases g |o d=>obtain⟨c,z1,_,_,z4⟩:=z;obtain⟨u,hu⟩:=z4.obj;simp_all |l d=>obtain⟨c,z1,_,_,z4⟩:=z;obtain⟨u,hu⟩:=z4.obj;simp_all |p l2=>obtain⟨c,cs,z1,z2,_⟩:=z;rw[M] at z1;cases z1;obtain⟨u,hu⟩:=z2.obj b (by simp);simp_all
  have J:=I.grow e;have f3:∀b∈a::bs,H0 b=none/\F' b=none:=fun b h=>⟨I.ext.hh.free (h0 b h).2,(h0 b h).1⟩;refine⟨J.ext,by simp[I.len],fun j=>?_,fun j k b Q w g2 N Z=>?_,fun y hy=>?_,fun j l2 w=>?_⟩
  . by_cases B:i=j;.subst B;rw[bu hi,bu r];exact⟨a,bs,rfl,t,f3⟩
    .rw[aQ B,aQ B];exact J.slot j
  . by_cases e1:i=j;.subst e1;rw[bu r] at N;cases N;rw[aQ Q] at g2 Z;exact fresh k a (aR Q) g2 Z (by simp)
    . by_cases G:i=k;.subst G;rw[bu r] at Z;cases Z;rw[aQ e1] at w N;exact fresh j a (aR e1) w N (by simp)
      .rw[aQ e1] at w N;rw[aQ G] at g2 Z;exact I.dist j k b Q w g2 N Z
  . obtain⟨⟨d',w⟩,g2,N⟩:=J.gu y hy;have ne:i≠y.1:=by intro B;rw[<-B,hx] at w;exact U8 d' (dU w)
    exact⟨⟨d',by rwa[aQ ne]⟩,by rwa[aQ ne],N⟩
  . have old:∀(k:Nat)(T2:Tr),k≠i->δ[k]?=some (.p T2)->∃A f,σ[k]?=some (some (.ref A))/\Tab K F' H' A f T2/\(∀b∈A::f,b∉a::bs)/\(∀b∈A::f,H0 b=none/\F' b=none)/\(∀(j:Nat)(b:Addr),j≠k->Sl.own δ[j]?=true->σ[j]?=some (some (.ref b))->b∉A::f)/\∀(j:Nat)(T':Tr),j≠k->δ[j]?=some (.p T')->∃Y s,σ[j]?=some (some (.ref Y))/\Tab K F' H' Y s T'/\∀b∈Y::s,b∉A::f:=fun k T2 g q=>by
      obtain⟨A,f,s1,X,U,s4,s5⟩:=I.tab q;refine⟨A,f,s1,X.mono e.ff e.hh,fun b h S=>?_,fun b h=>?_,s4,fun j T' hj L=>?_⟩;.obtain⟨o,C⟩:=X.obj b h;rw[(h0 b S).2] at C;cases C
      .obtain⟨o,C⟩:=X.obj b h;exact⟨(U b h).1,e.nw b o (U b h).2 C⟩
      .obtain⟨Y,s,u1,u2,u3⟩:=s5 j T' hj L;exact⟨Y,s,u1,u2.mono e.ff e.hh,u3⟩
    by_cases B:i=j
    . subst B;rw[bu hi] at w;cases w;refine⟨a,bs,bu r,t,f3,fun k b g C M h=>?_,fun k l3 g L=>?_⟩;.rw[aQ (aR g)] at C M;exact fresh k b g C M h
      .rw[aQ (aR g)] at L;obtain⟨A,f,s1,X,U,_⟩:=old k l3 g L;exact⟨A,f,by rwa[aQ (aR g)],X,U⟩
    . rw[aQ B] at w;obtain⟨A,f,s1,X,U,s4,s5,s6⟩:=old j l2 (aR B) w;refine⟨A,f,by rwa[aQ B],X,s4,fun k b g C M h=>?_,fun k l3 g L=>?_⟩
      . by_cases G:i=k;.subst G;rw[bu r] at M;cases M;exact U a h (by simp)
        .rw[aQ G] at C M;exact s5 k b g C M h
      . by_cases G:i=k;.subst G;rw[bu hi] at L;cases L;exact⟨a,bs,bu r,t,fun b h S=>U b S h⟩
        .rw[aQ G] at L;obtain⟨Y,s,u1,u2,u3⟩:=s6 k l3 g L;exact⟨Y,s,by rwa[aQ G],u2,u3⟩
structure TabAt(K:Kx)(H0 F H:Hp)(σ:St)(δ:En)(i:Nat)(a:Addr)(bs:List Addr)(T:Tr):Prop where
 is:δ[i]?=some (.p T)at':σ[i]?=some (some (.ref a))tab:Tab K F H a bs T
 free:∀b∈a::bs,H0 b=none/\F b=none
 dist:∀(j:Nat)(b:Addr),j≠i->Sl.own δ[j]?=true->σ[j]?=some (some (.ref b))->b∉a::bs
 one:∀(j:Nat)(T':Tr),j≠i->δ[j]?=some (.p T')->∃a' bs',σ[j]?=some (some (.ref a'))/\Tab K F H a' bs' T'/\∀b∈a'::bs',b∉a::bs
theorem az.tabAt(I:az K Λ F0 H0 F H σ δ)(b:δ[i]?=some (.p T)):∃a bs,TabAt K H0 F H σ δ i a bs T:=let⟨a,_,d,c,g,e,f⟩:=I.tab b;⟨a,_,b,d,c,g,e,f⟩
theorem TabAt.grow(t:TabAt K H0 F H σ δ i a bs T)(e:Ext F H F' H'):TabAt K H0 F' H' σ δ i a bs T:= ⟨t.is,t.at',t.tab.mono e.ff e.hh,fun b c=>let⟨o,h⟩:=t.tab.obj b c;⟨(t.free b c).1,e.nw b o (t.free b c).2 h⟩,t.dist,fun j p f g=>let⟨_,_,k,l,d⟩:=t.one j _ f g;⟨_,_,k,l.mono e.ff e.hh,d⟩⟩
theorem az.Gi{u:HO}(I:az K Λ F0 H0 F H σ δ)(t:TabAt K H0 F H σ δ i a bs T)(Y:b∈a::bs)(t':Tab K F (upd H b u) a bs' T')(sub:∀c∈bs',c∈bs): az K Λ F0 H0 F (upd H b u) σ (δ.set i (.p T')):=by
  have f:=t.is;have hi:i<δ.length:=(b'.mp f).1;have fb:=t.free b Y;have e:∀c∈a::bs',c∈a::bs:=fun c k=>by
    rcases aY.mp k with rfl|k;.simp
    .exact bJ _ (sub c k)
  have N:∀(j:Nat)(c:Addr),i≠j->Sl.own δ[j]?=true->σ[j]?=some (some (.ref c))->c≠b:=fun j c hj Q S g=>t.dist j c (aR hj) Q S (by simp_all);have ow:∀r:Nat,Sl.own (δ.set i (.p T'))[r]?=true->Sl.own δ[r]?=true:=by
    intro r h;by_cases g:i=r;.subst g;rw[f];rfl
    .rwa[aQ g] at h
  refine⟨⟨I.ext.ff,fun c w q=>?_,fun c w q=>?_,I.ext.nw⟩,by simp[I.len],fun j=>?_,fun j r c Gj s g2 g3 g4=>?_,fun y hy=>?_,fun j l2 s=>?_⟩;.rw[bj (dC q fb.1)];exact I.ext.hh c w q
  .rw[bj (dC q fb.2)];exact I.ext.fh c w q
  . by_cases g:i=j;.subst g;rw[bu hi];exact⟨a,bs',t.at',t',fun c k=>t.free c (e c k)⟩
    .rw[aQ g];have w:=I.slot j;cases q:δ[j]? with |none=>trivial |some y=> rw[q] at w;cases y with |no=>trivial |v d=>exact w |o d=>obtain⟨c,C,Z,U,w4⟩:=w;exact⟨c,C,Z,U,w4.at (bj (N j c g (by rw[q];rfl) C))⟩ |l d=>obtain⟨c,C,Z,U,w4⟩:=w;exact⟨c,C,Z,U,w4.at (bj (N j c g (by rw[q];rfl) C))⟩ |p l2=> obtain⟨a',bs',M,J,G⟩:=t.one j l2 (aR g) q;obtain⟨c,cs,C,Z,U⟩:=w;rw[M] at C;cases C;have X:=wC Z J;subst X;exact⟨_,cs,M,J.at' fun x f=>bj fun z=>G x f (z▸Y),U⟩
  .exact I.dist j _ c Gj (ow j s) (ow _ g2) g3 g4
  . obtain⟨⟨d2,s⟩,g2,g3⟩:=I.gu y hy;have ne:i≠y.1:=by intro g;simp_all
    exact⟨⟨_,by rwa[aQ ne]⟩,g2,by rwa[bj (N _ _ ne (by rw[s];rfl) g2)]⟩
  . by_cases g:i=j
    . subst g;rw[bu hi] at s;cases s;refine⟨a,_,t.at',t',fun c k=>t.free c (e c k),fun r c A Q S k=>?_,fun r l3 A B=>?_⟩;.exact t.dist _ c A (ow _ Q) S (e c k)
      .rw[aQ (aR A)] at B;obtain⟨a',cs,M,J,G⟩:=t.one _ _ A B;exact⟨_,_,M,J.at' fun x f=>bj fun z=>G x f (z▸Y),fun x f L=>G x f (e x L)⟩
    . rw[aQ g] at s;obtain⟨a2,bs2,s1,s2,s3,s4,s5⟩:=I.tab s;obtain⟨a',cs,M,J,G⟩:=t.one j _ (aR g) s;rw[M] at s1;cases s1;have X:=wC s2 J;subst X;refine⟨_,_,M,J.at' fun x f=>bj fun z=>G x f (z▸Y),s3,fun r c A Q S k=>s4 _ c A (ow _ Q) S k,fun r l3 A B=>?_⟩;by_cases e2:i=r;.subst e2;rw[bu hi] at B;cases B;exact⟨a,_,t.at',t',fun x f L=>G x L (e x f)⟩
      .rw[aQ e2] at B;obtain⟨a3,U9,v1,v2,v3⟩:=s5 _ _ A B;obtain⟨a4,U_,x1,x2,x3⟩:=t.one _ _ (aR e2) B;rw[v1] at x1;cases x1;have X:=wC v2 x2;subst X;exact⟨_,_,v1,v2.at' fun x f=>bj fun z=>x3 x f (z▸Y),v3⟩
def tabOf:Option Sl->Option (List (List Int)) |some (.p T)=>U2 T |_=>none
def zAI(i:Nat)(mk mj me:En->R D)(δ:En):O:=match tabOf δ[i]? with
 |some b=>(me δ).fu δ fun v=>(mk δ).fu δ fun k=>match v,k with |.int v,.int k=>(match gK b.length k with |some c=>(match b[c]? with |some a=>(mj δ).fu δ fun j=>(match j with |.int j=>(match gK a.length j with|some d=>.nx (δ.set i (.p (rq (b.set c (a.set d v)))))|none=>.no) |_=>.no) |none=>.no) |none=>.no) |_,_=>.no
 |none=>.no
def Gk(i:Nat)(δ:En):O:=match δ[i]? with|some (.p T)=>.ro (jt T)|_=>.no
open Classical in
def jw(F H:Hp)(bs:List Addr):Hp:=fun b=>if b∈bs then H b else F b
mutual
theorem Mn {F1 : Hp} (s : aC F F1) : ∀ (T : Tr) {v : V} {fp : List Addr}, cL K F H T v fp -> (∀ b ∈ fp, F1 b = H b) -> Rep K F1 (jt T) v
 | .d x, v, fp, h, _ => Rep.mono s x h.2
 | .l _, v, fp, h, e => by
  obtain ⟨a, f, y, rfl, p, k, j⟩ := h
  subst p
  exact ⟨a, _, rfl, (e a (by simp)).trans k, C' s _ j fun b g => e b (bJ _ g)⟩
 | .t _, v, fp, h, e => by
  obtain ⟨a, f, rfl, k, j⟩ := h
  exact ⟨a, _, rfl, s _ _ k, C' s _ j e⟩
theorem C' {F1 : Hp} (s : aC F F1) : ∀ (o : List Tr) {f : List V} {fp : List Addr}, aK K F H o f fp -> (∀ b ∈ fp, F1 b = H b) -> aF K F1 (fe o) f
 | [], f, fp, h, _ => by
  simp only [aK] at h
  rw [h.1]
  simp only [fe]
  exact .nil
 | t :: o, f, fp, h, e => by
  simp only [aK] at h
  obtain ⟨v, r, w, q, rfl, p, k, j⟩ := h
  subst p
  simp only [fe]
  exact .cons (Mn s t k fun b g => e b (jE _ g)) (C' s o j fun b g => e b (dz _ g))
end
theorem U':SS K XO E (ph (cS i)) (Gk i):=by
  intro Λ F0 H0 F H σ δ Dn I a;unfold Gk at a;split at a
  . rename_i T q;obtain⟨p,e,v,r,f,_⟩:=I.tab q;have k:aC F (jw F H _):=fun b o h=>by unfold jw;rwa[ao fun z=>by rw[(f b (bJ _ z)).2] at h;cases h]
    have A:aC (jw F H e) H:=fun b o h=>by
      unfold jw at h;split at h;.exact h
      .exact I.same b o h
    have B:jw F H e p=none:=by unfold jw;rw[ao (gp.mp r.nd).1];exact(f p (by simp)).2
    refine⟨_,v,a p _ H ⟨I.ext.ff.trans k,I.ext.hh,A,fun b o g c=>?_⟩ B (f p (by simp)).1 ?_⟩;.unfold jw;rw[ao fun z=>by rw[(f b (bJ _ z)).1] at c;cases c];exact I.ext.nw b o g c
    . have j:=r.ok;have s:∀b∈e,jw F H e b=H b:=fun b s=>by unfold jw;grind
      cases T with |d x=>cases j.1 |t w=> obtain⟨J,C,g,c,_⟩:=j;cases g;simp_all |l w=> obtain⟨J,C,L,g,c,G,y⟩:=j;cases c;exact⟨_,G,C' k _ y s⟩
  .exact a.elim
end
end PM
namespace L2
open PySem PySem.Spec PyProof.Rows
section
variable{X:Cx}{x:Str}{np Fj pos:Pos}{body:List Stmt}{Fl:Stmt}{A4:List Stmt}{D':Addr}{tb:(St->XK)->TS}{th:TS}
end
end L2
namespace PM
open PySem L2
section
variable{K:Kx}{E:L2.St->XK}
end
end PM
namespace L2
open PySem PySem.Spec PyProof.Rows
section
variable{prog:Program}{w:World}{A:Around}{R:Result->Shared->Prop}{I S:Addr}{fp wr:List Addr}{n:Nat}{P:Nat->Value->Prop}{St:Nat->Heap->Prop}{bt:Nat->Nat->Bool}
end
end L2
namespace PM
open PySem L2
section
variable{K:Kx}
end
end PM
namespace L2
open PySem PySem.Spec PyProof.Rows
section
variable {X : Cx}
def Mo(c:TA):TE:=fun d H Q=>c d H fun b a=>∃i j:Int,b=[.int i,.int j]/\∀r,a r=none->Q (.ref r) (upd a r (.lI i j))
theorem Mp(l:Gl X "range")(n:X.mg "range"=none)(g:PA X [a,b] k)(w:starEach [a,b] X.env=[(false,eval a X.env),(false,eval b X.env)]:=by rfl)(c:starEach [b] X.env=[(false,eval b X.env)]:=by rfl):PE X (.Call (.Name "range" p) [a,b] [] pos) (Mo k):=by intro f s A H Q I h;refine Call_ (pe I l n boot_range (eW (bS (g _ _ s _ H _ I h) fun v z ⟨_,_,d,m,r⟩=>?_) (by simp_all) (by rw[c];rfl)));obtain⟨i,j,e,q⟩:=r;subst e;obtain⟨u,y,rfl,⟨t,rfl⟩,⟨x,rfl⟩⟩:=AL m;refine call_range_2 ⟨.ref _,_,?_,rfl,q _ (d.bI.fresh (aG _))⟩;exact d.laid (fun b o e=>aO _ e) (aG _) ⟨_,_,_,cg _ rfl⟩
def Mq:List V->Hp->VK->Prop:=fun a H Q=>∃(r:Addr) (i j:Int),a=[.ref r]/\H r=some (.lI i j)/\(0<=i/\i<=j/\j<=100000)/\∀l,H l=none->Q (.ref l) (upd H l (.lst ((List.range (j-i).toNat).map fun k:Nat=>.int (i+(k:Int)))))
theorem Mr(E:X.calm=true):mV X (.type "list") Mq:=by
 rintro m s σ H S T Q I r ⟨D,i,j,rfl,C,hj,q⟩;obtain⟨u,rfl,G⟩:=mD r;cases G;obtain⟨M,N,U,e⟩:=I.bI D _ C;have y:Builtin.Range.rangeSize i j 1=((j-i).toNat:Int):=by rw[l7];lia
 refine call_list_range (I.ok.hd E) e (small_one (by omega) (by omega) (by lia) (by omega)) y (by lia) fun O Y w c' x Z a=>(⟨.ref _,_,?_,rfl,q _ (I.bI.fresh (aG _))⟩);obtain⟨R,B⟩:=a;refine I.laid x (aG _) ⟨by rw[aW,qi];exact bK (by lia) (show 100000<=sizeLine by decide),_,_,?_,by omega⟩;have c:∀(n:Nat)(l:List _)(o:Nat),l.length=n->(∀k v,l[k]?=some v->∃t,v=Value.int (i+(o+k:Nat)) t)->Vals ((List.range' o n).map fun k:Nat=>V.int (i+k)) l:=by intro n;induction n with |zero=>intro l o b _;rw[lG.mp b];exact .nil |succ n A=> intro l o b p;cases l with |nil=>simp at b |cons v l=> obtain⟨t,rfl⟩:=p 0 v rfl;refine .cons ⟨t,rfl⟩ (A l _ (by simpa using b) fun k v h=>?_);obtain⟨L,J⟩:=p (k+1) v (by grind);exact⟨_,by rw[J];congr 3;try lia⟩
 have:=c _ _ 0 (by omega) fun k v h=>let⟨t,_⟩:=B k v (by simpa using h);⟨t,by congr 1⟩;rw[List.range_eq_range'];omega
end
end L2
namespace PM
open PySem L2
section
variable{K:Kx}{XO:c5}{E:L2.St->XK}
def wO(l:List D):Option D:=match l with |[.int i,.int j]=>cH (0<=i/\i<=j/\j<=100000) (some (.lst ((List.range (j-i).toNat).map fun k:Nat=>.int (i+(k:Int))))) none |_=>none
def x_(ml:En->R (List D))(δ:En):R D:=(ml δ).bind fun l=>R.of (wO l)
theorem Va(h:wO l=some d):∃i j:Int,l=[.int i,.int j]/\(0<=i/\i<=j/\j<=100000)/\d=.lst ((List.range (j-i).toNat).map fun k:Nat=>.int (i+(k:Int))):=by
  unfold wO at h;split at h
  . rename_i i j;unfold cH at h;split at h;.cases h;exact⟨i,j,rfl,by omega,rfl⟩
    simp_all
  simp_all
theorem Ms(h:SA K XO E u ml):iK K XO E (rR Mq (fR (Mo u) cV)) (x_ ml):=by intro C B y F H z x Q I a;refine h _ _ _ F H _ _ _ I (a.bind.imp fun G s A f c J r=>?_);cases q:wO _ with |none=>rw[q] at c;exact c.elim |some d=> rw[q] at c;obtain⟨i,j,rfl,t,rfl⟩:=Va q;obtain⟨v,L,rfl,p,w⟩:=r;obtain⟨N,rfl,g⟩:=aF.one w;subst p g;refine⟨i,j,rfl,fun M m=>⟨_,i,j,rfl,cw,t,fun l o=>?_⟩⟩;have e:Ext _ _ _ (upd _ _ (.lI i j)):=.fD f.fh m;have b:=e.hh.free o;refine c _ _ (e.trans (.fD e.fh o)) l (f.fh.free b) (f.hh.free b) ⟨_,cw,?_⟩;have:=aF.ints (K:=K) (F:=s) (ns:=(List.range (j-i).toNat).map fun k:Nat=>i+k);rwa[cK,cK] at this
end
end PM
namespace L2
open PySem PySem.Spec PyProof.Rows
section
variable{X:Cx}{a b c:Expr}{ta tb tc:TE}{pos:Pos}
theorem Vb{bs:List Bool}(e:Vals (bs.map V.bl) its):its=bs.map Value.bool:=by induction bs generalizing its with |nil=>cases e;rfl |cons a l g=> cases e with |cons h t=> have:_=Value.bool a:=h;grind
end
end L2
namespace PM
open PySem L2
section
variable{K:Kx}{XO:c5}{E:L2.St->XK}{ta tb tc:TE}{ma mb mc:En->R D}
noncomputable def lh:List D->Option (List Bool) |[]=>some [] |.bl b::l=>(lh l).map fun c=>b::c |_::_=>none
theorem Mt:∀{l:List D}{bs:List Bool},lh l=some bs->l=bs.map .bl |[],_,h=>by cases h;rfl |d::l,bs,h=>by cases d with
 |bl b=> unfold lh at h;cases q:lh l with |none=>simp_all |some r=>rw[q] at h;cases h;rw[Mt q];rfl
 |_=>cases h
theorem kI(bs:List Bool):lh (bs.map .bl)=some bs:=by induction bs with |nil=>rfl |cons b bs c=>simp[lh,c]
theorem Mu:∀{bs:List Bool}{vs:List V},aF K F (bs.map .bl) vs->vs=bs.map V.bl |[],vs,h=>h |b::bs,vs,h=>by obtain⟨v,r,rfl,e,d⟩:=h;have:=e;rw[this,Mu d];rfl
end
end PM
namespace L2
open PySem PySem.Spec PyProof.Rows
section
variable{X:Cx}{e st:Expr}{te ts:TE}{p2 pos:Pos}
end
end L2
namespace PM
open PySem L2
section
variable{K:Kx}{XO:c5}{E:L2.St->XK}{te ts:TE}{me ms:En->R D}
theorem aF.append':∀{l m:List D}{vs ws:List V},aF K F l vs->aF K F m ws->aF K F (l++m) (vs++ws) |[],_,vs,_,h,k=>by have:vs=[]:=h;simp_all |d::l,m,vs,ws,h,k=>by obtain⟨v,r,rfl,a,b⟩:=h;exact⟨v,_,rfl,a,aF.append' b k⟩
theorem aF.reverse:∀{l:List D}{vs:List V},aF K F l vs->aF K F l.reverse vs.reverse |[],vs,h=>by have:vs=[]:=h;simp_all |d::l,vs,h=>by obtain⟨v,r,rfl,a,b⟩:=h;rw[qt,qt];exact aF.append' (aF.reverse b) ⟨v,_,rfl,a,rfl⟩
end
end PM
namespace L2
open PySem PySem.Spec PyProof.Rows
theorem Vc:typeLookup (.type "list_reverseiterator") "__len__"=pure none:=by rw[typeLookup_type,builtinLookup_eq_fast];rfl
theorem Vd:typeLookup (.type "list_reverseiterator") "__length_hint__"=pure (some (.builtin "list_reverseiterator.__length_hint__")):=by rw[typeLookup_type,builtinLookup_eq_fast];kernel_rfl
section
variable {prog : Program} {w : World} {A : Around} {E : Value → Shared → Prop} {s : Shared}
theorem Ve(C:A.handled=none)(n:l≠I)(h:S≠I)(t:S≠l)(a:s.heap.IsRevIter I l ((items.size:Int)-1))(G:s.heap.IsList l items)(L:s.heap.get? S=some {cls:=.type "list",data:=.seq #[] y})(hz:items.size<=sizeLine) (D:∀h' tk c g,(∀b o,b≠S->b≠I->s.heap.get? b=some o->h'.get? b=some o)->h'.get? S=some {cls:=.type "list",dict:=none,data:=.seq c g,slots:=#[]}-> ItemsOf (fun i v=>items[items.size-1-i]?=some v) c items.size->R (.ok (.ret q)) {s with heap:=h',toks:=tk}): wpAny (model prog w) A.in1 (Builtin.List.listExtendWith (.ref S) (.ref I) q) (fun r s'=>match r with|.done f=>R (.ok f) s'|.again g=>g.quiet=true/\codeAny (model prog w) A g R s') (fun e s'=>R (.error e) s') s:=by
  have u:S∉[I,l]:=by simp[h,t]
  have B:Builtin.List.listSameRef (.ref S) (.ref I)=false:=by simp[Builtin.List.listSameRef,h]
  refine ah (jk a.typeIs ?_);have N:(Value.type "list_reverseiterator"==Value.type "list")=false:=by decide
  have M:(Value.type "list_reverseiterator"==Value.type "tuple")=false:=by decide
  simp[B,uH];refine ah (o5 a (ah (dB ?_)));refine ah (wpAny_specialOf a.typeIs Vc ?_);refine ah (wpAny_specialOf a.typeIs Vd ?_);generalize p:("list_reverseiterator.__length_hint__":String)=H;subst p;refine ah (wpAny_isInstance (b:=true) a.typeIs (by rw[isSubtype_type];kernel_rfl) (ax ?_));refine ax ⟨ko F.plain_extend_loop _,codeAny_extend_loopS ((Walks.listRev (prog:=prog) (w:=w) (A:=A.in1) C I l n _).toS) hz S u _ _ 0 _ _ _ rfl (bU _) ?_ L (ItemsOf.nil _) fun s' c g x k j=>?_⟩;.exact⟨bU _,by simpa using a,G⟩
  . rw[Moved.eq_with x];refine D _ _ _ _ (fun b o z m e=>x.heap b o (fun d=>?_) e) k j;rcases aY.mp d with J|d;.exact z J
    .exact m (bP.mp d)
theorem Vf(B:A.handled=none)(t:l≠I)(j:s.heap.IsRevIter I l ((items.size:Int)-1))(x:s.heap.IsList l items)(hz:items.size<=sizeLine) (z:∀h' tk a u,(∀b o,b≠I->s.heap.get? b=some o->h'.get? b=some o)->h'.get? s.heap.objs.size=some {cls:=.type "list",dict:=none,data:=.seq a u,slots:=#[]}-> ItemsOf (fun i v=>items[items.size-1-i]?=some v) a items.size->Q (.ref s.heap.objs.size) {s with heap:=h',toks:=tk}): wpAny (model prog w) A (call (.type "list") [.ref I]) Q E s:=by refine callType_codes (Q₁:=fun m c=>m=.ref s.heap.objs.size/\c={s with heap:=s.heap.push {cls:=.type "list",data:=.seq #[]}}) F.called_list (F.typeCall_list_1 _) F.entry_list_init (code_list_new _ ⟨rfl,rfl⟩) fun m c g=>?_;obtain⟨rfl,rfl⟩:=g;have p:(s.heap.push {cls:=.type "list",data:=.seq #[]}).get? _=some _:=cg _ rfl;have k:=let⟨o,e,_⟩:=j;aM e;have n:=let⟨o,e,_⟩:=x;aM e;refine⟨⟨_,p,rfl⟩,F.args_list_init_2 _ _,?_⟩;refine ah (ah (eG p rfl (ax ?_)));refine ah (mu p rfl ?_);have f:=jC (Obj.mapSeq (fun _=>(#[]))) p rfl;have d:∀b o,b≠s.heap.objs.size->s.heap.get? b=some o->((s.heap.push {cls:=.type "list",data:=.seq #[]}).update _ (Obj.mapSeq (fun _=>#[]))).get? b=some o:= fun b o r e=>(fO _ _ (aR r)).trans (aO _ e);exact Ve B t (eU k) (eU n) (j.at fun o e=>d I o (a_ k) e) (x.at fun o e=>d l o (a_ n) e) f hz fun h' tk a u y q h=>⟨rfl,z _ _ _ _ (fun b o r e=>y b o (a_ (aM e)) r (d b o (a_ (aM e)) e)) q h⟩
end
section
variable{X:Cx}{l:Expr}{tl:TE}
def Mv(K:PySem.W.Frag)(tl:TE):TE:=fun d H Q=>tl d H fun x b=>∃a c,x=.ref a/\fX K b a c/\∀p,b p=none->Q (.ref p) (upd b p (.lst c.reverse))
theorem Vg(O:X.calm=true)(N:Gl X "list")(R:X.mg "list"=none)(n:Gl X "reversed")(k:X.mg "reversed"=none)(J:PE X l tl)(y:starEach [l] X.env=[(false,eval l X.env)]:=by rfl): PE X (.Call (.Name "list" p) [.Call (.Name "reversed" p') [l] [] z] [] pos) (Mv X.K tl):=by
  intro A s σ H Q I h;refine Call_ (pe I N R eF (eW ?_ rfl rfl));refine nz (Call_ (pe I n k boot_reversed (eW ?_ y rfl)));rw[y];refine nz (bS (J _ s _ H _ I h) fun u s1 ⟨x,_,j,G,B⟩=>(p6 ?_));obtain⟨a,S,rfl,D,q⟩:=B;cases G;obtain⟨f,r,t,hz⟩:=j.list D;have w:=r.length;refine call_reversed_list t.isList (p6 ?_);have v:=let⟨o,e,_⟩:=t.isList;aM e;refine Vf (j.ok.hd O) (a_ v) ⟨_,cg _ rfl,rfl,rfl⟩ (t.isList.push _) (by simp_all) fun U Z c Y M m d=>?_;have E:c=f.reverse.toArray:=by
    have T:c.size=f.length:=by have:=d.1;omega
    apply Array.ext';apply kd;intro i;by_cases L:i<f.length
    . have C:i<c.size:=by lia
      have:=d.2 i c[i] (by rw[Array.getElem?_eq_getElem _]);rw[d9,List.getElem?_toArray] at this;rw[xh,Array.getElem?_eq_getElem C,List.getElem?_reverse L,<-this]
    .rw[jD.mpr (by grind),jD.mpr (by simpa using by lia)]
  subst E;refine⟨.ref _,_,j.laid (o:=.lst _) (fun b ob e=>M b _ (a_ (aM e)) (aO _ e)) ?_ ⟨by rwa[ke],_,_,r.reverse,m⟩,rfl,q _ (j.bI.fresh ?_)⟩;.rw[iO];omega
  .rw[iO];omega
end
end L2
namespace PM
open PySem L2
section
variable{K:Kx}{XO:c5}{E:L2.St->XK}{te:TE}{me:En->R D}
def Gm(me:En->R D)(δ:En):R D:=(me δ).bind fun d=>match d with|.lst l=>.ok (.lst l.reverse)|_=>.no
theorem Vh(h:lK K XO E te me):iK K XO E (Mv K.f te) (Gm me):=by intro m k j F H t u Q I a;refine h _ _ _ F H _ _ _ I (a.bind.imp fun d s o b e v r=>?_);cases d with |lst l=> obtain⟨p,n,rfl,g,i⟩:=r;refine⟨p,_,rfl,.inl g,fun q c=>e _ _ (.fD b.fh c) q (b.fh.free c) (b.hh.free c) ⟨_,cw,aF.reverse i⟩⟩ |_=>exact e.elim
end
end PM
namespace L2
open PySem PySem.Spec PyProof.Rows Builtin Builtin.ObjectAttr
def Gn:List Value->Bool |.ref _::r=>Gn r |l=>l==[.type "ValueError",.type "Exception",.type "BaseException",.type "object"]
theorem Mw(b:Value):∀{l:List Value},Gn l=true->refuseLoop b "__setattr__" l=pure () |.ref c::r,e=>by rw[refuseLoop_ref];exact Mw _ e |[],e=>rfl |.type n::r,e=>by have:=e_.mp e;rw[this];exact PySem.F.store_ValueError.passes _ |.none::r,e=>by have:=e_.mp e;simp_all |.bool _::r,e=>by have:=e_.mp e;simp_all |.int _ _::r,e=>by have:=e_.mp e;simp_all |.str _ _::r,e=>by have:=e_.mp e;simp_all |.builtin _::r,e=>by have:=e_.mp e;simp_all
def Gp(K:PySem.W.Frag)(C:Addr):Bool:=(PySem.W.clsIn K C).any fun a=>Gn a.mro
section
variable{prog:Program}{w:World}{A:Around}{E:Value->Shared->Prop}{s:Shared}{K:PySem.W.Frag}{x C:Addr}{ox:Obj}{od:Option Obj}{name:Str}{tk:Tok}{v:Value}{R:Result->Shared->Prop}
theorem Vi(X:K.In s.heap)(I:PySem.W.InstAt s.heap x ox C od)(i:PySem.W.mroIn K C (.type "object")=some true)(t:Gp K C=true)(o:PySem.W.takerIn K C name=some none) (h:∀b,wpAny (model prog w) A.in1 (storeInOwnDict (.ref x) (.ref C) (.str name tk) name v b) (fun j s'=>match j with|.done f=>R (.ok f) s'|.again k=>k.quiet=true/\codeAny (model prog w) A k R s') (fun e s'=>R (.error e) s') s): codeAny (model prog w) A (.call (.builtin "object.__setattr__") ⟨[.ref x,.str name tk,v],[]⟩) R s:=by
 have d:=PySem.F.store_object;obtain⟨z,y,q⟩:=oO t;have g:PySem.W.Looks (model prog w) s.heap (isInstance _ _) _:=I.type.andThen (PySem.W.looks_mroIn X i);refine oW d.slot.plain d.entry (@PySem.W.check_slot _ _ _ s _ _ _ _ _ _ _ d.kind d.split g (d.args _ _ v) ?_);obtain⟨c,m,u⟩:=Option.bind_eq_some_iff.mp o;have l:PySem.W.Looks (model prog w) _ (mroOf (.ref C)) _:=(oS X y).andThen .now;have p:PySem.W.Looks (model prog w) s.heap (storeTaker? c) none:=by cases c with |none=>exact .now |some a=>
  obtain⟨b,n,r⟩:=oE.mp u;refine(PySem.W.looks_takesIn X n).andThen ?_;cases b;.exact .now
  simp_all
 rw[PySem.W.osa_eq,refuse_eq];refine ah (ah (I.type.here (ah (l.here ?_))));rw[Mw _ q];exact ax (ah (I.type.here (ah ((PySem.W.looks_findIn X m).here (ah (p.here (h _)))))))
theorem Vj(X:K.In s.heap)(p:s.heap.get? x=some ox)(L:ox.cls=.ref C)(q:ox.dict=none)(k:ox.data=.fields vs) (Y:PySem.W.findIn K (.ref C) "__setattr__"=some (some (.builtin "object.__setattr__")))(N:PySem.W.mroIn K C (.type "object")=some true)(c:Gp K C=true)(ht:PySem.W.takerIn K C name=some none)(hh:PySem.W.hasDictIn K C=true) (h:∀h' M,(∀b o,b≠x->s.heap.get? b=some o->h'.get? b=some o)->h'.get? x=some {ox with dict:=some s.heap.objs.size}->h'.Ns1 s.heap.objs.size (fun y=>if y=name then some v else none)->s.heap.objs.size+1<=h'.objs.size->Q () {s with heap:=h',toks:=M}): wpAny (model prog w) A (setAttr (.ref x) name v) Q E s:=by
 have I:PySem.W.InstAt s.heap x ox C none:=⟨p,L,by unfold PySem.W.notCls;rw[k],by simp_all⟩;refine PySem.W.set_plain X I Y (Vi (s:={s with toks:=s.toks+1}) X I N c ht fun b=>?_);obtain⟨cd,B,G⟩:=oO hh;obtain⟨c,g,d,t,os⟩:=s;obtain⟨oc,odi,Vk,m⟩:=ox;dsimp at L q k p h X I⊢;subst L q k;obtain⟨l,a⟩:∃l:Obj,l={cls:=.type "dict",data:=.dict #[]}:=⟨_,rfl⟩;obtain⟨n,f⟩:∃n:Heap,n=(c.push l).update x fun u=>{u with dict:=some c.objs.size}:=⟨_,rfl⟩;have S:x≠c.objs.size:=fun z=>absurd (aM p) (by simp_all);have O:(c.push l).get? x=some ⟨.ref C,none,.fields vs,m⟩:=aO _ p;refine ah (ax (ah (ah (wpAny_loadPart p (ah ((oS X B).here ?_))))));rw[G];rw[<-a];refine ah (wpAny_alloc' (ah (wpAny_update' O (ax ?_))));have H:n.get? c.objs.size=some l:=by rw[f];exact(Heap.get?_update_ne _ _ _ _ (aR S)).trans (Heap.get?_push_at rfl (by rw[a];rfl))
 have j:n.Ns1 c.objs.size (fun _=>none):=Heap.Ns1.of_empty ⟨l,#[],_,H,by rw[a],fun u hu=>absurd hu (by simp),fun _=>rfl⟩;rw[<-f];refine ah (ax (ah (wpAny_nsSet1 j fun U T same=>?_)));obtain⟨oD,_,_,r,i,D⟩:=T.count (Within.cons name v Within.nil);refine ah (wpAny_lookBehind r ?_ ?_);.rw[i];refine pastItsLine_dict (bK D ?_);grind
 wp_walk;have Z:n.get? x=some ⟨.ref C,some c.objs.size,.fields vs,m⟩:=by rw[f];exact jC _ O rfl
 refine h U _ (fun b u nb e=>?_) ((same.2 x S).trans Z) T (aM r);have J:b≠c.objs.size:=fun z=>absurd (aM e) (by rw[z];exact de _);refine(same.2 b J).trans ?_;rw[f];exact(Heap.get?_update_ne _ _ _ _ nb).trans (aO _ e)
end
structure s_(K:PySem.W.Frag)(C:Addr):Prop where
 z:gQ K C
 sa:PySem.W.findIn K (.ref C) "__setattr__"=some (some (.builtin "object.__setattr__"))ov:Gp K C=true
def jR(C:Addr)(b:Option Addr)(vs:Array Value)(ea:Addr):HO:=.ext fun h=>∃a,h.get? ea=some a/\a.cls=.ref C/\a.dict=b/\a.data=.fields vs
theorem Mx(h1:h.get? ea=some b)(h2:b.cls=.ref C)(h3:b.dict=a)(g:b.data=.fields vs):dv P w H h ea (jR C a vs ea):= ⟨⟨_,h1,h2,h3,g⟩,⟨_,h1⟩,fun j i ⟨_,e,f,c,d⟩ k=>⟨_,k _ e,f,c,d⟩⟩
def Vl(K:PySem.W.Frag)(h g:TE)(f:Str):TS:=fun D c H=>g c H fun y i=>h c i fun x b=>∃a C e,x=.ref a/\b a=some (jR C none e a)/\s_ K C/\aE K C f/\ ∀d,b d=none->D.nx c (upd (upd b a (jR C (some d) e a)) d (.xd [(f,y)]))
section
variable{X:Cx}{o e value:Expr}{f:Str}{pos pos' AM:Pos}{ta tv:TE}
theorem Mz(B:PE X o ta)(M:PE X value tv)(T:swapsWith value (some (.Attribute o f pos')) pos.line X.env=pure false):PS X (.Assign [.Attribute o f pos'] value pos) (Vl X.K ta tv f):=by
  intro m s σ H D I h;refine plainObj_wpAny_Assign_Attribute (bS (M _ s _ H _ I h) fun u s1 ⟨y,_,R,_,q⟩=>bS (B _ _ _ _ _ R q) fun J t ⟨x,_,b,E,a,C,_,U,i,c,n,G⟩=>?_) T;subst U;obtain rfl:J=Value.ref a:=E;obtain⟨⟨ob,Y,w,Z,l⟩,_⟩:=b.bI a _ i;refine Vj b.iD Y w Z l c.sa c.z.hm c.ov n.wm c.z.hd fun L j hk d N S=>?_;have r:=b.bI.fresh (aG _);have k:t.heap.objs.size≠a:=fun z=>by rw[<-z,r] at i;cases i
  have O:Inv X _ _ _ {t with heap:=L,toks:=j}:=b.write (by rw[i];exact True.intro) (.inl rfl) hk ⟨_,d⟩ (Mx d w rfl l);refine⟨_,_,O.wB (by rwa[bj k]) ?_ ?_ ?_ ?_ ?_,G _ r⟩;.exact lA b.sz
  .exact eU b.lt
  .intro x c e;obtain⟨v,o,Q,_⟩:=b.cell x c e;exact a_ (aM Q)
  .intro p A;exact a_ (aM (b.pin p A).1)
  . refine⟨_,N,fun g=>?_⟩;show hO (match g==f with|true=>some y|false=>none) _;by_cases z:g=f;.rwa[aq z,show(g==f)=true by grind]
    .rw[ao z,show(g==f)=false by simpa using z];trivial
end
section
variable{M:Model}{A:Around}{E:Value->Shared->Prop}{s:Shared}{B:Heap}{env:Env}{outer l:List Env}{L e:Addr}{Q:Unit->Shared->Prop}
theorem Vm(c:A.frames=some (env::outer))(g:env.frame=some L)(a:B.StaysIn s.heap)(h:s.heap.FunFrames B (env::outer))(f:s.heap.get? e=some b)(hd:b.data=.fields vs)(h1:vs[1]?=some .none)(d:B.get? e=none) (k:∀h',kD B (env::outer) e b.cls b.dict (rawInt L) h'->s.heap.UpToSlots h'->Q () {s with heap:=h'}):wpAny M A (noteFrame (.ref e) env) Q E s:=by unfold noteFrame;simp[g];exact ah (cm f hd h1 (Fd c h g f hd (uF.mp h1).1 a d k))
end
def kJ(H:Hp)(a:Addr):Hp:=fun b=>if b=a then none else H b
theorem x'(h:b≠a):kJ H a b=H b:=by unfold kJ;simp_all
section
variable {P : Program} {w : World} {K : PySem.W.Frag} {mg : Str → Option Value} {base : Heap} {N : List Str} {qual : Str} {scope : Scope} {f : Addr} {cd : Value} {A : Around} {outer : List Env} {s0 : Shared} {H0 : Hp} {E : XK}
theorem Vn(I:Inv (kF P w K mg base N qual scope f cd A outer s0 H0 E) pins σ H s)(r:H ea=some (jR C p vs ea))(h0:s0.heap.get? ea=none)(M:vs[1]?=some .none) (q:E (.ref C) p (kJ H ea)):(kF P w K mg base N qual scope f cd A outer s0 H0 E).xe (.ref ea) s:=by
  obtain⟨⟨ob,Y,X,g3,g4⟩,_⟩:=I.bI ea _ r;have D:∀i∈(kF P w K mg base N qual scope f cd A outer s0 H0 E).stack,∀a,i.frame=some a->a∈ea::kZ (kF P w K mg base N qual scope f cd A outer s0 H0 E).stack:=fun i r a T=>bJ _ (lH.mpr ⟨i,r,T⟩);have h:=I.stack;refine ah (Vm (B:=PySem.W.hideAll s.heap (ea::kZ (kF P w K mg base N qual scope f cd A outer s0 H0 E).stack)) I.ok.frames rfl (fun b o e=>oU _ e) (PySem.W.funFrames_hide h D) Y g4 M (PySem.W.hideAll_none _ (by simp)) fun h1 U up1=>(Fe U fun Z y t=>?_));have g:∀b o,s.heap.get? b=some o->b∉ea::kZ (kF P w K mg base N qual scope f cd A outer s0 H0 E).stack->(PySem.W.hideAll s.heap (ea::kZ (kF P w K mg base N qual scope f cd A outer s0 H0 E).stack)).get? b=some o:=fun b o e c=>oQ _ e c;have d:∀{b:Addr}{u:HO},H b=some u->(∀O,u≠.ext O)->b≠ea:=fun e n z=>by subst z;rw[r] at e;exact n _ (dU e).symm
  have l:Un (kF P w K mg base N qual scope f cd A outer s0 H0 E).fs [] H0 (kJ H ea) s0.heap s.heap:=⟨I.base.keep,I.base.slot,fun b o e n S=>by
      unfold kJ;split;.rfl
      .exact I.base.free b o e n S,I.base.there,fun b J e=>by have z:=I.base.kA b J e;rwa[x' (d z (fun _ w=>by cases w))],fun b o u e=>by have z:=I.base.jJ b o u e;rwa[x' (d z (fun _ w=>by cases w))],fun b Q e=>let⟨m,z⟩:=I.base.iC b Q e;⟨m,by rwa[x' (d z (fun _ w=>by cases w))]⟩⟩;obtain⟨u,j⟩:=Ff (h1:=s0.heap) (h2:=s.heap) (h3:=Z) (B:=PySem.W.hideAll s.heap (ea::kZ (kF P w K mg base N qual scope f cd A outer s0 H0 E).stack)) (fr:=kZ (kF P w K mg base N qual scope f cd A outer s0 H0 E).stack) Un.refl (l.mono (fun b c=>bJ _ c) (fun b c=>c)) I.ok.above I.gG (fun b c=>bJ _ c) I.ok.t8 (fun b c o e=>by obtain⟨_,x,R,hn⟩:=h.mem (bJ _ c);simp_all) (up1.trans t) y.stays (fun b o e c=>by
      obtain⟨x,e'⟩:=I.base.there b o e (by show b∉[];simp);have L:b≠ea:=fun z=>by simp_all
      refine⟨x,g b x e' (fun z=>(aY.mp z).elim L c),fun n=>?_⟩;have k:=I.base.keep b o e n (fun z=>c (bJ _ z)) (by show b∉[];simp);simp_all);refine⟨ea,C,p,kJ H ea,rfl,⟨I.os,I.bare,u,_,by rw[X,g3] at y;exact y.pop,?_,j⟩,q⟩;intro a o e;have G:a≠ea:=fun z=>by unfold kJ at e;simp_all
  rw[x' G] at e;refine(I.bI a o e).iB (fun b v c q=>g b v q fun z=>?_) (fun b q=>by rwa[x' (d q (fun _ w=>by cases w))]) fun b _ q=>by rwa[x' (d q (fun _ w=>by cases w))]
  rcases aY.mp z with z|z
  . subst z;rcases c with c|c;.exact G c.symm
    .exact d c (fun _ w=>by cases w) rfl
  . have n:=I.jT b z;rcases c with rfl|c;.rw[e] at n;cases n
    .rw[c] at n;cases n
end
theorem Vo{K:PySem.W.Frag}(X:K.In h)(G:h.Ns N m)(e:PySem.W.nsIn K N n=some (some v)):m n=some v:=by
  obtain⟨o,i,g,c,f,_,d⟩:=G;unfold PySem.W.nsIn at e;split at e
  . rename_i b;cases((X _ _ b).symm.trans c);cases f;split at e;.rename_i a;cases e;refine(d n).symm.trans ?_;simp only[nsFind,findBy];rw[<-Array.find?_toList,a];rfl
    simp_all
  .cases e
noncomputable def zo(K:PySem.W.Frag)(C:Addr)(b:List Value)(newId:String)(d:Addr):Bool:=match K.lookup C with |some ⟨.type "type",_,.cls a,e⟩=>(match a.mro,e.toList with |.ref c::f,[_,_,_,_,some (.builtin n),_]=>c==C&&n==newId&&!a.hasDel&&PySem.W.tailIn K b f&&PySem.W.nsOkIn K a.ns&&PySem.W.nsIn K a.ns "__init__"==some (some (.ref d)) |_,_=>false) |_=>false
theorem Vp{K:PySem.W.Frag}(X:K.In h)(q:zo K C d newId g=true): ∃bm N nm e bs hdct sn sub ab col dd k0 k1 k2 k3 k5 mN,h.get? C=some (excClassObj nm e C N bs bm hdct sn sub ab col dd k0 k1 k2 k3 k5 newId)/\h.Ns N mN/\mN "__init__"=some (.ref g)/\OwnTail h d bm:=by
  unfold zo at q;split at q
  . rename_i dd f p l;split at q;.rename_i t bm k0 k1 k2 k3 n k5 k m;simp[e_] at q;obtain⟨⟨⟨⟨⟨rfl,rfl⟩,a⟩,o⟩,b⟩,c⟩:=q;obtain⟨nm,bs,r,u,e,s,sn,sub,ab,col,i⟩:=f;subst k a;obtain⟨j⟩:=p;subst m;exact⟨_,_,_,_,_,_,_,_,_,_,_,_,_,_,_,_,_,X _ _ l,.of_isNs (oR X b),Vo X (.of_isNs (oR X b)) c,PySem.W.tail_of_in X o⟩
    simp_all
  simp_all
section
variable{M:Model}{A:Around}{E:Value->Shared->Prop}{env:Env}
variable{nm q:Str}{C N:Addr}{bs bm:List Value}{hdct:Bool}{sn:List Str}{sub:List Value}{ab:Bool}{col:Option Bool}{dd:Option Addr}{k0 k1 k2 k3 k5:Option Value}{newId:String}
theorem Vq(b:bm.contains (.type "BaseException")=true)(n:A.handled=none) (h:wpAny M A x (fun v a=>∃e c,v=.ref e/\a.heap.get? C=some (excClassObj nm q C N bs bm hdct sn sub ab col dd k0 k1 k2 k3 k5 newId)/\ a.heap.get? e=some c/\c.cls=.ref C/\(∃vs,c.data=.fields vs/\vs[1]?=some .none)/\E (.ref e) a) E s): wpAny M A (raiseStmt env (some x) none) Q E s:=by
 have i:(Value.ref C::bm).contains (.type "BaseException")=true:=by rw[List.contains_cons,b,Bool.or_true]
 unfold raiseStmt;refine ah (di h (fun v a f=>?_) fun _ _ x=>x);obtain⟨e,c,rfl,p,w,k,⟨vs,l,o⟩,t⟩:=f;obtain⟨u,g,d,z,os⟩:=a;obtain⟨y,j,r,m⟩:=c;subst k l;repeat(first|with_reducible rfl|with_reducible rfl|(with_reducible refine wpAny_isSubtype_exc p ?_;rw[i])|wp_step)
 rw[o];refine ax ?_;exact ax (wpAny_raiseNew_none n t)
end
def Gq(X:Cx)(E:St->XK):Prop:=∀(b:List (Addr×Obj))(e:St)(H:Hp)(s:Shared)(c C:Addr)(a:Option Addr)(d:Array Value),Inv X b e H s->H c=some (jR C a d c)->X.fC.heap.get? c=none->d[1]?=some .none->E e (.ref C) a (kJ H c)->X.xe (.ref c) s
def Gr(C:Addr)(sp:Sp)(E:St->XK)(t:TA):TS:=fun _ f H=>t f H fun c d=>c.length<=sizeLine/\ ∀e b,d e=none->sp (.ref e::c) (upd d e (jR C none b e)) (fun v g=>v=.non/\∃a,g e=some (jR C a b e)/\E f (.ref C) a (kJ g e)) E0
section
variable {P : Program} {w : World} {K : PySem.W.Frag} {mg : Str → Option Value} {base : Heap} {N : List Str} {qual : Str} {scope : Scope} {f : Addr} {cd : Value} {A : Around} {outer : List Env} {s0 : Shared} {H0 : Hp} {E : XK}
theorem MA:Gq (kF P w K mg base N qual scope f cd A outer s0 H0 E) (fun _=>E):=fun _ _ _ _ _ _ _ _ I c b a q=>Vn I c b a q
end
section
variable{X:Cx}{CX:jo}{k:Nat}{fa:Addr}{fd:FuncData}{ps:List Str}{sp:Sp}{x:Str}{np dD pos:Pos}{iE:Expr}{rest:List Expr}{C:Addr}{mZ wx:List Value}{newId Bn B wz wA gO:String}{E:St->XK}{t:TA}
theorem Vr(hex:X.ex=[])(hc:X.calm=true)(hg:Gl X x)(Vs:X.mg x=some (.ref C))(hk:zo X.K C mZ newId fa=true)(Fn:ExcBaseFacts Bn newId wA wx)(Vt:mZ.contains (.type Bn)=true)(FB:ExcBaseFacts B wz gO mZ)(hE:Gq X E) (F:cz X.prog X.w X.K X.mg X.base CX k fa fd ps sp)(hr:cu (k+1) X.A)(hb:Binds X.K fd ps [])(Q:PySem.W.isFn X.K (.ref fa)=true)(hx:nI CX X E0) (ha:PA X (iE::rest) t)(he:starEach (iE::rest) X.env=(false,eval iE X.env)::starEach rest X.env:=by rfl)(i:(backTo dD (starEach rest X.env)).any (·.1)=false:=by rfl)(Vu:(x==("__debug__":Str))=false:=by decide): PS X (.Raise (some (.Call (.Name x np) (iE::rest) [] dD)) none pos) (Gr C sp E t):=by
 intro b s L H D I h;obtain⟨tl,N,nm,qn,bs,J,sn,sub,ab,col,dd,k0,k1,k2,k3,k5,mN,hC,hN,U,T⟩:=Vp I.ok.mod.wg hk;have w:(backTo dD (starEach (iE::rest) X.env)).any (·.1)=false:=by rw[he];show(false||(backTo dD (starEach rest X.env)).any (·.1))=false;rw[i];rfl
 refine ah (gE (Vq (C:=C) (nm:=nm) (q:=qn) (N:=N) (bs:=bs) (bm:=tl) (hdct:=J) (sn:=sn) (sub:=sub) (ab:=ab) (col:=col) (dd:=dd) (k0:=k0) (k1:=k1) (k2:=k2) (k3:=k3) (k5:=k5) (newId:=newId) (T.hasType FB.hasBase) (I.ok.hd hc) ?_));refine ah (di (wpAny_Call_ofName (Aw I hg Vs ?_ Vu)) (fun v Vv y=>ah (gE (ax y))) fun _ _ x=>x);refine ah (dB ?_);have hA:=ha dD b s L H _ I h;rw[he] at hA w⊢;refine p5 (bS hA fun l s1 ⟨vs,H1,j,r1,z,q⟩=>?_);have bk:=j.bk;have A:=bk _ _ hC;have fI:∃G,s1.heap.get? fa=some G/\G.cls=.type "function":=by have z:=e_.mp Q;obtain⟨G,e1,e2⟩:=oE.mp z;exact⟨G,j.iD _ _ e1,e2⟩
 obtain⟨G,Vw,R⟩:=fI;obtain⟨hp,g,d,tk,os⟩:=s1;refine ah (gE ?_);simp only[w];refine ah (wpAny_keeperOf_exc A (ah (UY Fn Vt FB (T.keeps bk) A (hN.keeps bk) U Vw R (fun h' e hm=>?_) (by show l.length<=sizeLine;rw[<-r1.length];exact z))));obtain⟨t,ht,_,_⟩:=hm.there;have n:hp.get? e=none:=hm.new;have nH:H1 e=none:=j.bI.none_of n;have h0:X.fC.heap.get? e=none:=by cases z:X.fC.heap.get? e with |none=>rfl |some o=> obtain⟨o',e'⟩:=j.base.there e o z (by rw[hex];simp);rw[show hp.get? e=some o' from e'] at n;cases n
 have I2:Inv X b L H1 {heap:=h',gens:=g,drawn:=d,toks:=tk,os:=os}:=j.kept hm.keeps;have O:=I2.wB (ea:=e) (o:=jR C none #[.ref t,.none,.none,.none,.bool false,.none] e) nH h0 (fun z=>by obtain⟨m,⟨o,es,ep,M,_⟩,_⟩:=j.loc;rw[z,show hp.get? X.env.locals=some o from M] at n;cases n) (fun x c ec z=>by obtain⟨v,o,M,_⟩:=j.cell x c ec;rw[z,n] at M;cases M) (fun p Z z=>by have a:=(j.pin p Z).1;rw[z,n] at a;cases a) (Mx ht rfl rfl rfl);have hq:=q e #[.ref t,.none,.none,.none,.bool false,.none] nH;have r2:Vals (V.ref e::vs) (Value.ref e::l):=.cons rfl r1;have hl:(Value.ref e::l++[]).length=ps.length:=by rw[dQ,<-r2.length];exact F.len _ _ _ _ hq
 have bb:=hb _ (Value.ref e::l) O.iD hl;rw[dQ] at bb;refine gC (gB (F.run _ X.stack _ _ ⟨Value.ref e::l,[]⟩ (Value.ref e::l) _ _ E0 (hr.make C l []) (O.uQ.make C l []) bb r2 hq) fun r s' f=>?_);cases r with |error er=>exact hx b L _ _ er s' O f |ok fl=> cases fl with |ret u=> obtain⟨v,H',Y,rv,ev,dJ,eH,qE⟩:=O.after f;subst ev;obtain⟨⟨ob,g1,g2,g3,g4⟩,_⟩:=Y.bI e _ eH;exact⟨rv,ah (dB (wpAny_point (ax ⟨e,ob,rfl,Y.bk _ _ hC,g1,g2,⟨_,g4,rfl⟩,hE b L _ _ e C _ _ Y eH h0 rfl qE⟩)))⟩ |next=>exact False.elim f |brk=>exact False.elim f |cont=>exact False.elim f
end
end L2
namespace PM
open PySem L2
def zp(K:PySem.W.Frag)(a:Str):Sp:=fun d H Q _=>∃(e C:Addr) (c:Array Value) (n:Int),d=[.ref e,.int n]/\H e=some (jR C none c e)/\s_ K C/\aE K C a/\ ∀b,H b=none->Q .non (upd (upd H e (jR C (some b) c e)) b (.xd [(a,.int n)]))
theorem MB{a c b:Str}(h:zp K a vs H Q E):vs.length=[c,b].length:=by obtain⟨_,_,_,_,rfl,_⟩:=h;rfl
def ya(P:Program)(w:World)(K:PySem.W.Frag)(mg:Str->Option Value)(a:Heap)(c:Addr)(ps:List Str)(sp:Sp):Prop:=∃b,cz P w K mg a kT 1 c b ps sp/\Binds K b ps []
section
variable{X:Cx}{fa:Addr}{ps:List Str}{sp:Sp}{x:Str}{np dD pos:Pos}{iE:Expr}{rest:List Expr}{C:Addr}{mZ wx:List Value}{newId Bn B wz wA gO:String}{E:L2.St->XK}{t:TA}
theorem MC(e:X.ex=[])(n:X.calm=true)(p:Gl X x)(f:X.mg x=some (.ref C))(m:zo X.K C mZ newId fa=true)(k:ExcBaseFacts Bn newId wA wx)(b:mZ.contains (.type Bn)=true)(j:ExcBaseFacts B wz gO mZ)(g:Gq X E) (G:ya X.prog X.w X.K X.mg X.base fa ps sp)(l:cu 2 X.A)(c:PySem.W.isFn X.K (.ref fa)=true) (h:PA X (iE::rest) t)(o:starEach (iE::rest) X.env=(false,eval iE X.env)::starEach rest X.env:=by rfl)(a:(backTo dD (starEach rest X.env)).any (·.1)=false:=by rfl)(d:(x==("__debug__":Str))=false:=by decide): PS X (.Raise (some (.Call (.Name x np) (iE::rest) [] dD)) none pos) (Gr C sp E t):=let⟨_,F,i⟩:=G;Vr e n p f m k b j g F l i c bz h o a d
end
def vz:List D->Option Int |[.int n]=>some n |_=>none
theorem Vx(h:vz l=some n):l=[.int n]:=by unfold vz at h;grind
def Gs(c0:Nat)(ml:En->R (List D))(δ:En):O:=(ml δ).fu δ fun l=>match vz l with|some n=>cH (0<=n) (.ex δ ⟨c0+16*(n.toNat+1)⟩) .no|none=>.no
section
variable{K:Kx}{XO:c5}{E:L2.St->XK}{ta:TE}{ma:En->R D}{Λ:List (Nat×Addr×HO)}{F0 H0 F H:Hp}{σ:L2.St}{δ:En}
theorem MD(G:c0<16)(B:∀k,C=K.ca (c0+16*(k+1)))(s:∀k,K.an (c0+16*(k+1))=c)(A:s_ K.f C)(N:aE K.f C c) (h:SA K (jH K) E Q ml):SS K (jH K) E (Gr C (zp K.f c) E Q) (Gs c0 ml):=by intro Λ F0 H0 F H σ δ T I a;refine h _ _ _ F H _ _ _ I ((cI.of I a).imp fun l U x e p S r=>?_);cases q:vz l with |none=>rw[q] at p;exact p.elim |some n=>
    rw[q] at p;have J:=Vx q;subst J;simp at p;unfold cH at p;split at p
    . obtain⟨v,rfl,M⟩:=r.one;subst M;refine⟨by show 1<=sizeLine;decide,fun f y t=>⟨_,C,_,n,rfl,cw,A,N,fun g d=>⟨rfl,some g,?_,?_⟩⟩⟩
      . have i:f≠g:=fun z=>by rw[<-z,cw] at d;cases d
        rw[bj i,cw]
      . have i:g≠f:=fun z=>by rw[z,cw] at d;cases d
        have m:=by rw[bj i] at d;exact d
        have L:kJ (upd (upd (upd x f (jR C none y f)) f (jR C (some g) y f)) g (.xd [(c,.int n)])) f=upd x g (.xd [(c,.int n)]):=by
          funext b;by_cases j:b=f;.subst j;rw[bj (aR i),t];unfold kJ;simp
          . rw[x' j];by_cases u:b=g;.subst u;rw[cw,cw]
            .rw[bj u,bj u,bj j,bj j]
        rw[L];refine p _ _ _ _ _ ((I.grow e).grow (Ext.new (o:=.xd _) (I.grow e).same m)) ⟨by rw[B _],(⟨_,rfl,?_⟩)⟩;rw[cw,s];have:((c0+16*(n.toNat+1))/16:Nat)-1=n:=by omega
        rw[this]
    .exact p.elim
end
end PM
namespace L2
open PySem PyProof.Rows
def Lx(ky:Nat->Int)(i j:Nat):Prop:=ky i<ky j\/(ky i=ky j/\i<j)
theorem Lx.trans(h:Lx ky a b)(h':Lx ky b c):Lx ky a c:=by unfold Lx at*;lia
theorem Lx.le(h:Lx ky a b):ky a<=ky b:=by unfold Lx at h;lia
abbrev cF(p:Array Nat)(j:Nat):Nat:=p.getD j 0
theorem Bg(a:j<=p.size)(k:Nat):cF (PySem.W.kas_rev p i j) k=if i<=k/\k<j then cF p (i+j-1-k) else cF p k:=by unfold cF PySem.W.kas_rev;rw[oB,getElem?_mirror_all a,oB,oB];grind
theorem Vy(a:s<p.size)(hd:d<=s)(k:Nat):cF (bubble p s d) k=if k=s-d then cF p s else if s-d<k/\k<=s then cF p (k-1) else cF p k:=by unfold cF;rw[oB,getElem?_bubble a d hd,oB,oB,oB];grind
def Arr(N:Nat)(p:Array Nat):Prop:=p.Perm (List.toArray (List.range N))
section
variable{N:Nat}{p:Array Nat}
theorem Arr.list(h:Arr N p):p.toList.Perm (List.range N):=by simpa using Array.perm_iff_toList_perm.mp h
theorem Arr.size(h:Arr N p):p.size=N:=by have:=h.size_eq;simp_all
theorem Arr.get(h:Arr N p)(hi:i<N):p.toList[i]?=some (cF p i):=by
 have:i<p.size:=by rwa[h.size]
 simp_all
theorem Arr.lt(h:Arr N p){i:Nat}(hi:i<N):cF p i<N:=by have:=h.list.mem_iff.mp (ib (h.get hi));simp_all
theorem Arr.inj(h:Arr N p)(hi:i<N)(c:j<N)(e:cF p i=cF p j):i=j:=by
 have d:=h.list.nodup_iff.mpr qs;have b:=h.get hi;have a:=h.get c;rw[<-e] at a;have f:i<p.toList.length:=by grind
 exact(List.getElem?_inj f d).mp (b.trans a.symm)
theorem Arr.below(h:Arr N p)(b:∀j,n<=j->j<N->cF p j=j)(hi:i<n)(c:n<=N):cF p i<n:=by
 by_cases a:cF p i<n;.exact a
 .have l:=h.lt (show i<N by lia);have:=h.inj (by lia) l (b _ (by lia) l).symm;lia
theorem Arr.rev(h:Arr N p)(i j:Nat):Arr N (PySem.W.kas_rev p i j):=(mirror_perm p i j _).trans h
theorem Arr.Vz(h:Arr N p)(s d:Nat):Arr N (bubble p s d):=(bubble_perm p s d).trans h
end
section
variable{ky:Nat->Int}{N:Nat}{cmp:Nat->Nat->(Bool->Shared->Prop)->Shared->Prop}
def nV(ky:Nat->Int)(N:Nat)(cmp:Nat->Nat->(Bool->Shared->Prop)->Shared->Prop):Prop:=∀i j,i<N->j<N->∀(C:Bool->Shared->Prop)(s:Shared),C (decide (ky i<ky j)) s->cmp i j C s
structure Pre(ky:Nat->Int)(N:Nat)(p:Array Nat)(n:Nat):Prop where
 arr:Arr N p
 le:n<=N
 ord:∀i j,i<j->j<n->Lx ky (cF p i) (cF p j)rest:∀j,n<=j->j<N->cF p j=j
theorem ME{g:Nat->Nat}(h:∀j,0<j->j<n->Lx ky (g (j-1)) (g j)):∀i j,i<j->j<n->Lx ky (g i) (g j):=by intro i j;induction j with |zero=>lia |succ j f=>
 intro k d;have a:=h _ (by lia) d;by_cases e:i=j;.simp_all
 .exact(f (by lia) (by lia)).trans a
theorem MF(u:nV ky N cmp)(l:Arr N p):∀(f n:Nat)(s:Shared),1<=n->n+f<=N-> (∀m,n<=m->m<=n+f->(∀j,n<=j->j<m->¬ky (cF p j)<ky (cF p (j-1)))->(m<n+f->ky (cF p m)<ky (cF p (m-1)))->G m s)->(PySem.W.kas_asc p f n).kasWp cmp G s:=by intro f;induction f with |zero=>intro n s q o k;exact k n (aG _) (aG _) (fun j a b=>by omega) (fun a=>by omega) |succ f t=>
    intro n s q o k;refine u _ _ (l.lt (by omega)) (l.lt (by omega)) _ s ?_;by_cases g:ky (cF p n)<ky (cF p (n-1));.rw[cP g];exact k n (aG _) (by omega) (fun j a b=>by omega) fun _=>g
    . rw[b8 g];refine t _ s (by omega) (by omega) fun m a b c d=>k m (by omega) (by omega) (fun j v r=>?_) (fun e=>d (by lia));by_cases e:j=n;.subst e;exact g
      .exact c j (by lia) r
structure Ds(ky:Nat->Int)(N:Nat)(p:Array Nat)(n q:Nat):Prop where
 arr:Arr N p
 le:n<=N
 qn:q<n
 rest:∀j,n<=j->j<N->cF p j=j
 ord:∀i j,i<j->j<n-1-q->Lx ky (cF p j) (cF p i)low:∀i j,i<n-1-q->n-1-q<=j->j<n->ky (cF p j)<ky (cF p i)Dc:∀i j,n-1-q<=i->i<j->j<n->ky (cF p i)=ky (cF p j)/\cF p i<cF p j
theorem Ds.turn(D:Ds ky N p n q)(g':∀k,cF d k=if n-1-q<=k/\k<n then cF p (n-1-q+n-1-k) else cF p k):∀i j,i<j->j<n->Lx ky (cF d j) (cF d i):=by
  intro i j f e;rw[g',g'];by_cases a:n-1-q<=i;.rw[aq ⟨by omega,e⟩,aq ⟨a,by omega⟩];have:=D.Dc (n-1-q+n-1-j) (n-1-q+n-1-i) (by omega) (by omega) (by omega);exact .inr this
  . by_cases b:n-1-q<=j;.rw[aq ⟨b,e⟩,ao (by omega)];exact .inl (D.low i _ (by omega) (by omega) (by omega))
    .rw[ao (by omega),ao (by omega)];exact D.ord i j f (by omega)
theorem Ds.next(D:Ds ky N p n q)(f:n<N)(l:Arr N d)(g':∀k,cF d k=if n-1-q<=k/\k<n then cF p (n-1-q+n-1-k) else cF p k)(lt:ky (cF p n)<ky (cF p (n-1))):Ds ky N d (n+1) 0:=by
  have h:cF d n=cF p n:=by grind
  refine⟨l,f,by omega,fun j a b=>?_,fun i j a b=>(D.turn g') i j a (by omega),fun i j a b c=>?_,fun i j a b c=>by omega⟩;.rw[g',ao (by omega)];exact D.rest j (by lia) b
  . have g:j=n:=by lia
    subst g;rw[h,g'];by_cases z:j-1-q<=i
    . rw[aq ⟨z,by lia⟩];have e:ky (cF p (j-1-q+j-1-i))=ky (cF p (j-1)):=by
        by_cases y:j-1-q+j-1-i=j-1;.rw[y]
        .exact(D.Dc _ _ (by omega) (by lia) (by omega)).1
      omega
    .rw[ao (by lia)];have:=D.low i (j-1) (by lia) (by lia) (by omega);omega
theorem VA(t:nV ky N cmp)(k:∀p m q,Ds ky N p m q->G (p,m,q) s):∀(f:Nat)(p:Array Nat)(n q:Nat),n+f=N->Ds ky N p n q->(PySem.W.kas_desc f p n q).kasWp cmp G s:=by intro f;induction f with |zero=>intro p n q _ D;exact k p n q D |succ f h=>
    intro p n q w D;have v:=D.qn;refine t (cF p n) (cF p (n-1)) (D.arr.lt (by lia)) (D.arr.lt (by lia)) _ s ?_;by_cases g:ky (cF p n)<ky (cF p (n-1))
    . rw[cP g];dsimp only;rw[aq rfl];by_cases l:q>0;.rw[aq l];refine h _ (n+1) 0 (by lia) (D.next (by lia) (D.arr.rev _ _) (fun k=>?_) g);have e:=Bg (p:=p) (i:=n-(q+1)) (j:=n) (by grind) k;rwa[show n-(q+1)=n-1-q by lia] at e⊢
      . rw[ao l];refine h _ (n+1) 0 (by lia) (D.next (by lia) D.arr (fun k=>?_) g);by_cases z:n-1-q<=k/\k<n;.grind
        .grind
    . rw[b8 g];refine t (cF p (n-1)) (cF p n) (D.arr.lt (by lia)) (D.arr.lt (by lia)) _ s ?_;by_cases d:ky (cF p (n-1))<ky (cF p n);.rw[cP d];exact k p n q D
      . rw[b8 d];have u:=D.rest n (aG _) (by lia);refine h p (n+1) (q+1) (by lia) ⟨D.arr,by lia,by lia,fun j a b=>D.rest j (by lia) b,fun i j a b=>D.ord i j a (by lia),fun i j a b c=>?_,fun i j a b c=>?_⟩
        . by_cases e:j=n;.subst e;have:=D.low i (j-1) (by lia) (by lia) (by lia);lia
          .exact D.low i j (by lia) (by lia) (by lia)
        . by_cases e:j=n
          . subst e;refine⟨?_,by rw[u];exact(D.arr.below (i:=i) D.rest (by lia) (by lia))⟩;by_cases y:i=j-1;.subst y;lia
            .have:=(D.Dc i (j-1) (by lia) (by lia) (by lia)).1;lia
          .exact D.Dc i j (by lia) b (by lia)
theorem MG(r:nV ky N cmp)(g:Arr N p)(h1:1<=n)(q:n<=N)(f:∀i j,i<j->j<n->Lx ky (cF p j) (cF p i))(rest:∀j,n<=j->j<N->cF p j=j) (k:∀m l,1<=m->Pre ky N l m->G (m,l) s):(PySem.W.kas_tail3 n N p).kasWp cmp G s:=by
  unfold PySem.W.kas_tail3;rw[km];have h:=Bg (i:=0) (by rwa[g.size]);have d:∀j,n<=j->j<N->cF _ j=j:=fun j a b=>by rw[h,ao (by omega)];simp_all
  refine MF r (g.rev 0 n) _ n s h1 (by omega) fun m a b c _=>k m _ (by omega) ⟨g.rev 0 n,by omega,ME fun j u o=>?_,fun j x y=>d j (by lia) y⟩;by_cases t:j<n;.rw[h,h,aq ⟨by omega,by omega⟩,aq ⟨by omega,t⟩];exact f _ _ (by omega) (by omega)
  . have w:=c j (by omega) o;have z:=d j (by omega) (by omega);have v:cF (PySem.W.kas_rev p 0 n) (j-1)<j:=by
      by_cases e:j=n;.subst e;exact(g.rev 0 j).below d (by lia) q
      .rw[d _ (by lia) (by omega)];lia
    unfold Lx;lia
theorem MH(e:nV ky N cmp)(h:n<N)(D:Ds ky N p (n+1) 0) (k:∀m f,1<=m->Pre ky N f m->G (m,f) s):(PySem.W.kas_descPart n N p).kasWp cmp G s:=by
  unfold PySem.W.kas_descPart;rw[km];refine VA e (fun f m q c=>?_) _ p _ 0 (by lia) D;have l:=c.qn;have d:=c.le;by_cases g:q>0
  . rw[aq g];refine MG (n:=m) e (c.arr.rev _ _) (by lia) d (c.turn fun k=>?_) (fun j a b=>?_) k;.have z:=Bg (i:=m-(q+1)) (by rwa[c.arr.size]) k;grind
    .show cF (PySem.W.kas_rev _ _ m) j=j;rw[Bg (by rwa[c.arr.size]),ao (by lia)];exact c.rest j a b
  . rw[ao g];refine MG (n:=m) e c.arr (by lia) d (c.turn fun k=>?_) c.rest k;by_cases z:m-1-q<=k/\k<m;.rw[aq z];congr 1;lia
    .rw[ao z]
theorem VB(N:Nat):Arr N (List.toArray (List.range N)):=Array.Perm.refl _
theorem om{N j:Nat}(h:j<N):cF (List.toArray (List.range N)) j=j:=by simp_all
theorem VC(o:nV ky N cmp)(I:1<=N)(k:∀m r,1<=m->Pre ky N r m->G (m,r) s):(PySem.W.kas_count N (List.toArray (List.range N))).kasWp cmp G s:=by
  unfold PySem.W.kas_count;rw[km];have f:=VB N;refine MF o f (N-1) 1 s (aG _) (by omega) fun n a b c d=>?_;have p:Pre ky N (List.toArray (List.range N)) n:=⟨f,by omega,ME fun j L B=>by have w:=c j (by omega) B;rw[om (show j<N by omega),om (show j-1<N by omega)] at w⊢;unfold Lx;omega,fun j _ y=>om y⟩;by_cases e:n=N;.rw[aq (by simp[e])];exact k n _ (by omega) p
  . rw[ao (by simp[e])];have E:=d (by omega);rw[om (show n<N by omega),om (show n-1<N by omega)] at E;by_cases A:n>1
    . rw[aq A];refine o _ _ (f.lt (by omega)) (f.lt (by omega)) _ s ?_;rw[om (show 0<N by omega),om (show n-1<N by omega)];by_cases t:ky 0<ky (n-1);.rw[cP t];dsimp only;rw[aq rfl];exact k n _ (by omega) p
      . rw[b8 t];dsimp only;rw[ao (by simp)];have g:∀i,i<n->ky i=ky (n-1):=fun i v=>by
          have H:ky 0<=ky i:=by
            by_cases z:i=0;.subst z;exact lB _
            .have:=(p.ord 0 i (by lia) v).le;rwa[om (show 0<N by omega),om (show i<N by omega)] at this
          have J:ky i<=ky (n-1):=by
            by_cases z:i=n-1;.subst z;exact lB _
            .have:=(p.ord i (n-1) (by omega) (by lia)).le;rwa[om (show n-1<N by omega),om (show i<N by omega)] at this
          lia
        have l:∀k,k<N->cF (PySem.W.kas_rev (List.toArray (List.range N)) 0 n) k=if k<n then n-1-k else k:=fun k u=>by
          rw[Bg (by rw[f.size];lia)];by_cases z:k<n;.rw[aq ⟨by lia,z⟩,aq z,om (by omega)];omega
          .rw[ao (by lia),ao z,om u]
        refine MH o (by omega) ⟨f.rev 0 n,by omega,by omega,fun j x y=>?_,fun i j x y=>?_,fun i j x y z=>?_,fun i j x y z=>by omega⟩ k;.rw[l j y,ao (by lia)]
        .rw[l j (by omega),l i (by omega),aq (by omega),aq (by omega)];exact .inr ⟨by rw[g (n-1-j) (by omega),g (n-1-i) (by omega)],by lia⟩
        . have q:j=n:=by omega
          subst q;rwa[l j (by lia),l i (by lia),ao (by lia),aq (by lia),g (j-1-i) (by lia)]
    . have C:n=1:=by lia
      subst C;refine MH o (by omega) ⟨f,by lia,by lia,fun j x y=>om y,fun i j x y=>by lia,fun i j x y z=>?_,fun i j x y z=>by lia⟩ k;have q:j=1:=by lia
      have D:i=0:=by lia
      subst q D;rwa[om (show 1<N by omega),om (show 0<N by omega)]
theorem VD(v:nV ky N cmp)(h:Pre ky N p k)(w:k<N)(d:∀l,l<=k->(∀j,j<l->ky (cF p j)<=ky (cF p k))->(∀j,l<=j->j<k->ky (cF p k)<ky (cF p j))->G l s):∀(f l r:Nat),l<=r->r<=k->r-l<=f-> (∀j,j<l->ky (cF p j)<=ky (cF p k))->(∀j,r<=j->j<k->ky (cF p k)<ky (cF p j))->(PySem.W.kas_place p k f l r).kasWp cmp G s:=by
  intro f;induction f with |zero=>
    intro l r t g u a b;have e:r=l:=by omega
    subst e;exact d r g a b |succ f o=>
    intro l r t g u a b;unfold PySem.W.kas_place;by_cases e:l≥r
    . rw[aq e];have A:r=l:=by omega
      subst A;exact d r g a b
    . rw[ao e];refine v _ _ (h.arr.lt w) (h.arr.lt (by omega)) _ s ?_;have c:∀i j,i<=j->j<k->ky (cF p i)<=ky (cF p j):=fun i j x y=>by
        by_cases z:i=j;.subst z;omega
        .exact(h.ord i j (by lia) y).le
      by_cases q:ky (cF p k)<ky (cF p ((l+r)/2));.rw[cP q];refine o l _ (by omega) (by lia) (by omega) a fun j x y=>?_;have:=c _ j x y;lia
      .rw[b8 q];refine o _ r (by omega) g (by omega) (fun j x=>?_) b;have:=c j ((l+r)/2) (by omega) (by lia);lia
theorem VE(w:nV ky N cmp)(h:∀p,Pre ky N p N->G p s):∀(f:Nat)(p:Array Nat)(k:Nat),k+f=N->Pre ky N p k->(PySem.W.kas_bin f p k).kasWp cmp G s:=by
  intro f
  induction f with |zero=>
    intro p k e c;have A:k=N:=by omega
    subst A;exact h p c |succ f v=>
    intro p k e c;unfold PySem.W.kas_bin;rw[km];refine VD w c (by omega) (fun l B a b=>v _ (k+1) (by omega) ?_) k 0 k (by lia) (aG _) (by omega) (fun j x=>by omega) fun j x y=>by lia
    have g:=Vy (p:=p) (s:=k) (d:=k-l) (by rw[c.arr.size];omega) (by lia);have C:=c.rest k (aG _) (by omega);have u:∀i,i<k->cF p i<k:=fun i z=>c.arr.below c.rest z c.le;rw[show k-(k-l)=l by omega] at g;refine⟨c.arr.Vz _ _,by omega,fun i j x y=>?_,fun j x y=>?_⟩
    . rw[g,g];by_cases n:i=l;.rw[aq n,ao (by omega),aq ⟨by omega,by omega⟩];exact .inl (b (j-1) (by omega) (by omega))
      . rw[ao n];by_cases q:j=l;.rw[aq q,ao (by omega)];have E:=a i (by omega);have D:=u i (by lia);unfold Lx;omega
        . rw[ao q];by_cases o:l<i/\i<=k;.rw[aq o,aq ⟨by lia,by omega⟩];exact c.ord _ _ (by lia) (by omega)
          . rw[ao o];by_cases m:l<j/\j<=k;.rw[aq m];exact c.ord _ _ (by omega) (by omega)
            .rw[ao m];exact c.ord _ _ x (by lia)
    .rw[g,ao (by lia),ao (by lia)];exact c.rest j (by lia) y
theorem VF(c:nV ky N cmp)(d:1<=N)(a:∀p,Pre ky N p N->G p s):(PySem.W.kas_sort N).kasWp cmp G s:=by
  unfold PySem.W.kas_sort;rw[km];refine VC c d fun m p h b=>?_;by_cases e:m<N
  . rw[aq e];have g:max m 1=m:=by lia
    rw[g];exact VE c a _ p m (by lia) b
  . rw[ao e];have f:m=N:=by have:=b.le;lia
    subst f;exact a p b
end
def m8(ky:Nat->Int)(N:Nat):List Nat:=(List.range N).mergeSort fun i j=>decide (ky i<ky j\/(ky i=ky j/\i<=j))
theorem wQ(ky:Nat->Int)(N:Nat):(m8 ky N).Perm (List.range N):=List.mergeSort_perm ..
theorem VG(ky:Nat->Int)(N:Nat):(m8 ky N).Pairwise (Lx ky):=by have h:=List.pairwise_mergeSort (le:=fun i j=>decide (ky i<ky j\/(ky i=ky j/\i<=j))) (fun a b c d f=>by grind) (fun a b=>by grind) (List.range N);have e:(m8 ky N).Nodup:=(wQ _ N).nodup_iff.mpr qs;refine(List.Pairwise.and h e).imp fun{a b} h=>?_;have d:=h.1;simp at d;unfold Lx;lia
theorem VH(c:l.Perm (List.range N))(d:l.Pairwise (Lx ky)):l=m8 ky N:= List.Perm.eq_of_pairwise (fun a b _ _ f e=>by unfold Lx at*;lia) d (VG _ N) (c.trans (wQ _ N).symm)
theorem VI(b:Pre ky N p N):p.toList=m8 ky N:=by
 refine VH b.arr.list ?_;rw[List.pairwise_iff_getElem];intro i j h g d;have k:=b.arr.size;have c:i<N:=by simp_all
 have a:j<N:=by simp_all
 have f:=b.arr.get c;have e:=b.arr.get a;rw[bW h] at f;rw[bW g] at e;rw[dU f,dU e];exact b.ord i j d a
end L2
namespace L2
open PySem PySem.Spec PyProof.Rows
section
variable{prog:Program}{w:World}{A:Around}{E:Value->Shared->Prop}{s:Shared}
abbrev Kp(g h:Heap):Prop:=∀b o,g.get? b=some o->h.get? b=some o
theorem VJ{n:Nat}(q:A.handled=none)(l:IsRange s.heap r a b c t u v)(p:Builtin.Range.small a b c=true)(x:Builtin.Range.rangeSize a b c=n)(y:n<=2^24) (z:∀h' tk d,Kp s.heap h'->ItemsOf (fun i v=>∃t,v=.int (a+i*c) t) d n->Q d.toList {s with heap:=h',toks:=tk}):wpAny (model prog w) A (collect (.ref r)) Q E s:=by
 have h:∀R,(∀h' tk d j,Kp s.heap h'->h'.get? s.heap.objs.size=some (seqObj "list" d j)->ItemsOf (fun i v=>∃t,v=.int (a+i*c) t) d n->R (.ok (.ret (.ref s.heap.objs.size))) {s with heap:=h',toks:=tk})-> codeAny (model prog w) A (.builtin "proto.collect" ⟨[.ref r],[]⟩) R s:=by intro R m;refine jg F.entry_proto_collect ((si F.plain_proto_collect _).symm▸(ah (wpAny_newList (ax ⟨ko F.plain_list_iadd _,jg F.entry_list_iadd ((si F.plain_list_iadd _).symm▸?_)⟩) (by simp))));have atS:(s.heap.push _).get? _=some (seqObj "list" #[] 0):=cg _ rfl;refine wpAny_extend_range (s:={s with heap:=s.heap.push _}) q (aO _ l) p x y _ _ 0 atS fun h' tk d j k g f=>m _ _ _ _ (fun b o e=>?_) g f;exact k b o (a_ (aM e)) (aO _ e)
 exact ah (wpAny_runValue (h _ fun h' tk d j k g f=>ah (wpAny_load g (ax (z _ _ _ k f)))))
theorem VL{its:List Value}(f:env.scope.kind=.function)(j:env.kindOf x=some .free)(c:env.cells.lookup x=some cc)(b:s.heap.IsCell cc (some (.ref a)))(k:env.kindOf n=some .local)(d:s.heap.Ns env.locals m)(l:m n=some (.int i t)) (p:s.heap.IsList a its.toArray)(h0:0<=i)(e:i<2^63)(hi:its[i.toNat]?=some (.int z tz))(g:(x==("__debug__":Str))=false)(q:(x==("__classdict__":Str))=false)(o:(n==("__debug__":Str))=false) (h:Q (.int (-z) s.toks) {s with toks:=s.toks+1}):wpAny (model prog w) A (eval (.UnaryOp .USub (.Subscript (.Name x r) (.Name n y) u) v) env) Q E s:=UnaryOp_ (Subscript_ (kq (wpAny_loadName_free f j c b (kq (oY f k d l (item_listR p h0 e (by simpa using hi) (neg_int h) rfl)) o) q) g))
theorem VM{f cc c a:Addr}{d:Arguments}{J l:Value}{its:List Value}(T:A.depth<recursionLimit) (ho:s.heap.get? f=some (PySem.W.kla_obj "<lambda>" q d (.UnaryOp .USub (.Subscript (.Name x p1) (.Name n N) p3) X) g cl J c l))(G:s.heap.CodeRec (.ref c) q)(m:s.heap.NoLimit) (S:∀v:Value,bindArgs (PySem.W.kla_fn "<lambda>" q d (.UnaryOp .USub (.Subscript (.Name x p1) (.Name n N) p3) X) g cl J (.ref c) l) ⟨[v],[]⟩=pure [(n,v)])(M:g.kind=.function)(p:g.isCoroutine=false)(u:g.isGenerator=false) (I:∀y∈g.names,y.2≠.cell)(L:g.names.lookup n=some .local)(O:g.names.lookup x=some .free)(D:cl.lookup x=some cc)(j:s.heap.IsCell cc (some (.ref a)))(U:s.heap.IsList a its.toArray)(h0:0<=i)(C:i<2^63) (hi:its[i.toNat]?=some (.int z tz))(R:(x==("__debug__":Str))=false)(Z:(x==("__classdict__":Str))=false)(Y:(n==("__debug__":Str))=false) (h:∀h' tk t',Kp s.heap h'->Q (.int (-z) t') {s with heap:=h',toks:=tk}):wpAny (model prog w) A (call (.ref f) [.int i t]) Q E s:=by
  refine gC (PySem.W.kla_callFunE T ho rfl p u rfl G ?_);rw[S];refine ax (wpAny_newFunctionEnv I (fun y hy=>?_) (fun h1 H k=>⟨m.fresh _ k,?_⟩) M)
  . obtain rfl:y=(n,.int i t):=by simp_all
    exact L
  have B:=fun b o e=>k.extBut b o (a_ (aM e)) (aO _ e);exact PySem.W.kla_codeExpr (VL (t:=t) M O D (j.keeps B) L H (by simp) (let⟨o,e,r⟩:=U;⟨o,B _ _ e,r⟩) h0 C hi R Z Y (h _ _ _ B))
theorem Dd{g:Heap}(e:g.get? a=some (seqObj "list" xs n))(f:Array Value->Array Value):∃c,(g.update a (Obj.mapSeq f)).get? a=some (seqObj "list" (f xs) c):=⟨_,get?_update_seq e f⟩
theorem Df(k:Kp g h)(c:g.get? a=none)(f:Obj->Obj):Kp g (h.update a f):=fun b o e=>((nC h a f).2 b (fun z=>by simp_all)).trans (k b o e)
theorem MI(h:IntsAre vs kz)(hi:i<kz.length):∃t,vs.getD i .none=.int (kz.getD i 0) t:=let⟨t,e⟩:=h.get i (kz.getD i 0) (by simp[hi]);⟨t,by rw[dR,e];rfl⟩
theorem VN{vs:List Value}(D:Heap)(na:D.get? a=none)(X:D.get? k=none)(H:k≠a)(K0:Kp D s.heap) (S:s.heap.get? k=some (seqObj "list" b e))(ha:s.heap.get? a=some (seqObj "list" #[] l))(B:IntsAre b.toList kz)(o:kz.length=vs.length)(L:vs.length<64) (O:∀h' c,Kp D h'->h'.get? a=some (seqObj "list" (List.toArray ((m8 (fun i=>kz.getD i 0) vs.length).map fun i=>vs.getD i .none)) c)->P (.done (.ret .none)) {s with heap:=h'}): wpAny (model prog w) A (ksk_end a false vs.toArray l (.ref k) b) P E s:=by
 have q:b.size=vs.length:=by have:=B.length;rw[oC] at this;lia
 have f:∀(st:SortSt),(arrOf st).map (·.2)=List.toArray ((m8 (fun i=>kz.getD i 0) vs.length).map fun i=>vs.getD i .none)->failedOf st=none->wpAny (model prog w) A (ksk_tail a false l (.ref k) st) P E s:=by
  intro st I hf;obtain⟨ck,hck⟩:=Dd S fun _=>#[];have g:(s.heap.update k (Obj.mapSeq fun _=>(#[]:Array Value))).get? a=some (seqObj "list" #[] l):=((nC s.heap k _).2 a H.symm).trans ha;obtain⟨ca,U⟩:=Dd g fun _=>(arrOf st).map (·.2);have T:=Df (Df K0 X (Obj.mapSeq fun _=>(#[]:Array Value))) na (Obj.mapSeq fun _=>(arrOf st).map (·.2));have ln:((arrOf st).map (·.2)).size=vs.length:=by rw[I,d9,aW,(wQ _ _).length_eq,qi]
  unfold ksk_tail;try rfl
  refine ah (listUpdate_at S rfl (ah (gD (ah (seqEpoch_at g rfl (ah (listUpdate_at g rfl ?_ (bU _) (bK (lW ln) (by rw[fc];lia)))))))) (by rw[q,fc];lia) (bU _));rw[hf];simp only[bne_self_eq_false,uH,if_false];refine ax (O _ ca T ?_);simp_all
 unfold ksk_end;try rfl
 simp only[uH,if_false];by_cases n:vs.toArray.size<2;.rw[aq n,aq n];refine ah (ax (f _ ?_ rfl));match vs,n,o,q with
  |[],_,_,z=>
   have:b=#[]:=Array.eq_empty_of_size_eq_zero z;subst this;have l:m8 (fun i=>kz.getD i 0) 0=[]:=by have:=wQ (fun i=>kz.getD i 0) 0;simpa using this
   show(((#[]:Array Value).zip #[]).map (·.2))=List.toArray ((m8 _ 0).map _);simp_all |[v],_,_,z=>
   have l:m8 (fun i=>kz.getD i 0) 1=[0]:=by have:=wQ (fun i=>kz.getD i 0) 1;simpa using this
   show(((b.zip #[v])).map (·.2))=List.toArray ((m8 _ 1).map _);rw[l];apply Array.toList_inj.mp;rw[Array.toList_map,show(#[v]:Array Value)=List.toArray [v] from rfl,ksk_zip];have:b.toList.length=1:=by rwa[oC]
   match b.toList,this with |[y],_=>rfl
  |_::_::_,h,_,_=>simp at h;lia
 .rw[ao n,ao n];rw[d9] at n;rw[ksk_kind B (by lia)];refine ah (ax ?_);have run:=PySem.W.kat_run (prog:=prog) (w:=w) (A:=A) (E:=E) (s:=s) (vs:=vs) (ks:=b.toList) (κ:=oneType') (Q:=fun st m=>m=s/\(arrOf st).map (·.2)=List.toArray ((m8 (fun i=>kz.getD i 0) vs.length).map fun i=>vs.getD i .none)/\failedOf st=none) (G:=fun p m=>m=s/\p.toList=m8 (fun i=>kz.getD i 0) vs.length) (by rwa[oC]) (by lia) L (fun p st m q1 J M R=>⟨R.1,by rw[PySem.W.kat_snds (by rwa[oC]) J,R.2],M⟩) (VF (ky:=fun i=>kz.getD i 0) (N:=vs.length) (fun i j hi hj C m hC=>by obtain⟨t,Y⟩:=MI B (i:=i) (by lia);obtain⟨u,eu⟩:=MI B (i:=j) (by lia);unfold PySem.W.kas_ask;rw[Y,eu];exact PySem.W.kat_lt_int hC) (by lia) fun p hp=>⟨rfl,VI hp⟩);refine ah (di run (fun r m Z=>?_) fun _ _ x=>x);obtain⟨⟨⟩,st⟩:=r;obtain⟨rfl,J,M⟩:=Z;exact f st J M
theorem VO{vs:List Value}{kz:List Int}(l:Heap)(na:l.get? a=none)(K0:Kp l s.heap)(N:s.heap.get? a=some (seqObj "list" vs.toArray n))(I:kz.length=vs.length)(Z:vs.length<64) (B:∀(i:Nat)(v:Value)(k:Int),vs[i]?=some v->kz[i]?=some k->∀(h:Heap)(tk:Nat),Kp l h->∀Q:Value->Shared->Prop,(∀h' T t',Kp h h'->Q (.int k t') {s with heap:=h',toks:=T})-> wpAny (model prog w) A (call (.ref f) [v]) Q (fun _ _=>False) {s with heap:=h,toks:=tk}) (fin:∀h' tk c,Kp l h'->h'.get? a=some (seqObj "list" (List.toArray ((m8 (fun i=>kz.getD i 0) vs.length).map fun i=>vs.getD i .none)) c)->P (.done (.ret .none)) {s with heap:=h',toks:=tk}): wpAny (model prog w) A (ksk_tree a (.ref f) false) P E s:=by
 have la:=aM N;obtain⟨e1,G⟩:=Dd N fun _=>#[];refine ah (listItems_at N rfl (ah (listUpdate_at N rfl ?_ (by rw[d9,fc];lia) (bU _))));refine ah (seqEpoch_at G rfl (ah (wpAny_newTuple ?_ (by show vs.length<=_;rw[fc];lia))));refine ah (wpAny_newList (dB ?_) (bU _));obtain⟨g,p⟩:∃g,g=((s.heap.update a (Obj.mapSeq fun _=>(#[]:Array Value))).push (seqObj "tuple" vs.toArray 0)).objs.size:=⟨_,rfl⟩;have t:g=s.heap.objs.size+1:=by rw[p,size_push',Heap.size_update]
 have nk:l.get? g=none:=by cases q:l.get? g with |none=>rfl |some o=>have z:=aM (K0 _ _ q);rw[t] at z;exact absurd z (by simp)
 have y:g≠a:=by rw[t];exact eU (kh la)
 obtain⟨r,d⟩:∃r,r=((s.heap.update a (Obj.mapSeq fun _=>(#[]:Array Value))).push (seqObj "tuple" vs.toArray 0)).push (seqObj "list" #[] 0):=⟨_,rfl⟩;have K2:Kp l r:=fun b o e=>by rw[d];exact aO _ (aO _ ((Df K0 na (Obj.mapSeq fun _=>(#[]:Array Value))) b o e))
 have R:r.get? a=some (seqObj "list" #[] e1):=by rw[d];exact aO _ (aO _ G)
 have U:r.get? g=some (seqObj "list" #[] 0):=by rw[d,p];exact cg _ rfl
 rw[<-p,<-d];refine ah (iA ?_);rw[List.forIn_toArray];refine ah (ksk_fold (fun i s'=>∃h' tk m e,s'={s with heap:=h',toks:=tk}/\Kp l h'/\h'.get? g=some (seqObj "list" m e)/\h'.get? a=some (seqObj "list" #[] e1)/\IntsAre m.toList (kz.take i)) vs 0 _ ⟨r,s.toks,#[],0,rfl,K2,U,R,by simpa using IntsAre.nil⟩ ?step ?D);case step=>
  rintro j x s' hx ⟨h',tk,m,e,rfl,M,J,Y,H⟩;simp only[Nat.zero_add] at H⊢;have hj:j<vs.length:=(b'.mp hx).1;obtain⟨k,u⟩:∃k,kz[j]?=some k:=⟨_,bW (by lia)⟩;have hz:m.size<=vs.length:=by have h1:=H.length;rw[oC,qo] at h1;lia
  refine ah (l9 (di (B j x k hx u h' tk M _ fun h3 tk3 O L=>?C) (fun _ _ z=>z) fun _ _ hF=>hF.elim));case C=>
   obtain⟨c2,VP⟩:=Dd (L _ _ J) (·.push (.int k O));have ek:kz.take (j+1)=kz.take j++[k]:=by rw[List.take_add_one,u];simp
   have ea:(m.push (Value.int k O)).toList=m.toList++[Value.int k O]:=by simp
   refine ah (listUpdate_at (L _ _ J) rfl ?_ (by rw[fc];lia) (bK (lW (Array.size_push ..)) (by rw[fc];lia)));exact ax ⟨rfl,_,_,m.push (.int k O),c2,rfl,Df (fun b o q=>L _ _ (M b o q)) nk _,VP,((nC _ _ _).2 a y.symm).trans (L _ _ Y),by rw[ea,ek];exact ksk_snoc H⟩
 case D=>
  rintro s' ⟨h',tk,m,e,rfl,M,J,Y,H⟩;have X:=by rwa[lV (by lia)] at H
  exact ah (listItems_at J rfl (VN _ na nk y M J Y X I Z fun h3 c S q=>fin _ _ c S q))
theorem VQ{kz:List Int}(hh:A.handled=none)(Z:IsRange s.heap r 0 b 1 t u v)(hb:b=(kz.length:Nat))(h64:kz.length<64) (p:∀(i:Nat)(t:Tok)(k:Int),kz[i]?=some k->∀(h:Heap)(tk:Nat),Kp s.heap h->∀Q:Value->Shared->Prop,(∀h' G t',Kp h h'->Q (.int k t') {s with heap:=h',toks:=G})-> wpAny (model prog w) A.in1.in1 (call (.ref f) [.int (i:Nat) t]) Q (fun _ _=>False) {s with heap:=h,toks:=tk}) (L:∀D h' tk n c,s.heap.get? D=none->Kp s.heap h'->IntsAre n.toList ((m8 (fun i=>kz.getD i 0) kz.length).map fun i:Nat=>(i:Int))->h'.get? D=some (seqObj "list" n c)->Q (.ref D) {s with heap:=h',toks:=tk}): wpAny (model prog w) A (call (.builtin "sorted") [.ref r] [(Str.ofString "key",.ref f)]) Q E s:=by
  refine call_function_entry_kw kind_sorted plain_sorted entry_sorted (ksk_s1 _ _) ?_;unfold Builtin.«sorted»;refine ah (m:=checkCount "sorted" 1 1 _) (ax ?_);have sz:Builtin.Range.rangeSize 0 b 1=(kz.length:Int):=by rw[l7];lia
  refine ah (VJ (A:=A.in1) hh Z (small_one (by decide) (by decide) (by lia) (by lia)) sz (by lia) fun C g a U d=>?_);have y:a.toList.length=kz.length:=by rw[oC];exact d.1
  have X:∀i v,a.toList[i]?=some v->∃t,v=Value.int (i:Nat) t:=fun i v e=>(let⟨t,S⟩:=d.2 i v (by simp_all);⟨t,by rw[S];simp⟩);refine ah (wpAny_newList ?_ (by rw[y,fc];lia));obtain⟨D,I⟩:∃D,D=C.objs.size:=⟨_,rfl⟩;have T:(C.push (seqObj "list" a.toList.toArray 0)).get? D=some (seqObj "list" a.toList.toArray 0):=by rw[I];exact cg _ rfl
  have R:s.heap.get? D=none:=by cases q:s.heap.get? D with |none=>rfl |some o=>have z:=aM (U _ _ q);rw[I] at z;exact absurd z (de _)
  show wpAny _ _ _ _ _ {s with heap:=C.push (seqObj "list" a.toList.toArray 0),toks:=g};rw[<-I];refine ah (dB (wpAny_call_entry_kw slot_list_sort ⟨_,T,rfl⟩ entry_list_sort ?x (ksk_l1 _ _)));case x=>
    show wpAny (model prog w) A.in1.in1 (Builtin.«list.sort» ⟨[.ref D],[(Str.ofString "key",.ref f)]⟩) _ _ _;rw[ksk_t1];refine VO (s:={s with heap:=C.push (seqObj "list" a.toList.toArray 0),toks:=g}) s.heap R (fun b o e=>aO _ (U b o e)) T y.symm (by lia) (fun i v k Y hk h tk J Q' hQ=>?_) fun h' tk c J q=>⟨_,rfl,?_⟩;.obtain⟨t,rfl⟩:=X i v Y;exact p i t k hk h tk J Q' hQ
    . refine ax ⟨_,rfl,?_⟩;rw[y] at q;refine L D h' tk _ c R J ?_ q;have H:∀l:List Nat,(∀i∈l,i<kz.length)->IntsAre (l.map fun i=>a.toList.getD i .none) (l.map fun i:Nat=>(i:Int)):=fun l=>by induction l with |nil=>intro _;exact .nil |cons i l ih=>
          intro M;have B:i<a.toList.length:=by rw[y];exact M i kg
          obtain⟨t,S⟩:=X i (a.toList[i]) (bW B);have e:a.toList.getD i .none=.int (i:Nat) t:=by rwa[dR,bW B]
          rw[bH,bH,e];exact .cons _ _ (ih fun j hj=>M j (bJ _ hj))
      simpa using H _ fun i B=>by have:=(wQ _ _).mem_iff.mp B;simpa using this
end
section
variable{X:Cx}{pins:List (Addr×Obj)}{σ:St}{H:Hp}{s:Shared}{h':Heap}
theorem Inv.Bh(I:Inv X pins σ H s)(k:Kp s.heap h')(n:s.heap.get? a=none)(h:dv X.prog X.w (upd H a o) h' a o):Inv X pins σ (upd H a o) {s with heap:=h',toks:=t'}:=by
 have d:=I.bI.none_of n;have i:∀b u,s.heap.get? b=some u->b≠a:=fun b u e z=>by simp_all
 refine I.un ⟨fun b u q _ _ _=>k b u q,fun b u q _ _ _=>⟨_,k b u q⟩,fun b u q z _=>by rwa[bj (i b u q)],fun b u q _=>⟨u,k b u q⟩,fun b g q=>by rwa[bj (dC q d)],fun b u g q=>by rwa[bj (dC q d)], fun b j q=>⟨#[],by rw[bj (dC q d),q];simp⟩⟩ fun b u e=>?_;by_cases f:b=a;.subst f;rw[cw] at e;simp_all
 .rw[bj f] at e;exact(I.bI b u e).iB (fun c v _ q=>k c v q) (fun c q=>by rwa[bj (dC q d)]) fun c g q=>by rwa[bj (dC q d)]
theorem Inv.filled(I:Inv X pins σ H s)(l:H P=some (.pd ps))(k:∀b o,b≠P->s.heap.get? b=some o->h'.get? b=some o)(n:s.heap.get? c=none)(p:∃o,h'.get? c=some o)(f:iW (upd H c (.own P)) h' P ps): Inv X pins σ (upd H c (.own P)) {s with heap:=h',toks:=t'}:=by
  have a:=I.bI.none_of n;have m:∀b u,s.heap.get? b=some u->b≠c:=fun b u e z=>by simp_all
  have g:∀b,H b=none->b≠P:=fun b e z=>by grind
  have t:c≠P:=g c a;have r:∃o,h'.get? P=some o:=let⟨_,_,_,_,_,_,_,e,_⟩:=f;⟨_,e⟩;refine I.un ⟨fun b u q z _ _=>k b u (g b z) q,fun b u q z _ _=>⟨u.slots,k b u (g b z) q⟩,fun b u q z _=>by rwa[bj (m b u q)],fun b u q _=>?_,fun b j q=>by rwa[bj (dC q a)],fun b u j q=>by rwa[bj (dC q a)], fun b ps q=>⟨#[],by rw[bj (dC q a),q];simp⟩⟩ fun b u e=>?_
  . by_cases z:b=P;.simp_all
    simp_all
  . by_cases h:b=c;.subst h;rw[cw] at e;cases e;exact p
    . rw[bj h] at e;by_cases z:b=P;.subst z;rw[l] at e;cases e;exact f
      . refine(I.bI b u e).iB (fun d v i q=>k d v ?_ q) (fun d q=>by rwa[bj (dC q a)]) fun d j q=>by rwa[bj (dC q a)]
        rcases i with rfl|i;.exact z
        .rintro rfl;simp_all
def mP(mg:Str->Option Value)(h:Heap):Prop:=∃b a,mg "__builtins__"=some (.ref b)/\b≠builtinsNs/\h.get? b=some a/\a.cls=.type "module"/\a.dict=some builtinsNs/\a.data=.plain
theorem VR(I:Inv X pins σ H s)(hT:tabOf X.K=some (P,#[.str (X.env.qual++"<lambda>") 0,rawInt pos.line,rawInt pos.col]))(hC:PySem.W.codeHdIn X.K c P=true)(N:X.env.code=.ref c) (r:closureFor B X.env=pure cl)(A:defaultsOf a X.env=([],[]))(hB:mP X.mg X.base) (h:∀(f k:Addr)(pm g:Value)(H':Hp)(s':Shared),aC H H'->Inv X pins σ H' s'->s'.heap.get? f=some (PySem.W.kla_obj "<lambda>" (X.env.qual++"<lambda>") a i B cl pm k g)->s'.heap.CodeRec (.ref k) (X.env.qual++"<lambda>")->Q (.ref f) s'): wpAny (model X.prog X.w) X.A (eval (.Lambda a i B pos) X.env) Q E s:=by
 refine PySem.W.kla_eval A ?_;obtain⟨v,G⟩:=I.ok.tb.grown I.base.iC _ hT;obtain⟨q,tq,ln,co,mr,O,Y,U,e3⟩:=I.bI P _ G;have J:Value.str (X.env.qual++"<lambda>") 0::rawInt pos.line::rawInt pos.col::v.toList=.str q tq::rawInt ln::rawInt co::mr:=by rw[<-Y];simp
 have l:s.heap.Ns mainGlobals X.mg:=I.mod.glob.keeps I.bk;have S:PySem.W.CodeHd s.heap c P:=PySem.W.codeHd_of_K I.iD hC;have p:∀b o,X.base.get? b=some o->b≠P:=fun b o e z=>by have:=(I.bs b o e).2;rw[z,G] at this;cases this
 have L:mainGlobals≠P:=let⟨o,es,ep,e,_⟩:=I.mod.glob;p _ _ e;have y:s.heap.BuiltinsAt X.mg P:=by obtain⟨bm,ob,b1,b2,T,b4,b5,b6⟩:=hB;refine⟨bm,ob,b1,b2,fun z=>?_,p _ _ T,I.bk _ _ T,b4,b5,b6⟩;obtain⟨o,es,ep,e,d,_⟩:=I.mod.glob;grind
 injection J with f1 f2;injection f1 with f3 f4;injection f2 with C f6;injection f6 with M f8;injection C with C _;injection M with M _;subst f3 C M;rcases e3 with rfl|⟨k,o,vs,u,rfl,r1,r2,r3,r4⟩;.refine PySem.W.kla_makeFunction (mg:=X.mg) r I.ok.glob l N S U trivial rfl L y fun k g h' tk hx x vf w D=>?_;obtain⟨_,oc,vs,t,z,j,Z,R⟩:=id w;cases z;have m:Kp h' (h'.push (PySem.W.kla_obj "<lambda>" (X.env.qual++"<lambda>") a i B cl ((X.mg "__name__").getD .none) k g)):=fun b o e=>aO _ e;refine h _ _ _ g _ _ (aC.upd (I.bI.none_of (lA x))) ((I.filled (t':=tk) G (fun b o hb e=>hx b o hb e) (lA x) ⟨_,j⟩ ⟨_,_,_,_,_,_,Y,D,.inr ⟨_,_,_,t,rfl,cw,j,Z,R⟩⟩).kept m) (cg _ rfl) ⟨_,_,_,t,rfl,m _ _ j,Z,R⟩
 .refine PySem.W.kla_makeFunctionHit (cv:=.ref k) r I.ok.glob l N S U trivial (by simp[codeAmong,rawInt]) y fun g h' tk hk hsz=>?_;have m:Kp s.heap (h'.push (PySem.W.kla_obj "<lambda>" (X.env.qual++"<lambda>") a i B cl ((X.mg "__name__").getD .none) k g)):=fun b o e=>aO _ (hk b o e);exact h _ _ _ g H _ (aC.refl _) (I.kept m) (cg _ rfl) ⟨_,o,_,u,rfl,m _ _ r2,r3,r4⟩
def MJ(f:TA)(g:Nat):TE:=fun σ H Q=>f σ H fun e c=>∃(r a:Addr) (b:List Int),e=[.ref r]/\c r=some (.lI 0 (b.length:Nat))/\σ[g]?=some (some (.ref a))/\Rd c a (.lst (b.map V.int))/\b.length<64/\ ∀d D,aC c d->d D=none->Q (.ref D) (upd d D (.lst ((m8 (fun i=>-(b.getD i 0)) b.length).map fun i:Nat=>V.int (i:Int))))
theorem VS(hc:X.calm=true)(hr:cu k X.A)(hg:Gl X "sorted")(hm:X.mg "sorted"=none)(ha:PA X [L] ta) (hT:tabOf X.K=some (P,#[.str (X.env.qual++"<lambda>") 0,rawInt lp.line,rawInt lp.col]))(hC:PySem.W.codeHdIn X.K c P=true)(Dg:X.env.code=.ref c)(hB:mP X.mg X.base) (wt:∀cc,X.env.cells.lookup x=some cc->closureFor g X.env=pure [(x,cc)])(J:defaultsOf b X.env=([],[])) (hb:∀(q:Str)(cl:List (Str×Addr))(pm C v:Value)(c:Addr),bindArgs (PySem.W.kla_fn "<lambda>" q b (.UnaryOp .USub (.Subscript (.Name x p1) (.Name n p2) p3) p4) g cl pm (.ref c) C) ⟨[v],[]⟩=pure [(n,v)]) (hN:X.N[ix]?=some x)(N:X.env.kindOf x=some .cell)(hk:g.kind=.function)(VT:g.isCoroutine=false)(S:g.isGenerator=false)(T:∀y∈g.names,y.2≠.cell)(hn:g.names.lookup n=some .local)(hx:g.names.lookup x=some .free) (d1:(x==("__debug__":Str))=false)(d2:(x==("__classdict__":Str))=false)(d3:(n==("__debug__":Str))=false) (he:backTo pos (starEach [L] X.env)=(false,eval L X.env)::backTo pos (starEach [] X.env):=by rfl)(VU:(backTo pos (starEach [L] X.env)).any (·.1)=false:=by rfl): PE X (.Call (.Name "sorted" p0) [L] [⟨some "key",.Lambda b (.UnaryOp .USub (.Subscript (.Name x p1) (.Name n p2) p3) p4) g lp,l⟩] pos) (MJ ta ix):=by
  intro pins s σ H Q I h;refine iv (pe I hg hm rfl (callWith_kw (bS (ha pos pins s σ H _ I h) fun us s1 ⟨vs,H1,I1,r1,r,a,j,e1,Y,hs,hq,hl,q⟩=>?_) he VU));subst e1;obtain⟨u,rfl,rx⟩:=mD r1;cases rx;obtain⟨m0,VV,p⟩:=I1.loc;obtain⟨u0,ru,R⟩:=p ix x _ hN hs (.inr (.inl N));obtain⟨cc,E⟩:∃cc,X.env.cells.lookup x=some cc:=by
    rcases R with⟨z,_⟩|⟨_,cc,e,_⟩;.rw[N] at z;cases z
    simp_all
  show wpAny _ _ (evalAll ((do let v<-eval _ X.env;standAt pos;pure v)::[])) _ _ s1;refine wpAny_evalAll_cons (ah (VR I1 hT hC Dg (wt cc E) J hB fun f c' pm C H2 O M w hf G=>ah (gE (ax (wpAny_evalAll_nil ?_)))));show wpAny _ _ (call (.builtin "sorted") [.ref r] [(Str.ofString "key",.ref f)]) _ _ O;obtain⟨t,u1,v1,VW⟩:=w.bI r _ (M _ _ Y);have VX:Rd H2 a (.lst (j.map V.int)):=hq.elim (fun z=>.inl (M _ _ z)) fun⟨o,z⟩=>.inr ⟨o,M _ _ z⟩;obtain⟨z,Z,cnt,rv,VY⟩:=VX.ok w.bI;have B:O.heap.IsCell cc (some (.ref a)):=by
    obtain⟨m,hns,p⟩:=w.loc;obtain⟨u0,ru,R⟩:=p ix x _ hN hs (.inr (.inl N));cases ru;rcases R with⟨z,_⟩|⟨_,c2,e,q⟩;.rw[N] at z;cases z
    .rw[E] at e;cases e;exact q
  refine VQ (A:=X.A) (kz:=j.map fun z=>-z) (w.ok.hd hc) VW (by rw[aW]) (by rw[aW];exact hl) (fun i t k d h' tk l Q' hQ=>?_) fun D h' tk U cD nD l io hD=>?_;.rw[cj] at d;cases e:j[i]? with |none=>rw[e] at d;cases d |some z=> rw[e] at d;have ek:-z=k:=dU d;subst ek;obtain⟨tz,ez⟩:=(Mf rv).get i z e;exact VM (s:={O with heap:=h',toks:=tk}) (A:=X.A.in1.in1) (its:=Z) (tz:=tz) (show X.A.depth<recursionLimit from hr.depth) (l _ _ hf) (G.keeps l) (w.nolimit.keeps l) (fun v=>hb _ _ _ _ v _) hk VT S T hn hx (by simp) (B.keeps l) ⟨_,l _ _ VY,rfl,cnt,rfl⟩ (by lia) (by have:=(b'.mp e).1;lia) (by simpa using ez) d1 d2 d3 hQ
  . have eK:(fun i=>(j.map fun z=>-z).getD i 0)=fun i=>-(j.getD i 0):=by funext i;rw[dR,cj,dR];cases j[i]?<;>rfl
    rw[eK,aW] at io;refine⟨.ref D,_,w.Bh (a:=D) (o:=.lst ((m8 (fun i=>-(j.getD i 0)) j.length).map fun i:Nat=>V.int (i:Int))) l nD ⟨?_,U.toList,cD,?_,by simpa using hD⟩,rfl,q H2 D M (w.bI.none_of nD)⟩;.rw[aW,(wQ _ _).length_eq,qi];exact bK (il hl) (by decide)
    .have:=UW io;rwa[cK] at this
end
end L2
namespace PM
open PySem L2
section
variable{K:Kx}{XO:c5}{E:L2.St->XK}
def dw(ns:List Int):List Int:=(m8 (fun i=>-(ns.getD i 0)) ns.length).map fun i:Nat=>(i:Int)
def yb(d:D):Option D:=match d with |.lst l=>(dG l).bind fun a=>cH (a.length<64) (some (.lst ((dw a).map .int))) none |_=>none
def Dh(i:Nat)(δ:En):R D:=match δ[i]? with |some (.v d)=>R.of (yb d) |_=>.no
theorem VZ(h:yb d=some d'):∃ns:List Int,d=.lst (ns.map .int)/\ns.length<64/\d'=.lst ((dw ns).map .int):=by
 unfold yb at h;split at h;.rename_i l;cases z:dG l with |none=>simp_all |some ns=>
  rw[z] at h;simp at h;unfold cH at h;split at h;.rename_i a;cases h;exact⟨_,by rw[uo z],a,rfl⟩
  simp_all
 simp_all
theorem V0(h:ns.length<64):yb (.lst (ns.map .int))=some (.lst ((dw ns).map .int)):=by simp[yb,rZ,fY h]
theorem V1:iK K XO E (MJ (fR (F9 (fR (rR (fun xs H Q=>∃p ys,xs=[.ref p]/\(fX K.f H p ys\/jU K.f H p ys)/\Q (.int ys.length) H) (fR (cS i) cV)) cV)) cV) i) (Dh i):=by intro M L N F H T x Q I a;have k:=I.slot i;unfold Dh at a;cases e:x[i]? with |none=>rw[e] at a;exact a.elim |some y=> cases y with
 |v d=> rw[e] at a k;dsimp at a;cases q:yb d with |none=>rw[q] at a;exact a.elim |some U=>
  rw[q] at a;obtain⟨G,rfl,B,rfl⟩:=VZ q;obtain⟨u,t,z⟩:=k;obtain⟨X,S,rfl,C,A⟩:=z;have j:=sY A;subst j;have f:=PM.aC.sU I.ext.fh C;refine⟨_,t,_,_,rfl,.inl (.inl f),(⟨_,rfl,fun r n=>⟨r,_,_,rfl,by rw[cw,aW],t,?_,B,fun Y D w m=>?_⟩⟩)⟩;.exact PM.aC.rd (aC.upd n) f
  .have g:=(aC.upd n).trans w;have s:Ext F H F _:=⟨.refl _,g,I.ext.fh.trans g,fun _ _ h _=>h⟩;have b:=g.free m;refine a F _ (s.trans (.fD s.fh m)) D (I.ext.fh.free b) b ⟨_,cw,?_⟩;have:=aF.ints (K:=K) (F:=F) (ns:=dw G);unfold dw at this;rw[cK,cK] at this;unfold dw;rwa[cK]
 |no=>rw[e] at a;exact a.elim |o d=>rw[e] at a;exact a.elim |l d=>rw[e] at a;exact a.elim |p d=>rw[e] at a;exact a.elim
end
end PM
namespace L2
open PySem PySem.Spec PyProof.Rows
theorem V2{K:PySem.W.Frag}(h:tabOf K=some T):∃(q:Str) (a cl:Int),T.2=#[.str q 0,rawInt a,rawInt cl]:=by
  obtain⟨p,_,e⟩:=List.exists_of_findSome?_eq_some h;split at e
  . split at e;.obtain⟨P,_,e⟩:=oE.mp e;grind
    grind
  grind
def Bi(K:PySem.W.Frag)(P:Addr):Bool:= (match tabOf K with|some t=>t.1==P|none=>false)&&(K.lookup P).isNone&&K.any fun p=>match p.2.data with
 |.func a=>match a.code with |.ref c=>PySem.W.codeHdIn K c P |_=>false
 |_=>false
theorem V3{K:PySem.W.Frag}(h:Bi K P=true):(∃a,tabOf K=some (P,a))/\K.lookup P=none/\∃c,PySem.W.codeHdIn K c P=true:=by
  unfold Bi at h;simp only[ka] at h;obtain⟨⟨b,d⟩,f⟩:=h;refine⟨?_,by simpa using d,?_⟩
  . split at b;.grind
    simp_all
  . obtain⟨p,_,e⟩:=p_.mp f;split at e
    . split at e;.exact⟨_,e⟩
      .cases e
    .cases e
section
variable{P:Program}{w:World}{K:PySem.W.Frag}{mg mb:Str->Option Value}{CX:jo}{k:Nat}{fa a tP:Addr}{fd:FuncData}{x:Str}{sp:Sp}{dW:Shared}{vs:List Value}{ns:List Int}
theorem V4(KX:K.In dW.heap)(hT:Bi K tP=true)(I:dW.heap.get? tP=some (PySem.W.tabObj #[])) (M:dW.heap.Ns mainGlobals mg)(g:dW.heap.Ns builtinsNs mb)(V5:∀y:Str,y≠"__name__"->mb y=bootBuiltins y)(lim:dW.heap.NoLimit)(bm:mP mg dW.heap)(hg:dW.gens=#[]) (C:dW.heap.get? a=some (seqObj "list" vs.toArray 0))(hi:IntsAre vs ns)(hl:ns.length<=sizeLine)(hr:cu k callerA) (F:∀B:Heap,K.In B->B.Ns mainGlobals mg->mP mg B->cz P w K mg B CX k fa fd [x] sp)(bd:∀(s:Shared)(u:Value),BindsTo s fd ⟨[u],[]⟩ [(x,u)]) (V6:∀H:Hp,fX K H a (ns.map V.int)->sp [.ref a] H (fun v _=>v=.bl true) fun _ _ _=>False)(Y:∀H e s',CX [] H dW (fun _ _ _=>False) e s'->False): codeAny (model P w) callerA (.call (.ref fa) ⟨[.ref a],[]⟩) (fun r s'=>r=.ok (.ret (.bool true))/\OldK dW.heap s'.heap/\s'.os=dW.os/\AllBare s'.gens) dW:=by
  obtain⟨⟨A,eT⟩,nT,c,cT⟩:=V3 hT;obtain⟨q,ln,cl,l⟩:=V2 eT;dsimp only at l;have rv:=K_ hi;have aP:a≠tP:=fun z=>by simp_all
  obtain⟨D,L⟩:∃D:Hp,D=fun b=>if b=a then(if(K.lookup a).isNone then some (.jI (seqObj "list" vs.toArray 0) (.lst (ns.map V.int))) else none) else none:=⟨_,rfl⟩;have E:D a=if(K.lookup a).isNone then some (.jI (seqObj "list" vs.toArray 0) (.lst (ns.map V.int))) else none:=by rw[L];grind
  have V7:∀b,b≠a->D b=none:=fun b g=>by rw[L];grind
  obtain⟨H,eH⟩:∃H,H=upd D tP (.pd A):=⟨_,rfl⟩;have HT:H tP=some (.pd A):=by rw[eH];exact cw
  have HA:H a=D a:=by rw[eH];exact bj aP
  have Q:∀b u,H b=some u->(b=tP/\u=.pd A)\/(b=a/\K.lookup a=none/\u=.jI (seqObj "list" vs.toArray 0) (.lst (ns.map V.int))):=fun b u e=>by
    by_cases U:b=tP;.subst U;rw[HT] at e;grind
    . rw[eH,bj U] at e;by_cases R:b=a
      . subst R;rw[E] at e;split at e;.rename_i z;cases e;exact .inr ⟨rfl,by simpa using z,rfl⟩
        simp_all
      .rw[V7 b R] at e;cases e
  have Z:ic P w H dW.heap:=fun b u e=>by
    rcases Q b u e with⟨rfl,rfl⟩|⟨rfl,_,rfl⟩;.exact⟨q,0,ln,cl,[],#[],by rw[l],I,.inl rfl⟩
    .exact⟨C,by rw[aW];exact hl,vs,_,rv,C⟩
  have hS:fX K H a (ns.map V.int):=by cases z:K.lookup a with |none=>exact .inl (.inr ⟨_,by rw[HA,E,z];rfl⟩) |some o=> have e:=KX a o z;rw[C] at e;cases e;exact .inr ⟨_,vs.toArray,_,z,rfl,rfl,rfl,by rwa[d9,hi.length],by omega⟩
  have V8:∀{b:Addr}{o:Obj}{T:Array DictEntry}{S:Nat},dW.heap.get? b=some o->o.data=.dict T S->H b=none:=fun{b o T S} e d=>by cases z:H b with |none=>rfl |some u=>
      rcases Q b u z with⟨rfl,_⟩|⟨rfl,_,_⟩;.rw[I] at e;cases e;cases d
      .rw[C] at e;cases e;cases d
  have j:∀{b:Addr}{m:Str->Option Value},dW.heap.Ns b m->(mw dW.heap H).Ns b m:=fun{b m} ⟨o,T,S,e,d,r⟩=>⟨o,T,S,Ej e (V8 e d),d,r⟩;have O:K.In (mw dW.heap H):=fun b o e=>Ej (KX b o e) (by cases z:H b with |none=>rfl |some u=>
      rcases Q b u z with⟨rfl,_⟩|⟨rfl,y,_⟩;.rw[nT] at e;cases e
      .rw[y] at e;cases e);have hM:Mod K mg (mw dW.heap H):=⟨O,j M,⟨mb,j g,V5⟩,let⟨mc,U,R⟩:=lim;⟨mc,j U,R⟩⟩;have X:mP mg (mw dW.heap H):=by obtain⟨m,o,b1,b2,J,b4,b5,b6⟩:=bm;refine⟨m,o,b1,b2,Ej J ?_,b4,b5,b6⟩;cases z:H m with |none=>rfl |some u=>
      rcases Q m u z with⟨rfl,_⟩|⟨rfl,_,_⟩;.rw[I] at J;cases J;cases b4
      .rw[C] at J;cases J;cases b6
  have tb:qJ K H:=fun t e=>by rw[eT] at e;cases e;exact⟨#[],by rw[HT];simp⟩
  have e0:pz P w K mg (mw dW.heap H) callerA [] dW H:=⟨rfl,hM,fun b o e=>R5 e,lW (R4 _ _),trivial,fun b g=>absurd (show b∈([]:List Addr) from g) (by simp),Z,.of_eq hg,tb⟩;refine gB ((F _ O (j M) X).run callerA [] dW H ⟨[.ref a],[]⟩ [.ref a] [.ref a] _ _ hr e0 (bd dW (.ref a)) (.cons rfl .nil) (V6 H hS)) fun r s' h=>?_;match r,h with
  |.error e,h=>exact(Y H e s' h).elim |.ok (.ret u),h=>
    obtain⟨v,H',os,G,un,n,r',q'⟩:=h;subst q';obtain rfl:u=Value.bool true:=r';have N:∃f,s'.heap.get? tP=some (PySem.W.tabObj f):=by obtain⟨more,z⟩:=un.iC tP _ HT;obtain⟨_,_,_,_,_,f,_,e,_⟩:=n tP _ z;exact⟨f,e⟩
    obtain⟨f,i⟩:=N;have p:∀b o,b≠tP->dW.heap.get? b=some o->s'.heap.get? b=some o:=fun b o g e=>by cases z:H b with |none=>exact un.keep b o e z (by intro y;exact absurd (show b∈([]:List Addr) from y) (by simp)) (by simp) |some u=>
        rcases Q b u z with⟨rfl,_⟩|⟨rfl,_,rfl⟩;.exact absurd rfl g
        .obtain⟨e2,_⟩:=n _ _ (un.jJ _ _ _ z);rw[C] at e;cases e;exact e2
    refine⟨rfl,⟨fun b o e=>?_,fun b o e=>?_⟩,os,G⟩
    . by_cases g:b=tP;.subst g;rw[I] at e;cases e;exact .inr (.inl ⟨((PySem.W.codeHd_of_K KX cT).tab I).isCodeTable,rfl,#[],f,rfl,by rw[i];simp⟩)
      .exact .inl (p b o g e)
    . by_cases g:b=tP;.subst g;exact⟨_,i⟩
      .exact⟨o,p b o g e⟩ |.ok .next,h=>exact False.elim h |.ok .brk,h=>exact False.elim h |.ok .cont,h=>exact False.elim h
end
theorem tf{l:PySem.W.OpenLaw}{q:Program}{K:Params->PySem.W.Frag}{CX:World->jo}{sp:World->Sp}(M:l.most=some n)(A:n<=sizeLine)(y:d.params.defaults=[])(J:cu k callerA)(E:∀(w:World)(h:Heap),I w h->(K w.params).In h)(r:∀(w:World)(h:Heap),I w h->∀t∈[U],h.get? t=some (PySem.W.tabObj #[])) (S:∀w:World,Bi (K w.params) U=true) (F:∀(w:World)(mg:Str->Option Value)(i:Addr)(h:Heap),(K w.params).In h->h.Ns mainGlobals mg->mg d.name=some (.ref i)-> ∃fd:FuncData,(∀(s:Shared)(u:Value),BindsTo s fd ⟨[u],[]⟩ [(x,u)])/\∀B:Heap,(K w.params).In B->B.Ns mainGlobals mg->mP mg B->cz l.prog w (K w.params) mg B (CX w) k i fd [x] (sp w)) (m:∀(w:World)(H:Hp)(a:Addr)(ns:List Int),ns.length<=n->fX (K w.params) H a (ns.map V.int)->sp w [.ref a] H (fun v _=>v=.bl true) fun _ _ _=>False) (j:∀(w:World)(H:Hp)(s:Shared)(e:Value)(s':Shared),CX w [] H s (fun _ _ _=>False) e s'->False):PySem.W.WalkO q z XP I l.row.toRowW d [] (fun f vs=>PySem.call f vs):=by refine K9.nL M y fun w C D mg mb i o pm cd N a vs ns G Y Z X Q p g c b L=>?_;obtain⟨fd,O,R⟩:=F w _ _ _ (E w _ Y) G.T.g p;exact V4 (E w _ Y) (S w) (r w _ Y _ kg) G.T.g G.T.b G.T.builtins G.T.nolimit G.T.bmain L g c (bK b A) J R O (fun H T=>m w H a _ b T) fun H e s'=>j w H _ e _
section
variable{X:Cx}
end
end L2
namespace PM
open PySem L2
section
variable{K:Kx}{XO:c5}{E:L2.St->XK}
end
section
variable{K:Kx}
end
end PM
namespace L2
open PySem PySem.Spec PyProof.Rows
section
variable{prog:Program}{w:World}{A:Around}{E:Value->Shared->Prop}{s:Shared}
end
section
variable{prog:Program}{w:World}{A:Around}{E:Value->Shared->Prop}{s:Shared}
end
section
variable{X:Cx}{pins:List (Addr×Obj)}{σ:St}{A:Around}{R:Result->Shared->Prop}
end
end L2
namespace PM
open PySem L2
section
variable{K:Kx}{XO:c5}{E:L2.St->XK}
end
end PM
namespace L2
open PySem PySem.Spec PyProof.Rows
section
variable{X:Cx}{pins:List (Addr×Obj)}{σ:St}{H:Hp}{s:Shared}{a:Addr}{cq:List (Key×V)}
end
theorem KV.len{cq:List (Key×V)}(r:KV cq vs):vs.length=cq.length:=by induction r with |nil=>rfl |cons _ _ b=>simp[b]
section
variable{X:Cx}
def MK:List V->Hp->VK->Prop:=fun c H Q=>∃a b,c=[.ref a]/\Rd H a (.dK b)/\∀l,H l=none->Q (.ref l) (upd H l (.dK b))
theorem V9:mV X (.type "dict") MK:=by rintro f s w H p t Q I r ⟨a,g,rfl,n,q⟩;obtain⟨u,rfl,o⟩:=mD r;cases o;obtain⟨z,h,v,d,m⟩:=AU I.bI n;refine kt_call_dict h m (by rwa[d.len]) fun i k l=>?_;have j:∀b u,s.heap.get? b=some u->i.get? b=some u:=fun b u e=>(l.2 b (a_ (aM e))).trans (aO _ e);exact⟨.ref _,_,I.laid j (aG _) (KY z (by have:=I.big;exact kn.mpr (eU this)) d k),rfl,q _ (I.bI.fresh (aG _))⟩
end
end L2
namespace PM
open PySem L2
section
variable{K:Kx}{XO:c5}{E:L2.St->XK}
end
end PM
namespace L2
open PySem PySem.Spec PyProof.Rows
structure yc(P:Program)(w:World)(K:PySem.W.Frag)(mg:Str->Option Value)(base:Heap)(CX:jo)(k:Nat)(x:Str)(ps:List Str)(sp:Sp)(d:V):Prop where ex:∃(f:Addr) (fd:FuncData),cz P w K mg base CX k f fd ps sp/\mg x=some (.ref f)/\PySem.W.keepIn K (.ref f)=true/\Binds K fd ps []/\∃u,RelV d u/\Binds K fd ps [u]
section
variable{P:Program}{w:World}{K:PySem.W.Frag}{mg:Str->Option Value}{base:Heap}{CX:jo}{k:Nat}{x:Str}{ps:List Str}{sp:Sp}{d:V}
end
section
variable{X:Cx}{CX:jo}{k:Nat}{x:Str}{ps:List Str}{sp:Sp}{E:XK}{p pos:Pos}{a b:Expr}{ta tb:TE}{d:V}
end
theorem V_{K:PySem.W.Frag}{n:Nat}(hd:fd.defaults=.ref T)(f:K.lookup T=some o)(g:o.data=.seq #[u] n) (h3:∀us:List Value,us.length=ps.length->∃a,bindArgs fd ⟨us,[]⟩=seqItems? fd.defaults>>=a/\a (some #[u])=pure (ps.zip us)) (h2:∀us:List Value,us.length+1=ps.length->∃a,bindArgs fd ⟨us,[]⟩=seqItems? fd.defaults>>=a/\a (some #[u])=pure (ps.zip (us++[u]))):Binds K fd ps []/\Binds K fd ps [u]:=by
 constructor;.intro s us d b;rw[dQ] at b⊢;obtain⟨a,c,e⟩:=h3 _ b;exact .of_defaults hd (d T o f) g c e
 .intro s us d b;obtain⟨a,c,e⟩:=h2 _ (by simpa using b);exact .of_defaults hd (d T o f) g c e
structure rA(K:PySem.W.Frag)(x qual:Str)(st:Stmt)(f:Addr)(fd:FuncData)(d:V):Prop where
 ex:∃(oc:Value) (od:Option Addr) (T:Addr) (kV doc pm:Value) (an:Option Addr) (qV ct:Value) (uR:Array (Option Value)), fd=PySem.W.fnOf x qual (nM st) (kS st) (cM st) (.ref T) kV doc pm an qV ct/\K.lookup f=some ⟨oc,od,.func fd,uR⟩/\PySem.W.codeIn K qV qual=true/\∃(o:Obj) (u:Value) (n:Nat),K.lookup T=some o/\o.data=.seq #[u] n/\RelV d u
 kp:PySem.W.keepIn K (.ref f)=true
section
variable{P:Program}{w:World}{K:PySem.W.Frag}{mg:Str->Option Value}{base:Heap}{d:V}
theorem rA.binds{st:Stmt}(F:rA K x c st f fd d) (h3:∀(T:Addr)(kV b g:Value)(an:Option Addr)(a h u:Value)(us:List Value),us.length=ps.length->∃e,bindArgs (PySem.W.fnOf x c (nM st) (kS st) (cM st) (.ref T) kV b g an a h) ⟨us,[]⟩=seqItems? (.ref T)>>=e/\e (some #[u])=pure (ps.zip us)) (h2:∀(T:Addr)(kV b g:Value)(an:Option Addr)(a h u:Value)(us:List Value),us.length+1=ps.length->∃e,bindArgs (PySem.W.fnOf x c (nM st) (kS st) (cM st) (.ref T) kV b g an a h) ⟨us,[]⟩=seqItems? (.ref T)>>=e/\e (some #[u])=pure (ps.zip (us++[u]))): Binds K fd ps []/\∃u,RelV d u/\Binds K fd ps [u]:=by obtain⟨t,v,T,kV,b,g,an,a,h,p,rfl,s,r,o,u,n,q,l,k⟩:=F.ex;obtain⟨j,m⟩:=V_ rfl q l (fun us i=>h3 T _ _ _ _ _ _ u _ i) fun us i=>h2 T _ _ _ _ _ _ u _ i;exact⟨j,u,k,m⟩
end
structure mQ(K:PySem.W.Frag)(x:Str)(st:Stmt)(f:Addr)(fd:FuncData)(d:V):Prop where ns:PySem.W.nsIn K mainGlobals x=some (some (.ref f))fn:rA K x x st f fd d
theorem rB{K:PySem.W.Frag}{st:Stmt}{kV d g b h:Value}(a:PySem.W.nsIn K mainGlobals x=some (some (.ref f))) (l:K.lookup f=some ⟨o,od,.func (PySem.W.fnOf x x (nM st) (kS st) (cM st) (.ref T) kV d g an b h),m⟩)(c:PySem.W.codeIn K b x=true)(k:PySem.W.keepIn K (.ref f)=true)(t:K.lookup T=some ⟨j,od',.seq #[.int i tk] n,e⟩):∃f fd,mQ K x st f fd (.int i):= ⟨f,_,a,⟨⟨_,_,T,_,_,_,_,_,_,_,rfl,l,c,_,_,n,t,rfl,_,rfl⟩,k⟩⟩
theorem mQ.has{K:PySem.W.Frag}{st:Stmt}(D:mQ K x st f fd d)(X:K.In h)(G:h.Ns mainGlobals mg) (c:cz P w K mg a CX k f fd ps sp)(b:Binds K fd ps []/\∃u,RelV d u/\Binds K fd ps [u]):yc P w K mg a CX k x ps sp d:=⟨f,_,c,dg X G D.ns,D.fn.kp,b⟩
end L2
namespace PM
open PySem L2
def kK:List Str->List D->Str->Option D |a::r,d::t,f=>if a=f then some d else kK r t f |_,_,_=>none
def putN:List Str->Str->List Str |[],f=>[f] |a::r,f=>if a=f then a::r else a::putN r f
def fH:List Str->List D->Str->D->List D |[],_,_,d=>[d] |a::r,l,f,d=>if a=f then d::l.drop 1 else match l with|x::t=>x::fH r t f d|[]=>[]
section
variable{K:Kx}{F H:Hp}
theorem Gu:∀{fs:List (Str×V)}{ks:List Str}{l:List D}{d:D},fs.map (·.1)=ks->aF K F l (fs.map (·.2))->kK ks l f=some d->∃v,fs.lookup f=some v/\Rep K F d v |[],ks,l,d,b,j,h=>by subst b;cases l<;>cases h |(g,x)::fs,ks,l,d,b,j,h=>by subst b;cases l with |nil=>cases h |cons y l=>
 obtain⟨v,r,e,n,m⟩:=j;cases e;rw[bH,kK] at h;by_cases c:g=f;.simp_all
 .rw[ao c] at h;obtain⟨v,p,o⟩:=Gu rfl m h;grind
theorem Gv:∀{fs:List (Str×V)},f∉fs.map (·.1)->fs.lookup f=none |[],_=>rfl |(g,x)::fs,h=>by simp only[bH,aY,iq] at h;rw[fq,kn.mpr h.1];exact Gv h.2
theorem yd(j:Rep K F d v):∀{fs:List (Str×V)}{l:List D},aF K F l (fs.map (·.2))->(gr f v fs).map (·.1)=putN (fs.map (·.1)) f/\aF K F (fH (fs.map (·.1)) l f d) ((gr f v fs).map (·.2)) |[],l,_=>⟨rfl,.cons j .nil⟩ |(g,x)::fs,l,h=>by cases l with |nil=>cases h |cons y l=>
 obtain⟨u,r,e,n,m⟩:=h;cases e;unfold gr;rw[bH];by_cases c:g=f;.rw[aq c];refine⟨by rw[putN,aq c];rfl,?_⟩;rw[fH,aq c];exact .cons j m
 .rw[ao c];obtain⟨a,b⟩:=yd j m;refine⟨by rw[putN,ao c,bH,a],?_⟩;rw[fH,ao c];exact .cons n b
end
def bw(b:Nat->Bool)(f:Str)(d:D):Option D:=match d with|.obj c a l=>if b c=true then kK a l f else none|_=>none
section
variable{K:Kx}{XO:c5}{E:L2.St->XK}{ta te:TE}{ma me:En->R D}
theorem hG(g:∀c,e c=true->dI K.f (K.ca c)/\aE K.f (K.ca c) f)(h:lK K XO E ta ma):SE K XO E (uP K.f ta f) (m1 (bw e f) ma):=by
 intro L B u F H A J Q I a;refine h _ _ _ F H _ _ _ I (a.bind.imp fun d w t m b x n=>?_)
 cases d with |obj c y l=>
  obtain⟨p,C,G,rfl,j,o,r⟩:=n;change eP E _ _ _ _ _ (R.of (if e c=true then kK _ l f else none)) at b;by_cases z:e c=true;.rw[aq z] at b;cases q:kK _ l f with |none=>rw[q] at b;exact b.elim |some d=> rw[q] at b;obtain⟨v,s,k⟩:=Gu o r q;exact⟨p,_,_,_,v,rfl,j,(g c z).1,(g c z).2,s,b _ _ (.refl m.fh) _ k⟩
  .rw[ao z] at b;exact b.elim |_=>exact b.elim
end
def tm(δ:En):Prop:=∀i:Nat,Sl.own δ[i]?=false
section
variable{K:Kx}{XO:c5}{E:L2.St->XK}{F0 H0 F H:Hp}{σ:L2.St}{δ:En}
theorem az.nW(I:az K [] F0 H0 F H σ δ)(f:tm δ)(h0:H0 x=none)(h:F x=none):az K [] F0 H0 F (upd H x u) σ δ:=by
 refine⟨⟨I.ext.ff,fun b o q=>?_,fun b o q=>?_,I.ext.nw⟩,I.len,fun i=>?_,fun i j a _ e _ _ _=>?_,fun y k=>(by cases k),fun i g e=>?_⟩;.rw[bj (dC q h0)];exact I.ext.hh _ _ q
 .rw[bj (dC q h)];exact I.ext.fh _ _ q
 .have z:=I.slot i;have o:=f i;cases q:δ[i]? with |none=>trivial |some s=> rw[q] at z o;cases s with |no=>trivial |v d=>exact z |o d=>cases o |l d=>cases o |p g=>cases o
 .rw[f i] at e;cases e
 .have:=f i;rw[e] at this;cases this
def fJ(m1 m2:En->List Str->List D->R (List Str×List D))(δ:En)(ks:List Str)(l:List D):R (List Str×List D):=(m1 δ ks l).bind fun p=>m2 δ p.1 p.2
def runN(c np:Nat)(m:En->List Str->List D->R (List Str×List D))(ds:List D):R D:=if ds.length=np then(m (.no::ds.map .v) [] []).bind fun p=>.ok (.obj c p.1 p.2) else .no
def isObj(c:Nat)(m:Str)(d:D):Option Unit:=match d with|.obj b a _=>if b=c/\m∉a then some () else none|_=>none
def bN(c:Nat)(m:Str)(f:List D->R D)(ma:En->R D)(ml:En->R (List D))(δ:En):R D:=(ma δ).bind fun d=>(R.of (isObj c m d)).bind fun _=>(ml δ).bind fun l=>(f (d::l)).i7
theorem ML(h:isObj c m d=some u):∃ks l,d=.obj c ks l/\m∉ks:=by
  unfold isObj at h;split at h
  . split at h;.simp_all
    simp_all
  simp_all
theorem c_(k:C=K.ca c)(s:SE K XO E o ma)(h:SA K XO E y ml):SE K XO E (wo C m (qA K XO f) [] E' o y) (bN c m f ma ml):=by intro A F0 H0 F H σ δ Q I a;refine s _ _ _ F H _ _ _ I (a.bind.imp fun d X T g b x j=>?_);cases q:isObj c m d with |none=>rw[q] at b;exact b.elim |some u=> rw[q,R.au,R.ak] at b;obtain⟨S,l,rfl,G⟩:=ML q;have e:=j;obtain⟨p,J,L,rfl,t,z,Y⟩:=j;exact⟨p,_,_,rfl,by rw[k];exact g.fh _ _ t,Gv (by rwa[z]),(h _ _ _ _ _ _ _ _ (I.grow g) (b.bind.imp fun M F2 H2 i n U r=>⟨_,_,i.fh,by rw[dQ];exact .cons (Rep.mono i.ff _ e) r,eP.imp (fun d Z B N p v w=>p v w) (eP.any n)⟩))⟩
theorem kL(y:C=K.ca c)(w:SE K XO E n ma)(h:SA K XO E z ml):iK K XO E (wo C m (vg K XO f) [] E' n z) (bN c m f ma ml):=by intro B F0 H0 F H σ δ Q I a;refine w _ _ _ F H _ _ _ I (a.bind.imp fun d Y U e b x k=>?_);cases q:isObj c m d with |none=>rw[q] at b;exact b.elim |some u=> rw[q,R.au,R.ak] at b;obtain⟨T,l,rfl,L⟩:=ML q;have i:=k;obtain⟨p,M,N,rfl,j,A,Z⟩:=k;exact⟨p,_,_,rfl,by rw[y];exact e.fh _ _ j,Gv (by rwa[A]),(h _ _ _ _ _ _ _ _ (I.grow e) (b.bind.imp fun S F2 H2 g s X r=>⟨_,_,g.fh,by rw[dQ];exact .cons (Rep.mono g.ff _ i) r,eP.imp (fun d F3 G J p v t j o=>p v t (e.hh.free (g.hh.free j)) o) (eP.any s)⟩))⟩
end
end PM
namespace L2
open PySem PySem.Spec PyProof.Rows
section
variable{prog:Program}{w:World}{A:Around}{E:Value->Shared->Prop}{s:Shared}
theorem MN(a:s.heap.IsTupleIter d t i)(h:s.heap.IsTuple t items)(k:items[i]?=some x) (j:∀h',h'.IsTupleIter d t (i+1)->Heap.SameBut d s.heap h'->Q x {s with heap:=h'}):wpAny (model prog w) A (Builtin.SmallTypes.nextOf (.ref d)) Q E s:=by obtain⟨o,c,g,b⟩:=id a;obtain⟨l,e,_,m,f⟩:=h;refine ah (iw a.typeIs p7 (iy p7 a.typeIs F.entry_tuple_iterator_next ?_ (F.args_tuple_iterator_next_1 _)));show wpAny _ _ (field _ 0>>=_) _ _ s;refine ah (cm c b rfl (ah (cm c b rfl (ah (eG e f ?_)))));simp[k];refine ah (ku c b (by simp) (ax ⟨x,rfl,ax (j _ ⟨_,jC _ c (lX (ki b _)),(Obj.cls_mapFields ..).trans g,?_⟩ (nC ..))⟩));rw[ki b];rfl
theorem Gw(g:A.handled=none)(a:s.heap.IsTupleIter h t i)(l:s.heap.IsTuple t items)(j:items[i]?=none) (k:∀h' e,Heap.ExtBut h s.heap h'->(∃o,h'.get? e=some o/\o.cls=.type "StopIteration")->E (.ref e) {s with heap:=h'}):wpAny (model prog w) A (Builtin.SmallTypes.nextOf (.ref h)) Q E s:=by
 obtain⟨o,d,q,c⟩:=id a;obtain⟨p,b,_,n,f⟩:=l;refine ah (iw a.typeIs p7 (iy p7 a.typeIs F.entry_tuple_iterator_next ?_ (F.args_tuple_iterator_next_1 _)));show wpAny _ _ (field _ 0>>=_) _ _ s;refine ah (cm d c rfl (ah (cm d c rfl (ah (eG b f ?_)))));simp[j];refine ah (iA (ah (ku d c (by simp) (ah (ah (m:=firstArgMember _ _) (wpAny_of_eq rfl (kr (ah (wpAny_handled ?_)) (by size_fits))))))));first|rw[g]|rw[g]
 exact ah (ax (wpAny_throw (k _ _ (((nC ..).extBut.push _).push _) ⟨_,cg _ rfl,rfl⟩)))
theorem V'(k:A.handled=none)(c t:Addr)(d:t≠c)(items:Array Value):Draws prog w A c [c,t] items.size (fun i v=>items[i]?=some v) (fun i h=>h.IsTupleIter c t i/\h.IsTuple t items) where live:=fun _ _ st=>let⟨o,j,_⟩:=st.1;⟨o,j⟩;frame:=fun _ _ _ st f=>⟨st.1.at fun o e=>f _ (by simp) o e,st.2.at fun o e=>f t (by simp) o e⟩;item:=fun i s Q E m st l=>MN st.1 st.2 (x:=items[i]) (by simp) fun n b a=>l _ _ _ (by simp) ⟨b,st.2.extBut a.extBut d⟩ a;done:=fun s Q E st g=>Gw k st.1 st.2 (by simp) g
end
open AutoSeq1 (wpAny_loadPart') in
theorem Wa(l:Addr)(items:Array Value)(n:Nat)(e:Option Addr)(m:Array (Option Value)): Meets (Builtin.«enumerate.__new__» ⟨[.type "enumerate",.ref l],[]⟩) (fun _ R s=>s.heap.get? l=some {cls:=.type "tuple",dict:=e,data:=.seq items n,slots:=m}/\ R (.ok (.ret (.ref (s.heap.push {cls:=.type "tuple_iterator",data:=.fields #[.ref l,.int 0 0]}).objs.size))) {s with heap:=(s.heap.push {cls:=.type "tuple_iterator",data:=.fields #[.ref l,.int 0 0]}).push {cls:=.type "enumerate",data:=.fields #[.none,.bool false,.ref s.heap.objs.size,rawInt 0,.none,.none]}}):= .of_wp fun i w A R s h=>by
    obtain⟨j,g,d,k,os⟩:=s;obtain⟨a,h⟩:=h;have f:=sub_enumerate;have b:Heap.IsTuple (Shared.heap ⟨j,g,d,k,os⟩) l items:=⟨_,a,rfl,n,rfl⟩;wp_walk using mf a;refine wpAny_stack_any fun st=>ax ?_;split
    . rename_i c _ _ _ _ _;cases(c==Value.type "enumerate");.wp_walk using mf a,o9 b;exact⟨_,rfl,h⟩
      .wp_walk using mf a,o9 b;exact⟨_,rfl,h⟩
    .wp_walk using mf a,o9 b;exact⟨_,rfl,h⟩
theorem Wb(j:s.heap.IsTuple l items) (h:∀h',IsEnum h' (s.heap.objs.size+1) s.heap.objs.size 0 .none->h'.IsTupleIter s.heap.objs.size l 0->h'.objs.size=s.heap.objs.size+2->(∀b o,s.heap.get? b=some o->h'.get? b=some o)->Q (.ref (s.heap.objs.size+1)) {s with heap:=h'}): wpAny (model prog w) A (call (.type "enumerate") [.ref l]) Q E s:=by
 obtain⟨⟨c,d,m,p⟩,g,i,n,k⟩:=j;subst i k;refine callType_new F.called_enumerate rfl (F.typeCall_enumerate_1 _) (F.newCall_enumerate_1 _) (fun e=>F.args_object_init_2 _ _) F.entry_enumerate_new (Wa l _ n _ _) ⟨g,?_⟩;have f:(s.heap.push {cls:=.type "tuple_iterator",data:=.fields #[.ref l,.int 0 0]}).objs.size=s.heap.objs.size+1:=iO ..;rw[f];have a:IsEnum ((s.heap.push {cls:=.type "tuple_iterator",data:=.fields #[.ref l,.int 0 0]}).push {cls:=.type "enumerate",data:=.fields #[.none,.bool false,.ref s.heap.objs.size,rawInt 0,.none,.none]}) (s.heap.objs.size+1) s.heap.objs.size 0 .none:=by have:=cg (s.heap.push {cls:=.type "tuple_iterator",data:=.fields #[.ref l,.int 0 0]}) (o:={cls:=.type "enumerate",data:=.fields #[.none,.bool false,.ref s.heap.objs.size,rawInt 0,.none,.none]}) rfl;grind
 exact⟨⟨_,a,rfl⟩,h _ a ⟨_,aO _ (cg _ rfl),rfl,rfl⟩ (by simp) fun b o x=>aO _ (aO _ x)⟩
theorem Wc{w:World}{i:Nat}(n:A.handled=none)(g:IsEnum s.heap e f i h)(a:s.heap.IsTupleIter f t i)(l:s.heap.IsTuple t items)(j:items[i]?=none) (p:∀h',Heap.ExtBut f s.heap h'->Q none {s with heap:=h'}):wpAny (model prog w) A (pyNext (.ref e)) Q E s:=by have d:s.TypeIs (.ref e) _:=⟨_,g,rfl⟩;refine ah (l9 (iw d F.slot_enumerate_next (iy F.slot_enumerate_next d F.entry_enumerate_next ?_ (F.args_enumerate_next_1 _))));show wpAny _ _ (field _ 2>>=_) _ _ _;refine ah (cm g rfl rfl (ah (Gw n a l j fun h' x b c=>?_)));obtain⟨o,k,m⟩:=c;exact ah (wpAny_isInstance ⟨o,k,m⟩ isSubtype_stop (ax (p _ b)))
def Gx(K:PySem.W.Frag)(a:Addr):It:= ⟨fun i H=>∃b x,jU K H a b/\b[i]?=some x,fun i H x c=>∃p y,x=.ref p/\H p=none/\c=upd H p (.tup [.int i,y])/\∀b,jU K H a b->b[i]?=some y,fun i H=>∃b,jU K H a b/\b.length<=i⟩
theorem Wd{K:PySem.W.Frag}(a e m:Addr)(t:e≠m): Turn P w K (.Tuple es k pos) (Gx K a) [e,m] e (fun i h=>(∃g,IsEnum h e m i g)/\h.IsTupleIter m a i) where
  mem:=by simp
  obj:=fun i h st b f=>by
    obtain⟨⟨g,h1⟩,o,h2,c,d⟩:=st;rcases aY.mp f with rfl|f;.exact⟨_,h1,fun v z=>by cases(show Data.fields _=Data.cell v from z)⟩
    .rw[bP.mp f];exact⟨o,h2,fun v z=>by simp_all⟩
  keep:=fun i h Z st k=>let⟨⟨g,h1⟩,h2⟩:=st;⟨⟨g,k e (by simp) _ h1⟩,h2.at fun o q=>k m (by simp) o q⟩;item:=by
    intro X hP R S U i J s σ H E I O st T;subst hP R S;obtain⟨xs,x,N,hx⟩:=T;obtain⟨j,Y,p,hz⟩:=I.tuple N;obtain⟨u,hu,ru⟩:=Y.get hx;obtain⟨⟨g,r⟩,l⟩:=st;have M:s.heap.IsTuple a j.toArray:=p;have hT:H s.heap.objs.size=none:=I.bI.fresh (aG _);have eT:e≠s.heap.objs.size:=a_ (aM r);have iT:m≠s.heap.objs.size:=let⟨_,z,_⟩:=l;a_ (aM z);have We:a≠m:=fun z=>by obtain⟨o1,z1,c1,_⟩:=l;obtain⟨o2,G,Q,_⟩:=M;rw[z,z1] at G;cases G;rw[c1] at Q;simp at Q
    have ae:a≠e:=fun z=>by obtain⟨o2,G,Q,_⟩:=M;rw[z,r] at G;cases G;simp at Q
    have li:i<j.toArray.size:=by have:=(b'.mp hu).1;simpa using this
    refine wpAny_pyNext_enum_itemD (V' (prog:=X.prog) (w:=X.w) (A:=X.A.in1) (I.ok.hd U) m a We j.toArray) r ⟨l,M⟩ li t (by simp[t,aR ae]) fun y Z tk hy ho C ht hsz hk=>⟨_,rfl,?_⟩;have ey:y=u:=by
      have:j.toArray[i]?=some u:=by simpa using hu
      rw[this] at hy;cases hy;rfl
    subst ey;refine wpAny_letOwnedTupleGo_enum ho fun Wf L D=>?_;have n:Heap.SameBut e Z Wf:=D;refine⟨.ref s.heap.objs.size,upd H s.heap.objs.size (.tup [.int i,x]),?_,rfl,⟨_,x,rfl,hT,rfl,fun ys Wg=>by rwa[I.qL Wg N]⟩,⟨⟨_,by simpa using L⟩,C.1.at fun o q=>(n.2 _ t.symm).trans q⟩,fun b f=>?_⟩;.refine I.wM _ O (fun b o f q=>?_) (by show 2<=sizeLine;decide) (.cons ⟨tk,rfl⟩ (.cons ru .nil)) ((n.2 _ eT.symm).trans ht);simp[aY,iV,iu,iq] at f;exact(n.2 b f.1).trans (hk b o f.1 f.2 q)
    . obtain⟨f0,_⟩:=O b f;rcases aY.mp f with rfl|f;.rwa[bj eT]
      .rw[bP.mp f] at f0⊢;rwa[bj iT]
  done:=by intro X hP R S U i J s σ H E I O st T;subst hP R S;obtain⟨xs,N,hx⟩:=T;obtain⟨j,Y,p,hz⟩:=I.tuple N;obtain⟨⟨g,r⟩,l⟩:=st;have M:s.heap.IsTuple a _:=p;obtain⟨g0,g1,g2,g3,g4,g5⟩:=O m (by simp);have hl:=Y.length;refine Wc (I.ok.hd U) r l M (by simp;omega) fun Z eb=>⟨rfl,I.turned (fun b o f q=>eb b o f q) g0 g1 g3 g4 g5⟩
  self:=fun _ _ _ _ _ st h=>let⟨⟨_,r⟩,_⟩:=st;mq r h
section
variable{X:Cx}
def MO(K:PySem.W.Frag)(d:TA):TI:=fun e H R=>d e H fun c b=>∃a,c=[.ref a]/\(∃f,jU K b a f)/\R (Gx K a) b
theorem Wh(J:Gl X "enumerate")(z:X.mg "enumerate"=none)(w:PA X [l] y)(E:starEach [l] X.env=[(false,eval l X.env)]:=by rfl): PI X (.Tuple es k M) (.Call (.Name "enumerate" p) [l] [] pos) (MO X.K y):=by
 intro j s O H R I h;refine Call_ (pe I J z boot_enumerate (eW (bS (w _ _ s _ H _ I h) fun L d ⟨_,_,f,A,o⟩=>?_) E rfl));obtain⟨a,e,⟨N,t⟩,q⟩:=o;subst e;obtain⟨u,rfl,x⟩:=mD A;cases x;obtain⟨r,Q,C,S⟩:=f.tuple t;refine Wb C fun B m i D G=>?_;have v:Inv X _ _ _ {d with heap:=B}:=f.kept G;have g:d.heap.objs.size+1≠d.heap.objs.size:=by omega
 refine mq m ⟨_,_,_,_,_,rfl,v,Wd a _ _ g,⟨⟨_,m⟩,i⟩,fun b n=>?_,q⟩;have c:d.heap.objs.size<=b:=by
  rcases aY.mp n with rfl|n;.omega
  simp_all
 exact f.k8 c (f.bI.fresh c)
def MP(K:PySem.W.Frag):R2:=fun x y H Q=>∃a b c d,x=.ref a/\y=.ref b/\jU K H a c/\jU K H b d/\c.length+d.length<=sizeLine/\ (c=[]->Q (.ref b) H)/\(c≠[]->d=[]->Q (.ref a) H)/\(c≠[]->d≠[]->∀p,H p=none->Q (.ref p) (upd H p (.tup (c++d))))
theorem Bj:iI X (binaryOp .Add) (MP X.K):=by
 rintro p s T H x y v u Q I h m ⟨a,b,q,N,rfl,rfl,l,o,G,A,C,B⟩;by_cases c:q=[];.cases h;cases m;obtain⟨M,L,E,_⟩:=I.tuple l;obtain⟨j,U,D,_⟩:=I.tuple o;obtain⟨⟨w,R,k,O⟩,i,r,n,t⟩:=id E;obtain⟨⟨g,J,data2,z⟩,d,e,S,f⟩:=id D;subst r t e f;exact concat_meets ⟨_,i,rfl⟩ ⟨_,d,rfl⟩ noFill_tuple_add seq_tuple_add oK oG (oF _ _) (tuple_addW0 a b _ _ n _ _ _ _ _ (by simp[(L.jW.mpr c)])) ⟨i,d,⟨.ref b,H,I,rfl,A c⟩⟩
 .exact S2 _ s _ H _ _ v u Q I h m ⟨a,b,_,_,rfl,rfl,l,o,c,G,C c,B c⟩
end
end L2
namespace PM
open PySem L2
section
variable{K:Kx}{XO:c5}{E:L2.St->XK}
theorem Wi(r:aF K n ds vs)(h:∀b c,P b c->aC n b/\aC b c/\jU K.f c a vs):mJ K (Gx K.f a) P (qC ds):=by
 intro b c p i;obtain⟨l,g,q⟩:=h _ _ p;unfold qC;rw[List.getElem?_mapIdx];refine⟨fun d f=>?_,fun t=>?_⟩;.cases e:ds[i]? with |none=>simp_all |some x=> rw[e] at f;cases f;obtain⟨v,k,m⟩:=r.get e;refine⟨⟨_,v,q,k⟩,fun s u y=>?_⟩;obtain⟨o,w,rfl,j,rfl,y⟩:=y;have z:=y _ q;rw[k] at z;cases z;exact⟨_,.new g j,⟨_,_,rfl,cw,.cons rfl (.cons (Rep.mono (l.trans (aC.upd (g.free j))) _ m) .nil)⟩⟩
 .refine⟨_,q,?_⟩;cases e:ds[i]? with |none=>rw[r.length];simp_all |some x=>simp_all
def Bk:List D->Option (List D) |[.tup l]=>some (qC l) |_=>none
def Gy(ml:En->R (List D))(δ:En):R (List D):=(ml δ).bind fun l=>R.of (Bk l)
theorem Wj(h:Bk l=some r):∃x,l=[.tup x]/\r=qC x:=by unfold Bk at h;grind
theorem Wk(h:SA K XO E e ml):SI K XO E (MO K.f e) (Gy ml):=by intro k u p F H s m R I a;refine h _ _ _ F H _ _ _ I (a.bind.imp fun j o n c b g r=>?_);cases q:Bk _ with |none=>rw[q] at b;exact b.elim |some z=> obtain⟨l,rfl,rfl⟩:=Wj q;obtain⟨v,rfl,f⟩:=aF.one r;obtain⟨a,g,rfl,d,i⟩:=f;exact⟨a,rfl,⟨_,.of (c.fh _ _ d)⟩,b _ _ (.refl c.fh) _ (Wi i fun w t x=>⟨x.1,x.2,.of (x.2 _ _ (x.1 _ _ d))⟩)⟩
def oo(x y:D):Option D:=match x,y with|.tup l,.tup r=>cH (l.length+r.length<=sizeLine) (some (.tup (l++r))) none|_,_=>none
theorem Bl:SR K (MP K.f) oo:=by
  intro F H x y v w d Q s o m e q;unfold oo at e;split at e
  . rename_i l r;unfold cH at e;split at e
    . cases e;obtain⟨a,j,rfl,g,f⟩:=o;obtain⟨b,t,rfl,n,h⟩:=m;have A:=f.length;have B:=h.length;refine⟨a,b,_,_,rfl,rfl,.of (s _ _ g),.of (s _ _ n),by lia,fun z=>?_,fun k u=>?_,fun k u p i=>?_⟩;.have:l=[]:=we (by simp_all);refine q _ F H (.refl s) ?_;simp[Rep];simp_all
      .have:r=[]:=we (by simp_all);exact q _ F H (.refl s) ⟨a,_,rfl,g,by simp_all⟩
      .have c:Ext F H (upd F p (.tup (j++t))) _:=.new s i;exact q _ _ _ c ⟨p,_,rfl,cw,(f.mono c.ff).append (h.mono c.ff)⟩
    simp_all
  simp_all
end
end PM
namespace L2
open PySem PySem.Spec PyProof.Rows
structure tu(P:Program)(w:World)(K:PySem.W.Frag)(mg:Str->Option Value)(base:Heap)(CX:jo)(k:Nat)(x:Str)(C:Addr)(ps:List Str)(sp:Sp):Prop where ex:∃(f:Addr) (fd:FuncData),Mk K C f/\cz P w K mg base CX k f fd ps sp/\mg x=some (.ref C)/\Binds K fd ps []
structure nX(P:Program)(w:World)(K:PySem.W.Frag)(mg:Str->Option Value)(base:Heap)(CX:jo)(k:Nat)(m:Str)(C:Addr)(ps:List Str)(sp:Sp):Prop where ex:∃(f:Addr) (fd:FuncData),dI K C/\Meth K C m f/\cz P w K mg base CX k f fd ps sp/\Binds K fd ps []
section
variable{X:Cx}{CX:jo}{k:Nat}{x m:Str}{C:Addr}{ps:List Str}{sp:Sp}{E:XK}{p pos apos:Pos}{e o:Expr}{es:List Expr}{t:TA}{ta:TE}
theorem zq(G:tu X.prog X.w X.K X.mg X.base CX k x C ps sp)(d:cu (k+1) X.A)(h:Gl X x)(c:nI CX X E)(i:PA X (e::es) t) (a:(x==("__debug__":Str))=false:=by decide)(g:starEach (e::es) X.env=(false,eval e X.env)::starEach es X.env:=by rfl)(b:(backTo pos (starEach es X.env)).any (·.1)=false:=by rfl): PE X (.Call (.Name x p) (e::es) [] pos) (EC C sp [] E t):=let⟨f,n,M,F,l,j⟩:=G.ex;SM M F d h l j .nil c i a g b
theorem rC(G:nX X.prog X.w X.K X.mg X.base CX k m C ps sp)(h:cu k X.A)(l:nI CX X E)(g:PE X o ta)(i:PA X (e::es) t) (a:starEach (e::es) X.env=(false,eval e X.env)::starEach es X.env:=by rfl)(b:(backTo pos (starEach es X.env)).any (·.1)=false:=by rfl) (r:eval (.Call (.Attribute o m apos) (e::es) [] pos) X.env=(eval o X.env>>=fun d=>standAt apos.atName>>=fun _=>holding [d] (getMethod d m pl)>>=fun q=>callWith pos q.1 q.2 (backTo pos (starEach (e::es) X.env)) (backToKw pos (keywordEach [] X.env))):=by rfl): PE X (.Call (.Attribute o m apos) (e::es) [] pos) (wo C m sp [] E ta t):=let⟨f,_,c,n,F,j⟩:=G.ex;SH g c n F h j .nil l i a b r
theorem rD(G:nX X.prog X.w X.K X.mg X.base CX k m C ps sp)(h:cu k X.A)(g:nI CX X E)(d:PE X o ta) (j:eval (.Call (.Attribute o m apos) [] [] pos) X.env=(eval o X.env>>=fun a=>standAt apos.atName>>=fun _=>holding [a] (getMethod a m pl)>>=fun q=>callWith pos q.1 q.2 (backTo pos (starEach [] X.env)) (backToKw pos (keywordEach [] X.env))):=by rfl): PE X (.Call (.Attribute o m apos) [] [] pos) (wo C m sp [] E ta cV):=let⟨f,_,c,b,F,i⟩:=G.ex;SJ d c b F h i .nil g j
end
end L2
namespace PM
open PySem L2
section
variable{K:Kx}{XO:c5}{E:L2.St->XK}{F0 H0 F H:Hp}{σ:L2.St}{δ:En}
open Classical in
def vA(H:Hp)(p:Addr):Hp:=fun b=>if b=p then none else H b
theorem Wl{H:Hp}:aC (vA H p) H:=fun b o h=>by unfold vA at h;simp_all
theorem MQ{H:Hp}:vA H p p=none:=by unfold vA;simp
theorem Gz{H:Hp}(h:b≠p):vA H p b=H b:=by unfold vA;simp_all
end
section
variable{K:Kx}{XO:c5}{E:L2.St->XK}{F0 H0 F H F1 H1 F' H':Hp}
theorem vB(s:aC F a):aC (cJ F1 H1 F) (cJ F1 H1 a):=fun b o h=>by
 unfold cJ at h⊢;split at h;.cases h
 .rename_i z;rw[ao z];exact s _ _ h
theorem GA(x:Ext F H F' H')(h0:F' p=none)(h1:H p=none)(o:H' p=some (.lst vs)):Ext F H (upd F' p (.lst vs)) H':=by
  refine⟨fun b u h=>?_,x.hh,fun b u h=>?_,fun q u d c=>?_⟩;.have:=x.ff b u h;rw[bj (dC this h0)];omega
  . by_cases z:b=p;.subst z;rw[cw] at h;simp_all
    .rw[bj z] at h;exact x.fh b u h
  .rw[bj (dC c h1)];exact x.nw q u d c
variable(K) in
def pL(c:Nat)(t:TS)(m:En->List Str->List D->R (List Str×List D)):Prop:= ∀(F1 H1 F H:Hp)(b:L2.St)(d:En)(x g:Addr)(e:List (Str×V))(l:List D)(f:Ends),tm d->az K [] (hR F1 H1) H1 F H b d->b[0]?=some (some (.ref x))->H1 x=none->F x=none->H x=some (.ins (K.ca c) g e)->aF K (cJ F1 H1 F) l (e.map (·.2))-> (match m d (e.map (·.1)) l with |.no=>False |.ok p=>∀F' H' a,az K [] (hR F1 H1) H1 F' H' b d->F' x=none->H' x=some (.ins (K.ca c) g a)->a.map (·.1)=p.1->aF K (cJ F1 H1 F') p.2 (a.map (·.2))->f.nx b H' |.ex _=>False)->t f b H
def lP(f:Str)(me:En->R D)(δ:En)(ks:List Str)(l:List D):R (List Str×List D):=(me δ).i7.bind fun d=>cH (ks.length<1000/\mL d=true) (.ok (putN ks f,fH ks l f d)) .no
def rE(f:Str)(me:En->R D)(δ:En)(ks:List Str)(l:List D):R (List Str×List D):=(me δ).i7.bind fun d=>cH (ks.length<1000/\∃r,d=.lst r/\ri r=true) (.ok (putN ks f,fH ks l f d)) .no
theorem Wm(g:dI K.f (K.ca c)/\aE K.f (K.ca c) f)(h:SE K XO E k me):pL K c (jL K.f (cS 0) k f) (lP f me):=by intro F1 H1 F H N B x G p l A n I t m o i u a;refine h _ _ _ F H _ _ _ I ?_;unfold lP at a;cases q:me _ with |no=>rwa[q] at a |ex J=>rw[q] at a;exact a.elim |ok d=>
 rw[q] at a;intro y M e v r;simp only[R.ba,R.ak,cH] at a;by_cases z:(p.map (·.1)).length<1000/\mL d=true;.rw[aq z] at a;have b:=e.nw x _ o i;have j:=I.grow e;obtain⟨w,s⟩:=yd (f:=f) (A' j.ext d z.2 r) (u.mono (vB e.ff));exact⟨_,t,x,_,_,_,rfl,(e.hh _ _ i),g.1,g.2,by simp_all,(a _ _ _ (j.nW n m b) b cw w s)⟩
 .grind
theorem Wn(t:dI K.f (K.ca c)/\aE K.f (K.ca c) f)(h:iK K XO E G me):pL K c (jL K.f (cS 0) G f) (rE f me):=by intro F1 H1 F H σ δ x dx n l Dn Y I A T J k U a;refine h _ _ _ F H _ _ _ I ?_;unfold rE at a;cases q:me _ with |no=>rwa[q] at a |ex xx=>rw[q] at a;exact a.elim |ok d=>
    rw[q] at a;intro m H2 e p i g o;simp[R.ba,R.ak,cH] at a;by_cases z:(n.map (·.1)).length<1000/\∃r,d=.lst r/\ri r=true
    . rw[aq z] at a;obtain⟨z1,r,rfl,Z⟩:=z;obtain⟨y,g1,C⟩:=o;have X:=e.nw x _ J k;have s:=GA e i g g1;have B:=dC k g;have j:upd m p (.lst y) x=none:=by rwa[bj B]
      have v:=I.grow s;have S:=FR v.ext r Z (C.mono fun b u L=>by rwa[bj (dC L i)]);have N:Rep K (cJ F1 H1 (upd m p (.lst y))) (.lst r) (.ref p):=by refine⟨p,_,rfl,?_,S⟩;unfold cJ;rw[ao (fun w=>w.2 (I.ext.hh.free g))];exact cw
      obtain⟨Q,M⟩:=yd N (U.mono (vB s.ff));exact⟨_,A,x,_,_,n,rfl,(e.hh _ _ k),t.1,t.2,by simp_all,a _ _ _ (v.nW Y T j) j cw Q M⟩
    .rw[ao z] at a;simp_all
theorem MR{R:D->V->Prop}:∀{ds:List D}{vs:List V},uf R ds vs->ds.length=vs.length |_,_,.nil=>rfl |_,_,.cons _ t=>by rw[gm,gm,MR t]
end
end PM
namespace L2
open PySem PySem.Spec PyProof.Rows
structure MethAt(K:PySem.W.Frag)(C:Addr)(m qual:Str)(st:Stmt)(f:Addr)(fd:FuncData):Prop where
 at_:PySem.W.findIn K (.ref C) m=some (some (.ref f))MS:PySem.W.isFn K (.ref f)=true
 fn:jM K m qual st f fd
theorem rF{K:PySem.W.Frag}{st:Stmt}{kV e g d h:Value}(a:PySem.W.findIn K (.ref C) m=some (some (.ref f)))(i:PySem.W.isFn K (.ref f)=true) (l:K.lookup f=some ⟨n,od,.func (PySem.W.fnOf m b (nM st) (kS st) (cM st) .none kV e g an d h),j⟩)(c:PySem.W.codeIn K d b=true)(k:PySem.W.keepIn K (.ref f)=true):∃f fd,MethAt K C m b st f fd:= ⟨f,_,a,i,CF l c k⟩
section
variable{P:Program}{w:World}{K:PySem.W.Frag}{mg:Str->Option Value}{base:Heap}{CX:jo}{k:Nat}{x m qual:Str}{C:Addr}{st:Stmt}{f:Addr}{fd:FuncData}{ps:List Str}{sp:Sp}
theorem MethAt.GB(D:MethAt K C m qual st f fd)(c:dI K C)(a:cz P w K mg base CX k f fd ps sp)(b:Binds K fd ps []):nX P w K mg base CX k m C ps sp:=⟨f,_,c,⟨D.at_,D.MS,D.fn.kp⟩,a,b⟩
theorem MethAt.GC(D:MethAt K C "__init__" qual st f fd)(mk:PySem.W.makesIn K C=true)(c:PySem.W.keepIn K (.ref C)=true)(a:mg x=some (.ref C))(d:cz P w K mg base CX k f fd ps sp)(b:Binds K fd ps []):tu P w K mg base CX k x C ps sp:=⟨f,_,⟨mk,D.at_,D.MS,c⟩,d,a,b⟩
end
def ye(t u:TE):TE:=fun a H Q=>t a H Q\/u a H Q
section
variable{X:Cx}{CX:jo}{k:Nat}{x:Str}{C:Addr}{ps:List Str}{sp:Sp}{E:St->XK}{p pos:Pos}{e:Expr}{es:List Expr}{t:TA}
theorem cR(h:PE X e c)(g:PE X e d):PE X e (ye c d):=fun b s f H Q I a=>a.elim (h _ s _ H Q I) (g _ s _ H Q I)
end
end L2
namespace PM
open PySem L2
section
variable{K:Kx}{XO:c5}{E:L2.St->XK}{F0 H0 F H F1 H1 F' H':Hp}
theorem Wo(e:Ext (hR F H) H F' H')(h:jH K x F' H' C b):jH K x (cJ F H F') H' C b:=by
 refine⟨h.1,?_⟩;have a:=h.2;unfold XA at a⊢;split;.simp_all
 .rename_i c;rw[ao c] at a;obtain⟨g,d,f⟩:=a;exact⟨_,d,FQ e f (fun _ z=>by cases z) (fun _ z=>by cases z) (fun _ _ z=>by cases z) (fun _ _ _ z=>by cases z)⟩
variable(K XO E) in
def i'(c:Nat)(t:TS)(m:En->List Str->List D->R (List Str×List D)):Prop:= ∀(F1 H1 F H:Hp)(b:L2.St)(e:En)(x h:Addr)(f:List (Str×V))(l:List D)(g:Ends),tm e->az K [] (hR F1 H1) H1 F H b e->b[0]?=some (some (.ref x))->H1 x=none->F x=none->H x=some (.ins (K.ca c) h f)->aF K (cJ F1 H1 F) l (f.map (·.2))-> (match m e (f.map (·.1)) l with |.no=>False |.ok p=>∀F' H' a,az K [] (hR F1 H1) H1 F' H' b e->F' x=none->H' x=some (.ins (K.ca c) h a)->a.map (·.1)=p.1->aF K (cJ F1 H1 F') p.2 (a.map (·.2))->g.nx b H' |.ex i=>∀C d F' H',Ext (hR F1 H1) H1 F' H'->XO i F' H' C d->E b C d H')->t g b H
theorem Wq:lP f me δ ks l≠.ex x:=by unfold lP cH;cases me _ with |ok d=>simp[R.ba];grind |_=>exact fun h=>by cases h
theorem Wr:rE f me δ ks l≠.ex x:=by unfold rE cH;cases me _ with |ok d=>simp[R.ba];split<;>exact fun h=>by cases h |_=>exact fun h=>by cases h
theorem pL.x(h:pL K c t m)(b:∀δ ks l x,m δ ks l≠.ex x):i' K XO E c t m:=by intro F1 H1 F H u δ x n s l r g I i j d f e a;refine h _ _ F H _ _ x _ _ l _ g I i j d f e ?_;cases q:m _ _ l with |no=>rwa[q] at a |ok p=>rwa[q] at a |ex o=>exact(b _ _ _ _ q).elim
theorem zr(b:dI K.f (K.ca c)/\aE K.f (K.ca c) f)(h:SE K XO E a me):i' K XO E c (jL K.f (cS 0) a f) (lP f me):=(Wm b h).x fun _ _ _ _=>Wq
theorem GD(b:dI K.f (K.ca c)/\aE K.f (K.ca c) f)(h:iK K XO E a me):i' K XO E c (jL K.f (cS 0) a f) (rE f me):=(Wn b h).x fun _ _ _ _=>Wr
def tw(me:En->R D)(δ:En)(ks:List Str)(l:List D):R (List Str×List D):=(me δ).bind fun _=>.ok (ks,l)
theorem Di(h:SE K XO E g me):i' K XO E c (uM g) (tw me):=by intro F1 H1 F H m n x s u l w p I y A i b j a;refine h _ _ _ F H _ _ _ I ?_;unfold tw at a;cases q:me _ with |no=>simp_all |ex B=>rw[q] at a;exact fun C f F' H' e z=>a C _ _ _ (I.ext.trans e) z |ok d=> rw[q] at a;intro k G e v r;exact a _ _ _ (I.grow e) (e.nw x _ i b) (e.hh _ _ b) rfl (j.mono (vB e.ff))
theorem rG{m1 m2:En->List Str->List D->R (List Str×List D)}(h1:i' K XO E c t m1)(h2:i' K XO E c u m2):i' K XO E c (xm t u) (fJ m1 m2):=by intro F1 H1 F H z y x C v l w f I e g m k j a;unfold fJ at a;refine h1 _ _ F H _ _ x _ _ l _ f I e g m k j ?_;cases q:m1 _ _ l with |no=>simp_all |ex B=>rwa[q] at a |ok p=> rw[q] at a;intro F' H' n o b d i h;refine h2 _ _ _ _ _ _ x _ _ _ _ f o e g b d h ?_;rwa[i]
def allI:List D->Bool |[]=>true |.int _::l=>allI l |_::_=>false
theorem MT{F F':Hp}:∀{l:List D}{vs:List V},allI l=true->aF K F l vs->aF K F' l vs |[],vs,_,h=>h |d::l,vs,c,h=>by cases d with |int n=> obtain⟨v,r,g,f,b⟩:=h;exact⟨v,r,g,f,MT c b⟩ |_=>cases c
theorem qH:aC (cJ F H F') F':=fun b o h=>by unfold cJ at h;simp_all
def wR(c:Nat)(f:Str)(me:En->R D)(δ:En)(ks:List Str)(l:List D):R (List Str×List D):=(me (δ.set 0 (.v (.obj c ks l)))).i7.bind fun d=>cH (ks.length<1000/\0<δ.length/\∃r,d=.lst r/\allI r=true) (.ok (putN ks f,fH ks l f d)) .no
theorem MU(hc:dI K.f (K.ca c)/\aE K.f (K.ca c) f)(h:iK K XO E te me):i' K XO E c (jL K.f (cS 0) te f) (wR c f me):=by
  intro F1 H1 F H σ k x Q g l Dn X I hx h0 hF hH hl a;have M:aC F (upd F x (.ins (K.ca c) Q g)):=fun b o q=>by rwa[bj (dC q hF)]
  have xe:Ext (hR F1 H1) H1 (upd F x (.ins (K.ca c) Q g)) H:=by
    refine⟨I.ext.ff.trans M,I.ext.hh,fun b o q=>?_,fun q u L n=>?_⟩
    . by_cases z:b=x;.subst z;rw[cw] at q;simp_all
      .rw[bj z] at q;exact I.ext.fh _ _ q
    .rw[bj (dC n h0)];exact I.ext.nw q u L n
  have C:tm (k.set 0 (.v (.obj c (g.map (·.1)) l))):=fun i=>by cases i with
    |zero=> cases k with |nil=>rfl |cons s r=>rfl
    |succ i=> rw[aQ (by omega)];exact X _
  have I':az K [] (hR F1 H1) H1 (upd F x (.ins (K.ca c) Q g)) H σ (k.set 0 (.v (.obj c (g.map (·.1)) l))):=by refine⟨xe,by rw[I.len,qj],fun i=>?_,fun i j a _ S _ _ _=>(by rw[C i] at S;cases S),fun y hy=>(by cases hy),fun i ll S=>(by have:=C i;rw[S] at this;cases this)⟩;cases i with
    |zero=> cases k with |nil=>trivial |cons s r=> refine⟨.ref x,hx,?_⟩;exact⟨x,Q,g,rfl,cw,rfl,(hl.mono qH).mono M⟩
    |succ i=> rw[aQ (by omega)];have z:=I.slot (i+1);have N:=X (i+1);cases q:k[i+1]? with |none=>trivial |some s=> rw[q] at z N;cases s with |no=>trivial |v d=>obtain⟨v,z1,T⟩:=z;exact⟨v,z1,Rep.mono M _ T⟩ |o d=>cases N |l d=>cases N |p ll=>cases N
  refine h [] _ _ _ H σ _ _ I' ?_;unfold wR at a;cases q:me (k.set 0 (.v (.obj c (g.map (·.1)) l))) with |no=>rwa[q] at a |ex xx=>rw[q] at a;exact a.elim |ok d=>
    rw[q] at a;intro F2 H2 e p hp0 m o;simp only[R.ba,R.ak,cH] at a;by_cases z:(g.map (·.1)).length<1000/\0<k.length/\∃r,d=.lst r/\allI r=true
    . rw[aq z] at a;obtain⟨z1,_,r,rfl,T⟩:=z;obtain⟨Z,L,n⟩:=o;have xp:x≠p:=dC hH m;have e':Ext F H (vA F2 x) H2:=by
        refine⟨fun b o q=>?_,e.hh,fun b o q=>e.fh _ _ (Wl b o q),fun b u L n=>?_⟩;.rw[Gz (dC q hF)];exact e.ff _ _ (M _ _ q)
        . by_cases w:b=x;.subst w;exact MQ
          .rw[Gz w];exact e.nw b u (by rwa[bj w]) n
      have e3:=GA e' (by rwa[Gz (aR xp)]) m L;have G:upd (vA F2 x) p (.lst Z) x=none:=by rw[bj xp];exact MQ
      have U:H1 p=none:=I.ext.hh.free m;have rp:Rep K (cJ F1 H1 (upd (vA F2 x) p (.lst Z))) (.lst r) (.ref p):=by refine⟨p,Z,rfl,?_,MT T n⟩;unfold cJ;rw[ao (fun w=>w.2 U)];exact cw
      obtain⟨g3,g4⟩:=yd rp (hl.mono (vB e3.ff));exact⟨_,hx,x,_,_,_,rfl,(e.hh _ _ hH),hc.1,hc.2,by simp_all,a _ _ _ ((I.grow e3).nW X h0 G) G cw g3 g4⟩
    grind
def zv(K:Kx)(c:Nat)(f:List D->R D):Sp:=fun h H Q E=>∃(x b:Addr) (g:List V) (F a:Hp) (e:List D),h=.ref x::g/\H=upd (upd a b (.own x)) x (.ins (K.ca c) b [])/\a x=none/\a b=none/\b≠x/\aC F a/\uf (wH K F a) e g/\ eP (fun _=>E) (jH K) [] F a (fun d F' H'=>F' x=none->Own K F' H' d x->Q .non H') (f e)
theorem MV{E:XK}{ps:List Str}(b:ps.length=np+1)(h:zv K c (runN c np m) vs H Q E):vs.length=ps.length:=by
 obtain⟨x,d,f,F,g,e,rfl,rfl,_,_,_,_,r,a⟩:=h;unfold runN at a;split at a;.have:=MR r;simp;lia
 .exact a.elim
theorem MW{E:XK}(h:i' K (jH K) (fun _=>E) c t m)(hn:N.length=np+1)(sp:zv K c (runN c np m) vs H Q E): t {nx:=fun _ H'=>Q .non H',rt:=Q} (L2.start N vs) H:=by
 obtain⟨x,dx,g,F,n,l,rfl,rfl,u,G,ne,s,M,a⟩:=sp;unfold runN at a;split at a;case isFalse=>exact a.elim
 case isTrue hl=>
  have r:=FP s M;have A:=FJ s;have I:=r.length;have st:L2.start N (.ref x::g)=some (.ref x)::g.map some:=by unfold L2.start;rw[show N.length-(V.ref x::g).length=0 by simp_all];simp
  rw[st];have B:=A.free u;have k:tm (.no::l.map .v):=fun i=>by cases i with |zero=>rfl |succ i=> rw[List.getElem?_cons_succ,cj];cases l[i]?<;>rfl
  have X:az K [] (hR F n) n (hR F n) n (some (V.ref x)::g.map some) (.no::l.map .v):=by refine⟨.refl A,by simp[I],fun i=>?_,fun i j a _ w _ _ _=>(by rw[k i] at w;cases w),fun y J=>(by cases J),fun i ll w=>by grind⟩;cases i with |zero=>trivial |succ i=> rw[List.getElem?_cons_succ,cj];cases q:l[i]? with |none=>trivial |some d=> obtain⟨v,Y,U⟩:=r.get q;exact⟨v,by simp_all,U⟩
  refine h F _ _ _ _ _ x _ _ _ _ k ((X.nW k G (A.free G)).nW k u B) rfl u B cw .nil ?_;rw[iS];cases q:m _ _ _ with |no=>rwa[q] at a |ex xx=>rw[q] at a;exact fun C L F' H' e z=>a C _ _ _ (CV e) (Wo e z) |ok p=> rw[q] at a;intro F' H' S I' Z o e1 T;refine a _ _ (CV I'.ext) ?_ ⟨_,_,o,e1,T⟩;unfold cJ;simp_all
theorem zw(j:C=K.ca c)(h:xT K (jH K) E n ml):iK K (jH K) E (EC C (zv K c f) [] y n) (bq f ml):=by intro w F0 H0 F H A p Q I a;refine h _ _ _ F H _ _ _ I (a.bind.imp fun v F1 H1 i b B r x t g e m=>⟨x,_,_,_,_,_,by simp,by rw[j],g,e,m,i.fh,r,?_⟩);cases q:f _ with |no=>rwa[q] at b |ex z=>rw[q] at b;exact b.elim |ok d=>rw[q] at b;exact fun L G l k o=>⟨rfl,b _ _ l x k (i.hh.free g) o⟩
def bg(i a:Nat)(m1 m2:En->R D)(δ:En):R D:=match δ[i]? with|some (.v (.obj c _ _))=>if c=a then m1 δ else m2 δ|_=>.no
theorem dX{m1 m2:En->R D}(h1:SE K XO E b m1)(h2:SE K XO E c m2):SE K XO E (ye b c) (bg i e m1 m2):=by
  intro g F0 H0 F H d f Q I a;unfold bg at a;split at a
  . split at a;.exact .inl (h1 _ _ _ F H _ _ Q I a)
    .exact .inr (h2 _ _ _ F H _ _ Q I a)
  .exact a.elim
theorem pO{m1 m2:En->R D}(h1:iK K XO E b m1)(h2:iK K XO E c m2):iK K XO E (ye b c) (bg i e m1 m2):=by
  intro g F0 H0 F H d f Q I a;unfold bg at a;split at a
  . split at a;.exact .inl (h1 _ _ _ F H _ _ Q I a)
    .exact .inr (h2 _ _ _ F H _ _ Q I a)
  .exact a.elim
end
end PM
namespace L2
open PySem PySem.Spec PyProof.Rows
section
variable{prog:Program}{w:World}{A:Around}{E:Value->Shared->Prop}{s:Shared}
theorem Ws{Q:Value->Shared->Prop}(D:ZipApart z d a i j l t) (hz:IsZip s.heap z d a .none)(h3:IsPair s.heap d (.ref i) (.ref j))(h4:IsPair s.heap a p q) (h1:s.heap.IsListIter i l k)(h2:s.heap.IsTupleIter j t m)(hl:s.heap.IsList l xs)(ht:s.heap.IsTuple t ys)(hx:xs[k]?=some x)(hy:ys[m]?=some y) (hQ:∀h',IsZip h' z d a (rawInt s.heap.objs.size)->IsPair h' a x y->h'.IsListIter i l (k+1)->h'.IsTupleIter j t (m+1)->IsPair h' s.heap.objs.size x y-> (∀c o,c≠z->c≠a->c≠i->c≠j->s.heap.get? c=some o->h'.get? c=some o)->Q (.ref s.heap.objs.size) {s with heap:=h'}): wpAny (model prog w) A (Builtin.«zip.__next__» ⟨[.ref z],[]⟩) (fun M s'=>∃v,M=.done (.ret v)/\Q v s') E s:=by
 show wpAny _ A (field (.ref z) 2>>=_) _ _ s;refine ah (cm hz rfl (x:=.bool false) rfl ?_);show wpAny _ A (field (.ref z) 3>>=_) _ _ s;refine ah (cm hz rfl (x:=.ref d) rfl (ah (eG h3 rfl ?_)));show wpAny _ A (Builtin.SmallTypes.ownedTupleIsFree (.ref z)>>=_) _ _ s;refine ah ?_;unfold Builtin.SmallTypes.ownedTupleIsFree;refine ah (cm hz rfl (x:=.none) rfl (ax ?_));simp only[if_true];refine ah (iA ?_);refine ah (cm hz rfl (x:=.ref a) rfl ?_);refine ah (ji hz (by simp) fun g1 H g=>?_);replace H:IsZip g1 z d a .ellipsis:=H;refine ah ?_;simp only[List.zipIdx_cons,List.zipIdx_nil,sC,List.forIn_nil];refine ah (ah (mm ?_));show wpAny _ A (Builtin.SmallTypes.nextOf (.ref i)>>=_) _ _ _;refine ah (wpAny_nextOf_list_item (h1.extBut g.extBut D.i1z) (hl.extBut g.extBut D.l1z) hx fun g2 p2 h=>ax ?_);have O:IsPair g2 a p q:=h.extBut _ _ D.TOi1 (g.extBut _ _ D.TOz h4);refine ah (eG O rfl (ah (o_ O fun g3 u3 n=>?_)));refine ah (gD (ax (ah (ah (mm ?_)))));refine ah (MN (((h2.extBut g.extBut D.i2z).extBut h.extBut D.i12.symm).extBut n.extBut D.TOi2.symm) (((ht.extBut g.extBut D.l2z).extBut h.extBut D.l2i1).extBut n.extBut D.l2TO) hy fun g4 p4 u=>ax ?_);have T:IsPair g4 a x q:=u.extBut _ _ D.TOi2 u3;refine ah (eG T rfl (ah (o_ T fun b C r=>?_)));replace C:IsPair b a x y:=C;refine ah (gD (ax (ax ?_)));refine ah (eG C rfl (ah (wpAny_newTuple (hsz:=by show 2<=sizeLine;decide) ?_)));have S:b.objs.size=s.heap.objs.size:=by rw[r.1,u.1,n.1,h.1,g.1]
 have X:IsZip b z d a .ellipsis:=r.extBut _ _ D.TOz.symm (u.extBut _ _ D.i2z.symm (n.extBut _ _ D.TOz.symm (h.extBut _ _ D.i1z.symm H)));have k5:∀c o,c≠z->c≠a->c≠i->c≠j->s.heap.get? c=some o->b.get? c=some o:=fun c o f G I J e=>r.extBut _ _ G (u.extBut _ _ J (n.extBut _ _ G (h.extBut _ _ I (g.extBut _ _ f e))));have i5:b.IsListIter i l (k+1):=((p2.extBut n.extBut D.TOi1.symm).extBut u.extBut D.i12).extBut r.extBut D.TOi1.symm;have j5:b.IsTupleIter j t (m+1):=p4.extBut r.extBut D.TOi2.symm;have R:z<b.objs.size:=aM X;refine ah ?_;have z6:IsZip (b.push {cls:=.type "tuple",data:=.seq #[x,y]}) z d a .ellipsis:=aO _ X;refine ah (ji z6 (by simp) fun g7 z7 Y=>?_);refine ji z7 (by simp) fun L Z U=>?_;have B:∀c o,c≠z->b.get? c=some o->L.get? c=some o:=fun c o f e=>U.extBut _ _ f (Y.extBut _ _ f (aO _ e));have N:IsPair L b.objs.size x y:=U.extBut _ _ (eU R) (Y.extBut _ _ (eU R) (cg _ rfl));rw[S] at Z N;refine ax ⟨_,rfl,?_⟩;show Q (.ref b.objs.size) _;rw[S];exact hQ L Z (B _ _ D.TOz C) (i5.at fun o e=>B _ o D.i1z e) (j5.at fun o e=>B _ o D.i2z e) N fun c o f G I J e=>B c o f (k5 c o f G I J e)
theorem Wt(L:A.handled=none)(D:ZipApart z g d i j l t) (hz:IsZip s.heap z g d .none)(h3:IsPair s.heap g (.ref i) (.ref j))(T:IsPair s.heap d p q) (h1:s.heap.IsListIter i l k)(h2:s.heap.IsTupleIter j t m)(O:s.heap.IsList l xs)(ht:s.heap.IsTuple t ys)(Z:xs[k]?=none\/ys[m]?=none) (C:∀h' e,(∀c o,c≠z->c≠d->c≠i->c≠j->s.heap.get? c=some o->h'.get? c=some o)->(∃o,h'.get? e=some o/\o.cls=.type "StopIteration")->E (.ref e) {s with heap:=h'}): wpAny (model prog w) A (Builtin.«zip.__next__» ⟨[.ref z],[]⟩) Q E s:=by
 show wpAny _ A (field (.ref z) 2>>=_) _ _ s;refine ah (cm hz rfl (x:=.bool false) rfl ?_);refine ah (cm hz rfl (x:=.ref g) rfl (ah (eG h3 rfl ?_)));refine ah ?_;unfold Builtin.SmallTypes.ownedTupleIsFree;refine ah (cm hz rfl (x:=.none) rfl (ax ?_));refine ah (iA ?_);refine ah (cm hz rfl (x:=.ref d) rfl (ah (ji hz (by simp) fun g1 M a=>?_)))
 refine ah ?_;refine ah (ah (mm ?_));cases H:xs[k]? with |none=>
  refine ah (wpAny_nextOf_list_end L (h1.extBut a.extBut D.i1z) (O.extBut a.extBut D.l1z) H fun v e b ⟨G,u,B⟩=>?_);have z2:IsZip v z g d .ellipsis:=b _ _ D.i1z.symm M;have n:e≠z:=fun r=>by grind
  exact ji z2 (by simp) fun R _ f=>C R e (fun c o h _ y _ r=>f.extBut _ _ h (b _ _ y (a.extBut _ _ h r))) ⟨G,f.extBut _ _ n u,B⟩ |some x=>
  have X:ys[m]?=none:=Z.resolve_left (by grind);refine ah (wpAny_nextOf_list_item (h1.extBut a.extBut D.i1z) (O.extBut a.extBut D.l1z) H fun v p2 b=>ax ?_);have N:IsPair v d p q:=b.extBut _ _ D.TOi1 (a.extBut _ _ D.TOz T);refine ah (eG N rfl (ah (o_ N fun R u3 f=>?_)));refine ah (gD (ax ?_));refine ah (ah (mm (ah (Gw L (((h2.extBut a.extBut D.i2z).extBut b.extBut D.i12.symm).extBut f.extBut D.TOi2.symm) (((ht.extBut a.extBut D.l2z).extBut b.extBut D.l2i1).extBut f.extBut D.l2TO) X fun U e I ⟨G,u,B⟩=>?_))));have Y:IsZip U z g d .ellipsis:=I _ _ D.i2z.symm (f.extBut _ _ D.TOz.symm (b.extBut _ _ D.i1z.symm M));have n:e≠z:=fun r=>by grind
  exact ji Y (by simp) fun S _ J=>C S e (fun c o h c2 y c4 r=>J.extBut _ _ h (I _ _ c4 (f.extBut _ _ c2 (b.extBut _ _ y (a.extBut _ _ h r))))) ⟨_,J.extBut _ _ n u,B⟩
end
noncomputable def zx(h:Heap)(l t:Addr):Heap:=((((h.push {cls:=.type "list_iterator",data:=.fields #[.ref l,.int 0 0]}).push {cls:=.type "tuple_iterator",data:=.fields #[.ref t,.int 0 0]}).push {cls:=.type "tuple",data:=.seq #[.ref h.objs.size,.ref (h.objs.size+1)]}).push {cls:=.type "tuple",data:=.seq #[.none,.none]}).push {cls:=.type "zip",data:=.fields #[.none,.bool false,.bool false,.ref (h.objs.size+2),.ref (h.objs.size+3)]}
theorem Wu(l t:Addr)(xs ys:Array Value):Meets (Builtin.«zip.__new__» ⟨[.type "zip",.ref l,.ref t],[]⟩) (fun _ R s=>s.heap.IsList l xs/\s.heap.IsTuple t ys/\R (.ok (.ret (.ref (s.heap.objs.size+4)))) {s with heap:=zx s.heap l t}):= .of_wp fun e w A R s h=>by obtain⟨a,g,d,c,os⟩:=s;obtain⟨j,f,h⟩:=h;have b:=sub_zip;have i:Heap.IsList (Shared.heap ⟨a,g,d,c,os⟩) l xs:=j;have k:IsTup (Shared.heap ⟨a.push {cls:=.type "list_iterator",data:=.fields #[.ref l,.int 0 0]},g,d,c,os⟩) t ys:=IsTup.push f _;wp_walk using oZ i,iter_tuple k;refine⟨_,rfl,?_⟩;simp only[iO] at h⊢;exact h
theorem Wv(j:s.heap.IsList l xs)(k:s.heap.IsTuple t ys) (h:∀h',IsZip h' (s.heap.objs.size+4) (s.heap.objs.size+2) (s.heap.objs.size+3) .none->IsPair h' (s.heap.objs.size+2) (.ref s.heap.objs.size) (.ref (s.heap.objs.size+1))->IsPair h' (s.heap.objs.size+3) .none .none-> h'.IsListIter s.heap.objs.size l 0->h'.IsTupleIter (s.heap.objs.size+1) t 0->(∀c o,s.heap.get? c=some o->h'.get? c=some o)->Q (.ref (s.heap.objs.size+4)) {s with heap:=h'}): wpAny (model prog w) A (call (.type "zip") [.ref l,.ref t]) Q E s:=by
 refine callType_new F.called_zip (by decide) (F.typeCall_zip_2 _ _) (F.newCall_zip_2 _ _) (fun d=>F.args_object_init_3 d _ _) F.entry_zip_new (Wu l t xs ys) ⟨j,k,?_⟩;obtain⟨n,b⟩:∃n,n=s.heap.objs.size:=⟨_,rfl⟩;have a:∀(h:Heap)(o:Obj)(m:Nat),h.objs.size=m->o.isFreed=false->(h.push o).get? m=some o:=fun h o m e f=>by rw[<-e];exact cg _ f
 have g:IsZip (zx s.heap l t) (n+4) (n+2) (n+3) .none:=by rw[b];exact a _ _ _ (by simp) rfl
 have q:IsPair (zx s.heap l t) (n+3) .none .none:=by rw[b];exact aO _ (a _ _ _ (by simp) rfl)
 have p:IsPair (zx s.heap l t) (n+2) (.ref n) (.ref (n+1)):=by rw[b];exact aO _ (aO _ (a _ _ _ (by simp) rfl))
 have r:(zx s.heap l t).get? (n+1)=some {cls:=.type "tuple_iterator",data:=.fields #[.ref t,.int 0 0]}:=by rw[b];exact aO _ (aO _ (aO _ (a _ _ _ (by simp) rfl)))
 have i:(zx s.heap l t).get? n=some {cls:=.type "list_iterator",data:=.fields #[.ref l,.int 0 0]}:=by rw[b];exact aO _ (aO _ (aO _ (aO _ (a _ _ _ rfl rfl))))
 rw[<-b] at h⊢;exact⟨⟨_,g,rfl⟩,h _ g p q ⟨_,i,rfl,rfl⟩ ⟨_,r,rfl,rfl⟩ fun c o x=>aO _ (aO _ (aO _ (aO _ (aO _ x))))⟩
theorem MX(hd:[z,l,g,i,j].Nodup)(h1:IsZip h z l g f0)(h3:IsPair h g u v)(C:h.IsListIter i a k)(t:h.IsTupleIter j b m)(p:PlainL h a xs)(x:h.IsTuple b ys)(M:b≠g):ZipApart z l g i j a b:=by
 obtain⟨o,n,e,c,_⟩:=p;obtain⟨O,d,f,_⟩:=x;obtain⟨Q,N,D,_⟩:=C;obtain⟨R,q,I,_⟩:=t;simp[gp,aY,iV,iq,List.nodup_nil,and_true,not_false_eq_true] at hd;obtain⟨⟨A,L,J,G⟩,⟨H,s,B⟩,⟨y,w⟩,E⟩:=hd;refine⟨aR A,aR L,aR J,aR G,H,s,B,y,w,E,fun r=>?_,fun r=>?_,fun r=>?_,fun r=>?_,fun r=>?_,M,fun r=>?_,fun r=>?_⟩;.subst r;rw[h1] at e;cases e;simp at c
 .grind
 .simp_all
 .simp_all
 .subst r;rw[h1] at d;cases d;simp at f
 .subst r;rw[N] at d;cases d;rw[D] at f;simp at f
 .subst r;rw[q] at d;cases d;rw[I] at f;simp at f
def yf(K:PySem.W.Frag)(a b:Addr):It:= ⟨fun i H=>∃c d x y,fX K H a c/\H b=some (.tup d)/\c[i]?=some x/\d[i]?=some y, fun i H v e=>∃p x y,v=.ref p/\H p=none/\e=upd H p (.tup [x,y])/\(∀c,fX K H a c->c[i]?=some x)/\∀d,H b=some (.tup d)->d[i]?=some y, fun i H=>∃c d,fX K H a c/\H b=some (.tup d)/\(c.length<=i\/d.length<=i)⟩
theorem Ww{K:PySem.W.Frag}(a b z L t i j:Addr)(hd:[z,L,t,i,j].Nodup): Turn P w K (.Tuple es k pos) (yf K a b) [z,L,t,i,j] z (fun n h=>IsZip h z L t .none/\IsPair h L (.ref i) (.ref j)/\(∃u v,IsPair h t u v)/\h.IsListIter i a n/\h.IsTupleIter j b n) where
  mem:=by simp
  obj:=fun n h st c d=>by
    obtain⟨l,J,⟨u,v,B⟩,⟨o1,G,c1,d1⟩,o2,C,c2,d2⟩:=st;simp only[aY,iV,iu] at d;rcases d with rfl|rfl|rfl|rfl|rfl;.exact⟨_,l,fun v z=>by trivial⟩
    .exact⟨_,J,fun v z=>by trivial⟩
    .exact⟨_,B,fun v z=>by trivial⟩
    .exact⟨o1,G,fun v z=>by simp_all⟩
    .exact⟨o2,C,fun v z=>by simp_all⟩
  keep:=fun n h h' st q=>let⟨l,J,⟨u,v,B⟩,G,C⟩:=st;⟨q z (by simp) _ l,q L (by simp) _ J,⟨u,v,q t (by simp) _ B⟩,G.at fun o e=>q i (by simp) o e,C.at fun o e=>q j (by simp) o e⟩;item:=by
    intro X hP hw hK d n S s σ H E I Q st hg;subst hP hw hK;obtain⟨xs,ys,x,y,q1,O,hx,hy⟩:=hg;obtain⟨its,rv,p,hz⟩:=I.list q1;obtain⟨_,A,M,p'⟩:=I.bI b _ O;have Z:s.heap.IsTuple b A.toArray:=p';obtain⟨u,hu,ru⟩:=rv.get hx;obtain⟨u',hu',Wx⟩:=M.get hy;obtain⟨l,J,⟨f,g,B⟩,G,C⟩:=st;have bt:b≠t:=fun r=>by obtain⟨f0,_⟩:=Q t (by simp);simp_all
    have D:=MX hd l B G C p Z bt;have hT:H s.heap.objs.size=none:=I.bI.fresh (aG _);have N:∀c o,s.heap.get? c=some o->c≠s.heap.objs.size:=fun c o e=>a_ (aM e);have Y:s.TypeIs (.ref z) "zip":=⟨_,l,rfl⟩;refine ah (l9 (iw (name:=Str.ofString "__next__") Y p9 (iy p9 Y F.entry_zip_next ?_ (F.args_zip_next_1 _))));refine Ws D l J B G C p.isList Z (x:=u) (y:=u') (by simp_all) (by grind) fun h' a1 a2 a3 a4 a5 hk=>ax ⟨_,rfl,(wpAny_letOwnedTupleGo_zip a1 fun R b1 U=>?_)⟩;have m:Heap.SameBut z h' R:=U;have Wy:∀c o,c∉[z,L,t,i,j]->s.heap.get? c=some o->R.get? c=some o:=fun c o d q=>by simp only[aY,iV,iu,iq] at d;exact(m.2 c d.1).trans (hk c o d.1 d.2.2.1 d.2.2.2.1 d.2.2.2.2 q)
    refine⟨.ref s.heap.objs.size,upd H s.heap.objs.size (.tup [x,y]),?_,rfl,⟨_,x,y,rfl,hT,rfl,fun xs' h=>by rwa[I.iX h q1],fun A1 h=>by rw[O] at h;cases h;exact hy⟩, ⟨b1,(m.2 _ D.TIz).trans (hk _ _ D.TIz D.TITO D.TIi1 D.TIi2 J),⟨u,u',(m.2 _ D.TOz).trans a2⟩,a3.at fun o e=>(m.2 _ D.i1z).trans e,a4.at fun o e=>(m.2 _ D.i2z).trans e⟩,fun c d=>?_⟩;.exact I.wM (t':=s.toks) [z,L,t,i,j] Q Wy (by show 2<=sizeLine;decide) (.cons ru (.cons Wx .nil)) ((m.2 _ (aR (N z _ l))).trans a5)
    . obtain⟨f0,_⟩:=Q c d;rw[bj];.exact f0
      . obtain⟨o1,e4,_⟩:=G;obtain⟨o2,e5,_⟩:=C;simp only[aY,iV,iu] at d;rcases d with rfl|rfl|rfl|rfl|rfl;.exact N _ _ l
        .exact N _ _ J
        .exact N _ _ B
        .exact N _ _ e4
        .exact N _ _ e5
  done:=by
    intro X hP hw hK d n S s σ H E I Q st hg;subst hP hw hK;obtain⟨xs,ys,q1,O,he⟩:=hg;obtain⟨its,rv,p,hz⟩:=I.list q1;obtain⟨_,A,M,p'⟩:=I.bI b _ O;have Z:s.heap.IsTuple b A.toArray:=p';obtain⟨l,J,⟨f,g,B⟩,G,C⟩:=st;have bt:b≠t:=fun r=>by obtain⟨f0,_⟩:=Q t (by simp);rw[r,f0] at O;cases O
    have l1:=rv.length;have l2:=M.length;have Y:s.TypeIs (.ref z) "zip":=⟨_,l,rfl⟩;refine ah (l9 (iw (name:=Str.ofString "__next__") Y p9 (iy p9 Y F.entry_zip_next ?_ (F.args_zip_next_1 _))));refine Wt (I.ok.hd d) (MX hd l B G C p Z bt) l J B G C p.isList Z (he.imp (fun z=>by simp;lia) fun z=>by simp;lia) fun h' e hk ⟨oe,ho,Wz⟩=>?_;exact ah (wpAny_isInstance (T:="StopIteration") (b:=true) ⟨oe,ho,Wz⟩ isSubtype_stop (ax ⟨rfl,(I.vr (t':=s.toks) [z,L,t,i,j] Q fun c o d q=>by simp only[aY,iV,iu,iq] at d;exact hk c o d.1 d.2.2.1 d.2.2.2.1 d.2.2.2.2 q)⟩))
  self:=fun _ _ _ _ _ st h=>wpAny_pyIter_zip st.1 h
section
variable{X:Cx}
def MY(K:PySem.W.Frag)(e:TA):TI:=fun g H R=>e g H fun d c=>∃a b,d=[.ref a,.ref b]/\(∃h,fX K c a h)/\(∃f,c b=some (.tup f))/\R (yf K a b) c
theorem MZ(Y:Gl X "zip")(L:X.mg "zip"=none)(ha:PA X [l,g] S)(N:starEach [l,g] X.env=(false,eval l X.env)::starEach [g] X.env:=by rfl)(o:(backTo pos (starEach [g] X.env)).any (·.1)=false:=by rfl): PI X (.Tuple es k tp) (.Call (.Name "zip" p) [l,g] [] pos) (MY X.K S):=by
 intro A s σ H R I h;refine Call_ (pe I Y L PyProof.Rows.boot_zip (eW (bS (ha _ _ s _ H _ I h) fun us t ⟨_,_,f,Q,Z⟩=>?_) N o));obtain⟨a,b,e,⟨xs,J⟩,⟨ys,j⟩,q⟩:=Z;subst e;obtain⟨u,v,rfl,G,M⟩:=AL Q;cases G;cases M;obtain⟨D,rv,E,hz⟩:=f.list J;obtain⟨_,w,O,r⟩:=f.bI b _ j;refine Wv E.isList r fun h' n C B y z U=>?_;obtain⟨m,T⟩:∃m,m=t.heap.objs.size:=⟨_,rfl⟩;have i:[m+4,m+2,m+3,m,m+1].Nodup:=by simp
 rw[<-T] at n C B y z⊢;refine wpAny_pyIter_zip n ⟨_,_,_,_,_,rfl,(f.kept U),Ww a b _ _ _ _ _ i,⟨n,C,⟨_,_,B⟩,y,z⟩,fun d x=>?_,q⟩;have c:t.heap.objs.size<=d:=by simp[iV] at x;rcases x with rfl|rfl|rfl|rfl|rfl<;>lia
 exact f.k8 c (f.bI.fresh c)
end
end L2
namespace PM
open PySem L2
section
variable{K:Kx}{XO:c5}{E:L2.St->XK}
def zy:List D->Option (List D) |[.lst x,.tup y]=>some (rm x y) |_=>none
def Bm(ml:En->R (List D))(δ:En):R (List D):=(ml δ).bind fun l=>R.of (zy l)
theorem WA(h:zy l=some r):∃x y,l=[.lst x,.tup y]/\r=rm x y:=by unfold zy at h;grind
theorem WB(r:aF K A ds vs)(t:aF K A es ws)(h:∀g c,P g c->aC A g/\aC g c/\fX K.f c a vs/\c b=some (.tup ws)):mJ K (yf K.f a b) P (rm ds es):=by
 intro g c p i;obtain⟨C,s,q,f⟩:=h _ _ p;unfold rm;rw[List.getElem?_zipWith];refine⟨fun d k=>?_,fun Q=>?_⟩;.cases e:ds[i]? with |none=>rw[e] at k;cases k |some x=> cases j:es[i]? with |none=>simp_all |some y=> rw[e,j] at k;cases k;obtain⟨v,o,I⟩:=r.get e;obtain⟨w,B,l⟩:=t.get j;refine⟨⟨_,_,v,w,q,f,o,B⟩,fun N S y=>?_⟩;obtain⟨J,M,L,rfl,n,rfl,G,H⟩:=y;have z:=G _ q;rw[o] at z;cases z;have z:=H _ f;rw[B] at z;cases z;refine⟨_,.new s n,?_⟩;have m:=C.trans (aC.upd (u:=.tup [v,w]) (s.free n));exact⟨_,_,rfl,cw,.cons (Rep.mono m _ I) (.cons (Rep.mono m _ l) .nil)⟩
 .cases e:ds[i]? with |none=>exact⟨_,_,q,f,.inl (by rw[r.length];simp_all)⟩ |some x=> cases j:es[i]? with |none=>exact⟨_,_,q,f,.inr (by rw[t.length];exact jD.mp j)⟩ |some y=>simp_all
theorem M0(h:SA K XO E k ml):SI K XO E (MY K.f k) (Bm ml):=by intro t y J F H B o R I a;refine h _ _ _ F H _ _ _ I (a.bind.imp fun C A u c d j r=>?_);cases q:zy _ with |none=>rw[q] at d;exact d.elim |some z=> obtain⟨l,s,rfl,rfl⟩:=WA q;obtain⟨v,w,rfl,m,g⟩:=aF.two r;obtain⟨a,j,rfl,e,n⟩:=m;obtain⟨b,p,rfl,f,i⟩:=g;exact⟨a,b,rfl,⟨_,.inl (PM.aC.sU c.fh e)⟩,⟨_,c.fh _ _ f⟩,d _ _ (.refl c.fh) _ (WB n i fun L G x=>⟨x.1,x.2,.inl (PM.aC.rd x.2 (PM.aC.sU x.1 e)),x.2 _ _ (x.1 _ _ f)⟩)⟩
def uu:List D->Option D |[.tup l]=>(dG l).bind fun a=>cH (a.length<4000) (some (.int (uniq a).length)) none |_=>none
theorem WC(h:uu ds=some d):∃ns:List Int,ds=[.tup (ns.map .int)]/\ns.length<4000/\d=.int (uniq ns).length:=by
 unfold uu at h;split at h;.rename_i l;cases z:dG l with |none=>simp_all |some ns=>
  rw[z] at h;simp at h;unfold cH at h;split at h;.rename_i a;cases h;exact⟨_,by rw[uo z],a,rfl⟩
  simp_all
 simp_all
end
end PM
namespace L2
open PySem PySem.Spec PyProof.Rows
theorem WD : isSubtype (.type "tuple") (.type "set") = pure false := by rw [isSubtype_type]; rfl
theorem WE : isSubtype (.type "tuple") (.type "frozenset") = pure false := by rw [isSubtype_type]; kernel_rfl
abbrev tD (b : Bool) : Obj := { cls := .type "set", dict := none, data := .set #[] 0 (.fresh 0 0 b) }
section
variable {prog : Program} {w : World} {A : Around} {E : Value → Shared → Prop} {s : Shared}
abbrev M1 (prog : Program) (w : World) (s : Shared) (vs : Array Value) (ns : List Int) (h' : Heap) : Prop :=
  h'.SetOf (intKind prog w) s.heap.objs.size (fun k' => (firstMet (fun i => ns.getD i 0) vs.size).any (· == k')) (firstMet (fun i => ns.getD i 0) vs.size).length ∧ ∀ b o, b < s.heap.objs.size → s.heap.get? b = some o → h'.get? b = some o
set_option maxHeartbeats 8000000 in
theorem WG {t : Addr} {vs : Array Value} {ns : List Int} {Q : Value → Shared → Prop} (hh : A.handled = none) (ht : s.heap.IsTuple t vs) (hi : IntsAre vs.toList ns) (hb : vs.size + 1 < scanBound)
    (h : ∀ (h' : Heap) (tk : Nat), M1 prog w s vs ns h' → Q (.ref s.heap.objs.size) { s with heap := h', toks := tk }) : wpAny (model prog w) A (call (.type "set") [.ref t]) Q E s := by
  obtain ⟨c, tl, m1⟩ := jB.mro
  have m2 := jB.made
  have m3 := jB.sub
  refine gC (codeAny_of_tree ?_)
  show wpAny _ A.in1 (callAny (.type "set") _) _ _ s
  refine ax ⟨sj _ (by decide +kernel), jg F.entry_type_call ?_⟩
  rw [Around.under_plain (weight_type_call_type "set" [.ref t] []) rfl]
  have m4 := jB.notType
  have m5 := jB.canCreate
  have m6 := F.typeCall_set_1 (.ref t)
  repeat (any_goals (first | assumption | wp_step))
  refine gB (code_set_new_1 (.ref t) (E := E) (Q₁ := fun ob dW => ∃ b : Bool, ob = .ref s.heap.objs.size ∧ dW = { s with heap := s.heap.push (tD b) }) fun b => ⟨b, rfl, rfl⟩) fun r dW hr => ?_
  cases r with
  | error e => exact hr
  | ok fl =>
    cases fl with
    | ret ob =>
      obtain ⟨b, rfl, rfl⟩ := hr
      have gS : (s.heap.push (tD b)).get? s.heap.objs.size = some (tD b) := cg _ rfl
      have tS : Shared.TypeIs { s with heap := s.heap.push (tD b) } (.ref s.heap.objs.size) "set" := ⟨_, gS, rfl⟩
      have n1 := jB.init.lookup
      have n2 := jB.init.bind (.ref s.heap.objs.size)
      repeat (any_goals (first | assumption | wp_step))
      refine gB (oW (R := wants (fun r Bo => r = .none ∧ ∃ h' tk, Bo = { s with heap := h', toks := tk } ∧ M1 prog w s vs ns h') E) jB.init.plain F.entry_set_init (check_set_init_1 tS ?_)) fun GF Bo tE => ?_
      · obtain ⟨ot, et, ct, nt, dt⟩ := ht
        obtain ⟨oc, od, Vk, uR⟩ := ot
        simp only at ct dt
        subst ct; subst dt
        have WH : (s.heap.push (tD b)).get? t = some { cls := .type "tuple", dict := od, data := .seq vs nt, slots := uR } := aO _ et
        have p1 := WD
        have p2 := WE
        have p3 : (Value.type "tuple" == Value.type "dict") = false := by decide
        have tT : (s.heap.push (tD b)).IsTuple t vs := ⟨_, WH, rfl, nt, rfl⟩
        unfold Builtin.«set.__init__» noKeywords Builtin.Frozenset.updateFrom
        generalize WI : pyIter = PI
        wp_walk
        subst WI
        refine iter_tuple tT ?_
        refine ah (wpAny_runValue ?_)
        have lt : t < s.heap.objs.size := aM et
        have h3 : A.in1.in1.in1.handled = none := by simp [hh]
        have sz : (s.heap.push (tD b)).objs.size = s.heap.objs.size + 1 := iO ..
        have ne : t ≠ (s.heap.push (tD b)).objs.size := by rw [sz]; exact a_ (kh lt)
        have nS : s.heap.objs.size ∉ [(s.heap.push (tD b)).objs.size, t] := by
          rw [sz]; simp only [aY, iV, iu, iq]
          exact ⟨a_ (fB _), eU lt⟩
        have hv : ∀ (i : Nat) (v : Value), vs[i]? = some v → ∃ u, v = .int ((fun i => ns.getD i 0) i) u := fun i v hv => IntsAre.int_at hi i v (by rw [xh]; exact hv)
        refine codeAny_set_update_loopS ((Walks.tuple h3 _ t ne vs).toS) s.heap.objs.size nS (fun i => ns.getD i 0) hv hb (vs.size - 0) 0 _ (by lia) (bU _) ⟨⟨_, cg _ rfl, rfl, rfl⟩, tT.push _⟩ ?first ?last
        case first =>
          have g : ((s.heap.push (tD b)).push { cls := .type "tuple_iterator", data := .fields #[.ref t, .int 0 0] }).get? s.heap.objs.size = some (tD b) := aO _ gS
          exact SetOf_congr ((setObjOf_fresh (knd := intKind prog w) b).setOf g (by unfold scanBound; lia)) (fun _ => rfl) rfl
        case last =>
          intro s' mv hS
          obtain ⟨h', g', d', WJ, WK⟩ := s'
          have eg : g' = s.gens := mv.gens
          have ed : d' = s.drawn := mv.drawn
          have eo : WK = s.os := mv.os
          subst eg; subst ed; subst eo
          show wpAny _ _ _ _ _ _
          refine ax ?_
          show wpAny _ _ (ret Value.none) _ _ _
          refine ax ⟨rfl, h', WJ, rfl, hS, fun q o hq e => ?_⟩
          refine mv.heap q o ?_ (aO _ (aO _ e))
          simp only [aY, iV, iu, iq]
          exact ⟨a_ hq, by rw [sz]; exact a_ (kh hq)⟩
      · cases GF with
        | error e => exact tE
        | ok Bp =>
          cases Bp with
          | ret r =>
            obtain ⟨rfl, h', tk, rfl, WL⟩ := tE
            repeat (any_goals (first | assumption | wp_step))
            exact h _ _ WL
          | _ => exact tE.elim
    | _ => exact hr.elim
end
section
variable {X : Cx}
def M3 : List V → Hp → VK → Prop := fun xs H Q => ∃ (p : Addr) (ns : List Int), xs = [.ref p] ∧ H p = some (.tup (ns.map V.int)) ∧ ns.length < 4000 ∧ ∀ a, H a = none → Q (.ref a) (upd H a (.set (fun k => (uniq ns).any (· == k)) (uniq ns).length))
theorem M4 (hc : X.calm = true) : mV X (.type "set") M3 := by
  rintro pins s σ H xs us Q I r ⟨p, ns, rfl, hq, hl, q⟩
  obtain ⟨u, rfl, rx⟩ := mD r
  cases rx
  obtain ⟨z, its, rv, e⟩ := I.bI p _ hq
  have len := rv.length
  have WM : its.toArray.size = ns.length := by simp_all
  refine WG (I.ok.hd hc) e (by simpa using Mf rv) (by unfold scanBound; lia) fun h' tk hS => ?_
  obtain ⟨hS, hk⟩ := hS
  rw [WM, UZ] at hS
  refine ⟨.ref _, _, ?_, rfl, q _ (I.bI.fresh (aG _))⟩
  exact I.laid (fun b o hb => hk b o (aM hb) hb) (aG _) hS
end
end L2
namespace PM
open PySem L2
section
variable {K : Kx} {XO : c5} {E : L2.St → XK}
theorem M5 {tl : TA} {ml : En → R (List D)} (h : SA K XO E tl ml) : SE K XO E (rR Mi (fR (rR M3 tl) cV)) (aN uu ml) := by
  intro Λ F0 H0 F H σ δ Q I a
  refine h _ _ _ F H _ _ _ I (a.bind.imp fun ds F1 H1 e1 a1 vs r => ?_)
  cases q : uu _ with
  | none => rw [q] at a1; exact a1.elim
  | some d =>
    rw [q] at a1
    obtain ⟨ns, rfl, hl, rfl⟩ := WC q
    obtain ⟨v, rfl, r1⟩ := aF.one r
    obtain ⟨p, ws, rfl, h1, h2⟩ := r1
    have ei := sY h2
    subst ei
    exact ⟨p, _, rfl, e1.fh _ _ h1, hl, fun b hb => ⟨b, _, _, rfl, cw, a1 _ _ (.fD e1.fh hb) _ rfl⟩⟩
end
end PM
namespace L2
open PySem PySem.Spec PyProof.Rows
section
variable{X:Cx}
end
end L2
namespace PM
open PySem L2
section
variable{K:Kx}{XO:c5}{E:L2.St->XK}
end
section
variable{K:Kx}{XO:c5}{E:St->XK}{ta tb te:TE}{ma mb me:En->R D}{t u:TS}{m n:En->O}{Λ:List (Nat×Addr×HO)}{F0 H0 F H F' H' F1 H1:Hp}{σ:St}{δ:En}{Dn:Ends}
theorem fT:∀{l:List D}{vs:List V}{fp:List Addr},aK K F H (l.map .d) vs fp↔aF K F l vs/\fp=[]
 |[],vs,fp=>by rfl |d::l,vs,fp=>by
  constructor;.rintro⟨v,r,f,g,rfl,rfl,⟨rfl,c⟩,e⟩;obtain⟨b,rfl⟩:=fT.mp e;exact⟨⟨v,r,rfl,c,b⟩,rfl⟩
  .rintro⟨⟨v,r,rfl,c,b⟩,rfl⟩;exact⟨v,r,_,_,rfl,rfl,⟨rfl,c⟩,fT.mpr ⟨b,rfl⟩⟩
theorem aK.append:∀{ts:List Tr}{vs:List V}{a:List Addr}{us:List Tr}{ws:List V}{f2:List Addr},aK K F H ts vs a->aK K F H us ws f2->aK K F H (ts++us) (vs++ws) (a++f2) |[],vs,a,us,ws,f2,h,b=>by obtain⟨rfl,rfl⟩:=h;exact b |t::ts,vs,a,us,ws,f2,h,b=>by obtain⟨v,r,e,f,rfl,rfl,d,c⟩:=h;exact⟨v,_,_,_,rfl,by simp,d,aK.append c b⟩
theorem aK.length:∀{ts:List Tr}{vs:List V}{fp:List Addr},aK K F H ts vs fp->vs.length=ts.length |[],vs,fp,h=>by simp[aK] at h;simp_all |t::ts,vs,fp,h=>by obtain⟨v,r,b,d,rfl,rfl,c,a⟩:=h;simp[aK.length a]
theorem aK.focus:∀{ts:List Tr}{vs:List V}{fp:List Addr}{k:Nat}{t:Tr},aK K F H ts vs fp->ts[k]?=some t->∃v f0 g f2,vs[k]?=some v/\fp=f0++(g++f2)/\cL K F H t v g/\∀(H':Hp)(t':Tr)(d:V)(a:List Addr),(∀b∈f0++f2,H' b=H b)->cL K F H' t' d a->aK K F H' (ts.set k t') (vs.set k d) (f0++(a++f2)) |[],vs,fp,k,t,h,e=>by simp at e |x::ts,vs,fp,0,t,h,e=>by obtain⟨v,r,o,s,rfl,rfl,l,j⟩:=h;simp at e;subst e;exact⟨v,[],_,_,rfl,rfl,l,fun H' t' d a f i=>(⟨_,r,a,_,rfl,rfl,i,aK.at' _ j fun b c=>f b (by simp_all)⟩)⟩ |x::ts,vs,fp,k+1,t,h,e=>by obtain⟨v,r,o,s,rfl,rfl,l,j⟩:=h;obtain⟨w,f0,g,f2,y,rfl,p,q⟩:=aK.focus (k:=k) (t:=t) j (by simp_all);refine⟨w,o++f0,_,f2,by simpa using y,by simp,p,fun H' t' d a f i=>?_⟩;simp;exact⟨v,_,_,_,rfl,rfl,cL.at' x l fun b c=>f b (by simp_all),q _ _ _ _ (fun b c=>f b (by rcases bO.mp c with z|z<;>simp[z])) i⟩
theorem az.Bq{u:HO}(I:az K Λ F0 H0 F H σ δ)(f:δ[i]?=some (.p T))(ha:σ[i]?=some (some (.ref a)))(k:∀(j:Nat)(S:Tr),j≠i->δ[j]?=some (.p S)->∃M r,σ[j]?=some (some (.ref M))/\Tab K F H M r S/\∀b∈M::r,b∉a::bs'/\b≠c) (hc:H0 c=none/\F c=none)(oc:∀j:Nat,j≠i->Sl.own δ[j]?=true->σ[j]?≠some (some (.ref c)))(t':Tab K F (upd H c u) a bs' S)(fr:∀b∈a::bs',H0 b=none/\F b=none) (dj:∀(j:Nat)(b:Addr),j≠i->Sl.own δ[j]?=true->σ[j]?=some (some (.ref b))->b∉a::bs'):az K Λ F0 H0 F (upd H c u) σ (δ.set i (.p S)):=by
  have hi:i<δ.length:=(b'.mp f).1;have J:∀(j:Nat)(b:Addr),i≠j->Sl.own δ[j]?=true->σ[j]?=some (some (.ref b))->b≠c:=fun j b hj Q Y e=>oc j (aR hj) Q (by grind);have ow:∀g:Nat,Sl.own (δ.set i (.p S))[g]?=true->Sl.own δ[g]?=true:=by
    intro g h;by_cases e:i=g;.subst e;rw[f];rfl
    .rwa[aQ e] at h
  refine⟨⟨I.ext.ff,fun b w q=>?_,fun b w q=>?_,I.ext.nw⟩,by simp[I.len],fun j=>?_,fun j g b Gj s Z g3 g4=>?_,fun y hy=>?_,fun j l2 s=>?_⟩;.rw[bj (dC q hc.1)];exact I.ext.hh b w q
  .rw[bj (dC q hc.2)];exact I.ext.fh b w q
  . by_cases e:i=j;.subst e;rw[bu hi];exact⟨a,bs',ha,t',fr⟩
    .rw[aQ e];have w:=I.slot j;cases q:δ[j]? with |none=>trivial |some y=> rw[q] at w;cases y with |no=>trivial |v d=>exact w |o d=>obtain⟨b,B,X,U,w4⟩:=w;exact⟨b,B,X,U,w4.at (bj (J j b e (by rw[q];rfl) B))⟩ |l d=>obtain⟨b,B,X,U,w4⟩:=w;exact⟨b,B,X,U,w4.at (bj (J j b e (by rw[q];rfl) B))⟩ |p l2=> obtain⟨M,r,G,L,C⟩:=k j l2 (aR e) q;obtain⟨x,xs,B,X,U⟩:=w;rw[G] at B;cases B;have N:=wC X L;subst N;exact⟨_,xs,G,L.at' fun y hy=>bj (C y hy).2,U⟩
  .exact I.dist j g b Gj (ow j s) (ow _ Z) g3 g4
  . obtain⟨⟨d2,s⟩,Z,g3⟩:=I.gu y hy;have ne:i≠y.1:=by intro e;simp_all
    exact⟨⟨_,by rwa[aQ ne]⟩,Z,by rwa[bj (J _ _ ne (by rw[s];rfl) Z)]⟩
  . by_cases e:i=j;.subst e;rw[bu hi] at s;cases s;refine⟨a,_,ha,t',fr,fun g b z Q Y hb=>dj _ b z (ow _ Q) Y hb,fun g l3 z A=>?_⟩;rw[aQ (aR z)] at A;obtain⟨M,cs,G,L,C⟩:=k _ _ z A;exact⟨_,_,G,L.at' fun x f=>bj (C x f).2,fun x f=>(C x f).1⟩
    . rw[aQ e] at s;obtain⟨a2,r,s1,s2,s3,s4,s5⟩:=I.tab s;obtain⟨M,cs,G,L,C⟩:=k j _ (aR e) s;rw[G] at s1;cases s1;have N:=wC s2 L;subst N;refine⟨_,_,G,L.at' fun x f=>bj (C x f).2,s3,fun g b z Q Y hb=>s4 _ b z (ow _ Q) Y hb,fun g l3 z A=>?_⟩;by_cases e2:i=g;.subst e2;rw[bu hi] at A;cases A;exact⟨a,bs',ha,t',fun x f WN=>(C x WN).1 f⟩
      .rw[aQ e2] at A;obtain⟨a3,U9,v1,v2,v3⟩:=s5 _ _ z A;obtain⟨a4,U_,x1,x2,x3⟩:=k _ _ (aR e2) A;rw[v1] at x1;cases x1;have N:=wC v2 x2;subst N;exact⟨_,_,v1,v2.at' fun x f=>bj (x3 x f).2,v3⟩
def Dj(me:En->R D)(i:Nat)(δ:En):O:=(me δ).fu δ fun d=>match d with |.lst l=>(match δ[i]? with |none=>.no |some (.l _)=>.no |some _=>if U7 i δ=true then .nx (δ.set i (.p (.l (l.map .d)))) else .no) |_=>.no
theorem WO(h:iK K XO E te me):SS K XO E (k7 te (ua i)) (Dj me i):=by intro Λ F0 H0 F H σ δ Dn I a;refine h _ _ _ F H _ _ _ I ((cI.of I a).imp fun d F1 H1 e c p w C k=>?_);cases d with
 |lst l=> obtain⟨A,r,f⟩:=k;have g:Tab K F1 H1 p _ (.l _):=⟨⟨p,_,_,rfl,rfl,r,fT.mpr ⟨f,rfl⟩⟩,by simp⟩;cases q:δ[i]? with |none=>simp[q] at c;exact c.elim |some x=> simp[q] at c;cases x with |l d=>exact c.elim |no|v d|o d|p s=>
  dsimp at c;split at c;.exact c _ _ _ (I.Gh ⟨_,q,fun d z=>by cases z⟩ e g fun b B=>by simp_all)
  .exact c.elim
 |_=>exact c.elim
theorem az.Br(I:az K Λ F0 H0 F H σ δ)(a:δ[j]?=some (.o d)):az K Λ F0 H0 F H σ (δ.set j .no):=by
  have f:=(b'.mp a).1;refine az.nO ⟨by simp,fun k=>?_⟩ (fun x b=>?_) I
  . by_cases e:j=k;.simp_all
    .simp_all
  . obtain⟨⟨c,g⟩,_⟩:=I.gu x b;have n:j≠x.1:=fun e=>by simp_all
    exact⟨_,by rwa[aQ n]⟩
def Dk(i j:Nat)(me:En->R D)(δ:En):O:=match δ[i]?,δ[j]? with |some (.p (.l a)),some (.o (.lst l))=>(me δ).fu δ fun d=>cH (a.length<sizeLine) (.nx ((δ.set j .no).set i (.p (.l (a++[.t [.d d,.l (l.map .d)]]))))) .no |_,_=>.no
theorem WQ(h:SE K XO E te me):SS K XO E (uM (xI K.f "list" y6 (cS i) (fR (sP (fR te (fR (cS j) cV))) cV))) (Dk i j me):=by
  intro Λ F0 H0 F H σ δ Dn I a;unfold Dk at a;split at a
  . rename_i Y l q1 w;obtain⟨p,M,r⟩:=I.tabAt q1;have ok:=r.tab.ok;obtain⟨p',Q,fs,e1,e2,hp,hL⟩:=ok;cases e2;have z:=I.slot j;rw[w] at z;obtain⟨b,S,b2,b3,ws,b4,b5⟩:=z;have U:j≠i:=fun e=>by simp_all
    have bn:b∉p::M:=r.dist j b U (by rw[w];rfl) S;refine⟨_,r.at',.inl ⟨rfl,Q,.inl (.inl hp)⟩,(h Λ F0 H0 F H σ δ _ I ((cI.of I a).imp fun d G N e c v rv=>⟨_,S,by simp[sizeLine],fun s A=>?_⟩))⟩;unfold cH at c;split at c;case isFalse=>exact c.elim
    have B:Ext G N (upd G s (.tup [v,.ref b])) (upd N s (.tup [v,.ref b])):=.new e.fh A;have I2:=(I.grow e).grow B;have t2:=(r.grow e).grow B;have WR:N p=some (.lst Q):=e.hh _ _ hp;have pc:p≠s:=dC WR A;have WS:N b=some (.lst ws):=e.hh _ _ b4;have bc:b≠s:=dC WS A;have bp:b≠p:=fun z=>bn (by simp_all);refine⟨p,Q,.ref s,rfl,rfl,by rwa[bj pc],by rwa[hL.length],?_⟩;have J:=I2.Br w;have f2:∀x∈p::(M++[b]),H0 x=none/\upd G s (.tup [v,.ref b]) x=none:=fun x g=>by
      have:x∈p::M\/x=b:=by
        rcases aY.mp g with z|z;.simp_all
        . rcases bO.mp z with z|z;.exact .inl (bJ _ z)
          .exact .inr (bP.mp z)
      rcases this with z|z;.exact t2.free x z
      .subst z;exact⟨b2,by rw[bj bc];exact e.nw _ _ b3 b4⟩
    refine c σ _ _ (J.Bq (i:=i) (T:=.l Y) (c:=p) (a:=p) (bs':=M++[b]) (by simp_all) r.at' (fun k T' Z q=>?_) (f2 p (by simp)) (fun k q o C=>?_) ⟨?_,?_⟩ f2 fun k x q o C g=>?_)
    . by_cases f:j=k;.subst f;rw[bu (b'.mp w).1] at q;cases q
      . rw[aQ f] at q;obtain⟨a',cs,u1,u2,u3⟩:=t2.one k T' Z q;obtain⟨a3,X,v1,v2,_,v4,_⟩:=I2.tab q;rw[u1] at v1;cases v1;have eb:=wC v2 u2;subst eb;refine⟨_,X,u1,u2,fun x g=>⟨fun L=>?_,fun z=>u3 x g (by rw[z];simp)⟩⟩;rw[<-gx] at L;rcases bO.mp L with z|z;.exact u3 x g z
        .rw[bP.mp z] at g;exact v4 j b f (by rw[w];rfl) S g
    . have f:j≠k:=fun f=>by subst f;rw[bu (b'.mp w).1] at o;cases o
      rw[aQ f] at o;exact r.dist k p q o C (by simp)
    . refine⟨p,Q++[.ref s],M++[b],rfl,rfl,cw,aK.append ?_ ?_⟩;.refine aK.at' Y (aK.mono (e.ff.trans B.ff) (e.hh.trans B.hh) Y hL) fun x g=>bj fun z=>(gp.mp r.tab.nd).1 (z▸g)
      .refine⟨.ref s,[],[b],[],rfl,rfl,⟨_,_,rfl,cw,v,_,_,_,rfl,rfl,⟨rfl,Rep.mono B.ff d rv⟩,_,_,_,_,rfl,rfl,⟨b,_,_,rfl,rfl,?_,fT.mpr ⟨b5.mono (e.ff.trans B.ff),rfl⟩⟩,rfl,rfl⟩,rfl,rfl⟩;rwa[bj bp,bj bc]
    .rw[<-gx,fQ];exact⟨r.tab.nd,by simp,fun x g y hy f=>bn (by rwa[<-bP.mp hy,<-f])⟩
    . have f:j≠k:=fun f=>by subst f;rw[bu (b'.mp w).1] at o;cases o
      rw[aQ f] at o;rw[<-gx] at g;rcases bO.mp g with z|z;.exact r.dist k x q o C z
      .rw[bP.mp z] at C;exact I.dist j k b f (by rw[w];rfl) o S C
  .exact a.elim
end
section
variable{K:Kx}{XO:c5}{E:St->XK}{ta tb te:TE}{ma mb me:En->R D}{t u:TS}{m n:En->O}{Λ:List (Nat×Addr×HO)}{F0 H0 F H F' H' F1 H1:Hp}{σ:St}{δ:En}{Dn:Ends}
theorem GG{α:Type}:∀{l:List α}{i:Nat}{x:α},l[i]?=some x->l.set i x=l |[],i,x,h=>rfl |y::l,0,x,h=>by simp_all |y::l,i+1,x,h=>by rw[List.set_cons_succ,GG (by simp_all)]
def Bs(i:Nat)(mk g me:En->R D)(δ:En):O:=match δ[i]? with |some (.p (.l a))=>(mk δ).fu δ fun k=>(match k with |.int k=>(match gK a.length k with |some c=>(match a[c]? with |some (.t b)=>(g δ).fu δ fun n=>(match n with |.int n=>(match gK b.length n with |some e=>(match b[e]? with |some (.l f)=>(me δ).fu δ fun d=>cH (f.length<sizeLine) (.nx (δ.set i (.p (.l (a.set c (.t (b.set e (.l (f++[.d d]))))))))) .no |_=>.no) |none=>.no) |_=>.no) |_=>.no) |none=>.no) |_=>.no) |_=>.no
theorem WT{k n:Nat}(I:Tab K F H p bs (.l ts))(hp:H p=some (.lst vs))(zt:ts[k]?=some (.t us))(L:vs[k]?=some (.ref r))(B:F r=some (.tup g))(zu:us[n]?=some (.l ws))(s:g[n]?=some (.ref q))(hq:H q=some (.lst c))(rv:Rep K F d v): q∈bs/\Tab K F (upd H q (.lst (c++[v]))) p bs (.l (ts.set k (.t (us.set n (.l (ws++[.d d])))))):=by
 have ok:=I.ok;obtain⟨p',vs',fs,e1,e2,h,hL⟩:=ok;cases e2;rw[hp] at h;cases h;obtain⟨v1,M,f1,T,Z,g2,g3,g4⟩:=hL.focus zt;rw[L] at Z;cases Z;obtain⟨a1,Q,e3,G,hU⟩:=g3;cases e3;rw[B] at G;cases G;obtain⟨w1,j,hm,o,C,i2,J,i4⟩:=hU.focus zu;rw[s] at C;cases C;simp only[cL] at J;obtain⟨q',Y,a,e4,i5,X,hW⟩:=J;cases e4;rw[hq] at X;cases X;subst i5 i2 g2;have N:=I.nd;have w:q∈M++(j++(q::a++o)++T):=by simp
 have i:=gp.mp N;have pq:p≠q:=fun e=>i.1 (e▸w);have y:=fQ.mp i.2;have nB:=fQ.mp y.2.1;have U:=fQ.mp (fQ.mp nB.1).2.1;have q1:q∈j++(q::a++o):=by simp
 have x0:∀b∈M++T,b≠q:=fun b f e=>by
  rcases bO.mp f with z|z;.exact y.2.2 b z q (jE _ q1) e
  grind
 have x1:∀b∈j++o,b≠q:=fun b f e=>by
  rcases bO.mp f with z|z;.grind
  .exact U.2.2 q (by simp) b z e.symm
 have x2:q∉a:=(gp.mp U.1).1;refine⟨w,?_,N⟩;have s1:cL K F (upd H q (.lst (c++[v]))) (.l (ws++[.d d])) (.ref q) (q::a):=by refine⟨q,c++[v],a,rfl,rfl,cw,?_⟩;have:=aK.append (aK.at' (H':=upd H q (.lst (c++[v]))) ws hW fun b f=>bj fun e=>x2 (e▸f)) (us:=[.d d]) (ws:=[v]) (f2:=[]) (by exact⟨v,[],[],[],rfl,rfl,⟨rfl,rv⟩,rfl,rfl⟩);rwa[dQ] at this
 have S:=i4 _ _ _ _ (fun b f=>bj (x1 b f)) s1;rw[GG s] at S;have s3:cL K F (upd H q (.lst (c++[v]))) (.t (us.set n (.l (ws++[.d d])))) (.ref r) (j++(q::a++o)):=by exact⟨r,g,rfl,B,S⟩
 have x:=g4 _ _ _ _ (fun b f=>bj (x0 b f)) s3;rw[GG L] at x;exact⟨p,_,_,rfl,rfl,by rwa[bj pq],x⟩
theorem WU(h1:SE K XO E tk mk)(h2:SE K XO E tn mn)(h:SE K XO E te me):SS K XO E (uM (xI K.f "list" y6 (rQ (uT K.f) (rQ (qS K.f) (cS i) tk) tn) (fR te cV))) (Bs i mk mn me):=by
  intro Λ F0 H0 F H σ δ Dn I a;unfold Bs at a;split at a
  . rename_i ts q;obtain⟨p,bs,o⟩:=I.tabAt q;obtain⟨p',vs,fs,e1,e2,Q,U⟩:=o.tab.ok;cases e1;refine⟨_,o.at',h1 _ _ _ F H _ _ _ I ((cI.of I a).imp fun k G1 K1 x f y Y=>?_)⟩;split at f;case h_2=>exact f.elim
    rename_i k;subst Y;cases z:gK _ k with |none=>rw[z] at f;exact f.elim |some k'=>
    rw[z] at f;dsimp at f;split at f;case h_2=>exact f.elim
    rename_i us N;obtain⟨v,f0,f1,f2,g1,g2,g3,_⟩:=U.focus N;obtain⟨tA,uvs,rfl,M,X⟩:=g3;refine⟨p,_,k,.ref tA,rfl,rfl,.inl (.inl (x.hh _ _ Q)),?_,?_⟩;.unfold jd;rwa[U.length,z]
    have G:=I.grow x;refine h2 _ _ _ _ _ _ _ _ G ((cI.of G f).imp fun n G2 K2 S e y2 C=>?_);split at e;case h_2=>exact e.elim
    rename_i n;subst C;cases s:gK _ n with |none=>rw[s] at e;exact e.elim |some n'=>
    rw[s] at e;dsimp at e;split at e;case h_2=>exact e.elim
    rename_i ws J;obtain⟨w,h0,hm,h2',Z,i2,i3,_⟩:=X.focus J;obtain⟨r,wvs,ffs,rfl,i5,A,hW⟩:=i3;have T:=G.grow S;have g:=x.trans S;refine⟨_,_,n,.ref r,rfl,rfl,.inl (.inl (g.fh _ _ (g.ff _ _ M))),?_,.inl ⟨rfl,_,.inl (.inl (g.hh _ _ A))⟩,?_⟩;.unfold jd;rwa[X.length,s]
    refine h _ _ _ _ _ _ _ _ T ((cI.of T e).imp fun d G3 K3 x3 l y3 B=>?_);unfold cH at l;split at l;case isFalse=>exact l.elim
    have b:=g.trans x3;have L:=o.grow b;obtain⟨m1,m2⟩:=WT L.tab (b.hh _ _ Q) N g1 (b.ff _ _ M) J Z (b.hh _ _ A) B;exact⟨r,_,_,rfl,rfl,b.hh _ _ A,by rwa[hW.length],l _ _ _ ((I.grow b).Gi L (bJ _ m1) m2 fun c hc=>hc)⟩
  .exact a.elim
end
section
variable{K:Kx}{XO:c5}{E:St->XK}{ta tb te to:TE}{ma mb me mo:En->R D}{t u:TS}{m n:En->O}{Λ:List (Nat×Addr×HO)}{F0 H0 F H F' H' F1 H1:Hp}{σ:St}{δ:En}{Dn:Ends}
theorem az.yg(I:az K Λ F0 H0 F H σ δ){k:Nat}(e:Sl.own δ[k]?=true)(f:σ[k]?=some (some (.ref b))):∃o,H b=some o:=by have z:=I.slot k;cases q:δ[k]? with |none=>rw[q] at e;cases e |some y=> rw[q] at e z;cases y with |no=>cases e |v d=>cases e |o d=>obtain⟨c,a,_,_,g⟩:=z;rw[f] at a;cases a;exact g.obj |l d=>obtain⟨c,a,_,_,g⟩:=z;rw[f] at a;cases a;exact g.obj |p T=>obtain⟨c,j,a,h,_⟩:=z;rw[f] at a;cases a;exact h.obj b (by simp)
def Bt(i:Nat)(me mo:En->R D)(δ:En):O:=match δ[i]? with |some (.p (.l a))=>(me δ).fu δ fun d=>(mo δ).fu δ fun o=>(match o with |.lst l=>cH (a.length<sizeLine) (.nx (δ.set i (.p (.l (a++[.t [.d d,.l (l.map .d)]]))))) .no |_=>.no) |_=>.no
theorem WV(h:SE K XO E te me)(B:iK K XO E to mo):SS K XO E (uM (xI K.f "list" y6 (cS i) (fR (sP (fR te (fR to cV))) cV))) (Bt i me mo):=by
  intro Λ F0 H0 F H σ δ Dn I a;unfold Bt at a;split at a
  . rename_i ts q1;obtain⟨p,N,g⟩:=I.tabAt q1;have ok:=g.tab.ok;obtain⟨p',Q,fs,e1,e2,hp,hL⟩:=ok;cases e2;refine⟨_,g.at',.inl ⟨rfl,Q,.inl (.inl hp)⟩,(h Λ F0 H0 F H σ δ _ I ((cI.of I a).imp fun d G1 K1 e c v rv=>?_))⟩;have M:=I.grow e;refine B Λ F0 H0 G1 K1 σ δ _ M ((cI.of M c).imp fun o G S x A b b0 Y bo=>⟨by simp[sizeLine],fun q r=>?_⟩);split at A;case h_2=>exact A.elim
    obtain⟨ws,b4,b5⟩:=bo;unfold cH at A;split at A;case isFalse=>exact A.elim
    have s:=e.trans x;have j:Ext G S (upd G q (.tup [v,.ref b])) (upd S q (.tup [v,.ref b])):=.new x.fh r;have I2:=(I.grow s).grow j;have t2:=(g.grow s).grow j;have U:S p=some (.lst Q):=s.hh _ _ hp;have pc:p≠q:=dC U r;have bc:b≠q:=dC b4 r;have Z:b∉p::N:=fun z=>by obtain⟨o,w⟩:=(g.grow e).tab.obj b z;simp_all
    have bp:b≠p:=fun z=>Z (by simp_all);refine⟨p,Q,.ref q,rfl,rfl,by rwa[bj pc],by rwa[hL.length],?_⟩;have f2:∀y∈p::(N++[b]),H0 y=none/\upd G q (.tup [v,.ref b]) y=none:=fun y f=>by
      rw[<-gx] at f;rcases bO.mp f with z|z;.exact t2.free y z
      .rw[bP.mp z];exact⟨M.ext.hh.free Y,by rwa[bj bc]⟩
    refine A σ _ _ (I2.Bq (i:=i) (T:=.l ts) (c:=p) (a:=p) (bs':=N++[b]) q1 g.at' (fun k T' X L=>by
        obtain⟨a',cs,u1,u2,u3⟩:=g.one k T' X L;refine⟨a',cs,u1,(u2.mono s.ff s.hh).mono j.ff j.hh,fun y f=>⟨fun C=>?_,fun z=>u3 y f (by rw[z];simp)⟩⟩;rw[<-gx] at C;rcases bO.mp C with z|z;.exact u3 y f z
        .rw[bP.mp z] at f;obtain⟨o,w⟩:=(u2.mono e.ff e.hh).obj b f;simp_all) (f2 p (by simp)) (fun k L B J=>g.dist k p L B J (by simp)) ⟨?_,?_⟩ f2 fun k y L B J f=>?_)
    . refine⟨p,Q++[.ref q],N++[b],rfl,rfl,cw,aK.append ?_ ?_⟩;.refine aK.at' ts (aK.mono (s.ff.trans j.ff) (s.hh.trans j.hh) _ hL) fun y f=>bj fun z=>(gp.mp g.tab.nd).1 (z▸f)
      .refine⟨_,_,_,_,rfl,rfl,⟨_,_,rfl,cw,v,_,_,_,rfl,rfl,⟨rfl,Rep.mono (x.ff.trans j.ff) d rv⟩,_,_,_,_,rfl,rfl,⟨b,_,_,rfl,rfl,?_,fT.mpr ⟨b5.mono j.ff,rfl⟩⟩,rfl,rfl⟩,rfl,rfl⟩;rwa[bj bp,bj bc]
    .rw[<-gx,fQ];exact⟨g.tab.nd,by simp,fun y f w hw ee=>Z (by rwa[<-bP.mp hw,<-ee])⟩
    . rw[<-gx] at f;rcases bO.mp f with z|z;.exact g.dist k y L B J z
      .rw[bP.mp z] at J;obtain⟨o,w⟩:=M.yg B J;rw[Y] at w;cases w
  .exact a.elim
end
section
variable{K:Kx}{XO:c5}{E:St->XK}{te ti tj:TE}{me mi mj:En->R D}{Λ:List (Nat×Addr×HO)}{F0 H0 F H:Hp}{σ:St}{δ:En}{Dn:Ends}
def zz(x:Nat)(mi mj me:En->R D)(δ:En):O:=match δ[x]? with |some (.o (.lst l))=>(me δ).fu δ fun d=>(match d with |.tup [a,b]=>(mi δ).fu δ fun k=>(match k with |.int k=>(match gK l.length k with |some j=>(mj (δ.set x (.o (.lst (l.set j a))))).fu (δ.set x (.o (.lst (l.set j a)))) fun c=>(match c with |.int c=>(match gK l.length c with |some e=>.nx ((δ.set x (.o (.lst (l.set j a)))).set x (.o (.lst ((l.set j a).set e b)))) |none=>.no) |_=>.no) |none=>.no) |_=>.no) |_=>.no) |_=>.no
theorem WW(h:SE K XO E te me)(hi:SE K XO E ti mi)(y:SE K XO E tj mj):SS K XO E (k7 te (xt K.f 2 (Ck (xu (cS x) ti Cv) (Ck (xu (cS x) tj Cv) xr)))) (zz x mi mj me):=by
  intro Λ F0 H0 F H σ δ Dn I a;unfold zz at a;split at a
  . rename_i l q;obtain⟨p,n,vs,A,s⟩:=I.own q;refine h _ _ _ F H _ _ _ I ((cI.of I a).imp fun d Q H1 e c v r=>?_);split at c;case h_2=>exact c.elim
    have t:=I.grow e;obtain⟨tA,Y,rfl,C,X,S,rfl,u,vb,T,rfl,B,rfl⟩:=r;refine⟨_,_,rfl,.inl (.inl (e.fh _ _ C)),rfl,_,_,rfl,_,n,(hi _ _ _ _ _ _ _ _ t ((cI.of t c).imp fun k F2 H2 b f Z L=>?_))⟩;split at f;case h_2=>exact f.elim
    rename_i k;subst L;cases z:gK _ k with |none=>rw[z] at f;exact f.elim |some j=>
    rw[z] at f;have m:=(s.mono e.ff).mono b.ff;have J:=(t.grow b).chg (d':=.lst _) q n ⟨_,cw,m.set j (Rep.mono b.ff _ u)⟩;refine⟨p,_,k,j,rfl,rfl,b.hh _ _ (e.hh _ _ A),by rwa[s.length],_,_,rfl,_,n,(y _ _ _ _ _ _ _ _ J ((cI.of J f).imp fun N F3 U o g v3 G=>?_))⟩;split at g;case h_2=>exact g.elim
    subst G;cases w:gK _ _ with |none=>rw[w] at g;exact g.elim |some M=> rw[w] at g;exact⟨p,_,_,_,rfl,rfl,o.hh _ _ cw,by rwa[qj,s.length],rfl,g _ _ _ ((J.grow o).chg (bu ((b'.mp q).1)) n ⟨_,cw,((m.set j (Rep.mono b.ff _ u)).mono o.ff).set _ (Rep.mono (b.ff.trans o.ff) _ B)⟩)⟩
  .exact a.elim
end
end PM
namespace L2
open PySem PySem.Spec PyProof.Rows
section
variable{X:Cx}
def Bu:List V->Hp->VK->Prop:=fun b H Q=>∃(p:Addr) (a:List Bool),b=[.ref p]/\Rd H p (.lst (a.map V.bl))/\Q (.bl (a.any id)) H
theorem M6:∀(bs:List Bool),((List.range bs.length).any fun i=>bs.getD i false)=bs.any id |[]=>rfl |b::bs=>by rw[gm,List.range_succ_eq_map,iQ,List.any_map,iQ,<-M6 _];rfl
theorem WX(x:X.calm=true):mV X (.builtin "any") Bu:=by
 rintro f s M H C J Q I r ⟨p,g,rfl,m,q⟩;obtain⟨u,rfl,w⟩:=mD r;cases w;obtain⟨z,l,n,k,e⟩:=m.ok I.bI;have y:=Vb k;subst y;have c:s.heap.IsList p _:=⟨_,e,rfl,n,rfl⟩;refine call_any_walk (oZ c (⟨_,_,_,_,_,_,(fun i=>g.getD i false),rfl,Walks.list (A:=X.A.in1) (I.ok.hd x) _ p (a_ (aM e)) _,⟨⟨_,cg _ rfl,rfl,rfl⟩,c.push _⟩,?_,?_⟩));.intro i v G L E h B;have a:=h;rw[List.getElem?_toArray,cj] at a;cases z:g[i]? with |none=>simp_all |some b=> rw[z] at a;cases a;refine jj ?_;(first|rfl|omega|simp|simp_all|grind)
 .intro N D t;rw[d9,aW,M6];refine⟨.bl _,H,I.kept (fun b o d=>t b o (fun j=>?_) (aO _ d)),rfl,q⟩;rw[bP.mp j] at d;exact absurd (aM d) (de _)
end
end L2
namespace PM
open PySem L2
section
variable{K:Kx}
def rH:List D->Option D |[.lst l]=>(lh l).map fun a=>.bl (a.any id) |_=>none
theorem WY:SC K Bu rH:=by
 intro F H m i d Q s r e q;unfold rH at e;split at e;.rename_i l;cases b:lh l with |none=>simp_all |some j=> rw[b] at e;cases e;cases r with |cons r g=> cases g;obtain⟨p,k,rfl,h,a⟩:=r;rw[Mt b] at a;have:=Mu a;subst this;exact⟨p,_,rfl,h,q _ F H (.refl s) rfl⟩
 simp_all
end
end PM
namespace PM
def Bv(eq lt:Nat->Bool):Nat->Nat->Bool |0,0=>false |0,_+1=>true |_+1,0=>false |n+1,m+1=>if eq 0=true then Bv (fun j=>eq (j+1)) (fun j=>lt (j+1)) n m else lt 0
end PM
namespace L2
open PySem PySem.Spec PyProof.Rows
section
variable{prog:Program}{w:World}{A:Around}{E:Value->Shared->Prop}{s:Shared}
end
def M7:Nat->PyData->PyData->Bool |0,.int i,.int j=>decide (i<j) |n+1,.int i,.int j=>decide (i<j) |n+1,.tuple l,.tuple r=>PM.Bv (fun j=>PyData.eqv (l.getD j .none) (r.getD j .none)) (fun j=>M7 n (l.getD j .none) (r.getD j .none)) l.length r.length |_,_,_=>false
end L2
namespace PM
open PySem L2
def WZ(x y:D):Bool:=M7 8 (toPy 8 x) (toPy 8 y)
end PM
namespace L2
open PySem PySem.Spec PyProof.Rows PM
section
variable{X:Cx}{ca:Nat->Addr}{an:Nat->Str}
end
end L2
namespace PM
open PySem L2
abbrev BP:=Int×List (Int×Int)
def W0(p:Int×Int):D:=.tup [.int p.1,.int p.2]
def fj(b:BP):D:=.tup [.int b.1,.tup (b.2.map W0)]
def Bw:List BP->BP->BP |[],m=>m |t::l,m=>Bw l (if WZ (fj t) (fj m)=true then t else m)
def least:List BP->BP |[]=>(0,[]) |b::l=>Bw l b
section
variable{K:Kx}{c:Nat}{d:Int->Int->Int}{L:D}{F H F' H' F'' H'':Hp}{x kp dx:Addr}{lv:V}{cq:List (List Key×V)}
end
variable(K:Kx)(c:Nat)(d:Int->Int->Int)(L:D) in
variable(K:Kx)(c:Nat)(d:Int->Int->Int)(L:D) in
section
variable{K:Kx}{XO:c5}{E:L2.St->XK}
end
section
variable{K:Kx}{c m:Nat}{d:Int->Int->Int}{L:D}{E:XK}
end
section
variable{K:Kx}{c m:Nat}{d:Int->Int->Int}{L:D}
end
end PM
namespace L2
open PySem PySem.Spec PyProof.Rows
section
variable{P:Program}{w:World}{K:PySem.W.Frag}{mg:Str->Option Value}{base:Heap}{CX:jo}{k:Nat}{m:Str}{C:Addr}{ps:List Str}{sp sp':Sp}
end
end L2
namespace PM
open PySem L2
section
variable{K:Kx}{c m:Nat}{d:Int->Int->Int}{L:D}
variable(K:Kx)(c:Nat)(d:Int->Int->Int)(L:D) in
variable(K:Kx)(c:Nat) in
variable(K:Kx)(c:Nat) in
variable(K:Kx)(c:Nat) in
variable(K:Kx)(c:Nat) in
end
end PM
namespace L2
open PySem PySem.Spec PyProof.Rows
section
variable{prog:Program}{w:World}{K:Type}[DecidableEq K]{knd:KeyKind prog w K}{A:Around}{E:Value->Shared->Prop}{s:Shared}
end
section
variable{X:Cx}
end
end L2
namespace PM
open PySem L2
section
variable{K:Kx}{XO:c5}{E:L2.St->XK}
end
section
variable{K:Kx}{XO:c5}{E:L2.St->XK}{Λ:List (Nat×Addr×HO)}{F0 H0 F H:Hp}{σ:L2.St}{δ:En}
end
section
variable{K:Kx}{XO:c5}{E:L2.St->XK}{Λ:List (Nat×Addr×HO)}{F0 H0 F H:Hp}{σ:L2.St}{δ:En}{t:TS}{m:En->O}
end
section
variable{X:Cx}{K:Kx}{XO:c5}{E:L2.St->XK}{te:TE}{me:En->R D}{ca:Nat->Addr}{an:Nat->Str}
open Classical in
def Bx(K:Kx)(b:Bool):R2:=fun x y H Q=>∃(F:Hp) (a:D) (l:List D),aC F H/\Top K F H a x/\Top K F H (.lst l) y/\gW 7 a=true/\gW 8 (.lst l)=true/\Q (.bl (if b=true then !decide (a∈l) else decide (a∈l))) H
open Classical in
theorem W2(a:gW 7 c=true)(pl:gW 8 (.lst l)=true):((l.map (toPy 7)).any fun y=>PyData.eqv y (toPy 7 c))=decide (c∈l):=by
 rw[uG,List.any_map,p_,l4];constructor;.rintro⟨y,d,h⟩;have:PyData.eqv _ _=true:=h;rw[C3 7 y _ ((iP.mp pl) y d) a] at this;simp_all
 .intro h;refine⟨_,h,?_⟩;show PyData.eqv _ _=true;rw[C3 7 _ _ a a];simp
theorem M8(n:X.A.units+64<cLine):iI X (compareOp .NotIn) (Bx ⟨X.K,ca,an⟩ true):=by rintro d s p H x y v u Q I f e ⟨F,o,l,c,i,g,a,b,q⟩;obtain⟨m,h⟩:=zk I c a i f;obtain⟨r,j⟩:=zk I c b g e;obtain⟨k,t⟩:=zj 7 _ a;obtain⟨m1,m2⟩:=zj 8 _ b;refine SeqAt.notIn_list_reads j h m1 k (by lia) ?_;rw[W2 a b];exact⟨.bl _,H,I,rfl,q⟩
open Classical in
def yh(x y:D):Option D:=match y with|.lst l=>cH (gW 7 x=true/\gW 8 (.lst l)=true) (some (.bl (!decide (x∈l)))) none|_=>none
theorem M9:SR K (Bx K true) yh:=by
  intro F H x y f c d Q s a b e q;unfold yh at e;split at e
  . unfold cH at e;split at e;.rename_i h;cases e;exact⟨F,_,_,s,a,b,h.1,h.2,q _ F H (.refl s) rfl⟩
    simp_all
  simp_all
end
end PM
namespace L2
open PySem PySem.Spec PyProof.Rows
section
variable{X:Cx}
section
variable{prog:Program}{w:World}{A:Around}{E:Value->Shared->Prop}{s:Shared}{a:Addr}{xs:Array (Int×Tok)}
end
end
end L2
namespace PM
open PySem L2
section
variable{K:Kx}
end
end PM
namespace L2
open PySem PySem.Spec PyProof.Rows
section
variable{prog:Program}{w:World}{A:Around}{E:Value->Shared->Prop}{s:Shared}
end
end L2
namespace L2
open PySem PySem.Spec PyProof.Rows PM
section
variable{X:Cx}{ca:Nat->Addr}{an:Nat->Str}
end
end L2
namespace PM
open PySem L2
section
variable{K:Kx}
end
section
variable{K:Kx}{XO:c5}{E:L2.St->XK}{F0 H0 F H F1 H1 F' H':Hp}
def rJ(np:Nat)(m:En->R (List (List Int)))(ds:List D):R (List (List Int)):=if ds.length=np then m (pH 0 ds) else .no
def By(K:Kx)(XO:c5)(f:List D->R (List (List Int))):Sp:=fun g H Q E=>∃F d,aC F H/\aF K F d g/\eP (fun _=>E) XO [] F H (fun e F' H'=>∀a c,kH H' a c e->(∀b∈a::c,F' b=none/\H b=none)->Q (.ref a) H') (f d)
theorem W3{E:XK}(sp:By K XO (rJ np m) vs H Q E):vs.length=np:=by
 obtain⟨F,b,s,r,a⟩:=sp;unfold rJ at a;split at a;.rwa[r.length]
 .exact a.elim
theorem W4{E:XK}(h:Bf K XO (fun _=>E) t m)(e:N.length=np)(sp:By K XO (rJ np m) vs H Q E):(ph t) {nx:=fun _ H'=>Q .non H',rt:=Q} (L2.start N vs) H:=by
 obtain⟨F,d,s,r,a⟩:=sp;unfold rJ at a;split at a;.rename_i b;refine h _ F H F H _ _ _ (FI (nv:=0) s r (by omega) b) ?_;cases q:m _ with |no=>rwa[q] at a |ok g=>rwa[q] at a |ex x=>rwa[q] at a
 .exact a.elim
def Bz(f:List D->R (List (List Int)))(ml:En->R (List D))(δ:En):R (List (List Int)):=(ml δ).bind fun a=>(f a).i7
theorem M_(h:SA K XO E g ml):Bf K XO E (uc (By K XO f) [] k g) (Bz f ml):=fun j F0 H0 F H s m Q I a=>h _ _ _ F H _ _ _ I (a.bind.imp fun o F1 H1 c i l r=>⟨_,_,c.fh,by rwa[dQ],eP.imp (fun x w v n p q u t e=>p q _ t fun b d=>⟨(e b d).1,c.hh.free (e b d).2⟩) (eP.any i)⟩)
theorem W5(t:kH H a bs c)(h:∀b∈a::bs,G b=H b):Rep K G (jt (rq c)) (.ref a):=Mn (F:=fun _=>none) (fun _ _ z=>by cases z) _ (vx.mpr t).ok h
def vD(f:Str)(me:En->R (List (List Int)))(δ:En)(ks:List Str)(l:List D):R (List Str×List D):=(me δ).i7.bind fun a=>cH (ks.length<1000) (.ok (putN ks f,fH ks l f (jt (rq a)))) .no
theorem W6:vD f me δ ks l≠.ex x:=by unfold vD cH;cases me _ with |ok d=>simp[R.ba];grind |_=>exact fun h=>by cases h
theorem W7(y:dI K.f (K.ca c)/\aE K.f (K.ca c) f)(h:Bf K XO E J me):pL K c (jL K.f (cS 0) J f) (vD f me):=by intro F1 H1 F H σ δ x dx M l Dn L I Q h0 G n C a;refine h _ _ _ F H _ _ _ I ?_;unfold vD at a;cases q:me _ with |no=>rwa[q] at a |ex xx=>rw[q] at a;exact a.elim |ok ll=>
    rw[q] at a;intro r k e p i Y m;simp only[R.ba,R.ak,cH] at a;by_cases v:(M.map (·.1)).length<1000
    . rw[aq v] at a;have Z:=e.nw x _ G n;have s:∀b∈p::i,jw r k (p::i) b=k b:=fun b g=>by unfold jw;simp_all
      have d:∀b,b∉p::i->jw _ k _ b=r b:=fun b g=>by unfold jw;rw[ao g]
      have B:aC r (jw _ _ _):=fun b o h=>by rwa[d b fun z=>by rw[(m b z).1] at h;cases h]
      have S:aC (jw _ _ (p::i)) _:=fun b o h=>by
        unfold jw at h;split at h;.exact h
        .exact e.fh b o h
      have X:x∉p::i:=fun z=>by rw[(m x z).2] at n;cases n
      have A:Ext F H _ _:=⟨e.ff.trans B,e.hh,S,fun b o g1 t=>by rw[d b fun z=>by rw[(m b z).2] at t;cases t];exact e.nw b o g1 t⟩;have j:jw r k (p::i) x=none:=by rwa[d x X]
      have N:=fun b g=>I.ext.hh.free (m b g).2;have u:∀b∈p::i,cJ F1 _ (jw _ _ _) b=k b:=fun b g=>by unfold cJ;rw[ao (fun w=>w.2 (N b g)),s b g]
      have T:Rep K _ _ _:=W5 Y u;obtain⟨U,g4⟩:=yd T (C.mono (vB A.ff));exact⟨_,Q,x,_,_,_,rfl,(e.hh _ _ n),y.1,y.2,by simpa using v,a _ _ _ ((I.grow A).nW L h0 j) j cw U g4⟩
    .rw[ao v] at a;exact a.elim
theorem M'(b:dI K.f (K.ca c)/\aE K.f (K.ca c) f)(h:Bf K XO E a me):i' K XO E c (jL K.f (cS 0) a f) (vD f me):=(W7 b h).x fun _ _ _ _=>W6
variable(K XO E) in
def GH(t:TE)(m:En->R Tr):Prop:=∀f F0 H0 F H c e Q,az K f F0 H0 F H c e->eP E XO c F H (fun T F' H'=>∀a d,Tab K F' H' a d T->(∀b∈a::d,F' b=none/\H b=none)->Q (.ref a) H') (m e)->t c H Q
end
end PM
namespace L2
open PySem PySem.Spec PyProof.Rows
section
variable{X:Cx}
theorem W8(f:s.TypeIs (.ref a) "list")(h:s.TypeIs (.ref b) "list")(g:wpAny M A (call (.builtin "list.__iadd__") [.ref a,.ref b]) Q E s):wpAny M A (inplaceOp .Add (.ref a) (.ref b)) Q E s:=by
 refine dB ?_;have e:typeLookup (.type "list") _=pure _:=F.slot_list_iadd.lookup;have d:fillsInplaceSlot (.type "list") "add" (Operator.Add==.Add)=pure false:=by show(typeLookup _ _>>=fun i=>pure _)=pure _;rw[e];(rfl)
 have c:seqSlot? (.type "list") (dunderI "add")=pure (some (.builtin "list.__iadd__")):=by unfold seqSlot?;rw[e];rfl
 refine ah (jk f (ah (wpAny_of_eq d (ah (wpAny_binaryOp1_none f h noFill_list_add ?_)))));exact ah (wpAny_of_eq c (ah (iA g)))
def Na:AD:=fun x y H Q=>∃l b c a,x=.ref l/\y=.ref b/\H l=some (.lst c)/\H b=some (.lst a)/\c.length+a.length<=sizeLine/\Q (.ref l) (upd H l (.lst (c++a)))
theorem W9:AE X .Add Na:=by
 rintro j s A H x y v u Q I m g ⟨l,b,w,p,rfl,rfl,i,k,B,q⟩;cases m;cases g;obtain⟨z,d,n,r,t,e⟩:=I.qU i;obtain⟨C,a,D,g,o,h⟩:=I.qU k;have f:d.toArray.size+a.toArray.size<=sizeLine:=by rw[d9,d9];omega
 have c:¬(!d.toArray.isEmpty&&Builtin.List.listTooLong (d.toArray.size+a.toArray.size))=true:=by rw[KN f];simp_all
 refine W8 ⟨_,e,rfl⟩ ⟨_,h,rfl⟩ (call_meets F.slot_list_iadd ⟨_,e,rfl⟩ F.entry_list_iadd (F.args_list_iadd_2 _ _) (AutoSeq1.list___iadd___list_list_0 l _ n b _ _ c (by omega) (by omega)) ⟨e,h,(⟨.ref l,_,I.uV i e (by simp) (r.append g) ?_,rfl,q⟩)⟩);simp_all
end
end L2
namespace PM
open PySem L2
section
variable{K:Kx}{XO:c5}{E:L2.St->XK}{F0 H0 F H F1 H1 F' H':Hp}
def BA(i:Nat)(me:En->R D)(δ:En):O:=match δ[i]? with
 |some (.o (.lst l))=>(me δ).fu δ fun d=>match d with |.lst r=>if l.length+r.length<=sizeLine then .nx (δ.set i (.o (.lst (l++r)))) else .no |_=>.no
 |_=>.no
theorem W_(h:iK K XO E t me):SS K XO E (xv i t Na) (BA i me):=by
  intro B F0 H0 F H k A w I a;unfold BA at a;split at a
  . rename_i l q;obtain⟨p,f,G,v,g⟩:=I.own q;refine⟨_,f,h _ _ _ F H _ _ _ I ((cI.of I a).imp fun d F1 H1 e c b C x u=>?_)⟩
    cases d with |lst r=>
      dsimp at c;split at c
      . obtain⟨y,n,m⟩:=u;refine⟨p,b,_,_,rfl,rfl,e.hh _ _ v,n,by rwa[g.length,m.length],?_⟩;have s:k.set i (some (.ref p))=k:=by
          refine kd fun j=>?_;by_cases z:i=j;.subst z;rw[bu (b'.mp f).1,f]
          simp_all
        show w.nx _ _;rw[s];exact c _ _ _ ((I.grow e).chg q f ⟨_,cw,(g.mono e.ff).append m⟩)
      .exact c.elim |_=>exact c.elim
  .exact a.elim
end
section
variable{K:Kx}{XO:c5}{E:L2.St->XK}{Λ:List (Nat×Addr×HO)}{F0 H0 F H:Hp}{σ:L2.St}{δ:En}
end
end PM
namespace L2
open PySem PySem.Spec PyProof.Rows
section
variable{prog:Program}{w:World}{A:Around}{E:Value->Shared->Prop}{s:Shared}
end
section
variable{X:Cx}
end
end L2
namespace PM
open PySem L2
section
variable{K:Kx}{XO:c5}{E:L2.St->XK}
end
end PM
namespace L2
open PySem PySem.Spec PyProof.Rows
section
variable{X:Cx}{x:Str}{C:Addr}{p pos:Pos}
end
end L2
namespace PM
open PySem L2
section
variable{K:Kx}{XO:c5}{E:L2.St->XK}{F0 H0 F H F1 H1 F' H':Hp}
variable(K XO E) in
def Nb(t:TE)(m:En->R Tr):Prop:=∀e F0 H0 F H a d Q,az K e F0 H0 F H a d->eP E XO a F H (fun T F' H'=>∀v c,cL K F' H' T v c->c.Nodup->(∀b∈c,F' b=none/\H b=none)->Q v H') (m d)->t a H Q
def Nc(ma a:En->R D)(δ:En):R Tr:=(ma δ).bind fun x=>(a δ).bind fun y=>match y with|.lst l=>.ok (.t [.d x,.l (l.map .d)])|_=>.no
theorem Xa(r:SE K XO E q ma)(o:iK K XO E k t):Nb K XO E (sP (fR q (fR k cV))) (Nc ma t):=by
 intro A F0 H0 F H J B Q I a;refine r _ _ _ F H _ _ _ I (a.bind.imp fun x F1 H1 g j v w=>(o _ _ _ _ _ _ _ _ (I.grow g) (j.bind.imp fun y M L h i b C p s=>⟨by simp[sizeLine],fun c e=>?_⟩)))
 cases y with |lst l=>
  obtain⟨G,u,z⟩:=s;have d:Ext _ _ (upd _ c (.tup [v,.ref b])) _:=.new h.fh e;have f:=dC u e;refine i _ _ d _ [b] ?_ (by simp) fun y n=>?_;.exact⟨c,_,rfl,cw,v,_,_,_,rfl,rfl,⟨rfl,Rep.mono (h.ff.trans d.ff) x w⟩,_,_,_,_,rfl,rfl,⟨b,_,_,rfl,rfl,by rwa[bj f],fT.mpr ⟨z.mono d.ff,rfl⟩⟩,rfl,rfl⟩
  .rw[bP.mp n];exact⟨by rwa[bj f],g.hh.free p⟩ |_=>exact i.elim
def BB(b:D->En->Option En)(me:En->R Tr)(δ:En)(d:D):R Tr:=match b d δ with |none=>.no |some a=>(me a).i7
def tF(f:D->R Tr):List D->R (List Tr) |[]=>.ok [] |d::l=>(f d).bind fun o=>(tF f l).bind fun r=>.ok (o::r)
def GI(mi:En->R (List D))(c:List Nat)(n:Nat)(b:D->En->Option En)(me:En->R Tr)(δ:En):R Tr:= (mi δ).bind fun a=>cH (a.length<=sizeLine) ((tF (BB b me (c9 δ c n)) a).i7.bind fun l=>.ok (.l l)) .no
theorem Xb(h:tF f (d::l)=.ok r):∃o a,f d=.ok o/\tF f l=.ok a/\r=o::a:=by unfold tF at h;cases q:f d with |no=>simp_all |ex x=>simp_all |ok o=> rw[q] at h;cases b:tF f l with |no=>simp_all |ex x=>simp_all |ok a=>rw[b] at h;cases h;simp
mutual
theorem Xd : ∀ (T : Tr) {v : V} {fp : List Addr}, cL K F H T v fp -> ∀ b ∈ fp, ∃ o, H b = some o
 | .d x, v, fp, h, b, e => by
  rw [h.1] at e; cases e
 | .l _, v, fp, h, b, e => by
  obtain ⟨a, i, m, _, rfl, k, f⟩ := h
  rcases aY.mp e with rfl | e
  . simp_all
  . exact BC _ f b e
 | .t _, v, fp, h, b, e => let ⟨a, _, _, _, f⟩ := h;BC _ f b e
theorem BC : ∀ (j : List Tr) {i : List V} {fp : List Addr}, aK K F H j i fp -> ∀ b ∈ fp, ∃ o, H b = some o
 | [], i, fp, h, b, e => by
  simp only [aK] at h
  rw [h.2] at e; cases e
 | t :: j, i, fp, h, b, e => by
  simp only [aK] at h
  obtain ⟨v, r, n, p, _, rfl, k, f⟩ := h
  rcases bO.mp e with e | e
  . exact Xd t k b e
  . exact BC j f b e
end
theorem Xe(hi:xO K XO E wi mi)(A7:L.Nodup)(hg:SG K g b)(hw:BW b)(he:Nb K XO EN te me):GH K XO E (y7 wi L n g none te) (GI mi L n b me):=by
  intro Λ F0 H0 F H σ M Q I a;refine hi Λ F0 H0 F H σ M _ I (a.bind.imp fun j F1 H1 e1 U J hJ p Z=>?_);unfold cH at U;split at U;case isFalse=>exact U.elim
  have I1:=I.grow e1;obtain⟨f,Ic,pC,rh⟩:=FG (n:=n) I1 A7;cases s:(tF (BB b me (c9 M L n)) j).i7 with |no=>rw[s] at U;exact U.elim |ex x=>cases q2:tF (BB b me (c9 M L n)) j<;>(rw[q2] at s;cases s) |ok l=>
  rw[s] at U;have qg:=ba s;have X:∀x∈f,∃d,(c9 M L n)[x.1]?=some (.l d):=fun x hx=>(Ic.gu x hx).1;have A8:∀x∈f,x.2.1≠p:=fun x hx e=>by grind
  have p0:H0 p=none:=I1.ext.hh.free Z;have f1:F1 p=none:=e1.fh.free Z;refine⟨fun i k ys T m=>∃N B l2 G,az K f F0 H0 N m T (c9 M L n)/\Ext F1 H1 N m/\m p=some (.lst ys)/\aK K N m B ys G/\(p::G).Nodup/\(∀c∈p::G,N c=none/\H1 c=none)/\tF (BB b me (c9 M L n)) (j.drop i)=.ok l2/\l=B++l2/\k=j.length-i/\i<=j.length/\ys.length<=i, ⟨_,F1,[],l,[],?_,.fD e1.fh Z,cw,by simp[aK],by simp,fun c A=>?_,qg,rfl,rfl,bU _,aG _⟩,?_⟩;.exact Ic.grow (.fD e1.fh Z)
  .rw[bP.mp A];exact⟨f1,Z⟩
  rintro i k ys T m ⟨N,B,l2,G,I2,x2,h,tb,nd,t,qd,rfl,rfl,LI,A9⟩;refine⟨h,?_⟩;by_cases vf:i<j.length;.have e:j.drop i=j[i]::j.drop (i+1):=qc vf;rw[e] at qd;obtain⟨Y,l3,q1,q3,rfl⟩:=Xb qd;obtain⟨h1,h2⟩:=(hJ N m x2 i).1 j[i] (by simp);refine .inr ⟨h1,fun C wG H'=>∃F' u,az K f F0 H0 F' H' wG (c9 M L n)/\Ext F1 H1 F' H'/\H' p=some (.lst C)/\aK K F' H' (B++[Y]) C u/\(p::u).Nodup/\(∀c∈p::u,F' c=none/\H1 c=none)/\C.length<=i+1, fun C wG H' ⟨F',u,w1,w2,w3,w4,w5,w6,w7⟩=>⟨_,by omega,F',B++[Y],l3,u,w1,w2,w3,w4,w5,w6,q3,by simp,rfl,vf,w7⟩,fun x H' y=>?_⟩;obtain⟨F3,e3,rx⟩:=h2 x H' y;unfold BB at q1;cases qb:b j[i] (c9 M L n) with |none=>simp_all |some Dl=>
      rw[qb] at q1;refine hg f F0 H0 F3 H' T _ _ x Dl _ (I2.grow e3) rx qb fun wu I3=>?_;have qm:=ba q1;refine he f F0 H0 F3 H' wu Dl _ I3 ?_;rw[qm];intro F5 H5 e5 v fp tv Xf fv;have z:=e3.trans e5;have z2:F5 p=none:=z.nw p _ (t p (by simp)).1 h;have Nd:∀c∈fp,m c=none:=fun c A=>e3.hh.free (fv c A).2;have sL:∀q∈p::G,q∉fp:=fun q S w=>by
        have:∃o,m q=some o:=by
          rcases aY.mp S with rfl|S;.exact⟨_,h⟩
          .exact BC B tb q S
        obtain⟨o,ho⟩:=this;rw[Nd q w] at ho;cases ho
      have pf:p∉G:=(gp.mp nd).1;refine⟨z.hh _ _ h,?_,F5,G++fp,((I3.grow e5).nO (hw _ _ _ qb) X).side pC A8 p0 z2,?_,cw,aK.append (aK.at' B (aK.mono z.ff z.hh B tb) fun c A=>bj fun w=>pf (w▸A)) ?_,?_,fun q S=>?_,by simpa using A9⟩;.omega
      .have w:=x2.trans z;exact⟨w.ff,fun c o q=>by rw[bj (dC q Z)];exact w.hh c o q,fun c o q=>by rw[bj (dC q z2)];exact w.fh c o q,w.nw⟩
      .exact⟨v,[],fp,[],rfl,by rw[dQ],cL.at' Y tv fun c A=>bj fun w=>sL p (by simp) (w▸A),rfl,rfl⟩
      .rw[<-gx,fQ];exact⟨nd,Xf,fun q S r hr ee=>sL q S (ee▸hr)⟩
      . rw[<-gx] at S;rcases bO.mp S with w|w
        . have:∃o,m q=some o:=by
            rcases aY.mp w with rfl|w;.exact⟨_,h⟩
            .exact BC B tb q w
          obtain⟨o,ho⟩:=this;exact⟨z.nw q o (t q w).1 ho,(t q w).2⟩
        .exact⟨(fv q w).1,x2.hh.free (Nd q w)⟩
  . have e:i=j.length:=by omega
    subst e;rw[qf] at qd;cases qd;refine .inl ⟨(hJ N m x2 _).2 (by simp),U N m x2 p G ⟨?_,nd⟩ fun c A=>⟨(t c A).1,e1.hh.free (t c A).2⟩⟩;rw[dQ];exact⟨p,ys,G,rfl,rfl,h,tb⟩
mutual
def wU : Tr -> Bool
 | .d x => mL x
 | .l b => vE b
 | .t b => vE b
def vE : List Tr -> Bool
 | [] => true
 | t :: b => wU t && vE b
end
mutual
theorem Nf {G : Hp} (x : Ext (hR F1 H1) H1 F H) (g : aC (cJ F1 H1 F) G) : ∀ (T : Tr) {v : V} {fp : List Addr}, wU T = true -> cL K F H T v fp -> (∀ b ∈ fp, G b = H b) -> Rep K G (jt T) v
 | .d d, v, fp, c, h, _ => Rep.mono g d (A' x d c h.2)
 | .l _, v, fp, c, h, e => by
  obtain ⟨a, j, q, rfl, rfl, o, m⟩ := h
  exact ⟨a, _, rfl, by simp_all, GJ x g _ c m fun b n => e b (by simp [n])⟩
 | .t _, v, fp, c, h, e => by
  obtain ⟨a, j, rfl, o, m⟩ := h
  exact ⟨a, _, rfl, g _ _ (FQ x o (fun _ z => by cases z) (fun _ z => by cases z) (fun _ _ z => by cases z) (fun _ _ _ z => by cases z)), GJ x g _ c m e⟩
theorem GJ {G : Hp} (x : Ext (hR F1 H1) H1 F H) (g : aC (cJ F1 H1 F) G) : ∀ (k : List Tr) {j : List V} {fp : List Addr}, vE k = true -> aK K F H k j fp -> (∀ b ∈ fp, G b = H b) -> aF K G (fe k) j
 | [], j, fp, c, h, _ => by
  simp only [aK] at h
  simp only [fe, aF]; exact h.1
 | t :: k, j, fp, c, h, e => by
  simp only [aK] at h
  simp only [vE, ka] at c
  obtain ⟨v, r, p, s, rfl, rfl, o, m⟩ := h
  simp only [fe]
  exact .cons (Nf x g t c.1 o fun b n => e b (jE _ n)) (GJ x g k c.2 m fun b n => e b (dz _ n))
end
def yi(f:Str)(me:En->R Tr)(δ:En)(ks:List Str)(l:List D):R (List Str×List D):=(me δ).i7.bind fun T=>cH (ks.length<1000/\wU T=true) (.ok (putN ks f,fH ks l f (jt T))) .no
theorem Xg:yi f me δ ks l≠.ex x:=by unfold yi cH;cases me _ with |ok d=>simp[R.ba];grind |_=>exact fun h=>by cases h
theorem Xh(B:dI K.f (K.ca c)/\aE K.f (K.ca c) f)(h:GH K XO E Z me):pL K c (jL K.f (cS 0) Z f) (yi f me):=by intro F1 H1 F H σ δ x dx L l Dn M I N h0 C m X a;refine h _ _ _ F H _ _ _ I ?_;unfold yi at a;cases q:me _ with |no=>rwa[q] at a |ex xx=>rw[q] at a;exact a.elim |ok T=>
    rw[q] at a;intro s k e p i J r;simp only[R.ba,R.ak,cH] at a;by_cases n:(L.map (·.1)).length<1000/\wU T=true
    . rw[aq n] at a;have G:=e.hh _ _ m;have U:=e.nw x _ C m;have v:∀b∈p::i,jw s k (p::i) b=k b:=fun b g=>by unfold jw;grind
      have d:∀b,b∉p::i->jw _ k _ b=s b:=fun b g=>by unfold jw;rw[ao g]
      have y:aC s (jw _ _ _):=fun b o h=>by rwa[d b fun z=>by rw[(r b z).1] at h;cases h]
      have S:aC (jw _ _ (p::i)) _:=fun b o h=>by
        unfold jw at h;split at h;.exact h
        .exact e.fh b o h
      have Y:x∉p::i:=fun z=>by rw[(r x z).2] at m;cases m
      have A:Ext F H _ _:=⟨e.ff.trans y,e.hh,S,fun b o g1 t=>by rw[d b fun z=>by rw[(r b z).2] at t;cases t];exact e.nw b o g1 t⟩;have j:jw s k (p::i) x=none:=by rwa[d x Y]
      have Q:=I.grow A;have u:∀b∈p::i,cJ F1 _ (jw _ _ _) b=k b:=fun b g=>by unfold cJ;rw[ao (fun w=>w.2 ((fun b g=>I.ext.hh.free (r b g).2) b g)),v b g]
      obtain⟨g3,g4⟩:=yd (Nf (I.grow e).ext (vB y) T n.2 J.ok u) (X.mono (vB A.ff));exact⟨_,N,x,_,_,_,rfl,G,B.1,B.2,by simpa using n.1,a _ _ _ (Q.nW M h0 j) j cw g3 g4⟩
    .rw[ao n] at a;exact a.elim
theorem Xi(b:dI K.f (K.ca c)/\aE K.f (K.ca c) f)(h:GH K XO E a me):i' K XO E c (jL K.f (cS 0) a f) (yi f me):=(Xh b h).x fun _ _ _ _=>Xg
def GK:D->Bool |.lst _=>true |_=>false
def yj(f g:Str)(m:List D->R D)(a:En)(ks:List Str)(l:List D):R (List Str×List D):=match kK ks l g with |some d=>(m [d]).i7.bind fun r=>cH (ks.length<1000/\GK r=true) (.ok (putN ks f,fH ks l f r)) .no |none=>.no
def vF(F G:Hp):Hp:=fun b=>match F b with|some o=>some o|none=>G b
theorem Xj(Q:dI K.f (K.ca c)/\aE K.f (K.ca c) f)(X:dI K.f (K.ca c)/\aE K.f (K.ca c) g):pL K c (jL K.f (cS 0) (uc (vg K XO m) [] E' (fR (uP K.f (cS 0) g) cV)) f) (yj f g m):=by intro F1 H1 F H σ δ x U J l Dn hv I N h0 hF C M a;unfold yj at a;cases S:kK (J.map (·.1)) l g with |none=>simp_all |some d=> rw[S] at a;dsimp at a;obtain⟨v,lk,rv⟩:=Gu rfl M S;have sm:aC (cJ F1 H1 F) H:=qH.trans I.ext.fh;refine⟨_,N,x,_,U,J,v,rfl,C,X.1,X.2,lk,cJ F1 H1 F,[d],sm,by exact .cons rv .nil,?_⟩;cases q:m [d] with |no=>rwa[q] at a |ex xx=>rw[q] at a;exact a.elim |ok r=>
      rw[q] at a;simp only[R.ba,R.ak,cH] at a;intro i Y e p n B o;by_cases z:(J.map (·.1)).length<1000/\GK r=true;.rw[aq z] at a;cases r with |lst r=>
          obtain⟨j,g1,g2⟩:=o;have A:=GA e n B g1;have mN:∀b,F b=none->cJ F1 H1 F b=none:=fun b h=>by
            unfold cJ;split;.rfl
            omega
          have G:aC F (vF F (upd i p (.lst j))):=fun b u h=>by unfold vF;rw[h]
          have T:Ext F H (vF F (upd i p (.lst j))) Y:=by
            refine⟨G,e.hh,fun b u h=>?_,fun b u h hh=>?_⟩
            . unfold vF at h;split at h;.rename_i o' hz;cases h;exact e.hh _ _ (I.ext.fh _ _ hz)
              .exact A.fh b u h
            .unfold vF;rw[h];exact A.nw b u (mN b h) hh
          have s2:aC (upd i p (.lst j)) (cJ F1 H1 (vF F (upd i p (.lst j)))):=fun b u h=>by cases w:cJ F1 H1 F b with |some L=> have:=A.ff b L w;rw[h] at this;cases this;exact vB G b _ w |none=>
              have t:H b=none:=by cases y:H b with |none=>rfl |some L=> have:=A.nw b L w y;simp_all
              have Z:H1 b=none:=I.ext.hh.free t;have fb:F b=none:=I.ext.fh.free t;unfold cJ;unfold vF;simp_all
          have s:vF F (upd i p (.lst j)) x=none:=T.nw x _ hF C;have rp:Rep K (cJ F1 H1 (vF F (upd i p (.lst j)))) (.lst r) (.ref p):=by refine Rep.mono s2 _ ?_;exact⟨p,_,rfl,cw,g2.mono fun b u h=>by rw[bj (dC h n)];exact h⟩
          obtain⟨g3,g4⟩:=yd rp (M.mono (vB G));exact⟨_,N,x,_,U,_,rfl,(e.hh _ _ C),Q.1,Q.2,by simpa using z.1,a _ _ _ ((I.grow T).nW hv h0 s) s cw g3 g4⟩ |_=>cases z.2
      grind
theorem Xk:yj f g m δ ks l≠.ex x:=by unfold yj cH;cases kK _ l g with |none=>simp |some d=> dsimp;cases m _ with |ok d=>simp[R.ba];grind |_=>exact fun h=>by cases h
theorem Xl(b:dI K.f (K.ca c)/\aE K.f (K.ca c) f)(a:dI K.f (K.ca c)/\aE K.f (K.ca c) g):i' K XO E c (jL K.f (cS 0) (uc (vg K XO m) [] d (fR (uP K.f (cS 0) g) cV)) f) (yj f g m):=(Xj b a).x fun _ _ _ _=>Xk
def Ng:List D->Option D |[.dJ a l]=>some (.dJ a l) |_=>none
def Dp(ml:En->R (List D))(δ:En):R D:=(ml δ).bind fun l=>R.of (Ng l)
theorem Xm(h:SA K XO E g ml):iK K XO E (rR MK g) (Dp ml):=by
 intro m F0 H0 F H o n Q I a;refine h _ _ _ F H _ _ _ I (a.bind.imp fun s F1 H1 b c q r=>?_);unfold Ng at c;split at c;.obtain⟨v,rfl,e⟩:=aF.one r;obtain⟨p,k,rfl,i,j,f⟩:=e;exact⟨p,_,rfl,.inl (b.fh _ _ i),fun l d=>c _ _ (.fD b.fh d) l (b.fh.free d) (b.hh.free d) ⟨_,cw,j,f⟩⟩
 .exact c.elim
end
section
variable{K:Kx}{XO:c5}{E:L2.St->XK}{Λ:List (Nat×Addr×HO)}{F0 H0 F H:Hp}{σ:L2.St}{δ:En}
def BD(p:D×List D):Tr:=.t [.d p.1,.l (p.2.map .d)]
end
section
variable{K:Kx}{XO:c5}{E:L2.St->XK}{F0 H0 F H F1 H1 F' H':Hp}{α:Type}{An:α->V->Hp->Hp->Hp->Prop}
end
end PM
namespace HT
open PySem PyProof.Rows
section
open PySem.SeqAt
open PySem.AutoSeq1 (wpAny_loadPart')
open PySem.MeetsSeq PySem.MeetsSeq2 PySem.MeetsSeq3
variable{prog:Program}{w:World}{A:Around}{E:Value->Shared->Prop}{s:Shared}
theorem iH{lo hi:Option Int}(a:IsTup s.heap t items)(f:s.heap.IsSliceOf g l i .none)(pl:IsPart l lo)(k:IsPart i hi) (m:dV items.size 0 lo=0/\dV items.size items.size hi=items.size)(h:Q (.ref t) s):wpAny (model prog w) A (getItem (.ref t) (.ref g)) Q E s:=by
 obtain⟨os,c,e,j⟩:=id f;have d:s.TypeIs (.ref _) _:=⟨_,c,e⟩;unfold getItem;try with_reducible refine dB ?_
 refine ah (wpAny_sequenceKey a.typeIs rfl (ah (iw a.typeIs jf (iy jf a.typeIs entry_tuple_getitem ?_ (args_tuple_getitem _ _)))));show wpAny _ _ (Builtin.Tuple.tupleItemsOf _>>=_) _ _ s;refine ah (tupleItemsOf_ a (ah (jk d (ah (Kz f pl k ?_)))));have b:((dV items.size 0 lo:Int)==0&&(1:Int)==1&&(dV items.size items.size hi-dV items.size 0 lo)==items.size)=true:=by simp_all
 show wpAny _ _ (if((dV _ 0 _:Int)==0&&1==1&&(dV _ _ _-dV _ 0 _)==items.size)=true then _ else _) _ _ s;rw[aq b];refine ah (ah (jk a.typeIs (ax ?_)));first |exact ah (iA (ax ⟨_,rfl,ax h⟩)) |rfl
end
end HT
namespace L2
open PySem PySem.Spec PyProof.Rows
section
variable{X:Cx}
def BE(K:PySem.W.Frag):V->Option Int->Option Int->Hp->VK->Prop:=fun x lo c H Q=>∃a b,x=.ref a/\jU K H a b/\ ((HT.dV b.length 0 lo=0/\HT.dV b.length b.length c=b.length)->Q x H)/\(¬(HT.dV b.length 0 lo=0/\HT.dV b.length b.length c=b.length)->∀p,H p=none->Q (.ref p) (upd H p (.tup (mG b lo c))))
theorem Dq:Ct X (BE X.K):=by
 rintro j s w H x v q u lo o t Q I i e g d ⟨a,b,rfl,h,m,n⟩;by_cases c:HT.dV b.length 0 lo=0/\HT.dV b.length b.length o=b.length;.cases i;obtain⟨l,r,f,p⟩:=I.tuple h;have k:=r.length.symm;exact⟨_,_,jf.lookup,f.typeIs,HT.iH f e g d (by simp_all) ⟨.ref a,H,I,rfl,m c⟩⟩
 .exact S0 _ s _ H _ v _ _ _ _ _ Q I i e g d ⟨a,_,rfl,h,c,n c⟩
end
section
variable{P:Program}{w:World}{K:PySem.W.Frag}{mg:Str->Option Value}{base:Heap}{d:V}
theorem rA.CI{st:Stmt}(F:rA K x b st f fd d)(S:b_ N ps (cM st))(h:∀vs H Q E,sp vs H Q E->vs.length=ps.length) (c:∀(e:Value)(A:Around)(a:List Env)(s:Shared)(H:Hp)(vs:List V)(Q:VK)(E:XK),cu k (A.deeper (envOfC b (cM st) s.heap.objs.size f e))->sp vs H Q E-> ∃t,mz (kF P w K mg base N b (cM st) f e A a s H E) (kS st) t/\t {nx:=fun _ H'=>Q .non H',rt:=Q} (start N vs) H):cz P w K mg base (qW P w) (k+1) f fd ps sp:=by obtain⟨u,p,T,kV,l,o,r,e,q,m,rfl,j,i,_⟩:=F.ex;exact Cs j i S h fun A a s H vs Q E n g=>c _ A _ s H _ Q E n g
end
section
variable{X:Cx}{CX:jo}{k:Nat}{x:Str}{ps:List Str}{sp:Sp}{p pos:Pos}{a:Expr}{ta:TE}{d:V}
theorem Xn(G:yc X.prog X.w X.K X.mg X.base CX k x ps sp d)(j:cu k X.A)(l:Gl X x)(m:nI CX X E)(n:PE X a ta) (b:(x==("__debug__":Str))=false:=by decide)(h1:starEach [a] X.env=(false,eval a X.env)::starEach [] X.env:=by rfl)(c:(backTo pos (starEach [] X.env)).any (·.1)=false:=by rfl): PE X (.Call (.Name x p) [a] [] pos) (uc sp [] E (fR ta (fR (tC d) cV))):=by obtain⟨f,q,F,o,h,_,u,i,e⟩:=G.ex;have:=Ko (p:=p) F j l o h e (.cons i .nil) m (cy n dY h1) b h1 c;exact this
end
end L2
namespace PM
open PySem L2
section
variable{K:Kx}{XO:c5}{E:L2.St->XK}{F0 H0 F H F1 H1 F' H':Hp}
def yk(i:Nat)(me:En->R D)(δ:En):O:=match δ[i]? with |some (.o (.lst l))=>(me δ).fu δ fun d=>(match d with|.lst r=>cH (l.length+r.length<=sizeLine) (.nx (δ.set i (.o (.lst (l++r))))) .no|_=>.no) |_=>.no
theorem Nh(h:iK K XO E s me):SS K XO E (uM (xI K.f "list" KO (cS i) (fR s cV))) (yk i me):=by
  intro z F0 H0 F H w t y I a;unfold yk at a;split at a
  . rename_i l q;obtain⟨p,j,A,k,f⟩:=I.own q;refine⟨_,j,.inl ⟨rfl,_,.inl (.inl k)⟩,(h _ _ _ F H _ _ _ I ((cI.of I a).imp fun d F1 H1 e c b v u m=>?_))⟩
    cases d with |lst r=>
      obtain⟨x,o,g⟩:=m;dsimp at c;unfold cH at c;split at c;.exact⟨p,b,_,_,rfl,rfl,e.hh _ _ k,o,by rwa[f.length,g.length],c _ _ _ ((I.grow e).chg q j ⟨_,cw,(f.mono e.ff).append g⟩)⟩
      .exact c.elim |_=>exact c.elim
  .exact a.elim
noncomputable def encC(c:List Int):D:=.tup (c.map .int)
def pS(c:List Int):List (List Int):=(List.range (c.length+1)).map (c.take .)
def kc(c:List Int):List Key:=c.map Sum.inl
end
end PM
namespace L2
open PySem PySem.Spec PyProof.Rows
open Builtin Builtin.Str
section
variable{X:Cx}{tg:Expr}{pos:Pos}
end
end L2
namespace L2
open PySem PySem.Spec PyProof.Rows
section
variable{X:Cx}{a b:Expr}{ta tb:TE}{pos p1 p2 p3:Pos}
end
end L2
namespace PM
open PySem L2
section
variable{K:Kx}{XO:c5}{E:L2.St->XK}{ta tb te:TE}{ma mb me:En->R D}
end
end PM
namespace L2
open PySem PySem.Spec PyProof.Rows
section
variable{X:Cx}{x:Str}{pos:Pos}
end
end L2
namespace PM
open PySem L2
section
variable{K:Kx}
end
end PM
namespace L2
open PySem PySem.Spec PyProof.Rows
section
variable{prog:Program}{w:World}{A:Around}{E:Value->Shared->Prop}{s:Shared}
end
section
variable{X:Cx}
end
end L2
namespace PM
open PySem L2
section
variable{K:Kx}{XO:c5}{E:L2.St->XK}
end
end PM
namespace L2
open PySem PySem.Spec PyProof.Rows
section
variable{X:Cx}
end
end L2
namespace PM
open PySem L2
section
variable{K:Kx}{XO:c5}{E:L2.St->XK}{Λ:List (Nat×Addr×HO)}{F0 H0 F H F1 H1 F' H':Hp}{σ:L2.St}{δ:En}
end
end PM
namespace L2
open PySem PySem.Spec PyProof.Rows
section
variable{X:Cx}
end
end L2
namespace PM
open PySem L2
section
variable{K:Kx}{XO:c5}{E:L2.St->XK}{te:TE}{me:En->R D}
end
end PM
namespace L2
open PySem PySem.Spec PyProof.Rows
section
variable{X:Cx}{CX:jo}{k n:Nat}{x:Str}{ps:List Str}{sp:Sp}{E:XK}{p pos:Pos}{e:Expr}{es:List Expr}{t:TA}
theorem bQ(G:uW X.prog X.w X.K X.mg X.base CX k x ps sp)(f:cu n X.A)(d:nI CX X E)(i:PA X (e::es) t)(c:k<=n:=by decide)(h:Gl X x:=by rfl)(a:(x==("__debug__":Str))=false:=by decide) (g:starEach (e::es) X.env=(false,eval e X.env)::starEach es X.env:=by rfl)(b:(backTo pos (starEach es X.env)).any (·.1)=false:=by rfl):PE X (.Call (.Name x p) (e::es) [] pos) (uc sp [] E t):=Lj G (f.mono c) h d i a g b
theorem zB{E:St->XK}(G:uW X.prog X.w X.K X.mg X.base CX k x ps sp)(f:cu n X.A)(d:Fg CX X E)(i:PA X (e::es) t)(c:k<=n:=by decide)(h:Gl X x:=by rfl)(a:(x==("__debug__":Str))=false:=by decide) (g:starEach (e::es) X.env=(false,eval e X.env)::starEach es X.env:=by rfl)(b:(backTo pos (starEach es X.env)).any (·.1)=false:=by rfl):PE X (.Call (.Name x p) (e::es) [] pos) (Fh sp E t):=TX G (f.mono c) h d i a g b
theorem jS{N P:List Str}(h1:a.kind=.function:=by rfl)(h2:a.isCoroutine=false:=by rfl)(h3:a.isGenerator=false:=by rfl)(d:N.Nodup:=by decide+kernel)(b:N.take P.length=P:=by rfl) (c:∀x∈P,a.names.lookup x=some .local\/a.names.lookup x=some .cell:=by decide+kernel)(f:∀y∈a.names,y.2≠.free:=by decide+kernel):b_ N P a:=⟨h1,h2,h3,d,b,c,f⟩
end
section
variable{X:Cx}{xe:Value->Shared->Prop}{pins:List (Addr×Obj)}{σ:St}{H:Hp}{s:Shared}
end
section
variable{M:Model}{A:Around}{E:Value->Shared->Prop}{s:Shared}{B:Heap}{env Xo:Env}{outer l:List Env}{L e:Addr}{cls:Value}{dJ:Option Addr}{fl:Value}{Q:Unit->Shared->Prop}
end
section
variable{X:Cx}{E:XK}{C:Addr}{e:Value}{s':Shared}
end
section
variable{prog:Program}{w:World}{A:Around}{R:Result->Shared->Prop}{s:Shared}
end
section
variable{X:Cx}{scope:Scope}{N':List Str}{ix:List Nat}{n:Nat}{tg elt iter:Expr}{g:TG}{te:TE}{pos:Pos}{E0:XK}
end
section
variable{P:Program}{w:World}{K:PySem.W.Frag}{mg:Str->Option Value}{base:Heap}{N:List Str}{qual:Str}{scope:Scope}{f:Addr}{cd:Value}{A:Around}{outer:List Env}{s0:Shared}{H0:Hp}{E:XK}
end
end L2
namespace PM
open PySem L2
section
variable{K:Kx}{XO:c5}{E0:XK}{te:TE}{me:En->R D}
end
section
variable{K:Kx}{XO:c5}{E:L2.St->XK}
def h6(me:En->R D)(ml mh:En->R (Option Int))(δ:En):R D:=(me δ).bind fun d=>(ml δ).bind fun b=>(mh δ).bind fun a=>(R.of (CL d)).bind fun l=>.ok (.tup (cutD l b a))
theorem Dr {te : TE} {me : En → R D} {tl th : TO} {ml mh : En → R (Option Int)} (h : lK K XO E te me) (hl : SO K XO E tl ml) (hh : SO K XO E th mh) : SE K XO E (EF (BE K.f) te tl th) (h6 me ml mh) := by
  intro Λ F0 H0 F H σ δ Q I a
  refine h _ _ _ F H _ _ _ I (a.bind.imp fun d F1 H1 e1 a1 v r => ?_)
  refine hl _ _ _ _ _ _ _ _ (I.grow e1) (a1.bind.imp fun lo F2 H2 e2 a2 => (hh _ _ _ _ _ _ _ _ ((I.grow e1).grow e2) (a2.bind.imp fun hi F3 H3 e3 a3 => ?_)))
  cases d with
  | tup l =>
    obtain ⟨p, vs, rfl, h1, h2⟩ := r
    have ln := h2.length
    refine ⟨p, _, rfl, .inl (.inl (e3.hh _ _ (e2.hh _ _ (e1.fh _ _ h1)))), fun hw => ?_, fun hn q hq => ?_⟩
    · have e : cutD l lo hi = l := by
        unfold cutD
        simp_all
      refine a3 _ _ (.refl e3.fh) _ ?_
      rw [e]
      exact ⟨p, _, rfl, e3.ff _ _ (e2.ff _ _ h1), h2.mono (e2.ff.trans e3.ff)⟩
    · refine a3 _ _ (.new e3.fh hq) _ (⟨q, _, rfl, cw, ?_⟩)
      have h3 := (h2.mono (e2.ff.trans e3.ff)).mono (show aC _ (upd _ q (.tup (mG vs lo hi))) from aC.upd (e3.fh.free hq))
      generalize upd _ q _ = G at h3 ⊢
      unfold mG cutD
      rw [ln]
      exact (h3.drop _).take _
  | _ => exact a3.elim
def BF(i:Nat)(δ:En):O:=match δ[i]? with |some (.o (.lst l))=>(match l[l.length-1]? with|some _=>.nx (δ.set i (.o (.lst l.dropLast)))|none=>.no) |_=>.no
theorem Xp:SS K XO E (uM (xH K.f "list" xJ (cS i))) (BF i):=by
 intro m n h F H s g k I a;unfold BF at a;split at a;.rename_i l q;obtain⟨p,c,r,f,b⟩:=I.own q;cases e:l[l.length-1]? with |none=>simp[e] at a;exact a.elim |some d=> simp[e] at a;obtain⟨v,j,o⟩:=b.get e;exact⟨_,c,.inl ⟨rfl,_,.inl (.inl f)⟩,p,_,v,rfl,rfl,f,by rwa[b.length],a _ F _ (I.chg q c ⟨_,cw,b.dropLast⟩)⟩
 .exact a.elim
end
end PM
namespace L2
open PySem PySem.Spec PyProof.Rows
section
variable{X:Cx}{x:Str}{e a b o:Expr}{te ta tb to:TE}{p pos pos' apos:Pos}{tg elt:Expr}
theorem pS(i:Nat)(c:X.N.Nodup)(f:PE X e te)(hi:X.N[i]?=some x:=by rfl)(d:Loc X.env.scope x:=by first|exact Or.inl rfl|exact Or.inr rfl)(h:swapsWith e (some (.Name x pos')) pos.line X.env=pure false:=by rfl) (g:X.fn x=true\/X.env.scope.names.lookup x=some .local:=by first|exact .inl rfl|exact .inr rfl|assumption):PS X (.Assign [.Name x pos'] e pos) (k7 te (ua i)):=qv c hi d f h g
theorem pN(i:Nat)(c:X.N.Nodup)(hi:X.N[i]?=some x:=by rfl)(d:Loc X.env.scope x:=by first|exact Or.inl rfl|exact Or.inr rfl)(f:X.fn x=true\/X.env.scope.names.lookup x=some .local:=by first|exact .inl rfl|exact .inr rfl|assumption):PG X (.Name x pos) (ua i):=Cj c hi d f
theorem pB{id:String}(i:mV X (.builtin id) r)(l:X.mg x=none)(g:bootBuiltins x=some (.builtin id))(k:PA X (e::es) t)(j:Gl X x:=by rfl)(f:x≠"__name__":=by decide)(c:(x==("__debug__":Str))=false:=by decide) (h:starEach (e::es) X.env=(false,eval e X.env)::starEach es X.env:=by rfl)(d:(backTo pos (starEach es X.env)).any (·.1)=false:=by rfl):PE X (.Call (.Name x p) (e::es) [] pos) (rR r t):=xD i j l g k f c h d
theorem aZ(h:PE X e te)(c:starEach [e] X.env=(false,eval e X.env)::starEach [] X.env:=by rfl):PA X [e] (fR te cV):=cy h dY c
theorem cY(h:PE X a ta)(g:PE X b tb)(d:starEach [a,b] X.env=(false,eval a X.env)::starEach [b] X.env:=by rfl)(c:starEach [b] X.env=(false,eval b X.env)::starEach [] X.env:=by rfl):PA X [a,b] (fR ta (fR tb cV)):=cy h (cy g dY c) d
theorem pI(h:PE X a ta)(g:PE X b tb)(c:EI b:=by exact fun _ _=>rfl):PE X (.Subscript a b pos) (rQ (qS X.K) ta tb):=xE EK h g c
theorem pJ(h:PE X a ta)(g:PE X b tb)(c:EI b:=by exact fun _ _=>rfl):PE X (.Subscript a b pos) (rQ (uT X.K) ta tb):=xE Cu h g c
theorem pq(c:iI X (compareOp op) r)(d:PE X a ta)(f:PE X b tb)(g:behindInMarks op b=false:=by exact qR _):PT X (.Compare a [op] [b] pos) (Ez (rQ r ta tb)):=nG c d f g
theorem pr(c:iI X (compareOp op) r)(d:PE X a ta)(f:PE X b tb)(g:behindInMarks op b=false:=by exact qR _):PE X (.Compare a [op] [b] pos) (rQ r ta tb):=Sm c d f g
theorem pR(h:PE X e te):mz X [.Return (some e) pos] (ph te):=cU (sN h)
theorem pF{tb:TS}(hi:PI X tg c f)(j:PG X tg g)(k:mz X d tb)(l:PassesOwn (model X.prog X.w) X.A X.env X.xe:=by exact kj)(i:X.calm=true:=by rfl) (h:∀x,foldedSetIterable c X.env x=pure x:=by intro _;rfl):PS X (.For tg c d [] pos) (xw f g tb):=qO l i hi j k h
theorem pM(G:nX X.prog X.w X.K X.mg X.base CX k m C ps sp)(j:cu n X.A)(i:nI CX X E)(h:PE X o ta)(l:PA X (e::es) t)(r:k<=n:=by decide) (c:starEach (e::es) X.env=(false,eval e X.env)::starEach es X.env:=by rfl)(d:(backTo pos (starEach es X.env)).any (·.1)=false:=by rfl) (g:eval (.Call (.Attribute o m apos) (e::es) [] pos) X.env=(eval o X.env>>=fun f=>standAt apos.atName>>=fun _=>holding [f] (getMethod f m pl)>>=fun q=>callWith pos q.1 q.2 (backTo pos (starEach (e::es) X.env)) (backToKw pos (keywordEach [] X.env))):=by rfl): PE X (.Call (.Attribute o m apos) (e::es) [] pos) (wo C m sp [] E ta t):=rC (pl:=pl) G (j.mono r) i h l c d g
theorem jZ(G:nX X.prog X.w X.K X.mg X.base CX k m C ps sp)(i:cu n X.A)(h:nI CX X E)(g:PE X o ta)(f:k<=n:=by decide) (d:eval (.Call (.Attribute o m apos) [] [] pos) X.env=(eval o X.env>>=fun c=>standAt apos.atName>>=fun _=>holding [c] (getMethod c m pl)>>=fun q=>callWith pos q.1 q.2 (backTo pos (starEach [] X.env)) (backToKw pos (keywordEach [] X.env))):=by rfl): PE X (.Call (.Attribute o m apos) [] [] pos) (wo C m sp [] E ta cV):=rD (pl:=pl) G (i.mono f) h g d
theorem BG(h:PE X o to)(g:PE X e te)(k:attributeBase o "append" X.env (eval o X.env)=eval o X.env:=by rfl)(i:((backTo pos (starEach [e] X.env)).all (fun x=>!x.1)&&(backToKw pos (keywordEach [] X.env)).all (fun x=>x.1.isSome)&&decide (([e]:List Expr).length+([]:List Keyword).length+(if([]:List Keyword).isEmpty then 0 else 1)<30))=true:=by rfl) (f:(apos.endLine==pos.line)=true:=by rfl)(c:starEach [e] X.env=(false,eval e X.env)::starEach [] X.env:=by rfl)(d:(backTo pos (starEach [] X.env)).any (·.1)=false:=by rfl)(j:swapsWith (.Call (.Attribute o "append" apos) [e] [] pos) none pos'.line X.env=pure false:=by rfl): PS X (.Expr (.Call (.Attribute o "append" apos) [e] [] pos) pos') (uM (xI X.K "list" y6 to (fR te cV))):=t_ (AS gz oI oM CA h (cy g dY c) k i f c d) j
section
variable{scope:Scope}{c:Expr}{g:TG}{tc:TT}
theorem lj(k:Scope)(A l:List Str)(u:List Nat)(n:Nat) (h:∀(cl:List (Str×Addr))(C:Addr)(s:Shared)(H:Hp)(fp:List Addr)(pins:List (Addr×Obj)),l.Nodup->PG (X.comp scope cl C l s H fp pins) tg g/\PE (X.comp scope cl C l s H fp pins) elt te) (D:l.Nodup:=by decide+kernel)(q:X.env.scope=k:=by rfl)(B:X.N=A:=by rfl)(t:scope.kind=.function:=by rfl)(i:(scope.names.all fun y=>y.2 !=.free||scope.names.all fun z=>!(z.1==y.1)||z.2 !=.cell)=true:=by decide+kernel) (m:∀y∈scope.names,y.2=.local->scope.names.lookup y.1=some .local:=by decide+kernel)(r:(scope.names.all fun y=>y.2 !=.free||(k.names.lookup y.1==some .cell||k.names.lookup y.1==some .free))=true:=by decide+kernel)(w:u.length+n=l.length:=by rfl) (v:((List.range u.length).all fun j=>match l[j]?,A[u.getD j 0]? with|some x,some y=>x==y&&scope.names.lookup x==some .free|_,_=>false)=true:=by decide+kernel):gN X scope l u n tg elt [] g none te:= Fc k A l u n q B t i m r w v (fun a b c d e f=>(h a b c d e f D).1) (fun a b c d e f=>(h a b c d e f D).2) (.inl ⟨rfl,rfl⟩)
theorem zC(k:Scope)(D i:List Str)(u:List Nat)(n:Nat) (h:∀(cl:List (Str×Addr))(C:Addr)(s:Shared)(H:Hp)(fp:List Addr)(pins:List (Addr×Obj)),i.Nodup->PG (X.comp scope cl C i s H fp pins) tg g/\PE (X.comp scope cl C i s H fp pins) elt te/\PT (X.comp scope cl C i s H fp pins) c tc) (A:i.Nodup:=by decide+kernel)(q:X.env.scope=k:=by rfl)(B:X.N=D:=by rfl)(t:scope.kind=.function:=by rfl)(l:(scope.names.all fun y=>y.2 !=.free||scope.names.all fun z=>!(z.1==y.1)||z.2 !=.cell)=true:=by decide+kernel) (m:∀y∈scope.names,y.2=.local->scope.names.lookup y.1=some .local:=by decide+kernel)(r:(scope.names.all fun y=>y.2 !=.free||(k.names.lookup y.1==some .cell||k.names.lookup y.1==some .free))=true:=by decide+kernel)(w:u.length+n=i.length:=by rfl) (v:((List.range u.length).all fun j=>match i[j]?,D[u.getD j 0]? with|some x,some y=>x==y&&scope.names.lookup x==some .free|_,_=>false)=true:=by decide+kernel):gN X scope i u n tg elt [c] g (some tc) te:= Fc k D i u n q B t l m r w v (fun a b c d e f=>(h a b c d e f A).1) (fun a b c d e f=>(h a b c d e f A).2.1) (.inr ⟨_,_,rfl,rfl,fun a b c d e f=>(h a b c d e f A).2.2⟩)
end
theorem BH(i:Nat)(u:X.N.Nodup)(hi:PI X tg c k)(B:gN X scope v m n tg elt f g s te)(h:X.N[i]?=some x:=by rfl)(l:Loc X.env.scope x:=by first|exact Or.inl rfl|exact Or.inr rfl)(r:X.calm=true:=by rfl) (j:swapsWith (.ListComp elt [⟨tg,c,f,0⟩] scope pos) (some (.Name x pos')) d.line X.env=pure true:=by rfl)(t:X.fn x=true\/X.env.scope.names.lookup x=some .local:=by first|exact .inl rfl|exact .inr rfl|assumption) (q:∀x,foldedSetIterable c X.env x=pure x:=by intro _;rfl):PS X (.Assign [.Name x pos'] (.ListComp elt [⟨tg,c,f,0⟩] scope pos) d) (k7 (y7 k m n g s te) (ua i)):=TK u h l r hi B j t q
end
section
variable{P:Program}{w:World}{K:PySem.W.Frag}{mg:Str->Option Value}{base:Heap}{x q:Str}{st:Stmt}{C:Addr}{CX:jo}{k:Nat}{ps:List Str}{sp:Sp}
abbrev De(K:PySem.W.Frag)(x:Str)(st:Stmt):Prop:=∃f a,nN K x st f a
abbrev Dm(K:PySem.W.Frag)(C:Addr)(x q:Str)(st:Stmt):Prop:=∃f a,MethAt K C x q st f a
abbrev Bd(x q:Str)(st:Stmt)(ps:List Str):Prop:=∀(kV a f:Value)(e:Option Addr)(b d:Value)(c:List Value),c.length=ps.length->bindArgs (PySem.W.fnOf x q (nM st) (kS st) (cM st) .none kV a f e b d) ⟨c,[]⟩=pure (ps.zip c)
def yl:Nat->(List Value->Prop)->Prop|0,P=>P []|n+1,P=>∀a,yl n fun l=>P (a::l)
theorem BI{P:List Value->Prop}:∀us:List Value,yl us.length P->P us|[],h=>h|a::us,h=>BI (P:=fun l=>P (a::l)) us (h a)
theorem GL(h:∀(kV a f:Value)(e:Option Addr)(b d:Value),yl ps.length fun c=>bindArgs (PySem.W.fnOf x q (nM st) (kS st) (cM st) .none kV a f e b d) ⟨c,[]⟩=pure (ps.zip c):=by intro _ _ _ _ _ _;first|exact fun _=>rfl|exact fun _ _=>rfl|exact fun _ _ _=>rfl|exact fun _ _ _ _=>rfl|exact fun _ _ _ _ _=>rfl):Bd x q st ps:=fun a b c d e f us g=>BI us (g▸h a b c d e f)
theorem BJ{kV b d a e:Value}(l:K.lookup f=some ⟨h,od,.func (PySem.W.fnOf x q (nM st) (kS st) (cM st) .none kV b d an a e),g⟩)(c:PySem.W.codeIn K a q=true)(k:PySem.W.keepIn K (.ref f)=true):∃fd,jM K x q st f fd:=⟨_,CF l c k⟩
theorem hD(T:∃h:Heap,K.In h/\h.Ns mainGlobals mg)(d:De K x st)(h:∀f fd,jM K x x st f fd->cz P w K mg base CX k f fd ps sp) (b:Bd x x st ps:=by exact GL):uW P w K mg base CX k x ps sp:=by obtain⟨f,fd,D⟩:=d;obtain⟨_,X,G⟩:=T;exact D.has X G (h f fd D.fn) (D.fn.binds b)
theorem hM(c:dI K C)(d:Dm K C x q st)(h:∀f fd,jM K x q st f fd->cz P w K mg base CX k f fd ps sp) (b:Bd x q st ps:=by exact GL):nX P w K mg base CX k x C ps sp:=by obtain⟨f,fd,D⟩:=d;exact D.GB c (h f fd D.fn) (D.fn.binds b)
theorem hC(c:PySem.W.makesIn K C=true/\PySem.W.keepIn K (.ref C)=true)(e:mg y=some (.ref C))(d:Dm K C "__init__" q st)(h:∀f fd,jM K "__init__" q st f fd->cz P w K mg base CX k f fd ps sp) (b:Bd "__init__" q st ps:=by exact GL):tu P w K mg base CX k y C ps sp:=by obtain⟨f,fd,D⟩:=d;exact D.GC c.1 c.2 e (h f fd D.fn) (D.fn.binds b)
end
end L2
namespace PM
open PySem PyProof.Rows L2
section
variable{P:Program}{w:World}{K:PySem.W.Frag}{mg:Str->Option Value}{base:Heap}{x q:Str}{st:Stmt}{f:Addr}{fd:FuncData}{k np nv:Nat}{ps N:List Str}{KK:Kx}{XO:c5}
abbrev B0(P:Program)(w:World)(K:PySem.W.Frag)(mg:Str->Option Value)(base:Heap)(N:List Str)(q:Str)(st:Stmt)(f:Addr)(k:Nat)(S:(L2.St->XK)->TS->Prop):Prop:=∀(a:Value)(A:Around)(b:List Env)(s:Shared)(H:Hp)(E:XK),cu k (A.deeper (envOfC q (cM st) s.heap.objs.size f a))->(A.deeper (envOfC q (cM st) s.heap.objs.size f a)).units+1<cLine->N.Nodup-> ∃t,mz (nJ kT P w K mg base N q (cM st) f a A b s H E).AA (kS st) t/\S (fun _=>E) t
abbrev B1(P:Program)(w:World)(K:PySem.W.Frag)(mg:Str->Option Value)(base:Heap)(N:List Str)(q:Str)(st:Stmt)(f:Addr)(k:Nat)(S:(L2.St->XK)->TS->Prop):Prop:=∀(a:Value)(A:Around)(b:List Env)(s:Shared)(H:Hp)(E:XK),cu k (A.deeper (envOfC q (cM st) s.heap.objs.size f a))->(A.deeper (envOfC q (cM st) s.heap.objs.size f a)).units+1<cLine->N.Nodup-> ∃t,mz (kF P w K mg base N q (cM st) f a A b s H E) (kS st) t/\S (fun _=>E) t
theorem ik(N:List Str)(F:jM K x q st f fd)(h:B0 P w K mg base N q st f k fun E t=>SS KK XO E t m)(S:b_ N ps (cM st):=by exact jS)(l:np=ps.length:=by rfl)(j:N.length=np+nv:=by rfl):cz P w K mg base kT (k+1) f fd ps (qA KK XO (bM np nv m)):= F.ok S (fun _ _ _ _ h=>(CU h).trans l) fun a b c d e v _ g i z=>let⟨t,p,r⟩:=h a b c d e g i (ue i) S.nd;⟨t,p,A_ r j z⟩
theorem tG(N:List Str)(F:jM K x q st f fd)(h:B1 P w K mg base N q st f k fun E t=>SS KK XO E t m)(S:b_ N ps (cM st):=by exact jS)(l:np=ps.length:=by rfl)(j:N.length=np+nv:=by rfl):cz P w K mg base (qW P w) (k+1) f fd ps (qA KK XO (bM np nv m)):= F.CI S (fun _ _ _ _ h=>(CU h).trans l) fun a b c d e v _ g i z=>let⟨t,p,r⟩:=h a b c d e g i (ue i) S.nd;⟨t,p,A_ r j z⟩
theorem oq(N:List Str)(F:jM K x q st f fd)(h:B0 P w K mg base N q st f k fun E t=>SS KK XO E t m)(S:b_ N ps (cM st):=by exact jS)(l:np=ps.length:=by rfl)(j:N.length=np+nv:=by rfl):cz P w K mg base kT (k+1) f fd ps (vg KK XO (eQ np nv m)):= F.ok S (fun _ _ _ _ h=>(LM h).trans l) fun a b c d e v _ g i z=>let⟨t,p,r⟩:=h a b c d e g i (ue i) S.nd;⟨t,p,LL r j z⟩
theorem Xq(N:List Str)(F:jM K x q st f fd)(h:B0 P w K mg base N q st f k fun E t=>i' KK (jH KK) E c t m)(S:b_ N ps (cM st):=by exact jS)(l:ps.length=np+1:=by rfl)(j:N.length=np+1:=by rfl):cz P w K mg base kT (k+1) f fd ps (zv KK c (runN c np m)):= F.ok S (fun _ _ _ _ h=>MV l h) fun a b c d e v _ g i z=>let⟨t,p,r⟩:=h a b c d e g i (ue i) S.nd;⟨t,p,MW r j z⟩
theorem tH(N:List Str)(F:jM K x q st f fd)(h:B1 P w K mg base N q st f k fun E t=>i' KK (jH KK) E c t m)(S:b_ N ps (cM st):=by exact jS)(l:ps.length=np+1:=by rfl)(j:N.length=np+1:=by rfl):cz P w K mg base (qW P w) (k+1) f fd ps (zv KK c (runN c np m)):= F.CI S (fun _ _ _ _ h=>MV l h) fun a b c d e v _ g i z=>let⟨t,p,r⟩:=h a b c d e g i (ue i) S.nd;⟨t,p,MW r j z⟩
end
section
variable{K:Kx}{XO:c5}{E:L2.St->XK}{ta tb tc:TE}{ma mb mc:En->R D}
theorem b7(h:SE K XO E ta ma):SA K XO E (fR ta cV) (ai ma af):=c7 h cG
theorem eL(h:SE K XO E ta ma)(g:SE K XO E tb mb):SA K XO E (fR ta (fR tb cV)) (ai ma (ai mb af)):=c7 h (c7 g cG)
theorem bB(h:lK K XO E ta ma):ug K XO E (fR ta cV) (ai ma af):=uh h u5
theorem pP(h:lK K XO E ta ma)(g:lK K XO E tb mb):ug K XO E (fR ta (fR tb cV)) (ai ma (ai mb af)):=uh h (uh g u5)
theorem sI:lK K XO E (tC (.int i)) (mC (.int i)):=aL.r
end
end PM
namespace My
open PySem L2 PM
def Ni:Nat→Bool
 | 4=>true
 | 5=>true
 | _=>false
def Xr (c:Nat):Bool:=Ni (c%16)
def ym:Nat→Bool
 | 7=>true
 | _=>false
def ou:Nat→Bool
 | 8=>true
 | 9=>true
 | _=>false
def Dt:Nat→Bool
 | 8=>true
 | _=>false
def r9:Nat→Bool
 | 11=>true
 | 12=>true
 | _=>false
def r_:Nat→Bool
 | 7=>true
 | 8=>true
 | 12=>true
 | _=>false
def BK:Nat→Bool
 | 8=>true
 | 9=>true
 | _=>false
def yn:Nat→Bool
 | 9=>true
 | 10=>true
 | _=>false
def uv:Nat→Bool
 | 7=>true
 | _=>false
def zD:Nat→Bool
 | 10=>true
 | _=>false
def zwd:Nat→Option Bool
 | 7=>some true
 | 8=>some true
 | 9=>some true
 | 10=>some true
 | 11=>some true
 | 12=>some true
 | _=>none
def zq8:Nat→Option Bool
 | 7=>some true
 | 8=>some false
 | 9=>some false
 | 10=>some false
 | 11=>some false
 | 12=>some false
 | _=>none
def zrh:Nat→Option Bool
 | 7=>some false
 | 8=>some true
 | 9=>some false
 | 10=>some false
 | 11=>some false
 | 12=>some false
 | _=>none
def zsa:Nat→Option Bool
 | 7=>some false
 | 8=>some false
 | 9=>some true
 | 10=>some false
 | 11=>some false
 | 12=>some false
 | _=>none
def zrL:Nat→Option Bool
 | 7=>some false
 | 8=>some false
 | 9=>some false
 | 10=>some true
 | 11=>some false
 | 12=>some false
 | _=>none
def zre:Nat→Option Bool
 | 7=>some false
 | 8=>some false
 | 9=>some false
 | 10=>some false
 | 11=>some true
 | 12=>some false
 | _=>none
def zrf:Nat→Option Bool
 | 7=>some false
 | 8=>some false
 | 9=>some false
 | 10=>some false
 | 11=>some false
 | 12=>some true
 | _=>none
def GN:En→O:=(aw (bf (aS (m2 oLt (aj 1) (aN aI (ai (aj 0) af))))
 (aH (m2 aJ (aj 0) (aj 1)))
 cB)
 (aH (mC (.int 0))))
def oy:List D→R D:=bM 2 0 GN
def Nj:En→O:=(aH (m2 oMod (m2 fE (m2 bL (m2 bL (m2 oMod (aj 0) (m2 iF (mC (.int 10)) (mC (.int 20)))) (m2 fE (aj 1) (aj 1))) (mC (.int 1))) (m2 bL (mC (.int 48271)) (m2 fE (mC (.int 2)) (aj 1)))) (mC (.int 2147483647))))
def pQ:List D→R D:=bM 2 0 Nj
def Xs:En→O:=(aw (aB (bq pQ (ai (ag 0) (ai (ag 1) af))) (aV 2))
 (aw (bf (aS (m2 oEq (m2 oMod (aj 2) (mC (.int 3))) (mC (.int 0))))
 (aH (m2 oMod (m2 oDiv (aj 2) (mC (.int 3))) (mC (.int 4))))
 cB)
 (aw (bf (aS (m2 oEq (m2 oMod (aj 2) (mC (.int 3))) (mC (.int 1))))
 (aH (m2 oMod (m2 oDiv (aj 2) (mC (.int 3))) (mC (.int 30))))
 cB)
 (aH (m2 oMod (m2 bL (m2 fE (m2 oMod (aj 0) (m2 iF (mC (.int 10)) (mC (.int 20)))) (mC (.int 6364136223846793005))) (aj 2)) (m2 bL (m2 iF (mC (.int 10)) (mC (.int 18))) (mC (.int 1))))))))
def tJ:List D→R D:=bM 2 1 Xs
def Nk:En→R D:=ij (qZ (ai (aj 0) af)) [] 2 (dM 2 (eS (cX 0) (eS (cX 1) ef))) none (m2 bL (mC (.int 1)) (m2 oMod (bq tJ (ai (ag 1) (ai (ag 0) af))) (m2 iF (mC (.int 10)) (mC (.int 18)))))
def Xt:En→O:=(fi Nk)
def Du:List D→R D:=eQ 1 0 Xt
def Nl:En→O:=(aB (m2 oDiv (aj 0) (mC (.int 2))) (aV 0))
def Nm:En→O:=dE (b9 (ai (ag 1) af)) (aV 2) Nl
def Xu:En→O:=(aw Nm
 (aH (m2 oMod (aj 0) (mC (.int 2)))))
def zE:List D→R D:=bM 2 1 Xu
def Xv:En→O:=(aw (aB (bq pQ (ai (ag 0) (ai (m2 bL (aj 1) (mC (.int 50))) af))) (aV 3))
 (aw (aB (m2 bL (bq zE (ai (ag 3) (ai (ag 2) af))) (bq zE (ai (bq pQ (ai (ag 0) (ai (m2 bL (aj 1) (mC (.int 90))) af))) (ai (ag 2) af)))) (aV 4))
 (aH (m2 uk (aj 4) (m2 gU (mC (.int 1)) (m2 oMod (m2 oDiv (aj 3) (mC (.int 65536))) (mC (.int 2))))))))
def BL:List D→R D:=bM 3 2 Xv
def GO:En→R D:=ij (b9 (ai (ag 1) af)) [4,3] 1 (cX 2) (some (aS (bq BL (ai (ag 0) (ai (ag 1) (ai (ag 2) af)))))) (ag 2)
def Nn:En→O:=(aw (aB GO (dq 5))
 (Dk 2 5 (bq tJ (ai (ag 4) (ai (ag 3) af)))))
def Np:En→O:=dE (qZ (ai (ag 0) af)) (dM 2 (eS (aV 3) (eS (aV 4) ef))) Nn
def Dv:En→R D:=ij (cA (aj 2)) [6] 2 (dM 2 (eS (cX 1) (eS (cX 2) ef))) (some (aS (m2 x8 (aj 0) (aj 2)))) (mC (.int 1))
def Nq:En→O:=(bf (aS (oj (m2 oEq (aN aI (ai Dv af)) (mC (.int 0)))))
 (Bs 2 (oj (m2 oMod (m2 fE (aj 6) (mC (.int 5))) (aN aI (ai (aj 2) af)))) (mC (.int 1)) (ag 6))
 cB)
def Nr:En→O:=dE (b9 (ai (ag 1) af)) (aV 6) Nq
def Xw:En→O:=(aw (Dj (bT af) 2)
 (aw Np
 (aw (bf (aS (oj (m2 gv (aj 2) (bT af))))
 (Bt 2 (mC (.int 3)) (bT af))
 cB)
 (aw Nr
 (Gk 2)))))
def GP:List D→R D:=eQ 2 5 Xw
def Nt:En→O:=(sW 2 (ag 4) (mC (.bl true)))
def Nu:En→O:=dE (cA (m2 cC (aj 3) (mC (.int 1)))) (aV 4) Nt
def GQ:En→O:=Nu
def Nv:En→O:=dE (cA (ag 1)) (aV 3) GQ
def GR:En→O:=(bf (aS (m2 va (ag 4) (aj 2)))
 (Gs 4 (ai (ag 4) af))
 cB)
def Nw:En→O:=dE (b9 (ai (ag 0) af)) (aV 4) GR
def Xx:En→O:=(aw (aB (mC (.dJ [] [])) (dq 2))
 (aw Nv
 Nw))
def GS:List D→R D:=bM 2 3 Xx
def Nx:En→O:=(sW 4 (ag 5) (aN uq (ai (aj 2) (ai (Be (aj 4) (ag 5) (ag 2)) af))))
def Ny:En→O:=dE (cA (ag 3)) (aV 5) Nx
def Nz:En→O:=(aw (aB (Dp (ai (m2 aJ (aj 1) (m1 eJ (mC (.int 1)))) af)) (dq 4))
 (aw Ny
 (rf 4 (rX 1 (ag 4)))))
def NA:En→O:=dE (rk (ai (ag 0) af)) (dM 2 (eS (aV 2) (eS (aV 3) ef))) Nz
def Xy:En→O:=(aw (aB (bT (ai (mC (.dJ [] [])) af)) (dq 1))
 (aw NA
 (fi (Gm (aj 1)))))
def GU:List D→R D:=eQ 1 5 Xy
def GV:En→R Tr:=GI (cA (aj 2)) [] 2 (dM 2 (eS (cX 0) (eS (cX 1) ef))) (Nc (ag 0) (aN kU (ai (aj 1) af)))
def GW:En→List Str→List D→R (List Str×List D):=(fJ (tw (oa GS (ai (ag 1) (ai (ag 2) af))))
 (fJ (lP "many" (ag 1))
 (fJ (yi "sets" GV)
 (yj "cheapest" "sets" GU))))
def GX:List D→R D:=runN 7 2 GW
def NB:En→O:=(fi (Dh 0))
def vG:List D→R D:=eQ 1 0 NB
def GY:En→R Bool:=(aS (m2 uk (aj 3) (mC (.int 0))))
def GZ:En→O:=(aw (aB (m2 oMod (aj 2) (aj 3)) (aV 4))
 (aw (aB (ag 3) (aV 2))
 (aB (ag 4) (aV 3))))
def NC:En→O:=wF GY GZ
def ND:En→O:=(aw (aB (aN nP (ai (aj 0) af)) (aV 2))
 (aw (aB (aN nP (ai (aj 1) af)) (aV 3))
 (aw NC
 (aH (ag 2)))))
def G0:List D→R D:=bM 2 3 ND
def NF:En→O:=(aw (bf (aS (m2 oEq (aj 1) (mC (.int 0))))
 (x5 1 (ai (mC (.str "no fraction has nought for its bottom")) af))
 cB)
 (aw (aB (bq G0 (ai (ag 0) (ai (ag 1) af))) (aV 2))
 (aw (bf (aS (m2 oLt (aj 1) (mC (.int 0))))
 (aB (m1 eJ (aj 2)) (aV 2))
 cB)
 (aH (bY (ai (m2 oDiv (aj 0) (aj 2)) (ai (m2 oDiv (aj 1) (aj 2)) af)))))))
def uw:List D→R D:=bM 2 1 NF
def NG:En→O:=(aH (m1 eJ (m2 oDiv (m1 eJ (m2 cC (aj 0) (mC (.int 0)))) (m2 cC (aj 0) (mC (.int 1))))))
def wV:List D→R D:=bM 1 0 NG
def G4:En→R D:=ij (cA (m1 (bw BK "order") (aj 0))) [1] 1 (cX 1) none (m2 aJ (aj 0) (aj 1))
def G5:En→List Str→List D→R (List Str×List D):=(fJ (lP "many" (ag 2))
 (fJ (rE "order" (bq vG (ai (ag 1) af)))
 (fJ (wR 8 "falling" G4)
 (lP "least" (bq wV (ai (oa uw (ai (aN gi (ai (aj 1) af)) (ai (ag 2) af))) af))))))
def G6:List D→R D:=runN 8 2 G5
def NH:En→O:=(bf (aS (m2 uk (aj 3) (aj 1)))
 (Gs 5 (ai (ag 2) af))
 cB)
def NI:En→O:=dE (qZ (ai (ag 0) af)) (dM 2 (eS (aV 2) (eS (aV 3) ef))) NH
def NJ:En→O:=NI
def BM:List D→R D:=bM 2 2 NJ
def G7:En→R D:=ij (cA (m1 (bw BK "order") (aj 0))) [1] 1 (cX 1) none (m2 aJ (aj 0) (aj 1))
def G8:En→List Str→List D→R (List Str×List D):=(fJ (tw (oa BM (ai (ag 1) (ai (ag 2) af))))
 (fJ (lP "room" (ag 2))
 (fJ (rE "order" (bq vG (ai (ag 1) af)))
 (wR 9 "falling" G7))))
def G9:List D→R D:=runN 9 2 G8
def G_:En→List Str→List D→R (List Str×List D):=(fJ (lP "room" (ag 1))
 (rE "things" (aN kU (ai (aj 2) af))))
def G':List D→R D:=runN 10 2 G_
def Xz:En→O:=(aw (bf (aS (m2 oEq (aj 1) (aj 2)))
 (aH (mC (.int 0)))
 cB)
 (aw (aB (aN uq (ai (aj 1) (ai (aj 2) af))) (aV 4))
 (aw (aB (aN vu (ai (aj 1) (ai (aj 2) af))) (aV 5))
 (aw (aB (m2 bL (m2 bL (m2 cC (m2 aJ (aj 0) (aj 4)) (mC (.int 1))) (m2 fE (mC (.int 7)) (m2 cC (m2 aJ (aj 0) (aj 5)) (mC (.int 0))))) (m2 fE (aj 4) (aj 5))) (aV 6))
 (aH (m2 bL (aj 3) (m2 oMod (aj 6) (m2 bL (aj 3) (mC (.int 1))))))))))
def Ha:List D→R D:=bM 4 3 Xz
def NK:En→O:=(aw (aB (bq pQ (ai (bq oy (ai (ag 0) (ai (ag 4) af))) (ai (m2 bL (aj 4) (mC (.int 300))) af))) (aV 5))
 (aw (aB (m2 aJ (bT (ai (mC (.int 3)) (ai (mC (.int 50)) (ai (m2 iF (mC (.int 10)) (mC (.int 8))) (ai (m2 iF (mC (.int 10)) (mC (.int 17))) af))))) (m2 oMod (aj 5) (mC (.int 4)))) (aV 6))
 (rX 3 (bY (ai (m2 oMod (m2 fE (m2 oDiv (aj 5) (mC (.int 4))) (mC (.int 48271))) (aj 6)) (ai (m2 oMod (m2 fE (m2 oMod (m2 fE (m2 oDiv (aj 5) (mC (.int 4))) (mC (.int 69621))) (mC (.int 2147483629))) (mC (.int 40692))) (aj 6)) af))))))
def NL:En→O:=dE (b9 (ai (ag 1) af)) (aV 4) NK
def NM:En→R D:=ij (b9 (ai (ag 2) af)) [0,3,1] 1 (cX 3) none (zg Ha (ai (aj 0) (ai (ag 1) (ai (ag 3) (ai (ag 2) af)))))
def Hb:En→R D:=ij (b9 (ai (ag 1) af)) [3,7,1] 1 (cX 3) none NM
def NN:En→R D:=ij (cA (aj 0)) [1] 1 (cX 1) none (m2 bL (aN nP (ai (m2 gU (m2 cC (aj 0) (mC (.int 0))) (m2 cC (aj 1) (mC (.int 0)))) af)) (aN nP (ai (m2 gU (m2 cC (aj 0) (mC (.int 1))) (m2 cC (aj 1) (mC (.int 1)))) af)))
def NO:En→R D:=ij (cA (aj 3)) [3] 1 (cX 1) none NN
def XB:En→O:=(aw (aB (bT af) (dq 3))
 (aw NL
 (aw (bf (aS (m2 oEq (m2 oMod (aj 2) (mC (.int 3))) (mC (.int 0))))
 (aw (aB (m2 bL (mC (.int 1)) (m2 cC (m2 aJ (aj 3) (mC (.int 0))) (mC (.int 0)))) (aV 7))
 (fi Hb))
 cB)
 (fi NO))))
def BN:List D→R D:=eQ 3 5 XB
def Hc:En→O:=(bf (aS (m2 og (m2 aJ (m2 aJ (aj 0) (aj 2)) (aj 2)) (mC (.int 0))))
 (x5 2 (ai (mC (.str "a place is away from itself")) af))
 cB)
def NP:En→O:=dE (b9 (ai (ag 1) af)) (aV 2) Hc
def Hd:En→O:=(bf (aS (m2 og (m2 aJ (m2 aJ (aj 0) (aj 2)) (aj 3)) (m2 aJ (m2 aJ (aj 0) (aj 3)) (aj 2))))
 (x5 2 (ai (mC (.str "two places have two unlike lengths")) af))
 cB)
def XC:En→O:=dE (b9 (ai (ag 2) af)) (aV 3) Hd
def NQ:En→O:=XC
def NR:En→O:=dE (b9 (ai (ag 1) af)) (aV 2) NQ
def He:En→O:=(bf (aS (m2 oLt (m2 bL (m2 aJ (m2 aJ (aj 0) (aj 2)) (aj 3)) (m2 aJ (m2 aJ (aj 0) (aj 3)) (aj 4))) (m2 aJ (m2 aJ (aj 0) (aj 2)) (aj 4))))
 (x5 2 (ai (mC (.str "a way by a third place is shorter than the straight one")) af))
 cB)
def XD:En→O:=dE (b9 (ai (ag 1) af)) (aV 4) He
def NS:En→O:=XD
def XE:En→O:=dE (b9 (ai (ag 1) af)) (aV 3) NS
def NT:En→O:=XE
def NU:En→O:=dE (b9 (ai (ag 1) af)) (aV 2) NT
def XF:En→O:=(aw (aB (aN aI (ai (aj 0) af)) (aV 1))
 (aw NP
 (aw NR
 NU)))
def Dw:List D→R D:=bM 1 4 XF
def NV:En→R (List (List Int)):=(C_ (cA (aj 0)) [] 1 (cX 0) (aN kU (ai (aj 0) af)))
def zF:List D→R (List (List Int)):=rJ 1 NV
def Hf:En→List Str→List D→R (List Str×List D):=(fJ (tw (oa Dw (ai (ag 1) af)))
 (vD "lengths" (Bz zF (ai (ag 1) af))))
def Hg:List D→R D:=runN 11 1 Hf
def Hh:En→List Str→List D→R (List Str×List D):=(fJ (tw (oa Dw (ai (ag 1) af)))
 (fJ (vD "lengths" (Bz zF (ai (ag 1) af)))
 (lP "many" (ag 2))))
def Hi:List D→R D:=runN 12 2 Hh
def Hj:En→R D:=ij (qZ (ai (gq (aj 1) bZ (dF (mC (.int 5)))) af)) [4] 2 (dM 2 (eS (cX 1) (eS (cX 2) ef))) none (bY (ai (bq tJ (ai (ag 2) (ai (m2 bL (aj 1) (mC (.int 40))) af))) (ai (m2 aJ (aj 0) (aj 1)) af)))
def XG:En→O:=(aw (aB (m2 bL (mC (.int 1)) (m2 oMod (aj 2) (mC (.int 5)))) (aV 3))
 (aw (aB (bq Du (ai (gq (aj 1) bZ (dF (mC (.int 5)))) af)) (aV 4))
 (aw (bf (aS (m2 oEq (aj 0) (mC (.int 0))))
 (aH (bq GX (ai (ag 3) (ai (bq GP (ai (gq (aj 1) bZ (dF (mC (.int 5)))) (ai (ag 3) af))) af))))
 cB)
 (aw (bf (aS (m2 oEq (aj 0) (mC (.int 1))))
 (aH (bq G6 (ai (ag 4) (ai (m2 bL (mC (.int 1)) (m2 oMod (m2 oDiv (aj 2) (mC (.int 5))) (mC (.int 4)))) af))))
 cB)
 (aw (bf (aS (m2 oEq (aj 0) (mC (.int 2))))
 (aw (aB (xV (ai (aj 4) af) (mC (.int 1))) (aV 5))
 (aH (bq G9 (ai (ag 4) (ai (aN uq (ai (m2 iF (mC (.int 10)) (mC (.int 18))) (ai (m2 bL (aj 5) (m2 oMod (bq tJ (ai (ag 2) (ai (mC (.int 9)) af))) (m2 bL (aj 5) (mC (.int 1))))) af))) af)))))
 cB)
 (aw (bf (aS (m2 oEq (aj 0) (mC (.int 3))))
 (aw (aB Hj (aV 6))
 (aH (bq G' (ai (bq tJ (ai (ag 2) (ai (mC (.int 3)) af))) (ai (ag 6) af)))))
 cB)
 (aw (aB (bq BN (ai (ag 1) (ai (ag 3) (ai (m2 oDiv (aj 2) (mC (.int 5))) af)))) (aV 7))
 (aw (bf (aS (m2 oEq (aj 0) (mC (.int 4))))
 (aH (bq Hg (ai (ag 7) af)))
 cB)
 (aH (bq Hi (ai (ag 7) (ai (m2 bL (mC (.int 1)) (m2 oMod (m2 oDiv (aj 2) (mC (.int 15))) (aj 3))) af))))))))))))
def BO:List D→R D:=bM 3 5 XG
def NW:En→R D:=ij (b9 (ai (ag 1) af)) [] 1 (cX 0) none (mC (.int 0))
def XH:En→O:=(zc (fun i j=>i+j) 3 (ag 5) (ag 4))
def NX:En→O:=dE (Bm (ai (ag 0) (ai (ag 2) af))) (dM 2 (eS (aV 4) (eS (aV 5) ef))) XH
def XI:En→O:=(aw (aB NW (dq 3))
 (aw NX
 (aH (aN (ur dO) (ai (aj 3) af)))))
def Hk:List D→R D:=bM 3 3 XI
def XJ:En→O:=(aw (aB (gq (m1 (bw ou "falling") (aj 0)) bZ (dF (aN aI (ai (aj 1) af)))) (aV 2))
 (aH (aN vu (ai (m1 (bw Dt "least") (aj 0)) (ai (bq Hk (ai (ag 2) (ai (m1 (bw r_ "many") (aj 0)) (ai (ag 1) af)))) af)))))
def wW:List D→R D:=bM 2 1 XJ
def NY:En→R D:=ij (b9 (ai (aN uu (ai (ag 1) af)) af)) [0] 1 (cX 1) none (m1 (bw yn "room") (aj 0))
def NZ:En→O:=(zc (fun i j=>i - j) 2 (ag 4) (ag 3))
def N0:En→O:=dE (Bm (ai (m1 (bw ou "falling") (aj 0)) (ai (ag 1) af))) (dM 2 (eS (aV 3) (eS (aV 4) ef))) NZ
def XM:En→O:=(aw (aB NY (dq 2))
 (aw N0
 (A6 2)))
def zG:List D→R D:=eQ 2 3 XM
def XN:En→O:=(aw (aB (bN 9 "free" zG (ag 0) (ai (ag 1) af)) (aV 2))
 (aw (aB (m2 gU (aN gi (ai (gq (m1 (bw ou "falling") (aj 0)) (dF (aN aI (ai (aj 1) af))) bZ) af)) (aN gi (ai (aj 2) af))) (aV 3))
 (aH (m2 bL (aN aI (ai (aj 2) af)) (aN vu (ai (mC (.int 0)) (ai (bq wV (ai (oa uw (ai (ag 3) (ai (m1 (bw yn "room") (aj 0)) af))) af)) af)))))))
def wX:List D→R D:=bM 2 2 XN
def Hl:En→R D:=ij (Gy (ai (ag 0) af)) [1] 2 (dM 2 (eS (cX 1) (eS (cX 2) ef))) (some (aS (m2 oEq (aj 2) (aj 0)))) (ag 1)
def XQ:En→O:=(fi Hl)
def zH:List D→R D:=eQ 2 0 XQ
def XR:En→O:=(sW 2 (ag 4) (mC (.bl true)))
def XS:En→O:=dE (cA (m2 cC (m2 aJ (m1 (bw uv "sets") (aj 0)) (aj 3)) (mC (.int 1)))) (aV 4) XR
def N1:En→O:=XS
def N2:En→O:=dE (cA (bq zH (ai (ag 1) (ai (mC (.int 1)) af)))) (aV 3) N1
def Hm:En→R D:=ij (b9 (ai (m1 (bw r_ "many") (aj 0)) af)) [2] 1 (cX 1) (some (aS (m2 va (ag 1) (aj 0)))) (ag 1)
def XT:En→O:=(aw (aB (mC (.dJ [] [])) (dq 2))
 (aw N2
 (fi Hm)))
def Dx:List D→R D:=eQ 2 3 XT
def N3:En→R D:=ij (cA (aj 1)) [0] 1 (cX 1) none (m2 cC (m2 aJ (aj 0) (aj 1)) (mC (.int 0)))
def XU:En→O:=(aH (aN gi (ai N3 af)))
def Hn:List D→R D:=bM 2 0 XU
def Ho:En→R D:=ij (cA (bN 7 "not_covered" Dx (ag 0) (ai (ag 1) af))) [2] 1 (cX 1) none (Be (aj 0) (ag 1) (mC (.int 0)))
def XW:En→O:=(aw (aB (m2 aJ (m1 (bw ym "cheapest") (aj 0)) (aN aI (ai (aj 1) af))) (aV 2))
 (aw (aB (xV (ai Ho af) (mC (.int 0))) (aV 3))
 (aH (m2 bL (bq Hn (ai (m1 (bw uv "sets") (aj 0)) (ai (bq zH (ai (ag 1) (ai (mC (.int 1)) af))) af))) (aj 3)))))
def wY:List D→R D:=bM 2 2 XW
def XX:En→O:=(aH (Ft (aS (m2 uk (aN aI (ai (aj 0) af)) (mC (.int 0)))) (m2 bL (m2 cC (aj 0) (m1 eJ (mC (.int 1)))) (mC (.int 1))) (mC (.int 0))))
def yo:List D→R D:=bM 1 0 XX
def N4:En→R D:=ij (cA (aj 2)) [0,1] 1 (cX 2) none (m2 aJ (m2 aJ (aj 0) (aj 1)) (aj 2))
def XY:En→O:=(aH (aN (ur jQ) (ai N4 af)))
def Hq:List D→R D:=bM 3 0 XY
def N5:En→R D:=ij (b9 (ai (aN aI (ai (aj 0) af)) af)) [0,1] 1 (cX 2) none (bq Hq (ai (ag 0) (ai (ag 2) (ai (ag 1) af))))
def XZ:En→O:=(aH (aN (ur dO) (ai N5 af)))
def Dy:List D→R D:=bM 2 0 XZ
def X0:En→O:=(aw (aB (aN kU (ai (aj 1) af)) (dq 2))
 (aw (bf (aS (m2 oLt (aN aI (ai (aj 1) af)) (m1 (bw r_ "many") (aj 0))))
 (BA 2 (x_ (ai (bq yo (ai (ag 1) af)) (ai (aN aI (ai (m1 (bw r9 "lengths") (aj 0)) af)) af))))
 cB)
 (aH (zg Dy (ai (m1 (bw r9 "lengths") (aj 0)) (ai (aj 2) af))))))
def wZ:List D→R D:=bM 2 1 X0
def X1:En→O:=(fi (m2 fS (bT (ai (mC (.int 0)) af)) (aN kU (ai (aj 1) af))))
def Dz:List D→R D:=eQ 2 0 X1
def N6:En→R D:=ij (b9 (ai (m2 gU (aN aI (ai (aj 1) af)) (mC (.int 1))) af)) [0,1] 1 (cX 2) none (m2 aJ (m2 aJ (aj 0) (m2 aJ (aj 1) (aj 2))) (m2 aJ (aj 1) (m2 bL (aj 2) (mC (.int 1)))))
def X2:En→O:=(aH (aN gi (ai N6 af)))
def DA:List D→R D:=bM 2 0 X2
def X3:En→O:=(aw (bf (aS (m2 oEq (aN aI (ai (aj 1) af)) (mC (.int 1))))
 (aH (mC (.int 0)))
 cB)
 (aH (m2 bL (bq DA (ai (ag 0) (ai (ag 1) af))) (m2 aJ (m2 aJ (aj 0) (m2 aJ (aj 1) (m1 eJ (mC (.int 1))))) (m2 aJ (aj 1) (mC (.int 0)))))))
def Hr:List D→R D:=bM 2 0 X3
def X4:En→O:=(aH (bq Hr (ai (m1 (bw r9 "lengths") (aj 0)) (ai (bN 11 "answer" Dz (ag 0) (ai (ag 1) af)) af))))
def w8:List D→R D:=bM 2 0 X4
def N7:En→R D:=ij (cA (bq zH (ai (ag 1) (ai (mC (.int 1)) af)))) [0] 1 (cX 1) none (m2 cC (m2 aJ (m1 (bw zD "things") (aj 0)) (aj 1)) (mC (.int 0)))
def X5:En→O:=(aH (aN gi (ai N7 af)))
def w9:List D→R D:=bM 2 0 X5
def X6:En→O:=(aH (aN aI (ai (m1 (bw ou "falling") (aj 0)) af)))
def vH:List D→R D:=bM 1 0 X6
def X7:En→O:=(aH (aN aI (ai (m1 (bw ou "falling") (aj 0)) af)))
def vI:List D→R D:=bM 1 0 X7
def X8:En→O:=(aH (aN aI (ai (m1 (bw uv "sets") (aj 0)) af)))
def vJ:List D→R D:=bM 1 0 X8
def X9:En→O:=(aH (m1 (bw r_ "many") (aj 0)))
def vK:List D→R D:=bM 1 0 X9
def X_:En→O:=(aH (m2 gU (aN aI (ai (m1 (bw r9 "lengths") (aj 0)) af)) (mC (.int 1))))
def vL:List D→R D:=bM 1 0 X_
def X':En→O:=(aH (aN aI (ai (m1 (bw zD "things") (aj 0)) af)))
def vM:List D→R D:=bM 1 0 X'
def Ya:En→O:=(aw (aB (aN uu (ai (ag 1) af)) (aV 2))
 (fi (F_ (ai (aN uq (ai (m2 bL (aj 2) (mC (.int 1))) (ai (m1 (bw r_ "many") (aj 0)) af))) af))))
def zI:List D→R D:=eQ 2 1 Ya
def N8:En→R D:=ij (qZ (ai (aj 2) af)) [3] 2 (dM 2 (eS (cX 1) (eS (cX 2) ef))) (some (aS (m2 oLe (aj 0) (aj 2)))) (ag 1)
def Yb:En→O:=(aw (aB (bN 9 "free" zG (ag 0) (ai (ag 1) af)) (aV 2))
 (aw (aB (m2 aJ (m1 (bw ou "falling") (aj 0)) (aN aI (ai (aj 1) af))) (aV 3))
 (fi (m2 fS N8 (bT (ai (aN aI (ai (aj 2) af)) af))))))
def zJ:List D→R D:=eQ 2 2 Yb
def zK:En→O:=(bf (k9 (aS (m2 x8 (aj 4) (aj 3))) (aS (m2 va (ag 4) (aj 2))))
 (fi (bT (ai (mC (.int 1)) af)))
 cB)
def N9:En→O:=dE (cA (bN 7 "not_covered" Dx (ag 0) (ai (ag 1) af))) (aV 4) zK
def Yc:En→O:=(aw (aB (m2 aJ (m1 (bw ym "cheapest") (aj 0)) (m2 bL (aN aI (ai (aj 1) af)) (mC (.int 1)))) (aV 2))
 (aw (aB (m2 cC (m2 aJ (m1 (bw uv "sets") (aj 0)) (aN aI (ai (aj 1) af))) (mC (.int 1))) (aV 3))
 (aw N9
 (fi (bT (ai (mC (.int 0)) (ai (mC (.int 1)) af)))))))
def zL:List D→R D:=eQ 2 3 Yc
def Yd:En→O:=(aw (aB (m2 gU (m1 (bw r_ "many") (aj 0)) (aN aI (ai (aj 1) af))) (aV 2))
 (fi (x_ (ai (bq yo (ai (ag 1) af)) (ai (m2 bL (m2 gU (aN aI (ai (m1 (bw r9 "lengths") (aj 0)) af)) (aj 2)) (mC (.int 1))) af)))))
def zM:List D→R D:=eQ 2 1 Yd
def Hs:En→R D:=ij (b9 (ai (mC (.int 1)) (ai (aN aI (ai (m1 (bw r9 "lengths") (aj 0)) af)) af))) [1] 1 (cX 1) (some (aS (m2 zl (aj 1) (aj 0)))) (ag 1)
def Ye:En→O:=(fi Hs)
def zO:List D→R D:=eQ 2 0 Ye
def Ht:En→R D:=ij (cA (bq zH (ai (ag 1) (ai (mC (.int 0)) af)))) [0] 1 (cX 1) none (m2 cC (m2 aJ (m1 (bw zD "things") (aj 0)) (aj 1)) (mC (.int 1)))
def Yf:En→O:=(aw (aB (aN gi (ai Ht af)) (aV 2))
 (aw (bf (aS (m2 oLe (m2 bL (aj 2) (m2 cC (m2 aJ (m1 (bw zD "things") (aj 0)) (aN aI (ai (aj 1) af))) (mC (.int 1)))) (m1 (bw yn "room") (aj 0))))
 (fi (bT (ai (mC (.int 0)) (ai (mC (.int 1)) af))))
 cB)
 (fi (bT (ai (mC (.int 1)) af)))))
def zP:List D→R D:=eQ 2 1 Yf
def N_:En→R D:=ij (rk (ai (bg 0 8 (bN 8 "ways" zI (ag 0) (ai (ag 1) af)) (bg 0 9 (bN 9 "ways" zJ (ag 0) (ai (ag 1) af)) (bg 0 7 (bN 7 "ways" zL (ag 0) (ai (ag 1) af)) (bg 0 12 (bN 12 "ways" zM (ag 0) (ai (ag 1) af)) (bg 0 11 (bN 11 "ways" zO (ag 0) (ai (ag 1) af)) (bN 10 "ways" zP (ag 0) (ai (ag 1) af))))))) af)) [1] 1 (cX 1) none (m2 oo (aj 0) (bY (ai (ag 1) af)))
def Yg:En→O:=(fi N_)
def w_:List D→R D:=eQ 2 0 Yg
def DB:En→R Bool:=(aS (m2 uk (aN aI (ai (aj 6) af)) (mC (.int 0))))
def DC:En→O:=(aw (u_ (fun i j=>i+j) 5 (mC (.int 1)))
 (aw (bf (aS (m2 uk (aj 5) (aj 1)))
 (x5 3 (ai (mC (.str "more cases than may be looked at")) af))
 cB)
 (aw (wN 6 (aV 7))
 (aw (aB (bg 0 8 (bN 8 "low" wW (ag 0) (ai (ag 7) af)) (bg 0 9 (bN 9 "low" wX (ag 0) (ai (ag 7) af)) (bg 0 7 (bN 7 "low" wY (ag 0) (ai (ag 7) af)) (bg 0 12 (bN 12 "low" wZ (ag 0) (ai (ag 7) af)) (bg 0 11 (bN 11 "low" w8 (ag 0) (ai (ag 7) af)) (bN 10 "low" w9 (ag 0) (ai (ag 7) af))))))) (aV 8))
 (bf (k9 (aS (m2 zf (aj 3) (mC .non))) (aS (m2 vd (aj 8) (aj 3))))
 (rX 4 (ag 7))
 (bf (aS (m2 oEq (aN aI (ai (aj 7) af)) (bg 0 8 (bN 8 "steps" vH (ag 0) af) (bg 0 9 (bN 9 "steps" vI (ag 0) af) (bg 0 7 (bN 7 "steps" vJ (ag 0) af) (bg 0 12 (bN 12 "steps" vK (ag 0) af) (bg 0 11 (bN 11 "steps" vL (ag 0) af) (bN 10 "steps" vM (ag 0) af))))))))
 (aw (rX 4 (ag 7))
 (aw (aB (ag 7) (aV 2))
 (aB (ag 8) (aV 3))))
 (yk 6 (bq w_ (ai (ag 0) (ai (ag 7) af))))))))))
def Oa:En→O:=wF DB DC
def Hu:En→O:=(aw (aB (mC .non) (aV 2))
 (aw (aB (mC .non) (aV 3))
 (aw (aB (bT af) (dq 4))
 (aw (aB (mC (.int 0)) (aV 5))
 (aw (aB (bT (ai (bY af) af)) (dq 6))
 (aw Oa
 (rf 4 (aH (bY (ai (ag 2) (ai (ag 3) (ai (ag 4) af))))))))))))
def BQ:List D→R D:=bM 2 7 Hu
def zQ:En→R Bool:=(aS (m2 iG (m2 aJ (aj 2) (m1 eJ (mC (.int 1)))) (aj 3)))
def DE:En→O:=(aw (wN 2 (aV 4))
 (aw (bf (jv (aS (m2 oEq (aN aI (ai (aj 4) af)) (bg 0 8 (bN 8 "steps" vH (ag 0) af) (bg 0 9 (bN 9 "steps" vI (ag 0) af) (bg 0 7 (bN 7 "steps" vJ (ag 0) af) (bg 0 12 (bN 12 "steps" vK (ag 0) af) (bg 0 11 (bN 11 "steps" vL (ag 0) af) (bN 10 "steps" vM (ag 0) af)))))))) (aS (m2 iG (h6 (aj 3) bZ (dF (aN aI (ai (aj 4) af)))) (aj 4))))
 (aH (mC (.bl false)))
 cB)
 (yk 2 (bq w_ (ai (ag 0) (ai (ag 4) af))))))
def Yh:En→O:=wF zQ DE
def zR:En→O:=(aw (bf (aS (m2 oEq (aN aI (ai (aj 2) af)) (mC (.int 0))))
 (aH (mC (.bl false)))
 cB)
 (aw Yh
 (BF 2)))
def Ob:En→O:=dE (cA (ag 1)) (aV 3) zR
def Yi:En→O:=(aw (aB (bT (ai (bY af) af)) (dq 2))
 (aw Ob
 (aH (m2 oEq (aN aI (ai (aj 2) af)) (mC (.int 0))))))
def DF:List D→R D:=bM 2 3 Yi
def Hv:En→R D:=ij (cA (aj 3)) [2,0] 1 (cX 2) none (m2 oLt (bg 1 8 (bN 8 "low" wW (ag 1) (ai (ag 2) af)) (bg 1 9 (bN 9 "low" wX (ag 1) (ai (ag 2) af)) (bg 1 7 (bN 7 "low" wY (ag 1) (ai (ag 2) af)) (bg 1 12 (bN 12 "low" wZ (ag 1) (ai (ag 2) af)) (bg 1 11 (bN 11 "low" w8 (ag 1) (ai (ag 2) af)) (bN 10 "low" w9 (ag 1) (ai (ag 2) af))))))) (aj 0))
def Yj:En→O:=(aw (bf (qY (aS (bq DF (ai (ag 0) (ai (ag 3) af)))))
 (aH (mC (.str "parts")))
 cB)
 (aw (bf (aS (aN rH (ai Hv af)))
 (aH (mC (.str "low")))
 cB)
 (aw (bf (jv (aS (m2 yh (aj 1) (aj 3))) (jv (aS (m2 og (aN aI (ai (aj 1) af)) (bg 0 8 (bN 8 "steps" vH (ag 0) af) (bg 0 9 (bN 9 "steps" vI (ag 0) af) (bg 0 7 (bN 7 "steps" vJ (ag 0) af) (bg 0 12 (bN 12 "steps" vK (ag 0) af) (bg 0 11 (bN 11 "steps" vL (ag 0) af) (bN 10 "steps" vM (ag 0) af)))))))) (aS (m2 og (bg 0 8 (bN 8 "low" wW (ag 0) (ai (ag 1) af)) (bg 0 9 (bN 9 "low" wX (ag 0) (ai (ag 1) af)) (bg 0 7 (bN 7 "low" wY (ag 0) (ai (ag 1) af)) (bg 0 12 (bN 12 "low" wZ (ag 0) (ai (ag 1) af)) (bg 0 11 (bN 11 "low" w8 (ag 0) (ai (ag 1) af)) (bN 10 "low" w9 (ag 0) (ai (ag 1) af))))))) (aj 2)))))
 (aH (mC (.str "case")))
 cB)
 (aH (mC .non)))))
def xa:List D→R D:=bM 4 0 Yj
def Oc:En→O:=(aw (bf (jv (aS (m2 gv (aj 0) (bY af))) (aS (m2 oEq (m2 oMod (aj 1) (mC (.int 4))) (mC (.int 0)))))
 (aH (m2 oo (aj 0) (bY (ai (m2 oMod (m2 oDiv (aj 1) (mC (.int 4))) (mC (.int 5))) af))))
 cB)
 (aw (bf (aS (m2 oEq (m2 oMod (aj 1) (mC (.int 4))) (mC (.int 1))))
 (aH (h6 (aj 0) bZ (dF (m1 eJ (mC (.int 1))))))
 cB)
 (aw (bf (aS (m2 oEq (m2 oMod (aj 1) (mC (.int 4))) (mC (.int 2))))
 (aH (m2 oo (h6 (aj 0) bZ (dF (m1 eJ (mC (.int 1))))) (bY (ai (m2 bL (m2 cC (aj 0) (m1 eJ (mC (.int 1)))) (mC (.int 1))) af))))
 cB)
 (aH (bY (ai (m2 oMod (m2 oDiv (aj 1) (mC (.int 4))) (mC (.int 3))) (ai (m2 gU (m2 oMod (m2 oDiv (aj 1) (mC (.int 12))) (mC (.int 3))) (mC (.int 1))) af)))))))
def yp:List D→R D:=bM 2 0 Oc
def Hw:En→R D:=ij (cA (bg 0 8 (bN 8 "ways" zI (ag 0) (ai (m2 aJ (aj 1) (aj 3)) af)) (bg 0 9 (bN 9 "ways" zJ (ag 0) (ai (m2 aJ (aj 1) (aj 3)) af)) (bg 0 7 (bN 7 "ways" zL (ag 0) (ai (m2 aJ (aj 1) (aj 3)) af)) (bg 0 12 (bN 12 "ways" zM (ag 0) (ai (m2 aJ (aj 1) (aj 3)) af)) (bg 0 11 (bN 11 "ways" zO (ag 0) (ai (m2 aJ (aj 1) (aj 3)) af)) (bN 10 "ways" zP (ag 0) (ai (m2 aJ (aj 1) (aj 3)) af)))))))) [1,3] 1 (cX 2) none (m2 oo (m2 aJ (aj 0) (aj 1)) (bY (ai (ag 2) af)))
def Od:En→O:=(aw (aB (m2 oMod (m2 oDiv (aj 2) (mC (.int 8))) (aN aI (ai (aj 1) af))) (aV 3))
 (aw (aB (m2 oMod (m2 oDiv (aj 2) (mC (.int 64))) (aN aI (ai (aj 1) af))) (aV 4))
 (aw (bf (aS (m2 oEq (m2 oMod (aj 2) (mC (.int 8))) (mC (.int 0))))
 (fi (m2 fS (gq (aj 1) bZ (dF (ag 3))) (gq (aj 1) (dF (m2 bL (aj 3) (mC (.int 1)))) bZ)))
 cB)
 (aw (bf (aS (m2 oEq (m2 oMod (aj 2) (mC (.int 8))) (mC (.int 1))))
 (fi (m2 fS (m2 fS (gq (aj 1) bZ (dF (ag 3))) (bT (ai (m2 aJ (aj 1) (aj 3)) af))) (gq (aj 1) (dF (ag 3)) bZ)))
 cB)
 (aw (bf (aS (m2 oEq (m2 oMod (aj 2) (mC (.int 8))) (mC (.int 2))))
 (aw (aB (aN kU (ai (aj 1) af)) (dq 5))
 (aw (zz 5 (ag 3) (ag 4) (bY (ai (m2 aJ (aj 1) (aj 4)) (ai (m2 aJ (aj 1) (aj 3)) af))))
 (A6 5)))
 cB)
 (aw (bf (k9 (aS (m2 oLt (m2 oMod (aj 2) (mC (.int 8))) (mC (.int 5)))) (aS (m2 oLt (aN aI (ai (m2 aJ (aj 1) (aj 3)) af)) (bg 0 8 (bN 8 "steps" vH (ag 0) af) (bg 0 9 (bN 9 "steps" vI (ag 0) af) (bg 0 7 (bN 7 "steps" vJ (ag 0) af) (bg 0 12 (bN 12 "steps" vK (ag 0) af) (bg 0 11 (bN 11 "steps" vL (ag 0) af) (bN 10 "steps" vM (ag 0) af)))))))))
 (aw (aB Hw (aV 6))
 (fi (m2 fS (m2 fS (gq (aj 1) bZ (dF (ag 3))) (aj 6)) (gq (aj 1) (dF (m2 bL (aj 3) (mC (.int 1)))) bZ))))
 cB)
 (fi (m2 fS (m2 fS (gq (aj 1) bZ (dF (ag 3))) (bT (ai (bq yp (ai (m2 aJ (aj 1) (aj 3)) (ai (m2 oDiv (aj 2) (mC (.int 64))) af))) af))) (gq (aj 1) (dF (m2 bL (aj 3) (mC (.int 1)))) bZ)))))))))
def BR:List D→R D:=eQ 3 4 Od
def Oe (ux:List D→R D):En→O:=(aB (bq ux (ai (ag 0) (ai (ag 1) (ai (ag 2) (ai (m2 oo (aj 3) (bY (ai (ag 4) af))) af))))) (aV 2))
def Of (ux:List D→R D):En→O:=dE (cA (bg 0 8 (bN 8 "ways" zI (ag 0) (ai (ag 3) af)) (bg 0 9 (bN 9 "ways" zJ (ag 0) (ai (ag 3) af)) (bg 0 7 (bN 7 "ways" zL (ag 0) (ai (ag 3) af)) (bg 0 12 (bN 12 "ways" zM (ag 0) (ai (ag 3) af)) (bg 0 11 (bN 11 "ways" zO (ag 0) (ai (ag 3) af)) (bN 10 "ways" zP (ag 0) (ai (ag 3) af)))))))) (aV 4) (Oe ux)
def DG (ux:List D→R D):En→O:=(aw (bf (jv (aS (m2 oLt (aj 2) (mC (.int 0)))) (aS (m2 vd (aj 2) (aN aI (ai (aj 1) af)))))
 (aH (m1 eJ (mC (.int 1))))
 cB)
 (aw (bf (aS (m2 gv (m2 aJ (aj 1) (aj 2)) (aj 3)))
 (aH (m2 bL (aj 2) (mC (.int 1))))
 cB)
 (aw (bf (jv (aS (m2 vd (aN aI (ai (aj 3) af)) (bg 0 8 (bN 8 "steps" vH (ag 0) af) (bg 0 9 (bN 9 "steps" vI (ag 0) af) (bg 0 7 (bN 7 "steps" vJ (ag 0) af) (bg 0 12 (bN 12 "steps" vK (ag 0) af) (bg 0 11 (bN 11 "steps" vL (ag 0) af) (bN 10 "steps" vM (ag 0) af)))))))) (aS (m2 iG (h6 (m2 aJ (aj 1) (aj 2)) bZ (dF (aN aI (ai (aj 3) af)))) (aj 3))))
 (aH (m1 eJ (mC (.int 1))))
 cB)
 (aw (Of ux)
 (aH (ag 2))))))
def oz:Nat→List D→R D
 | 0,_=>.no
 | n+1,ds=>bM 4 1 (DG (oz n)) ds
def ux:List D→R D:=oz 8
def BS:En→O:=(bf (aS (m2 oLt (bg 0 8 (bN 8 "low" wW (ag 0) (ai (ag 4) af)) (bg 0 9 (bN 9 "low" wX (ag 0) (ai (ag 4) af)) (bg 0 7 (bN 7 "low" wY (ag 0) (ai (ag 4) af)) (bg 0 12 (bN 12 "low" wZ (ag 0) (ai (ag 4) af)) (bg 0 11 (bN 11 "low" w8 (ag 0) (ai (ag 4) af)) (bN 10 "low" w9 (ag 0) (ai (ag 4) af))))))) (aj 2)))
 (aH (mC (.str "low")))
 cB)
def Og:En→O:=dE (cA (ag 3)) (aV 4) BS
def Yk:En→O:=(aw (bf (aS (m2 og (bq ux (ai (ag 0) (ai (ag 3) (ai (mC (.int 0)) (ai (bY af) af))))) (aN aI (ai (aj 3) af))))
 (aH (mC (.str "parts")))
 cB)
 (aw Og
 (aw (bf (jv (aS (m2 yh (aj 1) (aj 3))) (jv (aS (m2 og (aN aI (ai (aj 1) af)) (bg 0 8 (bN 8 "steps" vH (ag 0) af) (bg 0 9 (bN 9 "steps" vI (ag 0) af) (bg 0 7 (bN 7 "steps" vJ (ag 0) af) (bg 0 12 (bN 12 "steps" vK (ag 0) af) (bg 0 11 (bN 11 "steps" vL (ag 0) af) (bN 10 "steps" vM (ag 0) af)))))))) (aS (m2 og (bg 0 8 (bN 8 "low" wW (ag 0) (ai (ag 1) af)) (bg 0 9 (bN 9 "low" wX (ag 0) (ai (ag 1) af)) (bg 0 7 (bN 7 "low" wY (ag 0) (ai (ag 1) af)) (bg 0 12 (bN 12 "low" wZ (ag 0) (ai (ag 1) af)) (bg 0 11 (bN 11 "low" w8 (ag 0) (ai (ag 1) af)) (bN 10 "low" w9 (ag 0) (ai (ag 1) af))))))) (aj 2)))))
 (aH (mC (.str "case")))
 cB)
 (aH (mC .non)))))
def BU:List D→R D:=bM 4 1 Yk
def Yl:En→O:=(aw (aB (ag 1) (dM 3 (eS (aV 3) (eS (aV 4) (eS (aV 5) ef)))))
 (aw (aB (m2 oMod (aj 2) (mC (.int 6))) (aV 6))
 (aw (aB (m2 oDiv (aj 2) (mC (.int 6))) (aV 7))
 (aw (bf (jv (aS (m2 oEq (aj 6) (mC (.int 1)))) (aS (m2 oEq (aj 6) (mC (.int 4)))))
 (aB (bq BR (ai (ag 0) (ai (ag 5) (ai (ag 7) af)))) (aV 5))
 cB)
 (aw (bf (jv (aS (m2 oEq (aj 6) (mC (.int 2)))) (aS (m2 oEq (aj 6) (mC (.int 4)))))
 (aB (m2 bL (aj 4) (m2 aJ (bT (ai (mC (.int 1)) (ai (m1 eJ (mC (.int 1))) (ai (m2 gU (mC (.int 0)) (aj 4)) (ai (ag 7) af))))) (m2 oMod (m2 oDiv (aj 7) (mC (.int 512))) (mC (.int 4))))) (aV 4))
 cB)
 (aw (bf (aS (m2 oEq (aj 6) (mC (.int 3))))
 (aB (bq yp (ai (ag 3) (ai (ag 7) af))) (aV 3))
 cB)
 (aw (bf (aS (m2 oEq (aj 6) (mC (.int 5))))
 (aB (m2 aJ (aj 5) (m2 oMod (aj 7) (aN aI (ai (aj 5) af)))) (aV 3))
 cB)
 (aw (aB (aN kU (ai (aj 5) af)) (aV 8))
 (aw (aB (bq xa (ai (ag 0) (ai (ag 3) (ai (ag 4) (ai (ag 5) af))))) (aV 9))
 (aw (aB (bq BU (ai (ag 0) (ai (ag 3) (ai (ag 4) (ai (ag 8) af))))) (aV 10))
 (aw (bf (aS (m2 iG (aj 5) (aj 8)))
 (aH (mC (.bl false)))
 cB)
 (aw (bf (aS (m2 CT (aj 10) (mC .non)))
 (aH (m2 CT (aj 9) (mC .non)))
 cB)
 (aH (Fs (m1 (xU "str") (aj 9)) (m2 oEq (aj 9) (aj 10))))))))))))))))
def DH:List D→R D:=bM 3 8 Yl
def Oh:En→O:=(bf (qY (aS (bq DH (ai (ag 2) (ai (ag 3) (ai (bq pQ (ai (bq oy (ai (ag 0) (ai (mC (.int 3)) af))) (ai (m2 fE (mC (.int 19)) (aj 4)) af))) af))))))
 (aH (mC (.bl false)))
 cB)
def Ym:En→O:=dE (b9 (ai (mC (.int 3)) af)) (aV 4) Oh
def Oi:En→O:=(aw (aB (bq pQ (ai (m2 bL (bq oy (ai (ag 0) (ai (mC (.int 1)) af))) (bq oy (ai (ag 0) (ai (mC (.int 2)) af)))) (ai (mC (.int 1)) af))) (aV 1))
 (aw (aB (bq BO (ai (m2 oMod (bq oy (ai (ag 0) (ai (mC (.int 0)) af))) (mC (.int 6))) (ai (gq (aj 0) (dF (mC (.int 4))) (dF (mC (.int 63)))) (ai (ag 1) af)))) (aV 2))
 (aw (aB (bq BQ (ai (ag 2) (ai (mC (.int 2000)) af))) (aV 3))
 (aw (bf (aS (m2 zf (bq xa (ai (ag 2) (ai (m2 cC (aj 3) (mC (.int 0))) (ai (m2 cC (aj 3) (mC (.int 1))) (ai (aN kU (ai (m2 cC (aj 3) (mC (.int 2))) af)) af))))) (mC .non)))
 (aH (mC (.bl false)))
 cB)
 (aw Ym
 (aH (mC (.bl true))))))))
def Oj:List D→R D:=bM 1 4 Oi
def bF(n:Nat):List Int:=(List.range n).map fun(k:Nat)=>(k:Int)
theorem bR:t∈bF n↔0<=t/\t<(n:Int):=by
 unfold bF;rw[fP];constructor;.rintro⟨a,h,rfl⟩;simp_all
 .rintro⟨b,c⟩;exact⟨t.toNat,iU.mpr (by lia),by lia⟩
theorem hI:(bF n).length=n:=by simp[bF]
theorem mR{n:Nat}(h:n<=1000):lI [.int (n:Int)]=some ((bF n).map .int):=by rw[Ba (by lia) (by lia),LU,bF,cK];rfl
noncomputable def gA(L:List Int)(i:Int):Int:=L.getD i.toNat 0
theorem Hx(h:i.toNat<L.length):L[i.toNat]?=some (gA L i):=by simp[gA,h]
theorem Ol{α:Type}{f g:α->Int}:∀{l:List α},(l.map fun x=>f x+g x).sum=(l.map f).sum+(l.map g).sum |[]=>rfl |a::l=>by have c:=Ol (f:=f) (g:=g) (l:=l);simp[bH,List.sum_cons];lia
theorem Om{α:Type}:∀{l:List α},(l.map fun _=>c).sum=(l.length:Int)*c |[]=>by simp |a::l=>by rw[bH,List.sum_cons,Om,gm,Int.natCast_add,Int.add_mul];lia
theorem Hy{α:Type}(enc:α->D)(p:α->Bool)(g:α->D)(l:List α)(h:∀x∈l,f (enc x)=.ok (if p x=true then some (g x) else none)):oh f (l.map enc)=.ok ((l.filter p).map g):=by induction l with |nil=>rfl |cons a l i=>
 have c:=h a (by simp);have d:=i fun x k=>h x (by simp[k]);rw[bH,oh,c,d];by_cases e:p a=true;.simp[e]
 simp_all
theorem yq(ns:List Int):gi [iL ns]=some (.int ns.sum):=by simp[gi,iL,rZ]
theorem DI(h0:0<=k)(h1:k.toNat<L.length):aJ (iL L) (.int k)=some (.int (gA L k)):= xX h0 (by simp[Hx h1])
theorem Oo(h:δ[i]?=some (.o (iL L)))(c:mi δ=.ok (.int k))(h0:0<=k)(h1:k.toNat<L.length)(d:me δ=.ok (.int y)): zc f i mi me δ=.nx (δ.set i (.o (iL (L.set k.toNat (f (gA L k) y))))):=by
 have b:gK (L.map D.int).length k=some k.toNat:=by unfold gK;rw[aq h0,aq (by simp_all)]
 have a:(L.map D.int)[k.toNat]?=some (.int (gA L k)):=by simp[Hx h1]
 unfold zc;rw[h];simp only[iL,c,R.dn,b,a,d];simp
theorem Oq:iF (.int 10) (.int 20)=some (.int 100000000000000000000):=C0 ⟨by decide,by decide,by decide⟩
theorem Hz:iF (.int 10) (.int 18)=some (.int 1000000000000000000):=C0 ⟨by decide,by decide,by decide⟩
theorem Yn(ns:List Int)(k:Nat):oy [.ig ns,.int k]=.ok (.int (ns.getD k 0)):=by
  by_cases h:k<ns.length
  . have e:aJ (.ig ns) (.int (k))=some (.int (ns.getD k 0)):=by show(jd _ _).map _=_;rw[mH (d:=ns.getD k 0) (by simp_all)];rfl
    simp[oy,bM,pH,GN,aw,bf,aS,aH,aj,aN,ai,af,aI,h,e]
  .simp[oy,bM,pH,GN,aw,bf,aS,aH,aj,mC,aN,ai,af,aI,h,cB]
theorem DJ(ns:List Int)(h:0<=k):oy [.ig ns,.int k]=.ok (.int (ns.getD k.toNat 0)):=by have:=Yn ns k.toNat;rwa[show(k.toNat:Int)=k by lia] at this
theorem lQ(h:m δ=.rt d):aw m n δ=.rt d:=by unfold aw;rw[h]
theorem HB(h:δ[i]?=some (.o (.lst l)))(b:me δ=.ok d)(a:l.length<=100000):rX i me δ=.nx (δ.set i (.o (.lst (l++[d])))):=by unfold rX;rw[h];simp[b,R.dn];rw[fY (je a (by decide))]
theorem m9(a:Int)(h:0<b):0<=a%b:=Int.emod_nonneg _ (by omega)
theorem oA(a:Int)(h:0<b):a%b<b:=Int.emod_lt_of_pos _ h
abbrev Ps:=Int×List Int
def fU(s:Ps):D:=.tup [.int s.1,iL s.2]
def bX(l:List Ps):D:=.lst (l.map fU)
structure Good(n:Nat)(s:Ps):Prop where
 lo:0<=s.1hi:s.1<=1000000000000000000nd:s.2.Nodup
 mem:∀t∈s.2,0<=t/\t<(n:Int)
theorem Yo(n:Nat):((List.range n).map fun(k:Nat)=>(k:Int)).Nodup:=by refine List.Pairwise.map _ (fun a b h e=>h (Int.ofNat.inj e)) qs
theorem Yp(g:Good n s):s.2.length<=n:=by have h:=sq (l₂:=(List.range n).map fun(k:Nat)=>(k:Int)) g.nd (fun t a=>by obtain⟨c,b⟩:=g.mem t a;exact fP.mpr ⟨t.toNat,iU.mpr (by omega),by omega⟩);simp_all
theorem HC{n:Nat}(h:n<=1000):lI [.int (n:Int)]=some (((List.range n).map fun(k:Nat)=>(k:Int)).map .int):=by rw[Ba (by omega) (by omega),LU,cK];rfl
def eR(n:Nat):List Int:=(List.range n).map fun(k:Nat)=>(k:Int)
theorem cQ:t∈eR n↔0<=t/\t<(n:Int):=by
 unfold eR;rw[fP];constructor;.rintro⟨a,h,rfl⟩;simp_all
 .rintro⟨b,c⟩;exact⟨t.toNat,iU.mpr (by omega),by omega⟩
theorem Ot:(eR n).length=n:=by simp[eR]
theorem Yq(n:Nat):(eR n).Nodup:=Yo n
theorem vN{n:Nat}(h:n<=1000):lI [.int (n:Int)]=some ((eR n).map .int):=HC h
def lo1(t b:Int):Int:=t/(Int.gcd t b:Int)
def uy(t b:Int):Int:=b/(Int.gcd t b:Int)
theorem DK(h:0<b):(0:Int)<Int.gcd t b:=by have:0<Int.gcd t b:=Int.gcd_pos_of_ne_zero_right _ (by omega);lia
theorem Yr:lo1 t b*(Int.gcd t b:Int)=t:=Int.ediv_mul_cancel (Int.gcd_dvd_left ..)
theorem HD:uy t b*(Int.gcd t b:Int)=b:=Int.ediv_mul_cancel (Int.gcd_dvd_right ..)
theorem Ys(h:0<b):0<uy t b:=by
 have a:=DK (t:=t) h;have c:=HD (t:=t) (b:=b);rcases Int.lt_trichotomy (uy t b) 0 with z|z|z;.have:=Int.mul_neg_of_neg_of_pos z a;lia
 .simp_all
 omega
theorem Yt(h:0<b):(uy t b).natAbs<=b.natAbs:=by
 have c:=DK (t:=t) h;have e:=HD (t:=t) (b:=b);have:b.natAbs=(uy t b).natAbs*(Int.gcd t b):=by
  conv=>lhs;rw[<-e]
  rw[Int.natAbs_mul];simp
 rw[this];exact Nat.le_mul_of_pos_right _ (by lia)
def ins(L:List Int)(t:Int):List Int:=if t∈L then L else L++[t]
def f7(L ts:List Int):List Int:=ts.foldl ins L
theorem cn:∀{L:List Int}{t:Int},t∈f7 L ts↔t∈L\/t∈ts:=by induction ts with |nil=>simp[f7] |cons a l d=>
 intro L t;show t∈f7 _ l↔_;rw[d];unfold ins;by_cases h:a∈L;.grind
 .rw[ao h,bO,bP,aY];grind
theorem BV:∀{L:List Int},L.Nodup->(f7 L ts).Nodup:=by induction ts with |nil=>intro L h;exact h |cons a l d=>
 intro L h;refine d ?_;unfold ins;by_cases z:a∈L;.simp_all
 .rw[ao z,fQ];exact⟨h,by simp,fun x f y g e=>by simp_all⟩
theorem HE:f7 L (ts++us)=f7 (f7 L ts) us:=by simp[f7]
theorem HF{L:List Int}(h:L.Nodup)(b:∀t∈L,t∈eR n):L.length<=n:=by have:=sq h b;rwa[Ot] at this
theorem HG(c:i≠j)(G:n<=1000):∀(ts:List Int)(δ:En)(L:List Int)(o:Option D),δ[j]?=some (.o (dk L))->δ[i]?=some (sv o)->L.Nodup->(∀t∈L,t∈eR n)->(∀t∈ts,t∈eR n)-> ∃m,jF (aV i) (sW j (ag i) (mC (.bl true))) (ts.map .int) δ=.nx ((δ.set j (.o (dk (f7 L ts)))).set i (sv m))
  |[],δ,L,o,l,h,_,_,_=>by
    refine⟨o,?_⟩;have d:δ.set j (.o (dk L))=δ:=by
      apply kd;intro k;by_cases e:j=k;.subst e;rw[bu (b'.mp l).1,l]
      simp_all
    have f:δ.set i (sv o)=δ:=by
      apply kd;intro k;by_cases e:i=k;.subst e;rw[bu (b'.mp h).1,h]
      simp_all
    show O.nx _=.nx ((δ.set j (.o (dk L))).set i _);grind |t::ts,δ,L,o,l,h,s,E,r=>by
    have a:=(b'.mp h).1;have g:=(b'.mp l).1;have y:aV i (.int t) _=some _:=kW h;have w:(δ.set i (.v (.int t)))[j]?=some (.o (dk L)):=by simp_all
    have A:ag i (δ.set i (.v (.int t)))=.ok (.int t):=by unfold ag;rw[bu a]
    have C:=HF s E;have p:=Ui (me:=mC _) w A rfl (by lia);obtain⟨m,B⟩:=HG c G _ ((δ.set i (.v _)).set j (.o (dk (ins L t)))) _ (some _) (bu (by simpa using g)) (by rw[aQ (aR c),bu a];rfl) (BV (ts:=[t]) s) (fun x q=>by
        rcases(cn (ts:=[t])).mp q with z|z;.simp_all
        . have:=by simpa using z
          subst this;exact r x kg) (fun x q=>r x (bJ _ q));refine⟨m,?_⟩;rw[bH];unfold jF;rw[y];simp only;rw[show sW j (ag i) _ _=.nx ((δ.set i _).set j (.o (dk (ins L t)))) from p];simp only;rw[B];congr 1;apply kd;intro k;by_cases d:i=k;.subst d;rw[bu (by simpa using a),bu (by simpa using a)]
    . rw[aQ d,aQ d];by_cases f:j=k;.subst f;rw[bu (by simpa using g),bu (by omega)];rfl
      .rw[aQ f,aQ f,aQ f,aQ d]
structure gX(n:Nat)(sets:List Ps):Prop where
 good:∀s∈sets,Good n s
 qy:sets.length<=1000n1:n<=1000
def things(sets:List Ps):List Int:=sets.flatMap (·.2)
def num(c k:Int):Int:=(c%100000000000000000000+k*k+1)*(48271+2*k)%2147483647
theorem Ou(c k:Int)(h0:0<=k)(h1:k<=1000):pQ [.int c,.int k]=.ok (.int (num c k)):=by have g:=Int.mul_nonneg h0 h0;have f:=Int.mul_le_mul h1 h1 h0 (by decide);have d:eI k:=c8 1000 (by lia);have b:eI 2:=c8 1000 (by decide);have e:eI (c%100000000000000000000+k*k+1):=c8 (10^21) (by lia);have a:eI (48271+2*k):=c8 (10^21) (by lia);simp[pQ,bM,pH,Nj,aH,aj,mC,Oq,hV,vj,d,b,e,a,num]
theorem Yu(c k:Int):0<=num c k:=m9 _ (by decide)
theorem Yv(c k:Int):num c k<2147483647:=oA _ (by decide)
theorem BX(c:Int)(h0:0<=k)(h1:k<=1000):∃x:Int,pQ [.int c,.int k]=.ok (.int x)/\0<=x/\x<2147483647:= ⟨_,Ou c k h0 h1,m9 _ (by decide),oA _ (by decide)⟩
def mS(q:Int×Nat):D:=.tup [.int (q.2:Int),.int q.1]
theorem Yw(h:δ[i]?=some (.v (iL ps))):qZ (ai (ag i) af) δ=.ok (ps.zipIdx.map mS):=by
 have a:qC (ps.map D.int)=ps.zipIdx.map mS:=by rw[C2,List.zipIdx_map,cK];rfl
 simp[qZ,ai,ag,h];show R.of (some _)=_;simp_all
theorem Ov(c:Int)(h0:0<=k)(h1:k<=1000):∃a:Int,tJ [.int c,.int k]=.ok (.int a)/\0<=a/\a<=1000000000000000000:=by
 obtain⟨x,g,p,o⟩:=BX c h0 h1;have e:eI 3:=c8 100 (by decide);have f:eI (c%100000000000000000000):=c8 (10^21) (by lia);have h:eI 6364136223846793005:=c8 (10^21) (by decide);have b:aB (bq pQ (ai (ag 0) (ai (ag 1) af))) (aV 2) [.v _,.v _,.no]=.nx [.v (.int c),.v (.int k),.v (.int x)]:=dP (by simp[bq,ai,af,ag,g]) rfl;have i:∀j,aS (m2 oEq (m2 oMod (aj 2) (mC (.int 3))) (mC (.int j))) [.v (.int c),.v (.int k),.v (.int x)]=.ok (decide (x%3=j)):=fun j=>by simp[aS,aj,mC,hV (show 0<3 by decide)]
 by_cases l:x%3=0;.refine⟨x/3%4,gw ((br b).trans (lQ ((hZ (by simp_all)).trans ?_))),by lia,by lia⟩;simp[aH,aj,mC,nR _ e,hV _]
 have d:bf (aS _) (aH (m2 oMod (m2 oDiv (aj 2) (mC (.int 3))) (mC (.int 4)))) _ _=.nx _:=(fG (by rw[i,b8 l])).trans rfl;by_cases n:x%3=1;.refine⟨x/3%30,gw ((br b).trans ((br d).trans (lQ ((hZ (by simp_all)).trans ?_)))),by lia,by lia⟩;simp[aH,aj,mC,nR (by decide) e,hV _]
 .have m:=m9 (c%100000000000000000000*6364136223846793005+x) (show 0<1000000000000000001 by decide);refine⟨_,gw ((br b).trans ((br d).trans ((br ((fG (by simp_all)).trans rfl)).trans ?_))),m,by lia⟩;simp[aH,aj,mC,Oq,Hz,hV,vj f h]
theorem Ow{t:Nat}(j:t<=100):∃b:Int,zE [.int x,.int t]=.ok (.int b):=by have h:eI 2:=c8 100 (by decide);obtain⟨a,f,y,o,rfl⟩:=lO (b:=aV 2) (m:=Nl) _ (fun _ a=>∃y o,a=[.v (.int y),.v (.int t),sv o]) (eR t) (by rintro g i d a c ⟨y,o,rfl⟩;exact⟨_,[.v (.int (y/2)),.v _,.v (.int i)],kW rfl,.inl (dP (by simp[aj,mC,nR _ h]) rfl),_,some _,rfl⟩) _ ⟨x,none,rfl⟩;refine⟨y%2,gw ?_⟩;have e:Nm _=_:=(lN (by simp[b9,ai,af,ag,vN (show t<=1000 by lia)])).trans f;refine(br e).trans ?_;simp[aH,aj,mC,hV _]
theorem Yx(c:Int){t:Nat}(h0:0<=k)(h1:k<=500)(f:t<=100):∃b:Bool,BL [.int c,.int k,.int t]=.ok (.bl b):=by obtain⟨x,i,p,q⟩:=BX c (show 0<=k+50 by lia) (by lia);obtain⟨y,h,r,o⟩:=BX c (show 0<=k+90 by lia) (by lia);obtain⟨e,j⟩:=Ow (x:=x) f;obtain⟨a,l⟩:=Ow (x:=y) f;have n:eI 65536:=c8 100000 (by decide);have g:aB (bq pQ (ai (ag 0) (ai (m2 bL (aj 1) (mC (.int 50))) af))) (aV 3) [.v (.int c),.v (.int k),.v (.int t),.no,.no]=.nx [.v _,.v _,.v _,.v (.int x),.no]:=dP (by simp[bq,ai,af,ag,aj,mC,i]) rfl;have m:aB (m2 bL (bq zE (ai (ag 3) (ai (ag 2) af))) (bq zE (ai (bq pQ (ai (ag 0) (ai (m2 bL (aj 1) (mC (.int 90))) af))) (ai (ag 2) af)))) (aV 4) [.v (.int c),.v (.int k),.v (.int t),.v (.int x),.no]=.nx [.v _,.v _,.v _,.v _,.v (.int (e+a))]:=dP (by simp[bq,ai,af,ag,aj,mC,h,j,l]) rfl;refine⟨_,gw (d:=.bl (decide (1-x/65536%2<e+a))) ((br g).trans ((br m).trans ?_))⟩;simp[aH,aj,mC,nR _ n,hV _]
def tI(l:List Int):Tr:=.l (l.map fun i=>.d (.int i))
def tS(s:Ps):Tr:=.t [.d (.int s.1),tI s.2]
def tP(l:List Ps):Tr:=.l (l.map tS)
theorem Ox:∀l:List Int,fe (l.map fun i=>.d (.int i))=l.map .int |[]=>rfl |i::l=>by simp[bH,fe,jt,Ox l]
theorem Yy(s:Ps):jt (tS s)=fU s:=by simp[tS,tI,jt,fe,Ox,fU,iL]
theorem Oy:∀l:List Ps,fe (l.map tS)=l.map fU |[]=>rfl |s::l=>by simp[bH,fe,Yy,Oy l]
theorem HH(l:List Ps):jt (tP l)=bX l:=by simp[tP,jt,Oy,bX]
theorem Yz{n:Nat}(hn:n<=12)(hc:cs.length<=5):∃sets:List Ps,GP [iL cs,.int n]=.ok (bX sets)/\gX n sets/\sets.length<=5/\∀t∈eR n,∃s∈sets,t∈s.2:=by
  obtain⟨C,eC⟩:∃C,C=iL cs:=⟨_,rfl⟩;obtain⟨Dl,h1,S,c,r,rfl,YA,YB⟩:=lO (b:=dM 2 (eS (aV 3) (eS (aV 4) ef))) (m:=Nn) mS (fun B K=>∃(S:List Ps) (c r:Option D),K=[.v C,.v (.int n),.p (tP S),sv c,sv r,.no,.no]/\(∀s∈S,Good n s)/\S.length=B.length) cs.zipIdx (by
      rintro B q Y K A ⟨S,c,r,rfl,g,hl⟩;have hk:=Uj A;have qk:q.2<5:=by have:=(b'.mp hk.2.1).1;lia
      have Q:∀t∈eR n,∃b:Bool,BL [.int q.1,.int q.2,.int t]=.ok (.bl b):=fun t H=>by have N:=cQ.mp H;obtain⟨b,Q⟩:=Yx q.1 (k:=q.2) (t:=t.toNat) (by lia) (by lia) (by lia);rw[show((t.toNat:Nat):Int)=t by lia] at Q;simp_all
      obtain⟨f,hf⟩:∃f:Int->Bool,∀t∈eR n,BL [.int q.1,.int q.2,.int t]=.ok (.bl (f t)):=by classical exact⟨fun t=>if h:t∈eR n then(Q t h).choose else false,fun t H=>by have:=(Q t H).choose_spec;grind⟩
      obtain⟨G,M⟩:∃G,G=(eR n).filter f:=⟨_,rfl⟩;have k:GO [.v C,.v (.int n),.p (tP S),.v (.int q.2),.v (.int q.1),.no,.no]=.ok (iL G):=by refine jP (l:=(eR n).map .int) (by simp[b9,ai,af,ag,vN (show n<=1000 by lia)]) (by rw[aW,Ot];lia) ?_;rw[M];refine FY .int _ _ fun t H=>?_;have e:c9 [.v C,.v (.int n),.p (tP S),.v (.int q.2),.v (.int q.1),.no,.no] [4,3] 1=[.v (.int q.1),.v (.int q.2),.no]:=rfl;rw[e];have:=hf t H;cases z:f t<;>simp[iN,cX,aS,bq,ai,af,ag,this,z]
      obtain⟨a,ha,a0,a1⟩:=Ov q.1 (k:=q.2) (by lia) (by lia);have q1:aB GO (dq 5) [.v C,.v (.int n),.p (tP S),.v (.int q.2),.v (.int q.1),.no,.no]=.nx [.v C,.v (.int n),.p (tP S),.v (.int q.2),.v (.int q.1),.o (iL G),.no]:=dP k rfl;have q2:Dk 2 5 (bq tJ (ai (ag 4) (ai (ag 3) af))) [.v C,.v (.int n),.p (tP S),.v (.int q.2),.v (.int q.1),.o (iL G),.no]=.nx [.v C,.v (.int n),.p (tP (S++[(a,G)])),.v (.int q.2),.v (.int q.1),.no,.no]:=by
        have am:bq tJ (ai (ag 4) (ai (ag 3) af)) [.v C,.v (.int n),.p (tP S),.v (.int q.2),.v (.int q.1),.o (iL G),.no]=.ok (.int a):=by simp[bq,ai,af,ag,ha]
        show R.fu (bq tJ (ai (ag 4) (ai (ag 3) af)) [.v C,.v (.int n),.p (tP S),.v (.int q.2),.v (.int q.1),.o (iL G),.no]) _ _=_;rw[am,R.dn,fY (by
          have:B.length<=cs.length:=by have:=dh List.length A;grind
          rw[aW,hl];exact je (bK this hc) (by decide))];simp[tP,tS,tI,Function.comp]
      refine⟨[.v C,.v (.int n),.p (tP S),.v (.int q.2),.v (.int q.1),.no,.no],_,by rcases c with _|c<;>rcases r with _|r<;>rfl,.inl ((br q1).trans q2),S++[(a,G)],some (.int q.2),some (.int q.1),rfl,fun s E=>?_,by simp[hl]⟩;rcases bO.mp E with z|z;.exact g s z
      .rw[bP.mp z];refine⟨a0,a1,by show G.Nodup;rw[M];exact(Yq n).filter _,fun t H=>?_⟩;have N:t∈G:=H;rw[M] at N;exact cQ.mp (gy.mp N).1) [.v C,.v (.int n),.p (tP []),.no,.no,.no,.no] ⟨[],none,none,rfl,by simp,rfl⟩;have lS:S.length<=5:=by rw[YB,List.length_zipIdx];exact hc
  have q0:Dj (bT af) 2 [.v C,.v (.int n),.no,.no,.no,.no,.no]=.nx [.v C,.v (.int n),.p (tP []),.no,.no,.no,.no]:=by
    have l0:bT af [.v C,.v (.int n),.no,.no,.no,.no,.no]=.ok (.lst []):=by simp[bT,af,sizeLine]
    unfold Dj;rw[l0];rfl
  have q1:Np [.v C,.v (.int n),.p (tP []),.no,.no,.no,.no]=.nx [.v C,.v (.int n),.p (tP S),sv c,sv r,.no,.no]:=(lN (by rw[eC];exact Yw rfl)).trans h1;have Oz:∀l:List Ps,gW 8 (bX l)=true:=fun l=>by show(l.map fU).all (gW 7)=true;rw[lC,iP];intro s _;show([D.int s.1,iL s.2]).all (gW 6)=true;simp only[kb,List.all_nil,Bool.and_true];show(true&&(s.2.map D.int).all (gW 5))=true;rw[Bool.true_and,lC,iP];intro x _;rfl
  obtain⟨I,q2,g2,l2,l20⟩:∃I:List Ps,bf (aS (oj (m2 gv (aj 2) (bT af)))) (Bt 2 (mC (.int 3)) (bT af)) cB [.v C,.v (.int n),.p (tP S),sv c,sv r,.no,.no]=.nx [.v C,.v (.int n),.p (tP I),sv c,sv r,.no,.no]/\(∀s∈I,Good n s)/\I.length<=5/\0<I.length:=by
    have lv:∀K:En,bT af K=.ok (.lst []):=fun _=>by simp[bT,af,sizeLine]
    have Z:aj 2 (peek [.v C,.v (.int n),.p (tP S),sv c,sv r,.no,.no])=.ok (bX S):=by show R.ok (jt (tP S))=_;rw[HH]
    cases S with |nil=>
      have ne:gv (bX []) (.lst [])=some (.bl true):=Up (Oz []) (LX []) rfl;have J:aS (oj (m2 gv (aj 2) (bT af))) [.v C,.v (.int n),.p (tP []),sv c,sv r,.no,.no]=.ok true:=by simp only[aS,oj,d_,Z,lv,R.ak,ne,R.au];rfl
      refine⟨[(3,[])],(hZ J).trans ?_,fun s E=>?_,by simp,by simp⟩;.unfold Bt;show R.fu (mC (.int 3) _) _ _=_;simp only[mC,R.dn,lv];rw[fY (by simp[sizeLine])];rfl
      .rw[bP.mp E];exact⟨by decide,by decide,List.nodup_nil,by simp⟩ |cons s S=>
      have ne:gv (bX (s::S)) (.lst [])=some (.bl false):=by
        unfold gv;rw[fY ⟨Oz _,LX []⟩];have:bX (s::S)≠.lst []:=by intro z;cases z
        simp[this]
      have J:aS (oj (m2 gv (aj 2) (bT af))) [.v C,.v (.int n),.p (tP (s::S)),sv c,sv r,.no,.no]=.ok false:=by simp only[aS,oj,d_,Z,lv,R.ak,ne,R.au];rfl
      exact⟨s::S,(fG J).trans rfl,YA,by lia,by simp⟩
  obtain⟨oi,h2,S3,o6,rfl,g3,l3,cv⟩:=lO (b:=aV 6) (m:=Nq) D.int (fun B K=>∃(S:List Ps) (o6:Option D),K=[.v C,.v (.int n),.p (tP S),sv c,sv r,.no,sv o6]/\(∀s∈S,Good n s)/\S.length=I.length/\∀t∈B,∃s∈S,t∈s.2) (eR n) (by
      rintro B t Y K A ⟨S,o6,rfl,g,hl,cv⟩;have H:=cQ.mp (show t∈eR n by rw[A];simp);have Z:peek [.v C,.v (.int n),.p (tP S),sv c,sv r,.no,.v (.int t)]=[.v C,.v (.int n),.v (bX S),sv c,sv r,.no,.v (.int t)]:=by show[Sl.v C,.v (.int n),.v (jt (tP S)),C9 (sv c),C9 (sv r),.no,.v (.int t)]=_;rw[HH];rcases c with _|c<;>rcases r with _|r<;>rfl
      have k:Dv [.v C,.v (.int n),.v (bX S),sv c,sv r,.no,.v (.int t)]=.ok (.lst ((S.filter fun s=>decide (t∈s.2)).map fun _=>.int 1)):=by refine jP (l:=S.map fU) rfl (by rw[aW];lia) ?_;refine Hy fU _ _ _ fun s _=>?_;have e:c9 [.v C,.v (.int n),.v (bX S),sv c,sv r,.no,.v (.int t)] [6] 2=[.v (.int t),.no,.no]:=rfl;rw[e];by_cases z:t∈s.2<;>simp[iN,dM,eS,ef,cX,aS,aj,mC,fU,x8,iL,rZ,z]
      have J:aS (oj (m2 oEq (aN aI (ai Dv af)) (mC (.int 0)))) [.v C,.v (.int n),.p (tP S),sv c,sv r,.no,.v (.int t)]=.ok (decide ((S.filter fun s=>decide (t∈s.2)).length=0)):=by
        have v:m2 oEq (aN aI (ai Dv af)) (mC (.int 0)) [.v C,.v (.int n),.v (bX S),sv c,sv r,.no,.v (.int t)]=.ok (.bl (decide ((S.filter fun s=>decide (t∈s.2)).length=0))):=by simp only[d_,aN,ai,af,k,mC,R.ak,Uc,R.au,zi,aW];congr 2;exact jh.mpr (by lia)
        simp only[aS,oj,Z,v];rfl
      by_cases z:(S.filter fun s=>decide (t∈s.2)).length=0
      . rw[cP z] at J;have out:∀s∈S,t∉s.2:=fun s E H=>by have:=List.length_pos_of_mem ((gy (p:=fun s:Ps=>decide (t∈s.2))).mpr ⟨E,cP H⟩);lia
        have lp:(0:Int)<(S.length:Int):=by lia
        have r0:=m9 (t*5) lp;have r1:=oA (t*5) lp;obtain⟨j,ej⟩:∃j:Nat,(j:Int)=t*5%(S.length:Int):=⟨(t*5%(S.length:Int)).toNat,by lia⟩;have jl:j<S.length:=by lia
        obtain⟨s,E⟩:∃s,S[j]?=some s:=⟨_,bW jl⟩;have sm:=ib E;have T:=g s sm;have mk:oj (m2 oMod (m2 fE (aj 6) (mC (.int 5))) (aN aI (ai (aj 2) af))) [.v C,.v (.int n),.p (tP S),sv c,sv r,.no,.v (.int t)]=.ok (.int j):=by
          have lE:aI [bX S]=some (.int S.length):=by simp[bX]
          have v:m2 oMod (m2 fE (aj 6) (mC (.int 5))) (aN aI (ai (aj 2) af)) [.v C,.v (.int n),.v (bX S),sv c,sv r,.no,.v (.int t)]=.ok (.int j):=by simp only[d_,aj,mC,aN,ai,af,List.getElem?_cons_succ,List.getElem?_cons_zero,R.ak,lE,R.au,vj (c8 100 (by lia):eI t) (c8 100 (by decide):eI 5),hV lp,ej]
          simp only[oj,Z,v];rfl
        have ap:Bs 2 (oj (m2 oMod (m2 fE (aj 6) (mC (.int 5))) (aN aI (ai (aj 2) af)))) (mC (.int 1)) (ag 6) [.v C,.v (.int n),.p (tP S),sv c,sv r,.no,.v (.int t)]=.nx [.v C,.v (.int n),.p (tP (S.set j (s.1,s.2++[t]))),sv c,sv r,.no,.v (.int t)]:=by
          have ix:gK (S.map tS).length (j:Int)=some j:=by unfold gK;rw[aW,aq (by lia),aq (by lia)];simp
          have gt:(S.map tS)[j]?=some (tS s):=by rw[cj,E];rfl
          have lw:s.2.length<=n:=Yp T;unfold Bs;show R.fu (oj _ _) _ _=_;rw[mk,R.dn];simp only[ix,gt,tS,mC,R.dn];show R.fu (ag 6 [.v C,.v (.int n),.p (tP S),sv c,sv r,.no,.v (.int t)]) _ _=_;have v6:ag 6 [.v C,.v (.int n),.p (tP S),sv c,sv r,.no,.v (.int t)]=.ok (.int t):=rfl;rw[v6,R.dn,fY (by rw[aW];exact je (bK lw hn) (by decide))];have e:(S.map tS).set j (.t [.d (.int s.1),.l ((s.2++[t]).map fun i=>.d (.int i))])=(S.set j (s.1,s.2++[t])).map tS:=by rw[List.map_set];rfl
          show O.nx [_,_,.p (.l ((S.map tS).set j (.t [.d (.int s.1),.l ((s.2.map fun i=>.d (.int i))++[.d (.int t)])]))),_,_,_,_]=_;rw[h_] at e;rw[show[Tr.d (.int t)]=[t].map (fun i=>Tr.d (.int i)) from rfl,e];rfl
        refine⟨[.v C,.v (.int n),.p (tP S),sv c,sv r,.no,.v (.int t)],_,kW rfl,.inl ((hZ J).trans ap),S.set j (s.1,s.2++[t]),some (.int t),rfl,fun X L=>?_,by rw[qj,hl],fun u hu=>?_⟩
        . rcases List.mem_or_eq_of_mem_set L with w|w;.exact g X w
          . rw[w];refine⟨T.lo,T.hi,?_,fun u hu=>?_⟩;.show(s.2++[t]).Nodup;refine fQ.mpr ⟨T.nd,by simp,fun a ha b Q e=>?_⟩;rw[bP.mp Q] at e;rw[e] at ha;exact out s sm ha
            . rcases bO.mp hu with w|w;.exact T.mem u w
              .rw[bP.mp w];lia
        . have new:(s.1,s.2++[t])∈S.set j (s.1,s.2++[t]):=List.mem_set jl _;rcases bO.mp hu with w|w
          . obtain⟨X,L,U⟩:=cv u w;obtain⟨i,hi,ei⟩:=lF L;by_cases e:i=j
            . refine⟨_,new,jE _ ?_⟩;have:S[i]?=some X:=by rw[bW hi,ei]
              rw[e,E] at this;cases this;exact U
            . refine⟨X,?_,U⟩;have:(S.set j (s.1,s.2++[t]))[i]?=some X:=by rw[aQ (aR e),bW hi,ei]
              exact ib this
          .exact⟨_,new,dz _ w⟩
      . rw[b8 z] at J;refine⟨[.v C,.v (.int n),.p (tP S),sv c,sv r,.no,.v (.int t)],_,kW rfl,.inl ((fG J).trans rfl),S,some (.int t),rfl,g,hl,fun u hu=>?_⟩;rcases bO.mp hu with w|w;.exact cv u w
        .rw[bP.mp w];obtain⟨s,E⟩:=List.exists_mem_of_length_pos (show 0<(S.filter fun s=>decide (t∈s.2)).length by lia);exact⟨s,(gy.mp E).1,by simpa using(gy.mp E).2⟩) [.v C,.v (.int n),.p (tP I),sv c,sv r,.no,.no] ⟨I,none,rfl,g2,rfl,by simp⟩;have q3:Nr [.v C,.v (.int n),.p (tP I),sv c,sv r,.no,.no]=_:=(lN (by simp[b9,ai,af,ag,vN (show n<=1000 by lia)])).trans h2;refine⟨S3,nU ?_,⟨g3,by lia,by lia⟩,by lia,cv⟩;rw[<-eC];refine(br q0).trans ((br q1).trans ((br q2).trans ((br q3).trans ?_)));show O.ro (jt (tP S3))=_;rw[HH]
def dm(L:List Int)(f:Int->Int):D:=.dJ (L.map .inl) (L.map fun t=>.int (f t))
theorem OA(L:List Int)(f:Int->Int)(t:Int):gT (L.map .inl) (L.map fun t=>D.int (f t)) (.inl t)=if t∈L then some (.int (f t)) else none:=by induction L with |nil=>rfl |cons a l d=>
 simp[bH,gT];by_cases h:a=t;.simp_all
 .grind
theorem YC(L:List Int)(f:Int->Int)(t v:Int):putL (L.map .inl) (L.map fun t=>D.int (f t)) (.inl t) (.int v)=L.map fun u=>.int (if u=t then v else f u):=by induction L with |nil=>rfl |cons a l d=>
 simp[bH,putL];by_cases h:a=t;.simp_all
 .simp_all
theorem YD(L:List Int)(f:Int->Int)(t v:Int):putD (L.map .inl) (L.map fun t=>D.int (f t)) (.inl t) (.int v)=dm (ins L t) (fun u=>if u=t then v else f u):=by
  unfold putD ins;by_cases h:t∈L;.rw[aq (by simp_all),aq h,YC];rfl
  . unfold dm;have:L.map (fun t=>D.int _)=L.map fun u=>D.int (if u=t then v else f u):=kf fun u a=>by rw[ao (fun e:u=t=>h (e▸a))]
    grind
theorem OB(h:∀t∈L,f t=g t):dm L f=dm L g:=by unfold dm;rw[kf (g:=fun t=>D.int (g t)) fun t a=>by simp_all]
@[simp] theorem zzp(L:List Int)(f:Int->Int)(t:Int):va (.int t) (dm L f)=some (.bl (!decide (t∈L))):=by simp[va,qD,dm,OA];grind
theorem YE(h:δ[i]?=some (.o (dm L f)))(h1:mk δ=.ok (.int t))(h2:me δ=.ok (.int v))(a:L.length<=100000): sW i mk me δ=.nx (δ.set i (.o (dm (ins L t) (fun u=>if u=t then v else f u)))):=by unfold sW;rw[h];simp only[dm,h2,h1,R.dn,qD];rw[fY (by rw[aW];exact LR a),YD];rfl
theorem OC(hd:md δ=.ok (dm L f))(a:mk δ=.ok (.int t))(b:mx δ=.ok (.int v)):Be md mk mx δ=.ok (.int (if t∈L then f t else v)):=by unfold Be;rw[hd,a,b];have g:=OA L f t;show R.ok _=_;grind
def lR:List Ps->List Int |[]=>[] |s::l=>f7 (lR l) s.2
def jx:List Ps->Int->Int |[],_=>0 |s::l,t=>if t∈s.2 then(if t∈lR l then min s.1 (jx l t) else s.1) else jx l t
theorem cx:∀{l:List Ps}{t:Int},t∈lR l↔∃s∈l,t∈s.2
  |[],t=>by simp[lR] |s::l,t=>by
    rw[lR,cn,cx (l:=l)];constructor
    . rintro(⟨d,b,c⟩|h);.grind
      simp_all
    . rintro⟨d,b,c⟩;rcases aY.mp b with rfl|b;.exact .inr c
      grind
theorem HI:∀(l:List Ps),(lR l).Nodup |[]=>by simp[lR] |s::l=>BV (HI l)
theorem HJ:∀{l:List Ps}{t:Int},t∈lR l->(∃s∈l,t∈s.2/\s.1=jx l t)/\∀s∈l,t∈s.2->jx l t<=s.1
  |[],t,h=>by simp[lR] at h |s::l,t,h=>by
    unfold jx;by_cases j:t∈s.2
    . rw[aq j];by_cases g:t∈lR l
      . rw[aq g];obtain⟨⟨k,a,b,c⟩,d⟩:=HJ g;refine⟨?_,fun u e i=>?_⟩
        . rcases Int.le_total s.1 (jx l t) with z|z;.grind
          .exact⟨k,by simp[a],b,by lia⟩
        . rcases aY.mp e with rfl|e;.lia
          grind
      . rw[ao g];refine⟨⟨s,by simp,j,rfl⟩,fun u e i=>?_⟩;rcases aY.mp e with rfl|e;.lia
        .exact absurd (cx.mpr ⟨u,e,i⟩) g
    . rw[ao j];have g:t∈lR l:=by
        obtain⟨u,e,i⟩:=cx.mp h;rcases aY.mp e with rfl|e;.exact absurd i j
        .exact cx.mpr ⟨u,e,i⟩
      obtain⟨⟨k,a,b,c⟩,d⟩:=HJ g;refine⟨⟨k,by simp[a],b,c⟩,fun u e i=>?_⟩;rcases aY.mp e with rfl|e;.simp_all
      grind
def fV(l:List Ps):D:=dm (lR l) (jx l)
def ng:List Ps->List D |[]=>[fV []] |s::l=>ng l++[fV (s::l)]
theorem HK:∀(l:List Ps),(ng l).length=l.length+1 |[]=>rfl |s::l=>by simp[ng,HK l]
theorem YF:∀(l:List Ps),∃r,ng l=r++[fV l] |[]=>⟨[],rfl⟩ |s::l=>⟨_,rfl⟩
theorem HL:∀(l:List Ps)(k:Nat),k<=l.length->(ng l).reverse[k]?=some (fV (l.drop k))
 |[],k,h=>by
  have:k=0:=by simp_all
  subst this;rfl |s::l,0,_=>by simp[ng] |s::l,k+1,h=>by have:=HL l k (by simp_all);simpa[ng] using this
theorem OD:aJ (.lst (l++[d])) (.int (-1))=some d:=by
 show jd (l++[d]) (-1)=_;unfold jd gK;rw[ao (by lia),aq (by grind)];have:(-1+((l++[d]).length:Int)).toNat=l.length:=by grind
 simp_all
theorem YG(h:∀s∈l,Good n s):(lR l).length<=n:= HF (HI l) fun t c=>by obtain⟨s,b,a⟩:=cx.mp c;exact cQ.mpr ((h s b).mem t a)
theorem YH(w:gX n sets):GU [bX sets]=.ok (.lst (ng sets).reverse):=by
  obtain⟨A,S⟩:∃A,A=bX sets:=⟨_,rfl⟩;obtain⟨Dl,Q,k,j,i,c,rfl⟩:=lO (b:=dM 2 (eS (aV 2) (eS (aV 3) ef))) (m:=Nz) fU (fun a p=>∃k j i c,p=[.v A,.o (.lst (ng a.reverse)),sv k,sv j,sv i,sv c]) sets.reverse (by
      rintro a s y p h ⟨k,j,i,c,rfl⟩;have N:s∈sets:=List.mem_reverse.mp (by simp_all);have U:∀s∈a.reverse,Good n s:=fun s N=>w.good s (List.mem_reverse.mp (by rw[h];simp_all));have g:=w.good s N;obtain⟨r,K⟩:=YF a.reverse;obtain⟨L,l⟩:∃L,L=lR a.reverse:=⟨_,rfl⟩;obtain⟨f,T⟩:∃f,f=jx a.reverse:=⟨_,rfl⟩;have Z:=YG U;rw[<-l] at Z;have n1:=w.n1;have pl:a.length<=1000:=by
        have:sets.length=a.length+(y.length+1):=by rw[<-ke,h];simp
        have:=w.qy;lia
      obtain⟨W,B⟩:∃W,W=ng a.reverse:=⟨_,rfl⟩;rw[<-B] at K;have wl:W.length<=1001:=by rw[B,HK,ke];lia
      have a1:aB (Dp (ai (m2 aJ (aj 1) (m1 eJ (mC (.int 1)))) af)) (dq 4) [.v A,.o (.lst W),.v (.int s.1),.v (iL s.2),sv i,sv c]=.nx [.v A,.o (.lst W),.v (.int s.1),.v (iL s.2),.o (dm L f),sv c]:=by
        refine dP (d:=dm L f) ?_ (Ud (o:=i) rfl);have ix:aJ (.lst W) (.int (-1))=some (dm L f):=by rw[K,OD,l,T];rfl
        simp only[Dp,ai,af,aj,mC,uZ,d_,List.getElem?_cons_succ,List.getElem?_cons_zero,R.ak,zh,R.au,ix];rfl
      -- the things of the set
      obtain⟨oi,Y,e,rfl⟩:=lO (b:=aV 5) (m:=Nx) D.int (fun q p=>∃c,p=[.v A,.o (.lst W),.v (.int s.1),.v (iL s.2),.o (dm (f7 L q) (fun u=>if u∈q then(if u∈L then min s.1 (f u) else s.1) else f u)),sv c]) s.2 (by
          rintro q x C p G ⟨c,rfl⟩;have M:=g.nd;rw[G] at M;have H:x∉q:=fun z=>(fQ.mp M).2.2 x z x (by simp) rfl;have ql:(f7 L q).length<=1000:=by
            have:=HF (n:=n) (L:=f7 L q) (BV (by rw[l];exact HI _)) fun t ht=>by
              rcases cn.mp ht with z|z;.rw[l] at z;obtain⟨s',E,h'⟩:=cx.mp z;exact cQ.mpr ((U s' E).mem t h')
              .exact cQ.mpr (g.mem t (by simp_all))
            lia
          have xi:(x∈f7 L q)=(x∈L):=propext ⟨fun z=>(cn.mp z).resolve_right H,fun z=>cn.mpr (.inl z)⟩;refine⟨_,_,kW (o:=c) rfl,.inl (YE (t:=x) (v:=if x∈L then min s.1 (f x) else s.1) (f:=fun u=>if u∈q then(if u∈L then min s.1 (f u) else s.1) else f u) (L:=f7 L q) rfl rfl ?_ (by lia)),some (.int x),?_⟩
          . have I:=OC (md:=aj 4) (mk:=ag 5) (mx:=ag 2) (δ:=([.v A,.o (.lst W),.v (.int s.1),.v (iL s.2),.o (dm (f7 L q) (fun u=>if u∈q then(if u∈L then min s.1 (f u) else s.1) else f u)),sv c]:En).set 5 (.v (.int x))) (L:=f7 L q) (f:=fun u=>if u∈q then(if u∈L then min s.1 (f u) else s.1) else f u) (t:=x) (v:=s.1) rfl rfl rfl;simp only[xi,ao H] at I;simp only[aN,ai,af];rw[I];simp only[aj,List.set_cons_succ,List.set_cons_zero,List.getElem?_cons_succ,List.getElem?_cons_zero,R.ak];show R.of (some (D.int (if(if x∈L then f x else s.1)<s.1 then(if x∈L then f x else s.1) else s.1)))=_;rw[R.au];congr 2;by_cases z:x∈L;.simp only[aq z];lia
            simp_all
          . have e1:ins (f7 L q) x=f7 L (q++[x]):=by rw[HE];rfl
            have e2:dm (ins (f7 L q) x) (fun u=>if u=x then(if x∈L then min s.1 (f x) else s.1) else if u∈q then(if u∈L then min s.1 (f u) else s.1) else f u)=dm (f7 L (q++[x])) (fun u=>if u∈q++[x] then(if u∈L then min s.1 (f u) else s.1) else f u):=by
              rw[e1];refine OB fun u _=>?_;by_cases z:u=x;.simp_all
              . have:(u∈q++[x])=(u∈q):=by simp[z]
                simp_all
            show[_,_,_,_,Sl.o (dm (ins (f7 L q) x) _),_]=_;simp_all) [.v A,.o (.lst W),.v (.int s.1),.v (iL s.2),.o (dm L f),sv c] ⟨c,by rfl⟩;have a2:Ny [.v A,.o (.lst W),.v (.int s.1),.v (iL s.2),.o (dm L f),sv c]=.nx [.v A,.o (.lst W),.v (.int s.1),.v (iL s.2),.o (fV (s::a.reverse)),sv e]:=by
        refine((lN (by simp[cA,ag])).trans Y).trans ?_;have:dm (f7 L s.2) (fun u=>if u∈s.2 then(if u∈L then min s.1 (f u) else s.1) else f u)=fV (s::a.reverse):=by unfold fV;rw[lR,<-l];refine OB fun u _=>?_;rw[jx,<-l,<-T]
        rw[this]
      have a3:rf 4 (rX 1 (ag 4)) [.v A,.o (.lst W),.v (.int s.1),.v (iL s.2),.o (fV (s::a.reverse)),sv e]=.nx [.v A,.o (.lst (W++[fV (s::a.reverse)])),.v (.int s.1),.v (iL s.2),.v (fV (s::a.reverse)),sv e]:=by show rX 1 (ag 4) [.v A,.o (.lst W),.v (.int s.1),.v (iL s.2),.v (fV (s::a.reverse)),sv e]=_;exact HB rfl rfl (by lia)
      refine⟨[.v A,.o (.lst W),.v (.int s.1),.v (iL s.2),sv i,sv c],[.v A,.o (.lst (W++[fV (s::a.reverse)])),.v (.int s.1),.v (iL s.2),.v (fV (s::a.reverse)),sv e],?_,.inl ?_,some (.int s.1),some (iL s.2),some (fV (s::a.reverse)),e,?_⟩;.rw[B];rcases k with _|k<;>rcases j with _|j<;>rfl
      .exact(br a1).trans ((br a2).trans a3)
      .rw[List.reverse_append,B];rfl) [.v A,.o (.lst [fV []]),.no,.no,.no,.no] ⟨none,none,none,none,rfl⟩;rw[List.reverse_reverse] at Q;refine nU ?_;rw[<-S];have q1:aB (bT (ai (mC (.dJ [] [])) af)) (dq 1) [.v A,.no,.no,.no,.no,.no]=.nx [.v A,.o (.lst [fV []]),.no,.no,.no,.no]:=by refine dP (d:=.lst [fV []]) ?_ rfl;simp[bT,ai,af,mC,sizeLine];rfl
  have X:NA [.v A,.o (.lst [fV []]),.no,.no,.no,.no]=.nx [.v A,.o (.lst (ng sets)),sv k,sv j,sv i,sv c]:=by refine(lN ?_).trans Q;simp[rk,ai,af,ag,S,bX,rj]
  refine(br q1).trans ((br X).trans ?_);have fl:(ng sets).length<=1001:=by rw[HK];have:=w.qy;lia
  simp[fi,Gm,aj]
theorem YI(r:gX n sets)(C:∀t∈eR n,∃s∈sets,t∈s.2):GS [.int n,bX sets]=.ok .non:=by
  obtain⟨H,E,d,c,rfl⟩:=lO (b:=aV 3) (m:=GQ) _ (fun a q=>∃d c,q=[.v (.int n),.v (bX _),.o (dk (f7 [] (things a))),sv d,sv c]) sets (by
      rintro a s p q f ⟨d,c,rfl⟩;have u:s∈sets:=by simp_all
      have g:=r.good s u;obtain⟨x,h⟩:=HG (i:=4) (j:=2) (by decide) r.n1 s.2 [.v (.int n),.v (bX sets),.o (dk (f7 [] (things a))),.v (fU s),sv _] _ c rfl rfl (BV (by simp)) (fun t k=>by
          rcases cn.mp k with z|z;.cases z
          .obtain⟨K,M,B⟩:=sH.mp z;exact cQ.mpr ((r.good K (by grind)).mem t B)) (fun t k=>cQ.mpr (g.mem t k));refine⟨[.v (.int n),.v (bX sets),.o (dk (f7 [] (things a))),.v (fU s),sv c],[.v (.int n),.v (bX sets),.o (dk (f7 (f7 [] (things a)) s.2)),.v (fU s),sv x],?_,.inl ?_,some (fU s),x,?_⟩;.rcases d with _|d<;>rfl
      .unfold GQ Nu Nt;exact(lN rfl).trans h
      . rw[<-HE];have e:things (a++[s])=things a++s.2:=by simp[things]
        simp_all) [.v (.int n),.v (bX sets),.o (dk []),.no,.no] ⟨none,none,rfl⟩;obtain⟨I,L,l,rfl⟩:=lO (b:=aV 4) (m:=GR) D.int (fun a q=>∃c,q=[.v (.int n),.v (bX sets),.o (dk (f7 [] (things sets))),sv d,sv c]) (eR n) (by
      rintro a t p q f ⟨c,rfl⟩;have k:t∈eR n:=by rw[f];simp
      obtain⟨s,u,w⟩:=C t k;have J:t∈f7 [] (things sets):=cn.mpr (.inr (sH.mpr ⟨s,u,w⟩));refine⟨_,_,kW rfl,.inl ?_,some (.int t),rfl⟩;simp[GR,bf,aS,ag,aj,J,cB]) _ ⟨c,rfl⟩;have y:Nv [.v (.int n),.v (bX _),.o _,.no,.no]=.nx _:=(lN rfl).trans E;have G:Nw [.v _,.v (bX sets),.o (dk _),sv d,sv c]=.nx [.v (.int n),.v (bX sets),.o (dk (f7 [] (things sets))),sv d,sv l]:=(lN (by simp[b9,ai,af,ag,vN r.n1])).trans L;refine LW (δ:=[.v (.int n),.v (bX sets),.o (dk (f7 [] (things sets))),sv d,sv l]) ?_;have A:aB (mC (.dJ [] [])) (dq 2) [.v (.int n),.v (bX sets),.no,.no,.no]=.nx [.v (.int n),.v (bX sets),.o (dk []),.no,.no]:=rfl;show aw _ _ [.v (.int n),.v (bX sets),.no,.no,.no]=_;rw[br A,br y];exact G
theorem OE(f:D->R Tr)(b:∀s:Ps,f (fU s)=.ok (BD (.int s.1,s.2.map .int))):∀(l:List Ps),tF f (l.map fU)=.ok (l.map fun s=>BD (.int s.1,s.2.map .int)) |[]=>rfl |s::l=>by rw[bH,tF,b,OE f b l];rfl
def BY(l:List Ps):Tr:=.l (l.map fun s=>BD (.int s.1,s.2.map .int))
theorem YJ(l:List Int):fe ((l.map D.int).map .d)=l.map .int:=by induction l with |nil=>rfl |cons a l c=>simp only[bH,fe,jt,c]
theorem YK(l:List Ps):jt (BY l)=bX l:=by unfold BY bX;simp[jt];induction l with |nil=>rfl |cons s l c=> simp[bH,fe,c];simp only[BD,jt,fe,YJ,fU,iL]
theorem YL(l:List Int):vE ((l.map D.int).map .d)=true:=by induction l with |nil=>rfl |cons a l e=>simp only[bH,vE,wU,mL,e,Bool.and_self]
theorem YM(l:List Ps):wU (BY l)=true:=by unfold BY;simp[wU];induction l with |nil=>rfl |cons s l c=> rw[bH,vE,c];simp only[BD,wU,mL,vE,YL,Bool.and_self]
def uz(n:Nat)(sets:List Ps):D:=.obj 7 ["many","sets","cheapest"] [.int n,bX sets,.lst (ng sets).reverse]
theorem YN:¬(("many":Str)="sets"):=by decide
theorem YO:¬(("many":Str)="cheapest"):=by decide
theorem YQ:¬(("sets":Str)="cheapest"):=by decide
theorem YR(a:gX n sets)(b:∀t∈eR n,∃s∈sets,t∈s.2):GX [.int n,bX sets]=.ok (uz n sets):=by
 have h:GW [.no,.v (.int n),.v (bX sets)] [] []=.ok (["many","sets","cheapest"],[.int n,bX sets,.lst (ng sets).reverse]):=by
  have k:GV [.no,.v (.int n),.v (bX sets)]=.ok (BY sets):=by
   unfold GV GI;have e:cA (aj 2) [.no,.v (.int n),.v (bX sets)]=.ok _:=rfl;have f:=a.qy;rw[e,R.ak,fY (by rw[aW];exact small (by lia)),OE];.rfl
   .intro s;rfl
  unfold GW fJ tw lP yi yj;have c:=YI a b;have d:=YH a;simp[ag,oa,ai,af,c,mL,putN,fH,k,YM,YK,kK,YN,YO,YQ,d,GK]
 show R.bind _ _=_;simp[bH,iS];rw[h];rfl
theorem YS:bw uv "sets" (uz n sets)=some (bX sets):=rfl
def gP(sets:List Ps)(k:Int):Ps:=sets.getD k.toNat (0,[])
theorem OG(h:k.toNat<sets.length):sets[k.toNat]?=some (gP sets k):=by simp[gP,h]
theorem HM(h0:0<=k)(h1:k<sets.length):aJ (bX sets) (.int k)=some (fU (gP sets k)):= xX h0 (by rw[cj,OG (by lia)];rfl)
theorem YT(h0:0<=k)(h1:k<sets.length):gP sets k∈sets:=ib (OG (by omega))
theorem YU:vJ [uz n sets]=.ok (.int sets.length):=by
 refine gw ?_;show aH _ [.v _]=_;have a:aI [bX sets]=some (.int sets.length):=by simp[bX]
 simp[aH,aN,ai,af,aj,YS,a]
def fw(cs:List Int)(ch:Int):List Int:=(bF cs.length).filter fun k=>decide (gA cs k=ch)
theorem kM:k∈fw cs ch↔(0<=k/\k<cs.length)/\gA cs k=ch:=by unfold fw;rw[gy,bR,l4]
theorem HN(cs:List Int)(ch:Int):(fw cs ch).length<=cs.length:=by have:=qh (fun k=>decide (gA cs k=ch)) (bF cs.length);rw[hI] at this;exact this
theorem OH(n:Nat):bF (n+1)=bF n++[(n:Int)]:=by simp[bF,List.range_succ]
theorem OI(cs:List Int)(c ch:Int):fw (cs++[c]) ch=fw cs ch++(if c=ch then[(cs.length:Int)] else[]):=by
 have h:gA (cs++[c]) cs.length=c:=by simp[gA]
 have g:(bF cs.length).filter (fun k=>decide (gA (cs++[c]) k=ch))=fw cs ch:=by
  apply List.filter_congr;intro k e;obtain⟨a,b⟩:=bR.mp e;have:gA (cs++[c]) k=gA cs k:=by
   have:k.toNat<cs.length:=by lia
   simp[gA,gk this]
  rw[this]
 have f:fw (cs++[c]) ch=(bF (cs.length+1)).filter (fun k=>decide (gA (cs++[c]) k=ch)):=by unfold fw;simp
 rw[f,OH,List.filter_append];grind
theorem DM(e:cs.length<=100):zH [encC cs,.int ch]=.ok (iL (fw cs ch)):=by
 refine nU ?_;have b:qC (cs.map .int)=(bF cs.length).map fun k=>D.tup [.int k,.int (gA cs k)]:=by rw[C2];apply sy (by simp[bF]);intro i a d;simp at a;simp[bF,gA,a]
 have k:Hl [.v (encC cs),.v (.int ch)]=.ok (iL (fw cs ch)):=by refine jP (l:=(bF cs.length).map fun k=>D.tup [.int k,.int (gA cs k)]) (by simp[Gy,ai,af,ag,encC,Bk,b]) (by rw[aW,hI];lia) (Hy _ _ _ _ fun k _=>?_);by_cases c:gA cs k=ch<;>simp[iN,c9,pG,dM,eS,ef,cX,aS,aj,ag,c]
 show R.fu (Hl [.v _,.v _]) _ _=_;simp_all
def hv(sets:List Ps)(l:List Int):List Int:=l.flatMap fun k=>(gP sets k).2
theorem pT:t∈hv sets l↔∃k∈l,t∈(gP sets k).2:=sH
def nc(n:Nat)(sets:List Ps)(l:List Int):List Int:=(bF n).filter fun t=>!decide (t∈hv sets l)
theorem pU:t∈nc n sets l↔(0<=t/\t<n)/\t∉hv sets l:=by unfold nc;rw[gy,bR];simp
theorem OJ(C:gX n sets)(X:cs.length<=sets.length)(A:sets.length<=100):Dx [uz n sets,encC cs]=.ok (iL (nc n sets (fw cs 1))):=by
  obtain⟨S,r⟩:∃S,S=uz n sets:=⟨_,rfl⟩;have N:bw uv "sets" S=some (bX sets):=by rw[r];rfl
  have T:bw r_ "many" S=some (.int n):=by rw[r];rfl
  rw[<-r];have x:∀k∈fw cs 1,Good n (gP sets k):=fun k p=>by obtain⟨⟨a,b⟩,_⟩:=kM.mp p;exact C.good _ (YT a (by lia))
  have y:=C.n1;obtain⟨Q,M,f,d,rfl⟩:=lO (b:=aV 3) (m:=N1) D.int (fun c s=>∃f d,s=[.v S,.v (encC cs),.o (dk (f7 [] (hv sets c))),sv f,sv d]) (fw cs 1) (by
      rintro c k u s w ⟨f,d,rfl⟩;have p:k∈fw cs 1:=by simp_all
      obtain⟨⟨a,b⟩,_⟩:=kM.mp p;have g:=x k p;obtain⟨B,h⟩:=HG (i:=4) (j:=2) (by decide) y (gP sets k).2 [.v S,.v (encC cs),.o (dk (f7 [] (hv sets c))),.v (.int k),sv d] (f7 [] (hv sets c)) d rfl rfl (BV (by simp)) (fun t q=>by
          rcases cn.mp q with z|z;.cases z
          .obtain⟨H,J,K⟩:=pT.mp z;exact cQ.mpr ((x H (by simp_all)).mem t K)) (fun t q=>cQ.mpr (g.mem t q));refine⟨[.v S,.v (encC cs),.o (dk (f7 [] (hv sets c))),.v (.int k),sv d],[.v S,.v (encC cs),.o (dk (f7 (f7 [] (hv sets c)) (gP sets k).2)),.v (.int k),sv B],?_,.inl ?_,some (.int k),B,?_⟩;.rcases f with _|f<;>rfl
      .exact(lN (by simp[cA,aj,mC,N,HM a (show k<sets.length by lia),fU])).trans h
      . rw[<-HE];have e:hv sets (c++[k])=hv sets c++(gP sets k).2:=by simp[hv]
        simp_all) _ ⟨none,none,rfl⟩;have U:N2 _=.nx _:=(lN (by simp[cA,bq,ai,af,ag,mC,DM (show cs.length<=100 by lia)])).trans M;have G:Hm [.v S,.v (encC cs),.o (dk (f7 [] (hv sets (fw cs 1)))),sv f,sv d]=.ok (iL (nc n sets (fw cs 1))):=by refine jP (l:=(bF n).map .int) (by simp[b9,ai,af,aj,T,mR y]) (by rw[aW,hI];lia) ?_;refine FY .int _ _ fun t _=>?_;have L:(t∈f7 [] _)=(t∈hv sets (fw cs 1)):=propext ⟨fun z=>(cn.mp z).resolve_left (by simp),fun z=>cn.mpr (.inr z)⟩;by_cases I:t∈hv sets (fw cs 1)<;>simp[iN,c9,pG,cX,aS,ag,aj,I,L]
  have E:aB (mC (.dJ [] _)) (dq 2) [.v S,.v (encC cs),.no,.no,.no]=.nx [.v S,.v (encC cs),.o (dk []),.no,.no]:=rfl;refine nU ((br E).trans ((br U).trans ?_));show R.fu (Hm _) _ _=_;rw[G];rfl
theorem HP(t:Int)(l:List Int):x8 (.int t) (iL l)=some (.bl (decide (t∈l))):=by show(dG _).map _=_;rw[rZ];rfl
def yr(l:List Int):Int:=l.foldl max 0
theorem YV(l:List Int):(yr l=0\/yr l∈l)/\0<=yr l/\∀w∈l,w<=yr l:=by
  have b:∀(l:List Int)(a:Int),0<=a->(l.foldl max a=a\/l.foldl max a∈l)/\a<=l.foldl max a/\∀w∈l,w<=l.foldl max a:=by intro l;induction l with |nil=>simp |cons x l g=>
      intro a h;obtain⟨f,j,k⟩:=g (max a x) (by lia);rw[List.foldl_cons];refine⟨?_,by lia,fun w d=>?_⟩
      . rcases f with z|z
        . rcases Int.le_total a x with c|c;.rw[z,show max a x=x by lia];simp
          lia
        .simp_all
      . rcases aY.mp d with rfl|d;.lia
        simp_all
  exact b l 0 (by lia)
theorem YW(h:∀w∈l,0<=w):vi [iL l] (.int 0)=some (.int (yr l)):=by cases l with |nil=>rfl |cons a l=>
 have e:vi [iL (a::l)] (.int 0)=some (.int (dO l a)):=by simp[vi,iL,rZ]
 obtain⟨d,g,i⟩:=L2.jY l a;obtain⟨j,f,k⟩:=YV (a::l);grind
theorem OK{P:En->Prop}:∀(l:List Int)(_:∀x∈l,∀δ,P δ->∃a,b (.int x) δ=some a/\(p x=true->m a=.ro d)/\(p x=false->∃oi,m a=.nx oi/\P oi))(δ:En)(_:P δ), (l.any p=true->jF b m (l.map .int) δ=.ro d)/\(l.any p=false->∃g,jF b m (l.map .int) δ=.nx g/\P g) |[],_,δ,h=>⟨fun z=>(by cases z),fun _=>⟨δ,rfl,h⟩⟩ |x::l,i,δ,h=>by obtain⟨a,j,o,n⟩:=i x (by simp) _ h;rw[bH];unfold jF;rw[j,iQ];cases c:p x with |true=> grind |false=> obtain⟨oi,e,q⟩:=n c;simp only[e];exact OK l (fun y k=>i y (bJ _ k)) _ q
def BZ(n:Nat)(sets:List Ps)(cs:List Int):Prop:=∀t∈nc n sets (fw cs 1),t∈lR (sets.drop cs.length)
def need(n:Nat)(sets:List Ps)(cs:List Int):Bool:=(nc n sets (fw cs 1)).any fun t=>decide (t∈(gP sets cs.length).2)&&!decide (t∈lR (sets.drop (cs.length+1)))
def wy(n:Nat)(sets:List Ps)(cs:List Int):List Int:=if need n sets cs=true then[1] else[0,1]
theorem HQ(n:Nat)(sets:List Ps)(cs:List Int):0<(wy n sets cs).length/\(wy n sets cs).length<=2:=by unfold wy;grind
theorem YX(T:gX n sets)(B:cs.length<sets.length)(i:sets.length<=100):zL [uz n sets,encC cs]=.ok (iL (wy n sets cs)):=by
  have q:=OJ T (il B) i;obtain⟨S,l⟩:∃S,S=uz n sets:=⟨_,rfl⟩;have K:bw uv "sets" S=some (bX sets):=by rw[l];rfl
  have I:bw ym "cheapest" S=some (.lst (ng sets).reverse):=by rw[l];rfl
  have G:PM.isObj 7 "not_covered" S=some ():=by rw[l];rfl
  rw[<-l] at q⊢;obtain⟨C,A⟩:∃C,C=encC cs:=⟨_,rfl⟩;have w:aI [C]=some (.int cs.length):=by rw[A];simp[encC]
  rw[<-A] at q⊢;obtain⟨L,y⟩:∃L,L=lR (sets.drop (cs.length+1)):=⟨_,rfl⟩;obtain⟨a,j⟩:∃a,a=(gP sets cs.length).2:=⟨_,rfl⟩;have Q:aJ (.lst (ng sets).reverse) (.int ((cs.length:Int)+1))=some (fV (sets.drop (cs.length+1))):=FW (k:=cs.length+1) (HL sets _ (by lia));have r:=HM (sets:=sets) (k:=(cs.length:Int)) (by lia) (by omega);obtain⟨f,J⟩:∃f,f=jx (sets.drop (cs.length+1)):=⟨_,rfl⟩;have M:fV (sets.drop (cs.length+1))=dm L f:=by rw[y,J];rfl
  have N:aB (m2 aJ (m1 (bw ym "cheapest") (aj 0)) (m2 bL (aN aI (ai (aj 1) af)) (mC (.int 1)))) (aV 2) [.v S,.v C,.no,.no,.no]=.nx [.v S,.v C,.v (dm L f),.no,.no]:=dP (d:=dm L f) (by simp[aj,mC,aN,ai,af,I,w,Q,M]) rfl;have E:aB (m2 cC (m2 aJ (m1 (bw uv "sets") (aj 0)) (aN aI (ai (aj 1) af))) (mC (.int 1))) (aV 3) [.v S,.v C,.v (dm L f),.no,.no]=.nx [.v S,.v C,.v (dm L f),.v (iL a),.no]:=dP (d:=iL a) (by simp[aj,mC,aN,ai,af,K,w,r,fU,j]) rfl;obtain⟨H,X⟩:=OK (b:=aV 4) (m:=zK) (d:=iL [1]) (P:=fun s=>∃o,s=[.v S,.v C,.v (dm L f),.v (iL a),sv o]) (p:=fun t=>decide (t∈a)&&!decide (t∈L)) (nc n sets (fw cs 1)) (by
      rintro x _ s ⟨o,rfl⟩;refine⟨_,kW (o:=o) rfl,fun h=>?_,fun h=>⟨[.v S,.v C,.v (dm L f),.v (iL a),.v (.int x)],?_,some (.int x),rfl⟩⟩
      . have:x∈a/\x∉L:=by simp_all
        simp[zK,bf,k9,aS,aj,ag,HP,this,fi,bT,ai,af,mC,sizeLine];rfl
      . by_cases z:x∈a
        . have:x∈L:=by simp_all
          simp[zK,bf,k9,aS,aj,ag,HP,this,cB]
        .simp[zK,bf,k9,aS,aj,HP,z,cB]) [.v S,.v C,.v (dm L f),.v (iL a),.no] ⟨none,rfl⟩;have u:N9 [.v S,.v C,.v _,.v _,.no]=jF _ zK ((nc n sets (fw cs 1)).map .int) [.v S,.v C,.v (dm L f),.v (iL a),.no]:=lN (by simp[cA,bN,ag,ai,af,G,q]);refine nU ((br N).trans ((br E).trans ?_));unfold wy need;rw[<-y,<-j];cases c:((nc n sets (fw cs 1)).any _) with |true=> rw[aq rfl];unfold aw;rw[u,H c] |false=> obtain⟨U,e,o,rfl⟩:=X c;refine(br (u.trans e)).trans ?_;simp[fi,bT,ai,af,mC,sizeLine,iL]
def HR(sets:List Ps)(l:List Int):Int:=(l.map fun k=>(gP sets k).1).sum
def yt(n:Nat)(sets:List Ps)(cs:List Int):Int:=HR sets (fw cs 1)+yr ((nc n sets (fw cs 1)).map (jx (sets.drop cs.length)))
theorem YY(h:∀k∈l,0<=k/\k<sets.length)(c:l.length<=1000):Hn [bX sets,iL l]=.ok (.int (HR sets l)):=by
 refine gw ?_;have k:N3 [.v (bX sets),.v (iL l)]=.ok (iL (l.map fun k=>(gP sets k).1)):=by refine dZ (jP (r:=l.map fun k=>.int (gP sets k).1) rfl (by grind) (mO _ _ _ fun k a=>?_)) (by simp[iL]);have b:=HM (h k a).1 (h k a).2;simp[iN,c9,pG,cX,aj,mC,b,fU]
 show aH _ [.v _,.v _]=_;simp[aH,aN,ai,af,k,yq,HR]
theorem YZ(h:∀s∈l,Good n s)(b:t∈lR l):0<=jx l t:=by obtain⟨⟨s,a,_,c⟩,_⟩:=HJ b;rw[<-c];exact(h s a).lo
theorem Y0(j:gX n sets)(o:cs.length<=sets.length)(c:sets.length<=100)(cv:BZ n sets cs):wY [uz n sets,encC cs]=.ok (.int (yt n sets cs)):=by
 have g:=OJ j o c;obtain⟨S,h⟩:∃S,S=uz n sets:=⟨_,rfl⟩;have Q:bw uv "sets" S=some (bX sets):=by rw[h];rfl
 have E:bw ym "cheapest" S=some (.lst (ng sets).reverse):=by rw[h];rfl
 have A:PM.isObj 7 "not_covered" S=some ():=by rw[h];rfl
 rw[<-h] at g⊢;have q:=DM (cs:=cs) (ch:=1) (by lia);obtain⟨C,u⟩:∃C,C=encC cs:=⟨_,rfl⟩;have H:aI [C]=some (.int cs.length):=by rw[u];simp[encC]
 rw[<-u] at g q⊢;obtain⟨L,m⟩:∃L,L=lR (sets.drop cs.length):=⟨_,rfl⟩;obtain⟨f,i⟩:∃f,f=jx (sets.drop cs.length):=⟨_,rfl⟩;have T:aJ (.lst (ng sets).reverse) (.int (cs.length:Int))=some (dm L f):=by rw[m,i];exact FW (k:=cs.length) (HL sets _ o)
 have y:∀s∈sets.drop cs.length,Good n s:=fun s K=>j.good s (List.mem_of_mem_drop K);obtain⟨N,e⟩:∃N,N=nc n sets (fw cs 1):=⟨_,rfl⟩;have U:N.length<=1000:=by rw[e];have:=qh (fun t=>!decide (t∈hv sets (fw cs 1))) (bF n);rw[hI] at this;have:=j.n1;unfold nc;lia
 have B:∀t∈N,t∈L:=by rw[e,m];exact cv
 rw[<-e] at g;have G:aB (m2 aJ (m1 (bw ym "cheapest") (aj 0)) (aN aI (ai (aj 1) af))) (aV 2) [.v S,.v C,.no,.no]=.nx [.v S,.v C,.v (dm L f),.no]:=dP (d:=dm L f) (by simp[aj,aN,ai,af,E,H,T]) rfl;have k:Ho [.v S,.v C,.v (dm L f),.no]=.ok (iL (N.map f)):=by refine dZ (jP (l:=N.map .int) (r:=N.map fun t=>.int (f t)) (by simp[cA,bN,ag,ai,af,A,g]) (by grind) ?_) (by simp[iL]);refine mO _ _ _ fun t M=>?_;have X:=OC (md:=aj 0) (mk:=ag 1) (mx:=mC (.int 0)) (δ:=[.v (dm L f),.v (.int t)]) rfl rfl rfl;simp[iN,c9,pG,cX,List.getElem?_cons_succ];simp_all
 have J:aB (xV (ai Ho af) (mC (.int 0))) (aV 3) [.v S,.v C,.v (dm L f),.no]=.nx [.v S,.v C,.v (dm L f),.v (.int (yr (N.map f)))]:=by
  refine dP ?_ rfl;have z:=YW (l:=N.map f) fun w x=>by obtain⟨t,M,rfl⟩:=fP.mp x;rw[i];exact YZ y (by simp_all)
  simp[xV,ai,af,k,mC,z]
 have pq:=YY (sets:=sets) (l:=fw cs 1) (fun k I=>by obtain⟨⟨a,b⟩,_⟩:=kM.mp I;lia) (by have:=HN cs 1;lia);refine gw ((br G).trans ((br J).trans ?_));unfold yt;rw[<-e,<-i];simp[aH,bq,ai,af,aj,ag,mC,Q,q,pq]
theorem OL{sets:List Ps}(h:k<sets.length):sets.drop k=gP sets k::sets.drop (k+1):=by simp[gP,h]
theorem yu:t∈nc n sets (fw (cs++[1]) 1)↔t∈nc n sets (fw cs 1)/\t∉(gP sets cs.length).2:=by
  rw[pU,pU,OI,pT,pT];constructor;.rintro⟨h,z⟩;exact⟨⟨h,fun⟨k,a,b⟩=>z ⟨k,by simp[a],b⟩⟩,fun b=>z ⟨_,by simp,b⟩⟩
  . rintro⟨⟨h,z⟩,y⟩;refine⟨h,fun⟨k,a,b⟩=>?_⟩;rcases bO.mp a with a|a;.simp_all
    .rw[bP.mp a] at b;exact y b
theorem Y1(cs:List Int)(h:w≠1):fw (cs++[w]) 1=fw cs 1:=by rw[OI,ao h,dQ]
theorem Y2(h:w∈wy n sets cs):w=1\/w=0/\need n sets cs=false:=by unfold wy at h;grind
theorem Y3(d:cs.length<sets.length)(cv:BZ n sets cs)(f:w∈wy n sets cs):BZ n sets (cs++[w]):=by
  intro t c;rw[h7];rcases Y2 f with rfl|⟨rfl,g⟩
  . obtain⟨e,i⟩:=yu.mp c;have b:=cx.mp (cv t e);rw[OL d] at b;obtain⟨s,a,h⟩:=b;rcases aY.mp a with rfl|a;.simp_all
    .exact cx.mpr ⟨s,a,h⟩
  . rw[Y1 _ (by decide)] at c;have b:=cx.mp (cv t c);rw[OL d] at b;obtain⟨s,a,h⟩:=b;rcases aY.mp a with rfl|a;.have:=List.any_eq_false.mp g t c;simp_all
    .exact cx.mpr ⟨s,a,h⟩
theorem Y4(b:∀t∈eR n,∃s∈sets,t∈s.2):BZ n sets []:=fun t a=>by obtain⟨h,_⟩:=pU.mp a;exact cx.mpr (b t (cQ.mpr h))
abbrev Fr:=Int×Int
def eB(f:Fr):D:=.tup [.int f.1,.int f.2]
def fm(ts:List Fr):D:=.lst (ts.map eB)
noncomputable def th(ts:List Fr)(k:Int):Fr:=ts.getD k.toNat (0,1)
theorem HS(h:k.toNat<ts.length):ts[k.toNat]?=some (th ts k):=by simp[th,h]
theorem zS(h0:0<=k)(h1:k<ts.length):aJ (fm ts) (.int k)=some (eB (th ts k)):= xX h0 (by rw[cj,HS (by lia)];rfl)
theorem HU(h0:0<=k)(h1:k<ts.length):th ts k∈ts:=ib (HS (by omega))
def yw(ts:List Fr)(l:List Int):Int:=(l.map fun k=>(th ts k).2).sum
def HV(ts:List Fr)(l:List Int):Int:=(l.map fun k=>(th ts k).1).sum
def uA(r:Int)(ts:List Fr):D:=.obj 10 ["room","things"] [.int r,fm ts]
theorem Y5:¬(("room":Str)="things"):=by decide
theorem Y6:G' [.int r,fm ts]=.ok (uA r ts):=by
 have c:ri (ts.map eB)=true:=by induction ts with |nil=>rfl |cons t ts g=>simp[ri,mL,eB,g]
 have h:G_ [.no,.v (.int r),.v (fm ts)] [] []=.ok (["room","things"],[.int r,fm ts]):=by unfold G_ fJ lP rE;have e:aN kU (ai (aj 2) af) [.no,.v (.int r),.v (fm ts)]=.ok (fm _):=rfl;have d:∃b,fm _=D.lst b/\ri b=true:=⟨_,rfl,c⟩;simp[ag,e,mL,d,putN,fH,Y5]
 show R.bind _ _=_;simp[bH,iS];rw[h];rfl
theorem Y7:bw yn "room" (uA r ts)=some (.int r):=rfl
theorem DN:bw zD "things" (uA r ts)=some (fm ts):=by rfl
theorem Y8:vM [uA r ts]=.ok (.int ts.length):=by
 refine gw ?_;show aH _ [.v _]=_;have a:aI [fm ts]=some (.int ts.length):=by simp[fm]
 simp[aH,aN,ai,af,aj,DN,a]
theorem Y9(f:cs.length<=ts.length)(e:ts.length<=100):w9 [uA r ts,encC cs]=.ok (.int (HV ts (fw cs 1))):=by
 refine gw ?_;have k:N7 [.v (uA r ts),.v (encC cs)]=.ok (iL ((fw cs 1).map fun k=>(th ts k).1)):=by
  refine dZ (jP (l:=(fw cs 1).map .int) (r:=(fw cs 1).map fun k=>.int (th ts k).1) ?_ (by have:=HN cs 1;grind) ?_) (by simp[iL]);.simp[cA,bq,ai,af,ag,mC,DM (show cs.length<=100 by lia)]
  .refine mO _ _ _ fun k d=>?_;obtain⟨⟨a,b⟩,_⟩:=kM.mp d;have c:=zS (ts:=ts) a (by lia);simp[iN,c9,pG,cX,aj,mC,DN,c,eB]
 show aH _ [.v _,.v _]=_;simp[aH,aN,ai,af,k,yq,HV]
theorem Y_(h:cs.length<ts.length)(i:ts.length<=100):zP [uA r ts,encC cs]=.ok (iL (if yw ts (fw cs 0)+(th ts cs.length).2<=r then[0,1] else[1])):=by
 refine nU ?_;have k:Ht [.v (uA r ts),.v (encC cs),.no]=.ok (iL ((fw cs 0).map fun k=>(th ts k).2)):=by
  refine dZ (jP (l:=(fw cs 0).map .int) (r:=(fw cs 0).map fun k=>.int (th ts k).2) ?_ (by have:=HN cs 0;grind) ?_) (by simp[iL]);.simp[cA,bq,ai,af,ag,mC,DM (show cs.length<=100 by lia)]
  .refine mO _ _ _ fun k f=>?_;obtain⟨⟨a,b⟩,_⟩:=kM.mp f;have d:=zS (ts:=ts) a (by lia);simp[iN,c9,pG,cX,aj,mC,DN,d,eB]
 have d:=zS (ts:=ts) (k:=cs.length) (by lia) (by lia);have e:aI [encC cs]=some (.int cs.length):=by simp[encC]
 have g:aB (aN gi (ai Ht af)) (aV 2) [.v (uA r ts),.v (encC cs),.no]=.nx [.v _,.v _,.v (.int (yw ts (fw cs 0)))]:=dP (by simp[aN,ai,af,k,yq,yw]) rfl;refine(br g).trans ?_;by_cases c:yw ts (fw cs 0)+(th ts cs.length).2<=r<;>simp[aw,bf,aS,aN,ai,af,aj,mC,DN,Y7,d,eB,e,c,cB,fi,bT,sizeLine,iL]
def bD(n:Nat)(d:Int->Int->Int):List (List Int):=(bF n).map fun a=>(bF n).map (d a)
theorem zT(h:k<m):(bF m)[k]?=some (k:Int):=by unfold bF;rw[cj,List.getElem?_range h];rfl
theorem vO{n:Nat}{b:Int}(h0:0<=b)(h1:b<n):aJ (iL ((bF n).map f)) (.int b)=some (.int (f b)):=by refine xX h0 ?_;rw[cj,cj,zT (by omega)];simp[show(b.toNat:Int)=b by omega]
theorem DO{n:Nat}{a:Int}(h0:0<=a)(h1:a<n):aJ (bE (bD n d)) (.int a)=some (iL ((bF n).map (d a))):=by unfold bE bD;refine xX h0 ?_;rw[cj,cj,zT (by omega)];simp[show(a.toNat:Int)=a by omega]
theorem zU:aI [bE (bD n d)]=some (.int n):=by simp[bE,bD,hI]
structure ja(n:Nat)(B:Int)(d:Int->Int->Int):Prop where
 nn:∀a b:Int,0<=a->a<n->0<=b->b<n->0<=d a b/\d a b<=B
 self:∀a:Int,0<=a->a<n->d a a=0sym:∀a b:Int,0<=a->a<n->0<=b->b<n->d a b=d b a
 Y':∀a b c:Int,0<=a->a<n->0<=b->b<n->0<=c->c<n->d a c<=d a b+d b c
theorem zV(h:mi δ=.ok ((bF n).map .int)):dE mi b m δ=jF b m ((bF n).map .int) δ:=lN h
theorem OM{B:Int}(hn:n<=100)(X:ja n B d):Dw [bE (bD n d)]=.ok .non:=by
 obtain⟨T,Y⟩:∃T,T=bE (bD n d):=⟨_,rfl⟩;have p:∀a:Int,0<=a->a<n->aJ T (.int a)=some (iL ((bF n).map (d a))):=fun a h0 A=>by rw[Y];exact DO h0 A
 rw[<-Y];have G:=mR (show n<=1000 by omega);have l1:∀k j e:Option D,∃g,NP [.v T,.v (.int n),sv k,sv j,sv e]=.nx [.v T,.v (.int n),sv g,sv j,sv e]:=fun k j e=>by obtain⟨h,A,g,rfl⟩:=lO (b:=aV 2) (m:=Hc) D.int (fun _ h=>∃g,h=[.v T,.v (.int n),sv g,sv j,sv e]) (bF n) (by rintro H a w h x ⟨g,rfl⟩;obtain⟨t,q⟩:=bR.mp (show a∈bF n by simp_all);have r:=vO (n:=n) (f:=d a) t q;rw[X.self a t q] at r;refine⟨[.v T,.v (.int n),.v (.int a),sv j,sv e],[.v T,.v (.int n),.v (.int a),sv j,sv e],kW rfl,.inl ?_,some _,rfl⟩;unfold Hc;rw[fG (by simp[aS,aj,mC,p a t q,r])];rfl) [.v T,.v (.int n),sv k,sv j,sv e] ⟨k,rfl⟩;exact⟨g,(zV (by simp[b9,ai,af,ag,G])).trans A⟩
 have l3:∀k j e:Option D,∃g i,NR [.v T,.v (.int n),sv k,sv j,sv e]=.nx [.v T,.v (.int n),sv g,sv i,sv e]:=fun k j e=>by obtain⟨h,A,g,i,rfl⟩:=lO (b:=aV 2) (m:=NQ) D.int (fun _ h=>∃g i,h=[.v T,.v (.int n),sv g,sv i,sv e]) (bF n) (by rintro H a w h x ⟨g,i,rfl⟩;obtain⟨t,q⟩:=bR.mp (show a∈bF n by simp_all);obtain⟨S,U,l,rfl⟩:=lO (b:=aV 3) (m:=Hd) D.int (fun _ h=>∃l,h=[.v T,.v (.int n),.v (.int a),sv l,sv e]) (bF a.toNat) (by rintro E b z h o ⟨l,rfl⟩;obtain⟨C,K⟩:=bR.mp (show b∈bF a.toNat by simp_all);have L:=vO (n:=n) (f:=d a) C (by omega);have I:=vO (n:=n) (f:=d b) t q;rw[X.sym a b t q C (by omega)] at L;refine⟨[.v T,.v (.int n),.v (.int a),.v (.int b),sv e],[.v T,.v (.int n),.v (.int a),.v (.int b),sv e],kW rfl,.inl ?_,some _,rfl⟩;unfold Hd;rw[fG (by simp[aS,aj,mC,p a t q,p b C (by omega),L,I])];rfl) [.v T,.v (.int n),.v (.int a),sv i,sv e] ⟨i,rfl⟩;refine⟨[.v T,.v (.int n),.v (.int a),sv i,sv e],[.v T,.v (.int n),.v (.int a),sv l,sv e],kW rfl,.inl ?_,some _,l,rfl⟩;have ra:=mR (show a.toNat<=1000 by lia);rw[show((a.toNat:Nat):Int)=a by omega] at ra;exact(zV (n:=a.toNat) (by simp[b9,ai,af,ag,ra])).trans U) [.v T,.v (.int n),sv k,sv j,sv e] ⟨k,j,rfl⟩;exact⟨g,i,(zV (by simp[b9,ai,af,ag,G])).trans A⟩
 have l6:∀k j e:Option D,∃g i u,NU [.v T,.v (.int n),sv k,sv j,sv e]=.nx [.v T,.v (.int n),sv g,sv i,sv u]:=fun k j e=>by
  obtain⟨h,A,g,i,u,rfl⟩:=lO (b:=aV 2) (m:=NT) D.int (fun _ h=>∃g i u,h=[.v T,.v (.int n),sv g,sv i,sv u]) (bF n)
   (by rintro H a w h x ⟨g,i,u,rfl⟩;obtain⟨t,q⟩:=bR.mp (show a∈bF n by simp_all);obtain⟨S,U,l,s,rfl⟩:=lO (b:=aV 3) (m:=NS) D.int (fun _ h=>∃l s,h=[.v T,.v (.int n),.v (.int a),sv l,sv s]) (bF n) (by rintro E b z h o ⟨l,s,rfl⟩;obtain⟨C,K⟩:=bR.mp (show b∈bF n by rw[o];simp);obtain⟨δ3,k1,J,rfl⟩:=lO (b:=aV 4) (m:=He) D.int (fun _ h=>∃J,h=[.v T,.v (.int n),.v (.int a),.v (.int b),sv J]) (bF n) (by
    rintro Z c M h y ⟨J,rfl⟩;obtain⟨Q,N⟩:=bR.mp (show c∈bF n by rw[y];simp);have L:=vO (n:=n) (f:=d a) C K;have I:=vO (n:=n) (f:=d b) Q N;have r5:=vO (n:=n) (f:=d a) Q N;have tr:¬d a b+d b c<d a c:=by have:=X.Y' a b c t q C K Q N;lia
    refine⟨[.v T,.v (.int n),.v (.int a),.v (.int b),.v (.int c)],[.v T,.v (.int n),.v (.int a),.v (.int b),.v (.int c)],kW rfl,.inl ?_,some _,rfl⟩;unfold He;rw[fG (by simp[aS,aj,mC,p a t q,p b C K,L,I,r5,tr])];rfl) [.v T,.v (.int n),.v (.int a),.v (.int b),sv s] ⟨s,rfl⟩;refine⟨[.v T,.v (.int n),.v (.int a),.v (.int b),sv s],[.v T,.v (.int n),.v (.int a),.v (.int b),sv J],kW rfl,.inl ?_,some _,J,rfl⟩;exact(zV (by simp[b9,ai,af,ag,G])).trans k1) [.v T,.v (.int n),.v (.int a),sv i,sv u] ⟨i,u,rfl⟩;refine⟨[.v T,.v (.int n),.v (.int a),sv i,sv u],[.v T,.v (.int n),.v (.int a),sv l,sv s],kW rfl,.inl ?_,some _,l,s,rfl⟩;exact(zV (by simp[b9,ai,af,ag,G])).trans U) [.v T,.v (.int n),sv k,sv j,sv e] ⟨k,j,e,rfl⟩;exact⟨g,i,u,(zV (by simp[b9,ai,af,ag,G])).trans A⟩
 have lT:aI [T]=some (.int n):=by rw[Y];exact zU
 obtain⟨g,e1⟩:=l1 none none none;obtain⟨q2,q3,e2⟩:=l3 g none none;obtain⟨I,l,s,e3⟩:=l6 q2 q3 none;refine LW (δ:=[.v T,.v (.int n),sv I,sv l,sv s]) ?_;show aw _ _ [.v T,.no,.no,.no,.no]=_;have s1:aB (aN aI (ai (aj 0) af)) (aV 1) [.v T,.no,.no,.no,.no]=.nx [.v T,.v (.int n),sv none,sv none,sv none]:=dP (d:=.int n) (by simp[aN,ai,af,aj,lT]) rfl;exact(br s1).trans ((br e1).trans ((br e2).trans e3))
theorem Za{l:List Int}(hi:mi δ=.ok (l.map .int))(a:l.length<=1000):ij mi [] 1 (cX 0) none (mC (.int 0)) δ=.ok (iL (List.replicate l.length 0)):=by exact dZ (jP (r:=l.map fun _=>.int 0) hi (by grind) (mO _ _ _ fun k b=>rfl)) (by simp[iL,qq])
theorem Zb{n:Nat}(h:n<=1000):rl [.int (n:Int)]=some (iL (bF n)):=by have:rl [.int n]=cH _ _ _:=rfl;rw[this,fY ⟨by omega,by omega⟩];simp[iL,bF]
theorem ON(h:ws.length<64):vG [iL ws]=.ok (iL (dw ws)):=by refine nU ?_;show fi _ [.v _]=_;have e:yb (iL _)=some (iL _):=V0 h;simp[fi,Dh,e]
theorem OO(ws:List Int):(dw ws).Perm (bF ws.length):=(wQ _ _).map _
theorem Zc:∀x∈dw ws,0<=x/\x<ws.length:=fun x a=>bR.mp ((OO _).mem_iff.mp a)
theorem OP(ws:List Int):qC (ws.map .int)=(bF ws.length).map fun k=>D.tup [.int k,.int (gA ws k)]:=by rw[C2];apply sy (by simp[bF]);intro i a b;simp at a;simp[bF,gA,a]
theorem OQ(ws:List Int):(dw ws).length=ws.length:=by rw[(OO _).length_eq,hI]
theorem HW(l:List Int)(x:Int):uniq (l++[x])=if x∈uniq l then uniq l else uniq l++[x]:=by
 have h:uniq (l++[x])=PyProof.Rows.step_dedup (uniq l) x:=by unfold uniq;simp
 rw[h];unfold PyProof.Rows.step_dedup;simp
theorem HX{P:List Int->Prop}(h0:P [])(h1:∀l x,P l->P (l++[x]))(l:List Int):P l:=by
 have:∀n(l:List _),l.length=n->P l:=by intro n;induction n with |zero=>simp_all |succ n d=>
  intro l e;have c:l≠[]:=fun z=>by simp_all
  rw[<-wc c];simp_all
 simp_all
theorem Zd(l:List Int):(uniq l).Nodup/\∀x,x∈uniq l↔x∈l:=by
  refine HX (P:=fun l=>(uniq l).Nodup/\∀x,x∈uniq l↔x∈l) ⟨by simp[uniq],fun x=>by rfl⟩ (fun l x d=>?_) l;rw[HW];by_cases c:x∈uniq l;.simp_all
  . rw[ao c];refine⟨fQ.mpr ⟨d.1,by simp,fun a f b e=>?_⟩,fun y=>?_⟩;.grind
    .rw[bO,bO,d.2]
theorem OR(l:List Int):(uniq l).length<=l.length:=by refine HX (P:=fun l=>(uniq l).length<=l.length) (by simp[uniq]) (fun l x a=>?_) l;rw[HW];grind
theorem OS(h:cs.length<=100):uu [encC cs]=some (.int (uniq cs).length):=by unfold uu encC;simp[rZ];exact fY (by lia)
theorem Ze(a b:Int):G0 [.int a,.int b]=.ok (.int (Int.gcd a b)):=by
  have j:∀z:Int,(if z<0 then-z else z)=z.natAbs:=fun z=>by lia
  let f:Nat×Nat×Option D->En:=fun p=>[.v (.int a),.v (.int b),.v (.int p.1),.v (.int p.2.1),sv p.2.2];obtain⟨⟨x,y,r⟩,o,q,l,_⟩:=T_ (c:=GY) (m:=GZ) f (fun p=>decide (0<p.2.1)) (fun p=>(p.2.1,p.1%p.2.1,some _)) (fun p=>Nat.gcd p.1 p.2.1=Int.gcd a b) (fun p=>p.2.1) (fun p _=>by simp[f,GY,aS,aj,mC]) (fun p n s=>by
      have g:0<p.2.1:=by simp_all
      refine⟨?_,?_,Nat.mod_lt _ g⟩
      . have e:oMod (.int (p.1:Int)) (.int p.2.1)=some (.int (p.1%p.2.1:Nat)):=by rw[hV (by lia)];simp
        have i:∀d,aV 4 d _=some ((f p).set 4 (.v d)):=fun d=>kW rfl;simp[GZ,aw,aB,d_,show aj 2 (f p)=.ok (.int _) from rfl,show aj 3 (f p)=.ok _ from rfl,R.ak,e,i];rfl
      .rw[Nat.gcd_comm,<-n,Nat.gcd_comm p.1,Nat.gcd_rec p.2.1 p.1]) (a.natAbs,b.natAbs,none) rfl;have k:x=Int.gcd a b:=by simp_all
  refine gw ?_;have h:NC [.v _,.v _,.v _,.v _,.no]=.nx [.v _,.v _,.v _,.v _,sv r]:=l;simp[ND,pH,aw,aB,aN,ai,af,aj,nP,j,aV,h,aH,ag,k]
theorem Zf(d:0<b)(h1:b.natAbs<=10^1000):uw [.int t,.int b]=.ok (.tup [.int (lo1 t b),.int (uy t b)]):=by
 have g:=DK (t:=t) d;have i:Int.gcd t b<=b.natAbs:=Nat.le_of_dvd (by omega) (by have:=Int.gcd_dvd_right (a:=t) (b:=b);exact Int.natAbs_dvd_natAbs.mpr (by omega));have f:eI (Int.gcd t b):=c8 (10^1000) (by lia);have c:=Ze t b;have h:¬b=0:=by lia
 have e:¬b<0:=by lia
 simp[uw,bM,pH,NF,aw,bf,aS,aj,mC,h,cB,aB,bq,ai,af,ag,c,aV,e,aH,bY,nR g f,sizeLine,lo1,uy]
def cdiv(t b:Int):Int:=-((-t)/b)
theorem Zg(c:0<b):-((-lo1 t b)/uy t b)=cdiv t b:=by
 have g:=DK (t:=t) c;have d:=Yr (t:=t) (b:=b);have h:=HD (t:=t) (b:=b);unfold cdiv;have:(-t)/b=(-lo1 t b)/uy t b:=by
  have e:-t=(-lo1 t b)*Int.gcd t b:=by rw[Int.neg_mul,d]
  have f:=Int.mul_ediv_mul_of_pos_left (-lo1 t b) (uy t b) g;simp_all
 rw[this]
theorem Zh{t b R:Int}(a:0<b)(h:t<=b*R):cdiv t b<=R:=by
 unfold cdiv;have:-R<=(-t)/b:=by rw[Int.le_ediv_iff_mul_le a,Int.neg_mul,Int.mul_comm];lia
 lia
theorem Zi(a:0<b):t<=b*cdiv t b:=by unfold cdiv;have:=Int.ediv_mul_le (-t) (show b≠0 by omega);rw[Int.mul_neg,Int.mul_comm b];omega
theorem Zj(c:0<b)(d:eI b):wV [.tup [.int a,.int b]]=.ok (.int (-((-a)/b))):=by simp[wV,bM,pH,NG,aH,aj,mC,nR c d]
def cZ(z:List (Int×Int))(b:Int):Int:=((z.filter fun x=>decide (x.2=b)).map (·.1)).sum
theorem DP(z:List (Int×Int))(x:Int×Int)(b:Int):cZ (z++[x]) b=cZ z b+(if x.2=b then x.1 else 0):=by
 unfold cZ;rw[List.filter_append,h_];by_cases h:x.2=b;.rw[List.filter_cons_of_pos (by simp_all),aq h];simp
 .rw[List.filter_cons_of_neg (by simp_all),ao h];simp
def HY:List Int->Int |[]=>0 |a::l=>dO l a
theorem Zk(h:S≠[]):ur dO [iL S]=some (.int (HY S)):=by cases S with |nil=>simp_all |cons a l=>simp[ur,iL,rZ,HY]
def xb(m:Nat)(ws put:List Int):Int:=HY ((bF m).map (cZ (ws.zip put)))
theorem Zl(h:0<m){f:Int->Int}:(bF m).map f≠[]:=fun e=>by have:=dh List.length e;rw[aW,hI] at this;simp_all
theorem Zm{l r:List Int}:rm (l.map .int) (r.map .int)=(l.zip r).map fun x=>D.tup [.int x.1,.int x.2]:=by unfold rm;rw[List.zipWith_map,List.zip,List.map_zipWith]
theorem HZ{m:Nat}{z:List (Int×Int)}{b:Int}(h0:0<=b)(h1:b<m):gA ((bF m).map f) b=f b:=by unfold gA;rw[dR,cj,zT (show b.toNat<m by omega)];simp[show(b.toNat:Int)=b by omega]
theorem jV{m:Nat}{b y:Int}(h0:0<=b)(h1:b<m)(d:g b=y)(h:∀c,c≠b->g c=f c):((bF m).map f).set b.toNat y=(bF m).map g:=by
  apply kd;intro i;by_cases a:i<m
  . rw[cj,zT a];by_cases e:b.toNat=i;.subst e;rw[bu (by rw[aW,hI];exact a),lY,show(b.toNat:Int)=b by lia,d]
    .rw[aQ e,cj,zT a,lY,lY,h _ (by lia)]
  .rw[jD.mpr (by rw[qj,aW,hI];lia),jD.mpr (by rw[aW,hI];lia)]
theorem Zn{m:Nat}{w b:Int}(h0:0<=b)(h1:b<m):((bF m).map (cZ z)).set b.toNat (gA ((bF m).map (cZ z)) b+w)=(bF m).map (cZ (z++[(w,b)])):=by
 refine jV h0 h1 ?_ fun c a=>?_;.rw[HZ (z:=z) h0 h1,DP,aq rfl]
 .rw[DP,ao (aR a),Int.add_zero]
theorem H_(m:Nat):(bF m).map (cZ [])=List.replicate m 0:=by have a:(bF m).map (cZ [])=(bF m).map fun _=>0:=kf fun _ _=>rfl;rw[a,qq,hI]
theorem OT:zy [iL l,encC cs]=some ((l.zip cs).map fun x=>D.tup [.int x.1,.int x.2]):=by unfold zy iL encC;simp;rw[Zm]
theorem Zo{m:Nat}(b:m<=100)(h:ag i δ=.ok (.int m)):ij (b9 (ai (ag i) af)) [] 1 (cX 0) none (mC (.int 0)) δ=.ok (iL (List.replicate m 0)):=by have:=Za (l:=bF m) (δ:=δ) (mi:=b9 (ai (ag i) af)) (by simp[b9,ai,af,h,mR (show m<=1000 by omega)]) (by rw[hI];omega);rw[hI] at this;omega
theorem Zp{m:Nat}{ws cs:List Int}(y:0<m)(e:m<=100)(p:∀b∈cs,0<=b/\b<m):Hk [iL ws,.int m,encC cs]=.ok (.int (xb m ws cs)):=by
 obtain⟨C,l⟩:∃C,C=encC cs:=⟨_,rfl⟩;obtain⟨h,s,c,d,rfl⟩:=lO (b:=dM 2 (eS (aV 4) (eS (aV 5) ef))) (fun x=>D.tup [.int x.1,.int x.2]) (fun a h=>∃c d,h=[.v (iL ws),.v (.int m),.v C,.o (iL ((bF m).map (cZ a))),sv c,sv d]) (ws.zip cs) (by
  rintro a ⟨w,b⟩ k h n ⟨c,d,rfl⟩;have g:=p b (nE (show(w,b)∈ws.zip _ by simp_all)).2;have t:b.toNat<((bF m).map (cZ a)).length:=by rw[aW,hI];lia
  have q:=Oo (f:=fun i j=>i+j) (i:=3) (mi:=ag 5) (me:=ag 4) (δ:=[.v (iL ws),.v (.int m),.v C,.o (iL _),.v (.int w),.v _]) rfl rfl g.1 t rfl;rw[Zn g.1 g.2] at q;refine⟨_,_,?_,.inl q,some _,some _,rfl⟩;rcases c with _|c<;>rcases d with _|d<;>rfl) [.v _,.v _,.v C,.o _,.no,.no] ⟨none,none,by rw[H_];rfl⟩;refine gw ?_;rw[<-l];have r:aB NW (dq 3) [.v (iL ws),.v _,.v C,.no,.no,.no]=.nx _:=dP (Zo e rfl) rfl;have u:NX [.v (iL ws),.v (.int m),.v C,.o (iL (List.replicate m 0)),.no,.no]=.nx [.v (iL ws),.v (.int m),.v C,.o (iL ((bF m).map (cZ (ws.zip cs)))),sv c,sv d]:=by refine(lN ?_).trans s;rw[l];simp[Bm,ai,af,ag,OT]
 refine(br r).trans ((br u).trans ?_);simp[aH,aN,ai,af,aj,Zk (Zl y),xb]
def up(t b:Int):Int:=if t<=0 then 0 else cdiv t b
theorem OU(a:0<b)(h1:b<=1000000000000000000):(uw [.int t,.int b]).bind (fun d=>wV [d])=.ok (.int (cdiv t b)):=by have e:=Zf (t:=t) a (bK (show b.natAbs<=1000000000000000000 by lia) (by decide));rw[e,R.ak];have c:=Ys (t:=t) a;have f:=Yt (t:=t) a;rw[Zj c (c8 1000000000000000000 (by lia)),Zg a]
theorem Zq(a:0<b):up t b=(if 0<cdiv t b then cdiv t b else 0):=by
 unfold up;by_cases c:t<=0;.have:=Zh a (show t<=b*0 by lia);lia
 .have:=Zi (t:=t) a;apply Classical.byContradiction;intro z;have:b*cdiv t b<=0:=Int.mul_nonpos_of_nonneg_of_nonpos (by lia) (by lia);lia
def lq(m:Nat)(cs:List Int):List Int:=bF (if(uniq cs).length+1<m then(uniq cs).length+1 else m)
def dy(ws:List Int):List Int:=(dw ws).map (gA ws)
theorem B2(ws:List Int):(dy ws).length=ws.length:=by unfold dy;rw[aW,OQ]
def yx(m:Nat)(ws cs:List Int):Int:=if cdiv ws.sum m<xb m (dy ws) cs then xb m (dy ws) cs else cdiv ws.sum m
def sb(m:Int)(ws:List Int):D:=.obj 8 ["many","order","falling","least"] [.int m,iL (dw ws),iL (dy ws),.int (cdiv ws.sum m)]
theorem n1:¬(("many":Str)="order"):=by decide
theorem n2:¬(("many":Str)="falling"):=by decide
theorem n3:¬(("many":Str)="least"):=by decide
theorem n4:¬(("order":Str)="falling"):=by decide
theorem n5:¬(("order":Str)="least"):=by decide
theorem n6:¬(("falling":Str)="least"):=by decide
theorem n7:¬(("room":Str)="order"):=by decide
theorem n8:¬(("room":Str)="falling"):=by decide
theorem OV(l:List Int):ri (l.map .int)=true:=by induction l with |nil=>rfl |cons a l c=>simp[ri,mL,c]
theorem OW(l:List Int):allI (l.map .int)=true:=by induction l with |nil=>rfl |cons a l c=>simp[allI,c]
theorem OX(e:ws.length<=63)(h:bw BK "order" (.obj c ks l)=some (iL (dw ws))): ij (cA (m1 (bw BK "order") (aj 0))) [1] 1 (cX 1) none (m2 aJ (aj 0) (aj 1)) [.v (.obj c ks l),.v (iL ws),s]=.ok (iL (dy ws)):=by have f:=OQ ws;refine dZ (jP (l:=(dw ws).map .int) (r:=(dw ws).map fun k=>.int (gA ws k)) (by simp[cA,aj,h]) (by grind) (mO _ _ _ fun k b=>?_)) (by simp[iL,dy]);have:=Zc k b;have d:=DI (L:=ws) this.1 (by lia);simp[iN,c9,pG,cX,aj,d]
theorem Zr(n:0<m)(j:m<=100)(i:ws.length<=63):G6 [iL ws,.int m]=.ok (sb m ws):=by
 have h:G5 [.no,.v (iL ws),.v (.int m)] [] []=.ok (["many","order","falling","least"],[.int m,iL (dw ws),iL (dy ws),.int (cdiv ws.sum m)]):=by
  unfold G5 fJ;have k:lP "many" (ag 2) [.no,.v (iL ws),.v (.int m)] [] []=.ok (["many"],[.int m]):=by simp[lP,ag,mL,putN,fH]
  have g:bq vG (ai (ag 1) af) [.no,.v (iL ws),.v (.int m)]=.ok (iL (dw ws)):=by simp[bq,ai,af,ag,ON (show ws.length<64 by lia)]
  have p:rE "order" (bq vG (ai (ag 1) af)) [.no,.v (iL ws),.v (.int m)] ["many"] [.int m]=.ok (["many","order"],[.int m,iL (dw ws)]):=by have e:∃a,iL (dw ws)=D.lst a/\ri a=true:=⟨_,rfl,OV _⟩;simp[rE,g,e,putN,fH,n1]
  have u:wR 8 "falling" G4 [.no,.v (iL ws),.v (.int m)] ["many","order"] [.int m,iL (dw ws)]=.ok (["many","order","falling"],[.int m,iL (dw ws),iL (dy ws)]):=by have f:=OX (c:=8) (ks:=["many","order"]) (l:=[.int m,iL _]) (s:=.v (.int m)) i rfl;have e:∃a,iL (dy ws)=D.lst a/\allI a=true:=⟨_,rfl,OW _⟩;unfold wR;rw[show G4 (List.set [.no,.v _,.v _] 0 _)=.ok _ from f];simp[e,putN,fH,n2,n4]
  have r:=OU (t:=ws.sum) (b:=m) (by omega) (by lia);have o:lP "least" (bq wV (ai (oa uw (ai (aN gi (ai (aj 1) af)) (ai (ag 2) af))) af)) [.no,.v (iL ws),.v (.int m)] ["many","order","falling"] [.int m,iL (dw ws),iL (dy ws)]=.ok (["many","order","falling","least"],[.int m,iL (dw ws),iL (dy ws),.int (cdiv ws.sum m)]):=by
   have s:bq wV (ai (oa uw (ai (aN gi (ai (aj 1) af)) (ai (ag 2) af))) af) [.no,.v (iL ws),.v (.int m)]=.ok (.int (cdiv ws.sum m)):=by cases q:uw _ with |ok d=> rw[q,R.ak] at r;simp[bq,oa,ai,af,ag,aN,aj,yq,q,r] |_=>simp_all
   simp[lP,s,mL,putN,fH,n3,n5,n6]
  simp_all
 show R.bind _ _=_;simp[bH,iS];rw[h];rfl
section
variable{m:Int}{ws:List Int}
theorem OY:bw r_ "many" (sb m ws)=some (.int m):=rfl
theorem Zs:bw ou "falling" (sb m ws)=some (iL (dy ws)):=by rfl
theorem Zt:bw Dt "least" (sb m ws)=some (.int (cdiv ws.sum m)):=by simp[bw,sb,Dt,kK,n3,n5,n6]
end
theorem Zu:vH [sb m ws]=.ok (.int ws.length):=by
 refine gw ?_;show aH _ [.v _]=_;have a:aI [iL (dy ws)]=some (.int ws.length):=by rw[<-B2 _];simp
 simp[aH,aN,ai,af,aj,Zs,a]
theorem Zv{m:Nat}(d:m<=100)(e:cs.length<=100):zI [sb m ws,encC cs]=.ok (iL (lq m cs)):=by
 refine nU ?_;have c:aB (aN uu (ai (ag 1) af)) (aV 2) [.v (sb m ws),.v (encC cs),.no]=.nx [.v _,.v _,.v (.int (uniq cs).length)]:=dP (by simp[aN,ai,af,ag,OS e]) rfl;refine(br c).trans ?_;have a:uq [.int ((uniq cs).length+1),.int m]=some (.int (if(uniq cs).length+1<m then(uniq cs).length+1 else m:Nat)):=by show some _=_;grind
 have b:=Zb (n:=if(uniq cs).length+1<m then(uniq cs).length+1 else m) (by grind);simp[fi,F_,ai,af,aN,aj,mC,OY,a,b,lq]
theorem Zw{k:Nat}(h:ma δ=.ok (iL l))(a:mh δ=.ok (.int k))(b:k<=l.length):gq ma bZ (dF mh) δ=.ok (iL (l.take k)):=by have e:=Uk (l:=l.map D.int) (k:=k) (by simp_all);simp[gq,h,bZ,dF,a,R.ak,vm,R.au,uj,iL,e,qr]
theorem Zx{k:Nat}(h:ma δ=.ok (iL l))(a:mh δ=.ok (.int k))(b:k<=l.length):gq ma (dF mh) bZ δ=.ok (iL (l.drop k)):=by have e:=Ul (l:=l.map D.int) (k:=k) (by simp_all);simp[gq,h,bZ,dF,a,R.ak,vm,R.au,uj,iL,e,List.map_drop]
theorem Zy(l cs:List Int):(l.take cs.length).zip cs=l.zip cs:=by induction cs generalizing l with |nil=>simp |cons c cs e=>cases l with |nil=>rfl |cons a l=>simp[e]
theorem Zz{m:Nat}{ws cs:List Int}(h:0<m)(b:m<=100)(a:cs.length<=ws.length)(g:∀c∈cs,0<=c/\c<m):wW [sb m ws,encC cs]=.ok (.int (yx m ws cs)):=by
 refine gw ?_;have e:aI [encC cs]=some (.int cs.length):=by simp[encC]
 have i:aB (gq (m1 (bw ou "falling") (aj 0)) _ (dF (aN aI (ai (aj 1) af)))) (aV 2) [.v (sb m _),.v (encC cs),.no]=.nx [.v _,.v _,.v (iL ((dy _).take cs.length))]:= dP (Zw rfl (by simp[aN,ai,af,aj,e]) (by rw[B2];exact a)) rfl;refine(br i).trans ?_;have hv:=Zp (ws:=(dy ws).take cs.length) h b g;have d:xb m ((dy ws).take cs.length) cs=xb m (dy ws) cs:=by unfold xb;rw[Zy]
 rw[d] at hv;have f:vu [.int (cdiv ws.sum m),.int (xb m _ cs)]=some (.int (yx m _ _)):=rfl;simp[aH,aN,ai,af,aj,Zt,OY,bq,ag,hv,f]
def nB(cs:List Int):Nat:=(uniq cs).length
def Cn(cs:List Int):Prop:=∀p c q,cs=p++c::q->0<=c/\c<=(nB p:Int)
theorem ZA(h:Cn (p++q)):Cn p:=fun b c a e=>h _ c (a++q) (by simp_all)
theorem ZC(cs:List Int):Cn cs->uniq cs=bF (nB cs):=by
 refine HX (P:=fun cs=>Cn cs->uniq cs=bF _) (fun _=>rfl) (fun l x a h=>?_) _;have e:=a (ZA h);have b:=h l x _ rfl;unfold nB at e b⊢;rw[HW];by_cases c:x∈uniq l;.grind
 .rw[ao c,h7,sF,OH];rw[e,bR] at c;grind
theorem ZD(h:Cn cs):∀c∈cs,0<=c/\c<(nB cs:Int):=fun c b=>by have:=((Zd _).2 c).mpr b;rw[ZC _ h] at this;exact bR.mp this
theorem OZ(h:Cn cs)(h0:0<=c)(h1:c<=(nB cs:Int)):Cn (cs++[c]):=by
  intro p d q e;rcases sx q with z|⟨a,x,z⟩;.simp_all
  . have f:cs++[c]=(p++d::a)++[x]:=by simp_all
    obtain⟨b,_⟩:=List.append_inj' f rfl;exact h p _ _ b
theorem ZE(h:m δ=.ro d):aw m n δ=.ro d:=by unfold aw;rw[h]
theorem Ia(cs:List Int):nB cs<=cs.length:=OR _
def vP(r:Int)(ws cs:List Int):Int:=(nB cs:Int)+up (((dy ws).drop cs.length).sum-(nB cs:Int)*r+((bF (nB cs)).map (cZ ((dy ws).zip cs))).sum) r
def nY(r:Int)(ws cs:List Int):List Int:=((bF (nB cs)).filter fun k=>decide (cZ ((dy ws).zip cs) k+gA (dy ws) cs.length<=r))++[(nB cs:Int)]
def lr(r:Int)(ws:List Int):D:=.obj 9 ["room","order","falling"] [.int r,iL (dw ws),iL (dy ws)]
theorem ZF(h:∀w∈ws,w<=r):BM [iL ws,.int r]=.ok .non:=by
 obtain⟨W,o⟩:∃W,W=iL ws:=⟨_,rfl⟩;obtain⟨g,n,a,d,rfl⟩:=lO (b:=dM 2 (eS (aV 2) (eS (aV 3) ef))) (m:=NH) (fun k=>D.tup [.int k,.int _]) (fun f g=>∃a d,g=[.v W,.v (.int r),sv a,sv d]) (bF ws.length) (by
  rintro f k j g l ⟨a,d,rfl⟩;have p:k∈bF ws.length:=by simp_all
  obtain⟨t,s⟩:=bR.mp p;have:=h _ (ib (Hx (i:=k) (by lia)));have c:=by omega
  refine⟨[.v W,.v (.int r),.v (.int k),.v (.int (gA ws k))],[.v W,.v _,.v (.int k),.v (.int (gA ws k))],?_,.inl ?_,some _,some _,rfl⟩;.rcases a with _|a<;>rcases d with _|d<;>rfl
  .show bf _ _ _ _=_;rw[fG (by simp[aS,aj,c])];rfl) _ ⟨none,none,rfl⟩;have q:NI [.v W,.v (.int r),.no,.no]=.nx [.v W,.v (.int r),sv a,sv d]:=by refine(lN ?_).trans n;rw[o];simp[qZ,ai,af,ag,zb,xP,iL,OP]
 have:BM [W,.int r]=.ok .non:=by show bM 2 2 _ _=_;unfold bM;rw[aq (show[W,D.int r].length=2 from rfl)];have e:NJ (pH 2 [W,.int r])=.nx _:=q;rw[e]
 simp_all
theorem ZG(e:ws.length<=63)(d:∀w∈ws,w<=r):G9 [iL ws,.int r]=.ok (lr r ws):=by
 have h:G8 [.no,.v (iL ws),.v (.int r)] [] []=.ok (["room","order","falling"],[.int r,iL (dw ws),iL (dy ws)]):=by
  unfold G8 fJ;have i:tw (oa BM (ai (ag 1) (ai (ag 2) af))) [.no,.v (iL ws),.v (.int r)] [] []=.ok ([],[]):=by simp[tw,oa,ai,af,ag,ZF d]
  have m:lP "room" (ag 2) [.no,.v (iL ws),.v (.int r)] [] []=.ok (["room"],[.int r]):=by simp[lP,ag,mL,putN,fH]
  have g:bq vG (ai (ag 1) af) [.no,.v (iL ws),.v (.int r)]=.ok (iL (dw ws)):=by simp[bq,ai,af,ag,ON (show ws.length<64 by lia)]
  have k:rE "order" (bq vG (ai (ag 1) af)) [.no,.v (iL ws),.v (.int r)] ["room"] [.int r]=.ok (["room","order"],[.int r,iL (dw ws)]):=by have b:∃a,iL (dw ws)=D.lst a/\ri a=true:=⟨_,rfl,OV _⟩;simp[rE,g,b,putN,fH,n7]
  have j:wR 9 "falling" G7 [.no,.v (iL ws),.v (.int r)] ["room","order"] [.int r,iL (dw ws)]=.ok (["room","order","falling"],[.int r,iL (dw ws),iL (dy ws)]):=by have f:=OX (c:=9) (ks:=["room","order"]) (l:=[.int r,iL _]) (s:=.v (.int r)) e rfl;have b:∃a,iL (dy ws)=D.lst a/\allI a=true:=⟨_,rfl,OW _⟩;unfold wR;rw[show G7 (List.set [.no,.v _,.v _] 0 _)=.ok _ from f];simp[b,putN,fH,n8,n4]
  simp_all
 show R.bind _ _=_;simp[bH,iS];rw[h];rfl
section
variable{r:Int}{ws:List Int}
theorem ZH:bw ou "falling" (lr r ws)=some (iL (dy ws)):=by rfl
end
theorem ZI:vI [lr r ws]=.ok (.int ws.length):=by
 refine gw ?_;show aH _ [.v _]=_;have a:aI [iL (dy ws)]=some (.int ws.length):=by rw[<-B2 _];simp
 simp[aH,aN,ai,af,aj,ZH,a]
theorem ZJ:((bF n).map fun b=>r-f b).sum=(n:Int)*r-((bF n).map f).sum:=by
 have h:=Ol (f:=fun b=>r-f b) (g:=f) (l:=bF n);have e:(bF n).map (fun x=>(r-f x)+f x)=(bF n).map fun _=>r:=kf fun x _=>by lia
 rw[e,Om,hI] at h;lia
theorem O0(H:cs.length<=100)(s:Cn cs):zG [lr r ws,encC cs]=.ok (iL ((bF (nB cs)).map fun b=>r-cZ ((dy ws).zip cs) b)):=by
 obtain⟨C,n⟩:∃C,C=encC cs:=⟨_,rfl⟩;obtain⟨B,p⟩:∃B,B=lr r ws:=⟨_,rfl⟩;have T:=Ia cs;have J:bw ou "falling" B=some (iL (dy ws)):=by rw[p];rfl
 have S:bw yn "room" B=some (.int r):=by rw[p];rfl
 have K:uu [C]=some (.int (nB cs)):=by rw[n];exact OS H
 obtain⟨t,Q,e,d,rfl⟩:=lO (b:=dM 2 (eS (aV 3) (eS (aV 4) ef))) (m:=NZ) (fun x:Int×Int=>D.tup [.int x.1,.int x.2]) (fun a t=>∃e d,t=[.v B,.v C,.o (iL ((bF (nB cs)).map fun c=>r-cZ a c)),sv e,sv d]) ((dy ws).zip cs) (by
   rintro a ⟨w,b⟩ A t E ⟨e,d,rfl⟩;have g:=ZD s b (nE (show(w,b)∈(dy ws).zip cs by simp_all)).2;have u:b.toNat<((bF (nB cs)).map fun c=>r-cZ a c).length:=by rw[aW,hI];lia
   have q:=Oo (f:=fun i j=>i-j) (i:=2) (mi:=ag 4) (me:=ag 3) (δ:=[.v B,.v C,.o (iL ((bF (nB cs)).map fun c=>r-cZ a c)),.v (.int w),.v (.int b)]) (k:=b) (y:=w) rfl rfl g.1 u rfl;have G:((bF (nB cs)).map fun c=>r-cZ a c).set b.toNat (gA ((bF (nB cs)).map fun c=>r-cZ a c) b-w)=(bF (nB cs)).map fun c=>r-cZ (a++[(w,b)]) c:=by
    refine jV g.1 g.2 ?_ fun c s=>?_;.rw[HZ (z:=[]) g.1 g.2];rw[DP];lia
    .rw[DP,ao (aR s),Int.add_zero]
   rw[G] at q;refine⟨[.v B,.v C,.o (iL ((bF (nB cs)).map fun c=>r-cZ a c)),.v (.int w),.v (.int b)],[.v B,.v C,.o _,.v (.int w),.v (.int b)],?_,.inl ?_,some _,some _,rfl⟩;.rcases e with _|e<;>rcases d with _|d<;>rfl
   .exact q) [.v B,.v C,.o (iL (List.replicate (nB cs) r)),.no,.no] ⟨none,none,by
   have:(bF (nB cs)).map (fun c=>r-cZ [] c)=List.replicate (nB cs) r:=by
    have L:(bF (nB cs)).map (fun c=>r-cZ [] c)=(bF _).map _:=kf fun c _=>by show r-0=r;lia
    rw[L,qq,hI]
   simp_all⟩;refine nU ?_;rw[<-n,<-p];have I:NY [.v B,.v C,.no,.no,.no]=.ok (iL (List.replicate (nB cs) r)):=by
  refine dZ (jP (l:=(bF (nB cs)).map .int) (r:=(bF (nB cs)).map fun _=>.int r) ?_ (by rw[aW,hI];lia) ?_) ?_;.simp[b9,aN,ai,af,ag,K,mR (show nB cs<=1000 by lia)]
  .refine mO _ _ _ fun k _=>?_;simp[iN,c9,pG,cX,aj,S]
  .rw[qq,hI];simp[iL]
 have M:aB _ (dq 2) _=.nx _:=dP I rfl;have N:N0 [.v B,.v C,.o (iL (List.replicate (nB cs) r)),.no,.no]=.nx [.v B,.v C,.o (iL ((bF (nB cs)).map fun c=>r-cZ ((dy ws).zip cs) c)),sv e,sv d]:=by refine(lN ?_).trans Q;have:=OT (l:=dy ws) (cs:=cs);rw[<-n] at this;simp[Bm,ai,af,ag,aj,J,this]
 exact(br M).trans ((br N).trans rfl)
theorem O1(a:n∉(["many","order","falling","least"]:List Str)):PM.isObj 8 n (sb m ws)=some ():=by show(if 8=8/\n∉(["many","order","falling","least"]:List Str) then some _ else none)=some _;simp_all
theorem ZK(J:ws.length<=100)(G:cs.length<ws.length)(A:Cn cs):zJ [lr r ws,encC cs]=.ok (iL (nY r ws cs)):=by
  have j:=O0 (r:=r) (ws:=ws) (show cs.length<=100 by lia) A;obtain⟨C,m⟩:∃C,C=encC cs:=⟨_,rfl⟩;obtain⟨B,e⟩:∃B,B=lr r ws:=⟨_,rfl⟩;have I:=Ia cs;have s:PM.isObj 9 "free" B=some ():=by rw[e];rfl
  have w:bw ou "falling" B=some (iL (dy ws)):=by rw[e];rfl
  have H:aI [C]=some (.int cs.length):=by rw[m];simp[encC]
  rw[<-m,<-e] at j;obtain⟨L,f⟩:∃L,L=(bF (nB cs)).map fun b=>r-cZ ((dy ws).zip cs) b:=⟨_,rfl⟩;rw[<-f] at j;have q:L.length=nB cs:=by rw[f,aW,hI]
  refine nU ?_;rw[<-m,<-e];have x:aB (bN 9 "free" zG (ag 0) (ai (ag 1) af)) (aV 2) [.v B,.v C,.no,.no]=.nx [.v B,.v C,.v (iL L),.no]:=dP (d:=iL L) (by simp[bN,ag,ai,af,s,j]) rfl;have E:aJ (iL (dy ws)) (.int cs.length)=some (.int (gA (dy ws) cs.length)):=DI (by lia) (by rw[B2];lia);have p:aB (m2 aJ (m1 (bw ou "falling") (aj 0)) (aN aI (ai (aj 1) af))) (aV 3) [.v B,.v C,.v (iL L),.no]=.nx [.v B,.v C,.v (iL L),.v (.int (gA (dy ws) cs.length))]:=dP (d:=.int (gA (dy ws) cs.length)) (by simp[aj,aN,ai,af,w,H,E]) rfl;have n:N8 [.v B,.v C,.v (iL L),.v (.int (gA (dy ws) cs.length))]=.ok (iL ((bF (nB cs)).filter fun k=>decide (cZ ((dy ws).zip cs) k+gA (dy ws) cs.length<=r))):=by
    refine jP (l:=(bF (nB cs)).map fun k=>D.tup [.int k,.int (gA L k)]) ?_ (by grind) ?_;.have:=OP L;rw[q] at this;simp[qZ,ai,af,aj,zb,xP,iL,this]
    . refine Hy (fun k=>D.tup [.int k,.int (gA L k)]) _ .int _ fun k y=>?_;obtain⟨u,o⟩:=bR.mp y;have g:gA L k=r-cZ ((dy ws).zip cs) k:=by rw[f,HZ (z:=[]) u o]
      by_cases c:cZ ((dy ws).zip cs) k+gA (dy ws) cs.length<=r
      . have h:gA (dy ws) cs.length<=gA L k:=by lia
        simp[iN,c9,pG,dM,eS,ef,cX,aS,aj,ag,c,h]
      . have h:¬gA (dy ws) cs.length<=gA L k:=by lia
        simp[iN,c9,pG,dM,eS,ef,cX,aS,aj,c,h]
  refine(br x).trans ((br p).trans ?_);have t:aI [iL L]=some (.int (nB cs)):=by simp_all
  have fl:((bF (nB cs)).filter fun k=>decide (cZ ((dy ws).zip cs) k+gA (dy ws) cs.length<=r)).length<=100:=by grind
  unfold nY;generalize((bF (nB cs)).filter fun k=>decide (cZ _ k+gA _ _<=r))=Y at fl n⊢;have i:fS (iL Y) (.lst [.int (nB cs)])=some (iL (Y++[(nB cs:Int)])):=by refine(Uo (by grind)).trans ?_;simp[iL]
  simp[fi,bT,ai,af,aj,aN,n,t,sizeLine,i]
theorem ZL(h:ma δ=.ok (iL l)):aN gi (ai ma af) δ=.ok (.int l.sum):=by unfold aN ai;rw[h];simp[af,yq]
theorem ZM(j:0<r)(e:r<=1000000000000000000)(H:ws.length<=100)(g:cs.length<=ws.length)(A:Cn cs):wX [lr r ws,encC cs]=.ok (.int (vP r ws cs)):=by
 have i:=O0 (r:=r) (ws:=ws) (show cs.length<=100 by lia) A;obtain⟨C,h⟩:∃C,C=encC cs:=⟨_,rfl⟩;obtain⟨B,a⟩:∃B,B=lr r ws:=⟨_,rfl⟩;have x:PM.isObj 9 "free" B=some ():=by rw[a];rfl
 have m:bw ou "falling" B=some (iL (dy ws)):=by rw[a];rfl
 have y:bw yn "room" B=some (.int r):=by rw[a];rfl
 have s:aI [C]=some (.int cs.length):=by rw[h];simp[encC]
 rw[<-h,<-a] at i;obtain⟨L,f⟩:∃L,L=(bF (nB cs)).map fun b=>r-cZ ((dy ws).zip cs) b:=⟨_,rfl⟩;rw[<-f] at i;have J:L.length=nB cs:=by rw[f,aW,hI]
 have G:L.sum=nB cs*r-((bF (nB cs)).map (cZ ((dy ws).zip cs))).sum:=by rw[f];exact ZJ
 refine gw ?_;rw[<-h,<-a];have w:aB (bN 9 "free" zG (ag 0) (ai (ag 1) af)) (aV 2) [.v B,.v C,.no,.no]=.nx [.v B,.v C,.v (iL L),.no]:=dP (by simp[bN,ag,ai,af,x,i]) rfl;have o:=Zx (δ:=[.v B,.v C,.v (iL L),.no]) (ma:=m1 (bw ou "falling") (aj 0)) (mh:=aN aI (ai (aj 1) af)) (l:=dy ws) (k:=cs.length) (by simp[aj,m]) (by simp[aN,ai,af,aj,s]) (by rw[B2];exact g);have p:aB (m2 gU (aN gi (ai (gq (m1 (bw ou "falling") (aj 0)) (dF (aN aI (ai (aj 1) af))) bZ) af)) (aN gi (ai (aj 2) af))) (aV 3) [.v B,.v C,.v (iL L),.no]=.nx [.v B,.v C,.v (iL L),.v (.int (((dy ws).drop cs.length).sum-L.sum))]:=by
  refine dP ?_ rfl;have K:=ZL o;have E:aN gi (ai (aj 2) af) [.v B,.v C,.v (iL L),.no]=.ok (.int L.sum):=by simp[aN,ai,af,aj,yq]
  simp_all
 refine(br w).trans ((br p).trans ?_);have z:aI [iL L]=some (.int (nB cs)):=by simp_all
 have c:=OU (t:=((dy ws).drop cs.length).sum-L.sum) j e;have u:nB cs+(if 0<cdiv (((dy ws).drop cs.length).sum-L.sum) r then cdiv (((dy ws).drop cs.length).sum-L.sum) r else 0)=vP r ws cs:=by rw[<-Zq j];unfold vP;grind
 have n:vu [.int 0,.int (cdiv (((dy ws).drop cs.length).sum-L.sum) r)]=some _:=rfl;cases q:uw _ with |ok d=> rw[q,R.ak] at c;rw[<-u];simp[aH,aN,ai,af,aj,mC,z,bq,oa,ag,y,q,c,n] |_=>rw[q] at c;cases c
theorem ZN{α:Type}(enc:α->D)(g:α->List Int)(l:List α)(h:∀x∈l,f (enc x)=.ok (g x)):r6 f (l.map enc)=.ok (l.map g):=by induction l with |nil=>rfl |cons a l d=>rw[bH,r6,h a (by simp),d fun x c=>h x (by simp[c])];rfl
def O2(d:Int->Int->Int)(L:List (Int×Int)):Int:=(L.map fun p=>d p.1 p.2).sum
def path(d:Int->Int->Int):List Int->Int |a::b::l=>d a b+path d (b::l) |_=>0
theorem O3(d:Int->Int->Int):∀(l:List Int)(a x y:Int),path d (a::(l++[x,y]))=path d (a::(l++[x]))+d x y |[],a,x,y=>by simp[path] |c::l,a,x,y=>by have:=O3 d l c x y;show d a c+path d (c::(l++[x,y]))=d a c+path d (c::(l++[x]))+d x y;lia
def B3(d:Int->Int->Int):List Int->Int |[]=>0 |a::l=>path d (a::(l++[a]))
def cp:List Int->List (Int×Int) |a::b::l=>(a,b)::cp (b::l) |_=>[]
theorem O4(d:Int->Int->Int):∀l:List Int,O2 d (cp l)=path d l |[]=>rfl |[_]=>rfl |a::b::l=>by have:=O4 d (b::l);show d a b+O2 d _=d a b+path d _;rw[this]
theorem ZO(d:Int->Int->Int)(l:List Int)(w:Int):B3 d (l++[w])=path d (l++[w])+d w ((l++[w]).headD 0):=by cases l with |nil=>show d w w+0=0+d w w;lia |cons a l=>show path d (a::((l++[w])++[a]))=path d _+d w a;rw[sr];exact O3 d l a w a
theorem O5:aJ (iL (l++[w])) (.int (-1))=some (.int w):=by
 show jd _ _=_;unfold jd gK;rw[ao (by decide),aW,h7,sF,aq (by lia)];have:((-1:Int)+(l.length+1:Nat)).toNat=l.length:=by lia
 simp only[this];simp
theorem ZP:aJ (iL (a::l)) (.int 0)=some (.int a):=by show jd _ 0=_;unfold jd gK;simp
theorem ZQ:aJ (iL (l++[w])) (.int 0)=some (.int ((l++[w]).headD 0)):=by cases l with |nil=>rfl |cons a l=>exact ZP
theorem O6:∀l:List Int,cp l=(List.range (l.length-1)).map fun k=>(l.getD k 0,l.getD (k+1) 0) |[]=>rfl |[_]=>rfl |a::b::l=>by have:=O6 (b::l);show(a,b)::cp _=_;rw[this];show _=(List.range (l.length+1)).map _;rw[List.range_succ_eq_map,bH,cK];rfl
theorem O7{l:List Int}(h:k<l.length):aJ (iL l) (.int k)=some (.int (l.getD k 0)):=by show jd _ k=_;unfold jd gK;simp[h]
theorem ZR{n:Nat}(C:l≠[])(I:l.length<=100)(c:∀v∈l,0<=v/\v<(n:Int)):DA [bE (bD n d),iL l]=.ok (.int (path d l)):=by
 obtain⟨T,m⟩:∃T,T=bE (bD n d):=⟨_,rfl⟩;have h:∀a:Int,0<=a->a<n->aJ T _=some _:=fun a A y=>by rw[m];exact DO A y
 rw[<-m];have G:=sE.mpr C;have u:aI [iL l]=some (.int l.length):=by simp
 have x:b9 (ai (m2 gU (aN aI (ai (aj 1) af)) (mC (.int 1))) af) [.v T,.v (iL l)]=.ok ((List.range (l.length-1)).map fun k:Nat=>.int k):=by
  have B:=mR (show l.length-1<=1000 by lia);have e:(l.length:Int)-1=(l.length-1:Nat):=by lia
  simp[b9,ai,af,mC,aN,aj,d_,List.getElem?_cons_succ,List.getElem?_cons_zero,u,R.ak,R.au,CZ];rw[e];refine(dh _ B).trans ?_;unfold bF;simp
 have E:N6 [.v T,.v (iL l)]=.ok (iL ((cp l).map fun p=>d p.1 p.2)):=by
  unfold iL;rw[O6,cK,cK];refine jP x (by simp;lia) ?_;have e:c9 [.v T,.v (iL l)] [0,1] 1=[.v T,.v _,.no]:=rfl;unfold iL at e;rw[e];refine mO _ _ _ fun k z=>?_;have H:=iU.mp z;have q:=O7 (l:=l) (k:=k) (by lia);have i:=O7 (l:=l) (k:=k+1) (by lia);rw[show((k+1:Nat):Int)=k+1 by lia] at i;have g:∀j,j<l.length->l.getD j 0∈l:=fun j w=>by rw[dR,bW w];simp
  have o:=c _ (g k (by lia));have m1:=c _ (g (k+1) (by lia));have t:=h _ o.1 o.2;have r:=vO (f:=d (l.getD k 0)) m1.1 m1.2;have b:cX 2 (.int k) [.v T,.v (.lst (l.map .int)),.no]=some _:=rfl;unfold iL at q i;simp[iN,b];simp only[d_,aj,mC,List.getElem?_cons_succ,List.getElem?_cons_zero,R.ak,q,i,R.au,t,xW,r];rfl
 refine gw ?_;show aH _ [.v T,.v _]=_;have s:=yq ((cp l).map fun p=>d p.1 p.2);have e:((cp l).map _).sum=path d l:=O4 d l;simp only[aH,aN,ai,af,E,R.ak,s,e];rfl
theorem ZS(J:ja n B d)(M:l≠[])(H:l.length<=100)(i:∀v∈l,0<=v/\v<(n:Int)):Hr [bE (bD n d),iL l]=.ok (.int (B3 d l)):=by
  have o:=ZR (d:=d) M H i;rcases sx l with e|⟨g,w,e⟩;.simp_all
  rw[List.concat_eq_append] at e;subst e;obtain⟨a,p⟩:∃a,a=(g++[w]).headD 0:=⟨_,rfl⟩;have G:a∈g++[w]:=by rw[p];cases g with |nil=>simp |cons b g=>simp
  have u:=i a G;have k:=i w (by simp);have t:=DO (d:=d) k.1 k.2;have s:=vO (f:=d w) u.1 u.2;have r:=ZO d g w;rw[<-p] at r;have m:=ZQ (l:=g) (w:=w);rw[<-p] at m;have y:=O5 (l:=g) (w:=w);have j:aI [iL (g++[w])]=some (.int (g.length+1)):=by simp
  have z:g.length=0->B3 d (g++[w])=0:=fun h=>by have:=lG.mp h;subst this;have:=J.self w k.1 k.2;show d w w+0=0;lia
  obtain⟨X,C⟩:∃X,X=g++[w]:=⟨_,rfl⟩;rw[<-C] at o r m y j z⊢;obtain⟨T,K⟩:∃T,T=bE (bD n d):=⟨_,rfl⟩;rw[<-K] at o t⊢;refine gw ?_;show aw _ _ [.v T,.v _]=_;by_cases c:g.length=0
  . have q:bf (aS (m2 oEq (aN aI (ai (aj 1) af)) (mC (.int 1)))) (aH (mC (.int 0))) cB [.v T,.v (iL X)]=.rt (.int 0):=by rw[c] at j;rw[hZ (by simp[aS,aN,ai,af,aj,mC,j])];rfl
    have I:=z c;rw[I];unfold aw;rw[q]
  . have q:bf (aS (m2 oEq (aN aI (ai (aj 1) af)) (mC (.int 1)))) (aH (mC (.int 0))) cB [.v T,.v (iL X)]=.nx [.v T,.v (iL X)]:=by rw[fG (by simp[aS,aN,ai,af,aj,mC,j];lia)];rfl
    refine(br q).trans ?_;have L:bq DA (ai (ag 0) (ai (ag 1) af)) [.v T,.v (iL X)]=.ok (.int (path d X)):=by simp[bq,ai,af,ag,o]
    simp only[aH,d_,L,uZ,aj,mC,List.getElem?_cons_succ,List.getElem?_cons_zero,R.ak,R.au,zh,m,y,t,s,r];rfl
def tK(T:D):D:=.obj 11 ["lengths"] [T]
def tL(T:D)(m:Int):D:=.obj 12 ["lengths","many"] [T,.int m]
theorem ZT:¬(("lengths":Str)="many"):=by decide
theorem O8(b:a δ=.ok x)(c:f [x]=.ok r):bq f (ai a af) δ=.ok r:=by simp[bq,ai,af,b,c]
theorem ZU(e:a δ=.ok x)(c:b δ=.ok y)(d:f [x,y]=.ok r):bq f (ai a (ai b af)) δ=.ok r:=by simp[bq,ai,af,e,c,d]
theorem ZV(h:a δ=.ok x)(d:b δ=.ok y)(g:c δ=.ok z)(e:f [x,y,z]=.ok r):bq f (ai a (ai b (ai c af))) δ=.ok r:=by simp[bq,ai,af,h,d,g,e]
theorem ZW(g:a δ=.ok o)(d:isObj c m o=some ())(h:b δ=.ok x)(e:f [o,x]=.ok r):bN c m f a (ai b af) δ=.ok r:=by simp[bN,ai,af,g,d,h,e]
theorem yy(T:D)(h:m∉(["lengths"]:List Str)):isObj 11 m (tK T)=some ():=by show(if 11=11/\m∉(["lengths"]:List Str) then some _ else none)=some _;simp_all
theorem yz(T:D)(k:Int)(h:m∉(["lengths","many"]:List Str)):isObj 12 m (tL T k)=some ():=by show(if 12=12/\m∉(["lengths","many"]:List Str) then some _ else none)=some _;simp_all
theorem O9(T:D):bw r9 "lengths" (tK T)=some T:=rfl
theorem O_(T:D)(k:Int):bw r9 "lengths" (tL T k)=some T:=rfl
theorem O'(T:D)(k:Int):bw r_ "many" (tL T k)=some (.int k):=rfl
theorem Pa(b:n<=100):zF [bE (bD n d)]=.ok (bD n d):=by
 unfold zF rJ;rw[aq (show[bE _].length=1 from rfl)];show C_ _ _ _ _ _ [.v _]=_;unfold C_;have r:cA (aj 0) [.v (bE (bD n d))]=.ok _:=rfl;rw[r,R.ak,fY (by simp[bD,hI];exact bK b (by decide))];have g:r6 (x9 (cX 0) (aN kU (ai (aj 0) af)) (c9 [.v (bE (bD n d))] [] 1)) ((bD n d).map iL)=.ok ((bD n d).map fun x=>x):=by refine ZN _ _ _ fun l _=>?_;have fl:kU [iL l]=some (iL l):=rfl;have a:vy (iL l)=some l:=rZ _;have e:c9 [.v (bE (bD n d))] [] 1=[.no]:=rfl;rw[e];simp[x9,cX,aN,ai,af,aj,fl,a]
 simp_all
theorem ZX(c:ja n B d)(b:n<=100):Hg [bE (bD n d)]=.ok (tK (bE (bD n d))):=by
 have a:=OM b c;have cp:=Pa (d:=d) b;have h:Hf [.no,.v (bE (bD n d))] [] []=.ok (["lengths"],[bE (bD n d)]):=by unfold Hf fJ tw vD;simp[oa,Bz,ai,af,ag,a,cp,putN,fH]
 show R.bind _ _=_;simp[bH,iS];rw[h];rfl
theorem ZY(c:ja n B d)(b:n<=100):Hi [bE (bD n d),.int k]=.ok (tL (bE (bD n d)) k):=by
 have a:=OM b c;have cp:=Pa (d:=d) b;have h:Hh [.no,.v (bE (bD n d)),.v (.int k)] [] []=.ok (["lengths","many"],[bE (bD n d),.int k]):=by unfold Hh fJ tw vD lP;simp[oa,Bz,ai,af,ag,a,cp,putN,fH,mL,ZT]
 show R.bind _ _=_;simp[bH,iS];rw[h];rfl
noncomputable def Rg(a:Int)(m:Nat):List Int:=(List.range m).map fun k:Nat=>a+(k:Int)
theorem pV:x∈Rg a m↔a<=x/\x<a+m:=by
 unfold Rg;rw[fP];constructor;.rintro⟨k,b,rfl⟩;have:=iU.mp b;lia
 .intro h;exact⟨(x-a).toNat,iU.mpr (by lia),by lia⟩
theorem yA(a:Int)(m:Nat):(Rg a m).length=m:=by simp[Rg]
def rW(n:Nat)(cs:List Int):List Int:=(Rg 1 (n-1)).filter fun p=>decide (p∉cs)
theorem ZZ{n:Nat}(h1:1<=n)(a:n<=1000):lI [.int 1,.int n]=some ((Rg 1 (n-1)).map .int):=by rw[FX (by lia) (by lia)];unfold Rg u9;simp
theorem Z0:zl (.int x) (encC cs)=some (.bl (!decide (x∈cs))):=by simp[zl,encC,rZ]
theorem Z1(h1:1<=n)(c:n<=100):zO [tK (bE (bD n d)),encC cs]=.ok (iL (rW n cs)):=by
 have a:aI [bE (bD n d)]=some _:=zU;have b:=ZZ h1 (by lia);have fl:=O9 (bE (bD n d));have k:Hs [.v (tK (bE (bD n d))),.v (encC cs)]=.ok (iL (rW n cs)):=by refine jP (l:=(Rg 1 (n-1)).map .int) (by simp[b9,ai,af,mC,aN,aj,fl,a,b]) (by rw[aW,yA];lia) ?_;have s:c9 [.v (tK (bE (bD n d))),.v (encC cs)] [1] 1=[.v _,.no]:=rfl;rw[s];refine FY _ _ _ fun x _=>?_;by_cases e:x∈cs<;>simp[iN,cX,aS,aj,ag,Z0,e]
 refine nU ?_;show fi Hs [.v _,.v _]=_;unfold fi;simp_all
theorem Z2(h:a.length+b.length<=1000):fS (iL a) (iL b)=some (iL (a++b)):=by unfold fS iL;simp only;rw[fY (by rw[aW,aW];exact bK h (by decide)),h_]
theorem Z3(δ:En)(x:Int):bT (ai (mC (.int x)) af) δ=.ok (iL [x]):=by simp[bT,ai,af,mC,sizeLine,iL]
theorem Z4(h:cs.length<=100):Dz [tK T,encC cs]=.ok (iL (0::cs)):=by refine nU ?_;show fi _ [.v _,.v _]=_;unfold fi;have e:aN kU (ai (aj 1) af) [.v (tK T),.v (encC cs)]=.ok (iL _):=rfl;rw[d_,Z3,R.ak,e,R.ak,Z2 (by grind)];rfl
theorem Z5(f:ja n B d)(h0:0<n)(h:cs.length<=90)(b:∀v∈cs,0<=v/\v<(n:Int)):w8 [tK (bE (bD n d)),encC cs]=.ok (.int (B3 d (0::cs))):=by
 have c:=Z4 (T:=bE (bD n d)) (cs:=cs) (by lia);have e:=ZS f (l:=0::cs) (by simp) (by grind) (fun v hv=>by
  rcases aY.mp hv with z|z;.lia
  simp_all);refine gw ?_;show aH _ [.v _,.v _]=_;have a:bN 11 "answer" Dz (ag 0) (ai (ag 1) _) [.v _,.v _]=.ok _:=ZW rfl rfl rfl c;unfold aH;rw[ZU (rfl) a e];rfl
def bl(cs:List Int):Int:=match cs.getLast? with|none=>0|some w=>w+1
theorem Ib(l:List Int)(w:Int):bl (l++[w])=w+1:=by unfold bl;simp
theorem Pb:cC (encC (l++[w])) (.int (-1))=some (.int w):=O5
theorem Ie(cs:List Int):aI [encC cs]=some (.int cs.length):=by unfold encC aI;simp
theorem Pc(cs:List Int):yo [encC cs]=.ok (.int (bl cs)):=by
  refine gw ?_;show aH _ [.v _]=_;have b:=Ie cs;rcases sx cs with e|⟨l,w,e⟩;.subst e;rfl
  . rw[List.concat_eq_append] at e;subst e;have a:=Pb (l:=l) (w:=w);rw[Ib];have t:aS (m2 uk (aN aI (ai (aj 0) af)) (mC (.int 0))) [.v (encC (l++[w]))]=.ok true:=by simp[aS,aN,ai,af,aj,mC,b]
    unfold aH Ft;rw[t];simp[aj,mC,a]
def pW(n b t:Nat):List Int:=Rg b (n-b-t+1)
theorem Z6{b t m:Nat}(k:bl cs=b)(s:m=cs.length+t)(r:1<=t)(l:b+t<=n)(q:n<=100):zM [tL (bE (bD n d)) m,encC cs]=.ok (iL (pW n b t)):=by
 have h:aI [bE (bD n d)]=some _:=zU;have f:=O_ (bE (bD n d)) m;have g:=O' (bE (bD n d)) m;have e:=Pc cs;rw[k] at e;have j:=Ie cs;obtain⟨a,p⟩:∃a,a=tL (bE (bD n d)) m:=⟨_,rfl⟩;rw[<-p] at f g⊢;refine nU ?_;have o:aB (m2 gU (m1 (bw r_ "many") (aj 0)) (aN aI (ai (aj 1) af))) (aV 2) [.v a,.v (encC cs),.no]=.nx [.v a,.v (encC cs),.v (.int t)]:=by refine dP ?_ rfl;simp[d_,uZ,aN,ai,af,aj,List.getElem?_cons_succ,List.getElem?_cons_zero,R.ak,g,j,R.au,CZ];rw[show(m:Int)-cs.length=t by lia]
 refine(br o).trans ?_;have c:bq _ (ai (ag 1) _) [.v a,.v _,.v (.int t)]=.ok _:=O8 rfl e;have i:wO [.int b,.int (n-t+1)]=some (iL (pW n b t)):=by unfold wO;simp only;rw[fY (by lia)];unfold pW Rg iL;rw[cK,show((n:Int)-t+1-b).toNat=n-b-t+1 by lia];rfl
 unfold fi x_;simp[ai];rw[c];simp only[d_,uZ,aN,ai,af,aj,mC,List.getElem?_cons_succ,List.getElem?_cons_zero,R.ak,f,h,R.au,CZ,xW,i];rfl
def mn:List Int->Int |[]=>0 |a::l=>jQ l a
def mx:List Int->Int |[]=>0 |a::l=>dO l a
theorem Z7(h:l≠[]):ur jQ [iL l]=some (.int (mn l)):=by cases l with |nil=>simp_all |cons a l=>show(dG _).map _=_;rw[rZ];rfl
theorem Z8(h:l≠[]):ur dO [iL l]=some (.int (mx l)):=by cases l with |nil=>simp_all |cons a l=>show(dG _).map _=_;rw[rZ];rfl
def vQ(n:Nat)(d:Int->Int->Int)(S:List Int):Int:=mx ((bF n).map fun a=>mn (S.map (d a)))
theorem Z9{n:Nat}{a:Int}(i:S≠[])(j:S.length<=1000)(c:∀v∈S,0<=v/\v<(n:Int))(h:0<=a)(g:a<n):Hq [bE (bD n d),.int a,iL S]=.ok (.int (mn (S.map (d a)))):=by
 have t:=DO (d:=d) h g;have k:N4 [.v (bE (bD n d)),.v (.int a),.v (iL S)]=.ok (iL (S.map (d a))):=by unfold iL;rw[cK];refine jP rfl (by grind) ?_;have s:c9 [.v (bE (bD n d)),.v (.int a),.v (.lst (S.map .int))] [0,1] 1=[.v _,.v _,.no]:=rfl;rw[s];refine mO _ _ _ fun x e=>?_;have r:=vO (f:=d a) (c x e).1 (c x e).2;simp[iN,cX,aj,t,r]
 refine gw ?_;show aH _ [.v _,.v _,.v _]=_;have b:=Z7 (l:=S.map (d a)) (by simp_all);simp only[aH,aN,ai,af,k,R.ak,b];rfl
theorem Z_{n:Nat}(u:0<n)(w:n<=100)(q:S≠[])(r:S.length<=1000)(h:∀v∈S,0<=v/\v<(n:Int)):Dy [bE (bD n d),iL S]=.ok (.int (vQ n d S)):=by
 have i:aI [bE (bD n d)]=some _:=zU;have t:=mR (show n<=1000 by lia);have o:=fun a g f=>Z9 (d:=d) (a:=a) q r h g f;obtain⟨T,j⟩:∃T,T=bE (bD n d):=⟨_,rfl⟩;rw[<-j] at i⊢;simp[<-j] at o;have k:N5 [.v T,.v (iL S)]=.ok (iL ((bF n).map fun a=>mn (S.map (d a)))):=by unfold iL;rw[cK];refine jP (l:=(bF n).map .int) (by simp[b9,ai,af,aN,aj,i,t]) (by rw[aW,hI];lia) ?_;have s:c9 [.v T,.v (.lst (S.map .int))] [0,1] 1=[.v T,.v _,.no]:=rfl;rw[s];refine mO _ _ _ fun a p=>?_;obtain⟨g,f⟩:=bR.mp p;have c:=ZV (a:=ag 0) (b:=ag 2) (c:=ag 1) (δ:=[.v T,.v (.lst _),.v _]) rfl rfl rfl (o a g f);have b:cX 2 (.int a) [.v T,.v (.lst (S.map .int)),.no]=some [.v T,.v _,.v _]:=rfl;simp only[iN,b,c,R.ba];rfl
 refine gw ?_;show aH _ [.v T,.v _]=_;have b:=Z8 (l:=(bF n).map fun a=>mn (S.map (d a))) (fun e=>by have:=dh List.length e;rw[aW,hI] at this;simp_all);simp[aH,aN,ai,af,k,R.ak,b];rfl
def sm(n b t:Nat)(cs:List Int):List Int:=cs++(if t=0 then[] else Rg b (n-b))
theorem Z'{b t m:Nat}(r:bl cs=b)(q:b<=n)(C:m=cs.length+t)(h:0<n)(u:n<=100)(E:cs.length<=100)(k:sm n b t cs≠[])(f:∀v∈sm n b t cs,0<=v/\v<(n:Int)):wZ [tL (bE (bD n d)) m,encC cs]=.ok (.int (vQ n d (sm n b t cs))):=by
  have B:aI [bE (bD n d)]=some (.int n):=zU;have j:=O_ (bE (bD n d)) m;have i:=O' (bE (bD n d)) m;have p:=Pc cs;rw[r] at p;have l:=Ie cs;obtain⟨S,g⟩:∃S,S=sm n b t cs:=⟨_,rfl⟩;have Sl:S.length<=1000:=by
    rw[g];unfold sm;rw[h7];split;.grind
    .rw[yA];lia
  rw[<-g] at k f⊢;have A:=Z_ (d:=d) h u k Sl f;obtain⟨a,y⟩:∃a,a=tL (bE (bD n d)) m:=⟨_,rfl⟩;rw[<-y] at j i⊢;refine gw ?_;have s:aB (aN kU (ai (aj 1) af)) (dq 2) [.v a,.v (encC cs),.no]=.nx [.v a,.v (encC cs),.o (iL cs)]:=dP (d:=iL cs) (by rfl) rfl;have w:bf (aS (m2 oLt (aN aI (ai (aj 1) af)) (m1 (bw r_ "many") (aj 0)))) (BA 2 (x_ (ai (bq yo (ai (ag 1) af)) (ai (aN aI (ai (m1 (bw r9 "lengths") (aj 0)) af)) af)))) cB [.v a,.v (encC cs),.o (iL cs)]=.nx [.v a,.v (encC cs),.o (iL S)]:=by
    by_cases z:t=0;.rw[fG (by simp[aS,aN,ai,af,aj,l,i];lia),g];unfold sm;rw[aq z,dQ];rfl
    . rw[hZ (by simp[aS,aN,ai,af,aj,l,i];lia)];have x:wO [.int b,.int n]=some (iL (Rg b (n-b))):=by unfold wO;simp;rw[fY (by lia)];unfold Rg iL;simp
      have c:bq yo (ai (ag 1) _) [.v a,.v _,.o (iL cs)]=.ok _:=O8 rfl p;have e:x_ (ai (bq yo (ai (ag 1) af)) (ai (aN aI (ai (m1 (bw r9 "lengths") (aj 0)) af)) af)) [.v a,.v (encC cs),.o (iL cs)]=.ok (iL (Rg b (n-b))):=by unfold x_;simp[ai];rw[c];simp[uZ,aN,ai,af,aj,List.getElem?_cons_zero,R.ak,j,B,R.au,x]
      unfold BA;rw[e];show(if(cs.map _).length+((Rg b _).map D.int).length<=sizeLine then O.nx [.v _,.v _,.o _] else O.no)=_;rw[aq (by rw[aW,aW,yA];exact bK (show cs.length+(n-b)<=1000 by lia) (by decide)),<-h_,g];unfold sm;rw[ao z];rfl
  refine(br s).trans ((br w).trans ?_);have c:zg Dy (ai (m1 (bw r9 "lengths") (aj 0)) (ai (aj 2) af)) [.v a,.v (encC cs),.o (iL S)]=.ok (.int (vQ n d S)):=by simp[zg,ai,af,aj,j,A,mL]
  unfold aH;simp_all
abbrev lx:=Option (List Int×Int)
structure Qs where
 st:Nat
 low:List Int->Int
 wy:List Int->List Int
def tM(q:Qs)(b:lx)(c:List Int):Bool:=match b with|some (_,k)=>decide (k<=q.low c)|none=>false
def kX(q:Qs)(b:lx)(c:List Int):Bool:=tM q b c||decide (c.length=q.st)
def nb(q:Qs)(b:lx)(c:List Int):lx:=if tM q b c=true then b else if c.length=q.st then some (c,q.low c) else b
def nk(q:Qs)(b:lx)(c:List Int):List (List Int):=if kX q b c=true then[] else(q.wy c).map fun w=>c++[w]
def jy(q:Qs)(b:lx)(c:List Int):List (List Int):=if kX q b c=true then[c] else[]
structure Rn where
 b:lx
 cl:List (List Int)vs:List (List Int)
def run(q:Qs):Nat->lx->List (List Int)->Option Rn |_,b,[]=>some ⟨b,[],[]⟩ |0,_,_::_=>none |n+1,b,c::W=>(run q n (nb q b c) (nk q b c++W)).map fun r=>⟨r.b,jy q b c++r.cl,c::r.vs⟩
theorem xc(h:run q n b (c::W)=some r):∃m a,n=m+1/\run q m (nb q b c) (nk q b c++W)=some a/\r=⟨a.b,jy q b c++a.cl,c::a.vs⟩:=by cases n with |zero=>cases h |succ m=> unfold run at h;cases z:run q m (nb q b c) (nk q b c++W) with |none=>simp_all |some a=>simp_all
theorem Pd:∀{n:Nat}{b:lx}{W:List (List Int)}{r:Rn},run q n b W=some r->r.vs.length<=n:=by intro n;induction n using Nat.strongRecOn;rename_i n I;intro b W r h;cases W with |nil=>clear I;unfold run at h;grind |cons c W=> obtain⟨m,e,rfl,d,rfl⟩:=xc h;have:=I _ (Nat.lt.base _) d;clear I;simp_all
structure vR(q:Qs)(Ok:List Int->Prop)(S:Nat->Nat):Prop where
 more:∀c,Ok c->c.length<q.st->1+(q.wy c).length*S (c.length+1)<=S c.length
 one:∀k,1<=S k
 all:S 0<=2000
def jz(S:Nat->Nat)(W:List (List Int)):Nat:=(W.map fun c=>S c.length).sum
theorem Ig(S:Nat->Nat)(c:List Int):∀l:List Int,jz S (l.map fun w=>c++[w])=l.length*S (c.length+1) |[]=>by simp[jz] |w::l=>by have b:=Ig S c l;unfold jz at b⊢;grind
theorem Pe(S:Nat->Nat)(a b:List (List Int)):jz S (a++b)=jz S a+jz S b:=by simp[jz]
structure Walk(q:Qs)(Ok:List Int->Prop):Prop where
 nil:Ok []len:∀c,Ok c->c.length<=q.st
 step:∀c,Ok c->c.length<q.st->∀w∈q.wy c,Ok (c++[w])wn:∀c,Ok c->c.length<q.st->q.wy c≠[]
theorem Walk.kids(h:Walk q Ok)(g:∀x∈c::W,Ok x):∀x∈nk q b c++W,Ok x:=fun x i=>by
  have a:=g c (by simp);rcases bO.mp i with z|z
  . unfold nk at z;split at z;.cases z
    .rename_i d;obtain⟨w,f,rfl⟩:=fP.mp z;have j:=h.len c a;have k:c.length≠q.st:=fun e=>d (by unfold kX;simp[e]);exact h.step c a (by lia) w f
  simp_all
theorem Pf(h:Walk q Ok)(d:vR q Ok S):∀(n:Nat)(b:lx)(W:List (List Int)),(∀c∈W,Ok c)->jz S W<=n->∃r,run q n b W=some r
 |n,b,[],_,_=>⟨_,by unfold run;rfl⟩ |n,b,c::W,f,p=>by
  have k:=f c (by simp);have t:=h.len c k;have m:1+jz S (nk q b c)<=S c.length:=by
   unfold nk;split;.have:=d.one c.length;simpa[jz] using this
   .rename_i o;have s:c.length≠q.st:=fun e=>o (by unfold kX;simp[e]);rw[Ig];exact d.more c k (by lia)
  have e:jz S (c::W)=S c.length+jz S W:=by simp[jz]
  cases n with |zero=>lia |succ n=> obtain⟨r,l⟩:=Pf h d n (nb q b c) (nk q b c++W) (h.kids f) (by rw[Pe];lia);exact⟨_,by unfold run;rw[l];rfl⟩
theorem Pg:∀{n:Nat}{b:lx}{W:List (List Int)}{r:Rn},run q n b W=some r->b≠none->r.b≠none:=by intro n;induction n using Nat.strongRecOn;rename_i n I;intro b W r h d;cases W with |nil=>clear I;unfold run at h;grind |cons c W=>
  obtain⟨m,e,rfl,f,rfl⟩:=xc h;show e.b≠none;refine I _ (Nat.lt.base _) f ?_;clear I;unfold nb;split;.exact d
  .grind
theorem Ph(h:Walk q Ok):∀{n:Nat}{b:lx}{W:List (List Int)}{r:Rn},run q n b W=some r->(∀c∈W,Ok c)->(∀c∈r.cl,Ok c)/\(b=none->W≠[]->r.b≠none/\r.cl≠[])/\((∀c0 k0,b=some (c0,k0)->Ok c0)->∀c0 k0,r.b=some (c0,k0)->Ok c0):=by intro n;induction n using Nat.strongRecOn;rename_i n I;intro b W r d l;cases W with |nil=>clear I;unfold run at d;cases d;simp |cons c W=>
    obtain⟨m,t,rfl,g,rfl⟩:=xc d;have j:=l c (by simp);obtain⟨w,i2,v⟩:=I _ (Nat.lt.base _) g (h.kids l);clear I;refine⟨fun x s=>?_,fun f _=>?_,fun f=>v ?_⟩
    . rcases bO.mp s with z|z;.unfold jy at z;simp_all
      simp_all
    . subst f;by_cases e:c.length=q.st
      . have k:kX q none c=true:=by unfold kX;simp[e]
        have i:nb q none c=some (c,q.low c):=by unfold nb;rw[ao (by simp[tM]),aq e]
        refine⟨show t.b≠none from Pg g (by simp_all),?_⟩;unfold jy;grind
      . have k:¬kX q none c=true:=by unfold kX;simp[tM,e]
        have i:nb q none c=none:=by unfold nb;rw[ao (by simp[tM]),ao e]
        have o:nk q none c++W≠[]:=by unfold nk;rw[ao k];have:=h.wn c j (by have:=h.len c j;lia);simp_all
        obtain⟨u,p⟩:=i2 i o;refine⟨u,fun z=>?_⟩;exact p (List.append_eq_nil_iff.mp z).2
    . intro c0 k0 e;unfold nb at e;split at e;.exact f c0 k0 e
      . split at e;.grind
        .grind
def fj:lx->D |none=>.non |some (c,_)=>encC c
def gj:lx->D |none=>.non |some (_,k)=>.int k
abbrev vS(nm:Str)(a f2 b d e c:List D->R D)(i:Nat)(ma:En->R (List D)):En->R D:=bg i 8 (bN 8 nm a (ag i) ma) (bg i 9 (bN 9 nm f2 (ag i) ma) (bg i 7 (bN 7 nm b (ag i) ma) (bg i 12 (bN 12 nm d (ag i) ma) (bg i 11 (bN 11 nm e (ag i) ma) (bN 10 nm c (ag i) ma)))))
noncomputable abbrev rK(i:Nat)(ma:En->R D):En->R D:=vS "low" wW wX wY wZ w8 w9 i (ai ma af)
noncomputable abbrev Pj(i:Nat)(ma:En->R D):En->R D:=vS "ways" zI zJ zL zM zO zP i (ai ma af)
noncomputable abbrev uB(i:Nat):En->R D:=vS "steps" vH vI vJ vK vL vM i af
structure mT(q:D)(Q:Qs)(Ok:List Int->Prop):Prop extends Walk Q Ok where qy:Q.st<=5wl:∀c,Ok c->c.length<Q.st->(Q.wy c).length<=10low:∀(c:List Int)(i:Nat)(ma:En->R D)(δ:En),Ok c->δ[i]?=some (.v q)->ma δ=.ok (encC c)->rK i ma δ=.ok (.int (Q.low c))steps:∀(i:Nat)(δ:En),δ[i]?=some (.v q)->uB i δ=.ok (.int Q.st)yB:∀(c:List Int)(i:Nat)(ma:En->R D)(δ:En),Ok c->c.length<Q.st->δ[i]?=some (.v q)->ma δ=.ok (encC c)->Pj i ma δ=.ok (iL (Q.wy c))
theorem zyK(h:mT q Q Ok)(b:lx)(a:Ok c):(nk Q b c).length<=10:=by
 unfold nk;split;.simp
 .rename_i d;have f:=h.len c a;have g:c.length≠Q.st:=fun e=>d (by unfold kX;simp[e]);rw[aW];exact h.wl c a (by omega)
theorem yC(h:cs.length+ws.length<=1000):oo (encC cs) (encC ws)=some (encC (cs++ws)):=by show cH _ _ _=_;rw[fY (by simp[aW];exact small (by lia)),<-h_];rfl
theorem zw4(b:Pj 0 (ag 1) [.v q,.v (encC c)]=.ok (iL ws))(d:c.length<=100)(e:ws.length<=100):w_ [q,encC c]=.ok (.lst ((ws.map fun w=>c++[w]).reverse.map encC)):=by
 refine nU ?_;show fi _ [.v q,.v _]=_;have k:N_ [.v q,.v (encC c)]=.ok (.lst ((ws.map fun w=>c++[w]).reverse.map encC)):=by
  refine dZ (jP (l:=ws.reverse.map .int) (r:=ws.reverse.map fun w=>encC (c++[w])) ?_ (by rw[aW,ke];lia) ?_) ?_;.simp[rk,ai,b];show R.of (some _)=_;simp
  .refine mO _ _ _ fun w _=>?_;have a:oo (encC c) (.tup [.int w])=some _:=yC (ws:=[w]) (by grind);simp[iN,c9,pG,cX,aj,bY,ai,af,ag,sizeLine,a]
  simp
 simp[fi,k]
theorem mT.gone(h:mT q Q Ok)(c:List Int)(b:Ok c)(a:c.length<Q.st):w_ [q,encC c]=.ok (.lst (((Q.wy c).map fun w=>c++[w]).reverse.map encC)):=by have f:=h.qy;have w:=h.wl c b a;exact zw4 (h.yB c 0 _ _ b a rfl rfl) (by lia) (by lia)
def dS(q:D)(M:Int)(b:lx)(cl:List (List Int))(k:Nat)(W:List (List Int))(s7 s8:Sl):En:=[.v q,.v (.int M),.v (fj b),.v (gj b),.o (.lst (cl.map encC)),.v (.int k),.o (.lst (W.reverse.map encC)),s7,s8]
theorem zwY(h:mT q Q Ok){k:Nat}(a:Ok c)(hM:(k:Int)+1<=M)(E:cl.length<=100000)(K:W.length<=100000): DC (dS q M b cl k (c::W) (sv o7) (sv o8))=.nx (dS q M (nb Q b c) (cl++jy Q b c) (k+1) (nk Q b c++W) (.v (encC c)) (.v (.int (Q.low c)))):=by
  have cast:((k+1:Nat):Int)=(k:Int)+1:=by lia
  have I:u_ (fun i j=>i+j) 5 (mC (.int 1)) (dS q M b cl k (c::W) (sv o7) (sv o8))=.nx [.v q,.v (.int M),.v (fj b),.v (gj b),.o (.lst (cl.map encC)),.v (.int (k+1)),.o (.lst ((c::W).reverse.map encC)),sv o7,sv o8]:=rfl;have u:bf (aS (m2 uk (aj 5) (aj 1))) (x5 3 (ai (mC (.str "more cases than may be looked at")) af)) cB [.v q,.v (.int M),.v (fj b),.v (gj b),.o (.lst (cl.map encC)),.v (.int (k+1)),.o (.lst ((c::W).reverse.map encC)),sv o7,sv o8]=.nx [.v q,.v (.int M),.v (fj b),.v (gj b),.o (.lst (cl.map encC)),.v (.int (k+1)),.o (.lst ((c::W).reverse.map encC)),sv o7,sv o8]:=by
    rw[fG];.rfl
    . have:¬M<(k:Int)+1:=by lia
      simp[aS,aj,this]
  have G:wN 6 (aV 7) [.v q,.v (.int M),.v (fj b),.v (gj b),.o (.lst (cl.map encC)),.v (.int (k+1)),.o (.lst ((c::W).reverse.map encC)),sv o7,sv o8]=.nx [.v q,.v (.int M),.v (fj b),.v (gj b),.o (.lst (cl.map encC)),.v (.int (k+1)),.o (.lst (W.reverse.map encC)),.v (encC c),sv o8]:=by
    have e:(c::W).reverse.map encC=W.reverse.map encC++[encC c]:=by simp
    rw[e];unfold wN;dsimp only[List.getElem?_cons_succ,List.getElem?_cons_zero];rw[show(W.reverse.map encC++[encC c])[(W.reverse.map encC++[encC c]).length-1]?=some (encC c) by simp,List.dropLast_concat];dsimp only;rcases o7 with _|o7<;>rfl
  have H:aB (rK 0 (ag 7)) (aV 8) [.v q,.v (.int M),.v (fj b),.v (gj b),.o (.lst (cl.map encC)),.v (.int (k+1)),.o (.lst (W.reverse.map encC)),.v (encC c),sv o8]=.nx [.v q,.v (.int M),.v (fj b),.v (gj b),.o (.lst (cl.map encC)),.v (.int (k+1)),.o (.lst (W.reverse.map encC)),.v (encC c),.v (.int (Q.low c))]:=dP (h.low c 0 (ag 7) _ a rfl rfl) (kW rfl);have m:k9 (aS (m2 zf (aj 3) (mC .non))) (aS (m2 vd (aj 8) (aj 3))) [.v q,.v (.int M),.v (fj b),.v (gj b),.o (.lst (cl.map encC)),.v (.int (k+1)),.o (.lst (W.reverse.map encC)),.v (encC c),.v (.int (Q.low c))]=.ok (tM Q b c):=by cases b with |none=> rfl |some x=> rfl
  have p:rX 4 (ag 7) [.v q,.v (.int M),.v (fj b),.v (gj b),.o (.lst (cl.map encC)),.v (.int (k+1)),.o (.lst (W.reverse.map encC)),.v (encC c),.v (.int (Q.low c))]=.nx [.v q,.v (.int M),.v (fj b),.v (gj b),.o (.lst ((cl++[c]).map encC)),.v (.int (k+1)),.o (.lst (W.reverse.map encC)),.v (encC c),.v (.int (Q.low c))]:=by have:=HB (i:=4) (me:=ag 7) (δ:=[.v q,.v (.int M),.v (fj b),.v (gj b),.o (.lst (cl.map encC)),.v (.int (k+1)),.o (.lst (W.reverse.map encC)),.v (encC c),.v (.int (Q.low c))]) (l:=cl.map encC) (d:=encC c) rfl rfl (by simp_all);simp_all
  unfold DC;refine(br I).trans ((br u).trans ((br G).trans ((br H).trans ?_)));by_cases z:tM Q b c=true
  . rw[hZ (m.trans (by rw[z])),p];have e:kX Q b c=true:=by unfold kX;simp_all
    unfold dS nb jy nk;rw[aq z,aq e,aq e,cast];rfl
  . have t:tM Q b c=false:=by simp_all
    rw[fG (m.trans (by rw[t]))];have C:aI [encC c]=some (.int c.length):=by simp[encC]
    have n:aS (m2 oEq (aN aI (ai (aj 7) af)) (uB 0)) [.v q,.v (.int M),.v (fj b),.v (gj b),.o (.lst (cl.map encC)),.v (.int (k+1)),.o (.lst (W.reverse.map encC)),.v (encC c),.v (.int (Q.low c))]=.ok (decide (c.length=Q.st)):=by have s:=h.steps 0 [.v q,.v (.int M),.v (fj b),.v (gj b),.o (.lst (cl.map encC)),.v (.int (k+1)),.o (.lst (W.reverse.map encC)),.v (encC c),.v (.int (Q.low c))] rfl;simp only[aS,d_,aN,ai,af,aj,List.getElem?_cons_succ,List.getElem?_cons_zero,R.ak,C,R.au,s,zi,lM];congr 1;grind
    by_cases y:c.length=Q.st
    . rw[hZ (n.trans (by simp_all))];have e:kX Q b c=true:=by unfold kX;simp_all
      refine(br p).trans ?_;unfold dS nb jy nk;rw[ao z,aq y,aq e,aq e,cast];rfl
    . rw[fG (n.trans (by simp_all))];have e:¬kX Q b c=true:=by unfold kX;rw[t,b8 y];simp
      have A:=h.len c a;have g:=h.gone c a (by lia);have J:=h.wl c a (by lia);have B:yk 6 (bq w_ (ai (ag 0) (ai (ag 7) af))) [.v q,.v (.int M),.v (fj b),.v (gj b),.o (.lst (cl.map encC)),.v (.int (k+1)),.o (.lst (W.reverse.map encC)),.v (encC c),.v (.int (Q.low c))]=.nx [.v q,.v (.int M),.v (fj b),.v (gj b),.o (.lst (cl.map encC)),.v (.int (k+1)),.o (.lst ((((Q.wy c).map fun w=>c++[w])++W).reverse.map encC)),.v (encC c),.v (.int (Q.low c))]:=by
        unfold yk;dsimp only[List.getElem?_cons_succ,List.getElem?_cons_zero];have f:bq w_ (ai (ag 0) (ai (ag 7) af)) [.v q,.v (.int M),.v (fj b),.v (gj b),.o (.lst (cl.map encC)),.v (.int (k+1)),.o (.lst (W.reverse.map encC)),.v (encC c),.v (.int (Q.low c))]=.ok (.lst (((Q.wy c).map fun w=>c++[w]).reverse.map encC)):=by simp only[bq,ai,af,ag,List.getElem?_cons_succ,List.getElem?_cons_zero,R.ak,g,R.ba]
        rw[f,R.dn];dsimp only;rw[fY (by simp only[aW,ke];rw[fc];lia),List.reverse_append,h_];rfl
      rw[B];unfold dS nb jy nk;rw[ao z,ao y,ao e,ao e,cast,dQ]
theorem Pk(h1:c δ=.ok true)(h2:m δ=.nx a):jX c m (n+1) δ=jX c m n a:=by show(c _).fu _ _=_;simp_all
theorem Pl:DB (dS q M b cl k W s7 s8)=.ok (decide (0<W.length)):=by unfold dS DB;simp only[aS,d_,aN,ai,af,aj,mC,R.au,Ub];simp
theorem Pm(h:mT q Q Ok):∀(n:Nat)(b:lx)(W cl:List (List Int))(k:Nat)(r:Rn)(o7 o8:Option D),run Q n b W=some r->(∀c∈W,Ok c)->W.length+10*n<=50000->cl.length+n<=50000->(k:Int)+r.vs.length<=M-> ∃f g,jX DB DC (r.vs.length+1) (dS q M b cl k W (sv o7) (sv o8))=.nx (dS q M r.b (cl++r.cl) (k+r.vs.length) [] (sv f) (sv g)):=by intro n;induction n using Nat.strongRecOn;rename_i n I;intro b W cl k r o7 o8 d j p u hM;cases W with |nil=>clear I;unfold run at d;cases d;refine⟨o7,o8,?_⟩;unfold jX;rw[Pl];simp |cons c W=>
  obtain⟨m,o,rfl,s,rfl⟩:=xc d;have l:=j c (by simp);have v:=zyK h b l;have i:(jy Q b c).length<=1:=by unfold jy;grind
  simp[gm] at p hM⊢;have t:=zwY h (M:=M) (b:=b) (cl:=cl) (W:=W) (k:=k) (o7:=o7) (o8:=o8) l (by lia) (by lia) (by lia);rw[Pk (by rw[Pl];simp) t];obtain⟨f,g,e⟩:=I m (Nat.lt.base _) _ _ (cl++jy Q b c) (k+1) _ (some _) (some _) s (h.kids j) (by simp;lia) (by grind) (by lia);refine⟨f,g,?_⟩;rw[show k+(o.vs.length+1)=k+1+o.vs.length by lia,<-sr];exact e
theorem zrD(h:aw Oa (rf 4 (aH (bY (ai (ag 2) (ai (ag 3) (ai (ag 4) af)))))) (dS q M none [] 0 [[]] .no .no)=o):Hu [.v q,.v (.int M),.no,.no,.no,.no,.no,.no,.no]=o:=by have d:aB (mC .non) (aV 2) [.v q,.v (.int M),.no,.no,.no,.no,.no,.no,.no]=.nx _:=rfl;have a:aB (mC .non) (aV 3) [.v q,.v (.int M),.v .non,.no,.no,.no,.no,.no,.no]=.nx _:=rfl;have e:aB (bT af) (dq 4) [.v q,.v (.int M),.v .non,.v .non,.no,.no,.no,.no,.no]=.nx [.v q,.v _,.v _,.v _,.o (.lst []),.no,.no,.no,.no]:=dP (by simp[bT,af]) rfl;have b:aB (mC (.int 0)) (aV 5) [.v q,.v (.int M),.v .non,.v .non,.o (.lst []),.no,.no,.no,.no]=.nx _:=rfl;have c:aB (bT (ai (bY af) af)) (dq 6) [.v q,.v (.int M),.v .non,.v .non,.o (.lst []),.v (.int 0),.no,.no,.no]=.nx [.v q,.v _,.v _,.v _,.o _,.v _,.o (.lst [.tup []]),.no,.no]:=dP (by simp[bT,bY,ai,af,sizeLine]) rfl;exact(br d).trans ((br a).trans ((br e).trans ((br b).trans ((br c).trans h))))
def vU(r:Rn):D:=.tup [fj r.b,gj r.b,.lst (r.cl.map encC)]
theorem zx7(h:mT q Q Ok)(f:run Q n none [[]]=some r)(g:n<=2000)(hM:(r.vs.length:Int)<=M):BQ [q,.int M]=.ok (vU r):=by refine gw (zrD ?_);obtain⟨d,b,e⟩:=Pm (M:=M) h n _ _ [] 0 r none none f (fun c a=>by rw[bP.mp a];exact h.nil) (by grind) (by grind) (by lia);have w:=CY e (fun z=>by cases z);refine(br w).trans ?_;have z:bY (ai (ag 2) (ai (ag 3) (ai (ag 4) af))) [.v q,.v (.int M),.v _,.v _,.v _,.v (.int (0+r.vs.length:Int)),.o (.lst []),sv d,sv b]=.ok (vU r):=fY (show 3<=sizeLine by decide);show(bY _ [.v q,.v _,.v _,.v _,.v _,.v _,.o _,sv _,sv _]).fu _ _=_;simp_all
def eM(q:Qs)(c:List Int):List (List Int):=(q.wy c).map fun w=>c++[w]
def jb(g:List Int->List (List Int)->Option (List (List Int))):List (List Int)->List (List Int)->Option (List (List Int)) |[],L=>some L |k::b,L=>(g k L).bind (jb g b)
theorem Pn(g:List Int->List (List Int)->Option (List (List Int)))(k:List Int):∀(ks L:List (List Int)),jb g (ks++[k]) L=(jb g ks L).bind (g k) |[],L=>by cases h:g k L<;>simp[jb] |x::ks,L=>by show(g x L).bind _=((g x L).bind _).bind _;cases g x L with |none=>rfl |some b=>exact Pn g k _ _
def nh(q:Qs):Nat->List Int->List (List Int)->Option (List (List Int)) |0,_,_=>none |_+1,_,[]=>none |f+1,c,x::L=>if x=c then some L else if q.st<=c.length\/x.take c.length≠c then none else jb (nh q f) (eM q c) (x::L)
def pull(q:Qs):Nat->List Int->List (List Int)->Option (List (List Int)) |0,_,_=>none |_+1,_,[]=>none |f+1,x,c::W=>if c=x then some W else if c.length=q.st\/x.take c.length≠c then none else pull q f x (eM q c++W)
noncomputable def pa(q:Qs):List (List Int)->List (List Int)->Bool |[],[]=>true |[],_::_=>false |_::_,[]=>false |x::L,c::W=>match pull q (q.st+1) x (c::W) with|none=>false|some a=>pa q L a
theorem Walk.xf(h:Walk q Ok)(d:Ok c)(a:c.length<q.st)(e:k∈eM q c):Ok k/\k.length=c.length+1:=by obtain⟨w,b,rfl⟩:=fP.mp e;exact⟨h.step c d a w b,by simp⟩
theorem Walk.jc(h:Walk q Ok)(f:Ok c)(b:c.length<q.st):∃k ks,eM q c=k::ks:=by cases e:eM q c with |nil=>exact absurd (List.map_eq_nil_iff.mp e) (h.wn c f b) |cons k ks=>simp
theorem Po(h:Walk q Ok)(x:List Int):∀(m:Nat)(f g:Nat)(c:List Int)(W:List (List Int)),Ok c->q.st-c.length<=m->m+1<=f->m+1<=g->pull q f x (c::W)=pull q g x (c::W)
  |m,0,g,c,W,_,_,o,_=>by lia |m,f,0,c,W,_,_,_,l=>by lia |m,f+1,g+1,c,W,b,p,o,l=>by
    unfold pull;have s:=h.len c b;split;.rfl
    . split;.rfl
      . have d:c.length<q.st:=by lia
        obtain⟨k,r,e⟩:=h.jc b d;obtain⟨n,t⟩:=h.xf b d (show k∈eM q c by simp_all);rw[e];cases m with |zero=>lia |succ m=>exact Po h x m f g k _ n (by lia) (by lia) (by lia)
theorem Pp(h:Walk q Ok)(a:Ok c)(b:c.length<q.st)(g:¬c=x)(d:x.take c.length=c):pa q (x::L) (c::W)=pa q (x::L) (eM q c++W):=by
 obtain⟨k,i,e⟩:=h.jc a b;obtain⟨f,j⟩:=h.xf a b (show k∈eM q c by simp_all);have p:pull q (q.st+1) x (c::W)=pull q (q.st+1) x (eM q c++W):=by
  conv=>lhs;unfold pull
  rw[ao g,ao (fun z=>z.elim (fun z=>by lia) fun z=>z d),e];exact Po h x (q.st-k.length) _ _ k _ f (by lia) (by lia) (by lia)
 rw[e] at p⊢;show(match pull q _ x _ with|none=>false|some _=>pa q L _)=(match pull q _ x _ with|none=>false|some _=>pa q L _);simp_all
def zW(q:Qs)(o:Option (List (List Int)))(W:List (List Int)):Bool:=match o with|none=>false|some L=>pa q L W
theorem Pq(W:List (List Int)):∀(ks:List (List Int)),(∀k∈ks,∀L W,pa q L (k::W)=zW q (g k L) W)->∀L,pa q L (ks++W)=zW q (jb g ks L) W |[],_,L=>rfl |k::ks,b,L=>by show pa q L (k::(ks++W))=zW q ((g k L).bind _) W;rw[b k (by simp)];cases g k L with |none=>rfl |some e=>exact Pq W _ (fun d c=>b _ (by simp_all)) _
theorem Pr(h:Walk q Ok):∀(m f:Nat)(c:List Int),Ok c->q.st-c.length<=m->m+1<=f->∀L W,pa q L (c::W)=zW q (nh q f c L) W
  |m,0,c,_,_,l,L,W=>by lia |m,f+1,c,d,o,l,[],W=>rfl |m,f+1,c,d,o,l,x::L,W=>by
    have u:=h.len c d;unfold nh;by_cases g:x=c;.rw[aq g];show(match pull q _ x _ with|none=>false|some _=>pa q L _)=pa q L W;unfold pull;simp_all
    . rw[ao g];have a:¬c=x:=fun z=>g z.symm;by_cases e:q.st<=c.length\/x.take c.length≠c;.rw[aq e];show(match pull q _ x _ with|none=>false|some _=>pa q L _)=false;unfold pull;rw[ao a,aq (e.imp (fun z=>by lia) id)]
      . rw[ao e];have n:c.length<q.st:=by lia
        have p:x.take c.length=c:=by simp_all
        rw[Pp h d n a p];refine Pq W _ (fun k s L W=>?_) _;obtain⟨r,t⟩:=h.xf d n s;cases m with |zero=>lia |succ m=>exact Pr h m f k r (by lia) (by lia) L W
def yD(Ok:List Int->Prop)(L:List (List Int))(o:Option (List (List Int))):Prop:=∀b,o=some b->∃a,L=a++b/\∀x∈a,Ok x
theorem Ih:∀(ks:List (List Int)),(∀k∈ks,∀L,yD Ok L (g k L))->∀L,yD Ok L (jb g ks L) |[],_,L=>fun i e=>by cases e;simp |k::ks,b,L=>fun i e=>by have e:(g k L).bind _=some _:=e;cases z:g k L with |none=>rw[z] at e;cases e |some o=> rw[z] at e;obtain⟨j,l,d⟩:=b k (by simp) L _ z;obtain⟨n,m,h⟩:=Ih _ (fun p f=>b _ (by simp_all)) _ _ e;exact⟨_,by simp_all,fun x c=>(bO.mp c).elim (d x) (h x)⟩
theorem yE(h:Walk q Ok):∀(f:Nat)(c:List Int),Ok c->∀L,yD Ok L (nh q f c L)
  |0,c,_,L=>fun a e=>by cases e |f+1,c,b,[]=>fun a e=>by cases e |f+1,c,b,x::L=>fun a e=>by
    unfold nh at e;split at e;.cases e;exact⟨[x],rfl,fun y j=>by simp_all⟩
    . split at e;.cases e
      . have i:c.length<q.st:=by lia
        exact Ih _ (fun k g L=>yE h f k (h.xf b i g).1 L) _ _ e
theorem Ii(h:Walk q Ok):∀{n:Nat}{b:lx}{c:List Int}{W:List (List Int)}{r:Rn},run q n b (c::W)=some r->(∀x∈c::W,Ok x)->∃x L,r.cl=x::L/\c<+:x:=by
    intro n;induction n using Nat.strongRecOn;rename_i n I;intro b c W r p g
    obtain⟨m,A,rfl,d,rfl⟩:=xc p;have i:=g c (by simp);by_cases e:kX q b c=true;.unfold jy;simp_all
    . have t:c.length<q.st:=by have v:=h.len c i;have:c.length≠q.st:=fun z=>e (by unfold kX;simp[z]);lia
      have f:=h.kids (b:=b) g;have l:nk q b c=eM q c:=by unfold nk;rw[ao e];rfl
      rw[l] at d f;obtain⟨k,y,o⟩:=h.jc i t;have kc:c<+:k:=by
        have:k∈eM q c:=by simp_all
        obtain⟨w,_,rfl⟩:=fP.mp this;simp
      rw[o] at d f;obtain⟨x,L,u,s⟩:=I _ (Nat.lt.base _) d f;clear I;refine⟨x,L,?_,kc.trans s⟩;unfold jy;simp_all
theorem Pt(h:Walk q Ok):∀{n:Nat}{b:lx}{W:List (List Int)}{r:Rn},run q n b W=some r->(∀x∈W,Ok x)->pa q r.cl W=true:=by intro n;induction n using Nat.strongRecOn;rename_i n I;intro b W r a o;cases W with |nil=>clear I;unfold run at a;cases a;rfl |cons c W=>
    have p:=Ii h a o;obtain⟨m,i,rfl,d,rfl⟩:=xc a;have l:=o c (by simp);have j:=h.kids (b:=b) o;have g:=I _ (Nat.lt.base _) d j;clear I;by_cases e:kX q b c=true
    . have u:jy q b c=[c]:=by unfold jy;simp_all
      have s:nk q b c=[]:=by unfold nk;rw[aq e]
      show pa q (jy q b c++i.cl) (c::W)=true;rw[u];rw[s] at g;show(match pull q (q.st+1) c (c::W) with|none=>false|some E=>pa q i.cl _)=true;unfold pull;simp_all
    . have t:c.length<q.st:=by have J:=h.len c l;have:c.length≠q.st:=fun z=>e (by unfold kX;simp[z]);omega
      have u:jy q b c=[]:=by unfold jy;rw[ao e]
      have s:nk q b c=eM q c:=by unfold nk;rw[ao e];rfl
      obtain⟨k,G,C⟩:=h.jc l t;obtain⟨I,H⟩:=h.xf l t (show k∈eM q c by simp_all);rw[s] at g d j;have B:∃x L,i.cl=x::L/\k<+:x:=by rw[C] at d j;exact Ii h d j
      obtain⟨x,L,v,y⟩:=B;show pa q (jy q b c++i.cl) (c::W)=true;rw[u,List.nil_append,v];rw[v] at g;have w:=y.length_le;have A:c<+:x:=by (first|rfl|omega|simp|simp_all|grind)
      rw[Pp h l t (fun z=>by rw[<-z] at w;lia) (List.prefix_iff_eq_take.mp A).symm];exact g
theorem Pu:∀{n:Nat}{b:lx}{W:List (List Int)}{r:Rn},run q n b W=some r->∀c0 k0,r.b=some (c0,k0)->(∀l k1,b=some (l,k1)->k0<=k1)/\(∀x∈r.cl,k0<=q.low x)/\(b=some (c0,k0)\/(c0∈r.cl/\c0.length=q.st/\q.low c0=k0)):=by intro n;induction n using Nat.strongRecOn;rename_i n I;intro b W r k c0 k0 e;cases W with |nil=>clear I;unfold run at k;cases k;have e:b=some (c0,k0):=e;exact⟨fun l k1 z=>by simp_all,fun _ z=>(nomatch z),.inl e⟩ |cons c W=>
    obtain⟨m,t,rfl,o,rfl⟩:=xc k;obtain⟨g,i2,f⟩:=I _ (Nat.lt.base _) o c0 k0 e;clear I;by_cases z:tM q b c=true
    . have a:nb q b c=b:=by unfold nb;simp_all
      have h:jy q b c=[c]:=by unfold jy;rw[aq (by unfold kX;rw[z];rfl)]
      rw[a] at g f;refine⟨g,fun x d=>?_,f.imp id fun y=>⟨dz _ y.1,y.2⟩⟩;rcases bO.mp d with y|y;.rw[h] at y;rw[bP.mp y];cases j:b with |none=>rw[j] at z;cases z |some p=>
          obtain⟨l,k1⟩:=p;rw[j] at z;have:k1<=q.low c:=by simpa[tM] using z
          grind
      simp_all
    . by_cases y:c.length=q.st
      . have a:nb q b c=some (c,q.low c):=by unfold nb;rw[ao z,aq y]
        have h:jy q b c=[c]:=by unfold jy;rw[aq (by unfold kX;simp[y])]
        have s:=g c (q.low c) a;refine⟨fun l k1 j=>?_,fun x d=>?_,.inr ?_⟩;.have:¬k1<=q.low c:=fun w=>z (by unfold tM;rw[j];simpa using w);lia
        . rcases bO.mp d with w|w;.rw[h] at w;rw[bP.mp w];exact s
          .exact i2 x w
        . rcases f with w|w;.rw[a] at w;cases w;exact⟨jE _ (by simp_all),y,rfl⟩
          .exact⟨dz _ w.1,w.2⟩
      . have a:nb q b c=b:=by unfold nb;simp_all
        rw[a] at g f;have h:jy q b c=[]:=by unfold jy;rw[ao (by unfold kX;simp[z,y])]
        refine⟨g,fun x d=>?_,f.imp id fun w=>⟨dz _ w.1,w.2⟩⟩;rcases bO.mp d with w|w;.rw[h] at w;cases w
        .exact i2 x w
theorem Pw:∀{n:Nat}{b:lx}{W:List (List Int)}{r:Rn},run q n b W=some r->r.cl.length<=r.vs.length:=by intro n;induction n using Nat.strongRecOn;rename_i n I;intro b W r h;cases W with |nil=>clear I;unfold run at h;grind |cons c W=>
  obtain⟨m,f,rfl,d,rfl⟩:=xc h;have:=I _ (Nat.lt.base _) d;clear I;have e:(jy q b c).length<=1:=by unfold jy;grind
  grind
def B4:D->Int |.int i=>i |_=>0
theorem kN:encC a=encC b↔a=b:=by
  constructor
  . intro h;have h:D.tup _=.tup _:=h;have c:a.map D.int=b.map D.int:=by simp_all
    have d:=dh (List.map B4) c;rwa[cK,cK,show B4∘D.int=id from rfl,List.map_id,List.map_id] at d
  simp_all
theorem zX(c:List Int)(k:Nat):gW (k+2) (encC c)=true:=by show(c.map _).all _=true;rw[lC,iP];intro x _;rfl
theorem Ij(l:List (List Int)):gW 8 (.lst (l.map encC))=true:=by show(l.map _).all _=true;rw[lC,iP];intro x _;exact zX x 5
theorem Px(a b:List Int):gv (encC a) (encC b)=some (.bl (decide (a=b))):=by unfold gv;rw[fY ⟨zX a 6,zX b 6⟩];congr 2;rw[jh];exact kN
theorem Ik(a b:List Int):iG (encC a) (encC b)=some (.bl (!decide (a=b))):=by unfold iG;rw[fY ⟨zX a 6,zX b 6⟩];congr 3;rw[jh];exact kN
theorem zyD(a:List Int)(l:List (List Int)):yh (encC a) (.lst (l.map encC))=some (.bl (!decide (a∈l))):=by
 show cH _ _ _=_;rw[fY ⟨zX a 5,Ij l⟩];congr 3;rw[jh];constructor;.intro h;obtain⟨x,b,e⟩:=fP.mp h;rwa[<-kN.mp e]
 .exact fun h=>fP.mpr ⟨a,h,rfl⟩
theorem rL(c:List Int):aI [encC c]=some (.int c.length):=by simp[encC]
theorem Il(x:List Int)(n:Nat):cutD (x.map D.int) none (some (n:Int))=(x.take n).map .int:=by show(List.drop 0 _).take (min n _-0)=_;simp
theorem Py{n:Nat}(h:m δ=.ok (encC x))(b:mh δ=.ok (some (n:Int))):h6 m bZ mh δ=.ok (encC (x.take n)):=by have a:CL (encC x)=some _:=rfl;simp only[h6,h,b,R.ak,bZ,a,R.au,Il];rfl
theorem zvD(W:List (List Int))(c:List Int):aJ (.lst ((c::W).reverse.map encC)) (.int (-1))=some (encC c):=by
 have e:(c::W).reverse.map encC=W.reverse.map encC++[encC c]:=by simp
 rw[e];exact OD
def fK(q C:D)(W:List (List Int))(b a:Sl):En:=[.v q,.v C,.o (.lst (W.reverse.map encC)),b,a]
theorem Im:zQ (fK q C (c::W) (.v (encC x)) a)=.ok (!decide (c=x)):=by have i:=zvD W c;unfold zQ fK;simp only[aS,d_,uZ,aj,mC,List.getElem?_cons_succ,List.getElem?_cons_zero,R.ak,zh,R.au,i,Ik,lM]
theorem zso(h:mT q Q Ok)(a:Ok c)(p:W.length<=2000): DE (fK q C (c::W) (.v (encC x)) (sv o4))=if c.length=Q.st\/x.take c.length≠c then .rt (.bl false) else .nx (fK q C (eM Q c++W) (.v (encC x)) (.v (encC c))):=by
  have j:wN 2 (aV 4) (fK q C (c::W) (.v (encC x)) (sv o4))=.nx (fK q C W (.v (encC x)) (.v (encC c))):=by
    have e:(c::W).reverse.map encC=W.reverse.map encC++[encC c]:=by simp
    unfold fK;rw[e];unfold wN;dsimp only[List.getElem?_cons_succ,List.getElem?_cons_zero];rw[show(W.reverse.map _++[encC c])[(W.reverse.map encC++[encC c]).length-1]?=some (encC c) by simp,List.dropLast_concat];rcases o4 with _|o4<;>rfl
  refine(br j).trans ?_;have s:=h.steps 0 (fK q C W (.v (encC x)) (.v (encC c))) rfl;have n:aS (m2 oEq (aN aI (ai (aj 4) af)) (uB 0)) (fK q C W (.v (encC x)) (.v (encC c)))=.ok (decide (c.length=Q.st)):=by simp[aS,d_,s,aN,ai,af,show aj 4 (fK q C W _ (.v _))=.ok _ from rfl,R.ak,rL,R.au,zi,lM];congr 1;grind
  have k:dF (aN aI (ai (aj 4) af)) (fK q C W (.v (encC x)) (.v (encC c)))=.ok (some c.length):=by simp[dF,aN,ai,af,show aj 4 (fK q C W _ (.v _))=.ok _ from rfl,R.ak,rL,R.au,vm]
  have i:aS (m2 iG (h6 (aj 3) bZ (dF (aN aI (ai (aj 4) af)))) (aj 4)) (fK q C W (.v (encC x)) (.v (encC c)))=.ok (!decide (x.take c.length=c)):=by have o:=Py (m:=aj 3) rfl k;simp only[aS,d_,o,show aj 4 (fK q C W _ (.v (encC c)))=.ok (encC c) from rfl,R.ak,Ik,R.au,lM]
  have f:jv (aS (m2 oEq (aN aI (ai (aj 4) af)) (uB 0))) (aS (m2 iG (h6 (aj 3) bZ (dF (aN aI (ai (aj 4) af)))) (aj 4))) (fK q C W (.v (encC x)) (.v (encC c)))=.ok (decide (c.length=Q.st\/x.take c.length≠c)):=by simp only[jv,n,i];by_cases l:c.length=Q.st<;>by_cases r:x.take c.length=c<;>simp[l]
  by_cases e:c.length=Q.st\/x.take c.length≠c;.rw[aq e];exact lQ ((hZ (f.trans (by simp_all))).trans rfl)
  . rw[ao e];refine(br ((fG (f.trans (by simp_all))).trans rfl)).trans ?_;have d:c.length<Q.st:=by have:=h.len c a;lia
    have g:=h.gone c a d;have t:=h.wl c a d;unfold yk;rw[show(fK q C W _ _)[2]?=some _ from rfl];dsimp;have b:bq w_ (ai (ag 0) (ai (ag 4) af)) (fK q C W (.v (encC x)) (.v (encC c)))=.ok (.lst (((Q.wy c).map fun w=>c++[w]).reverse.map encC)):=by simp[bq,ai,af,show ag 0 (fK q C W _ _)=.ok q from rfl,show ag 4 (fK q C W _ (.v _))=.ok _ from rfl,R.ak,g,R.ba]
    rw[b,R.dn];dsimp;rw[fY (by simp only[aW,ke];rw[fc];lia)];unfold fK eM;simp
theorem Pz(h:mT q Q Ok)(r:vR Q Ok S):∀(f:Nat)(c:List Int)(W:List (List Int))(o4:Option D),(∀y∈c::W,Ok y)->jz S (c::W)<=2000->Q.st-c.length+1<=f-> (pull Q f x (c::W)=none/\jX zQ DE f (fK q C (c::W) (.v (encC x)) (sv o4))=.rt (.bl false))\/(∃W' u,pull Q f x (c::W)=some W'/\jX zQ DE f (fK q C (c::W) (.v (encC x)) (sv o4))=.nx (fK q C (x::W') (.v (encC x)) (sv u))/\(∀y∈W',Ok y)/\jz S W'<=2000)
  |0,c,W,o4,_,_,A=>by lia |f+1,c,W,o4,p,H,A=>by
    have g:=p c (by simp);have e:jz S (c::W)=S _+jz S W:=rfl;have J:W.length<=jz S W:=by
      have:∀l,l.length<=jz S l:=fun l=>by induction l with |nil=>simp |cons a l K=> have m:jz S (a::l)=S _+jz S l:=rfl;have:=r.one a.length;grind
      simp_all
    unfold pull;by_cases d:c=x;.rw[aq d];refine .inr ⟨W,o4,rfl,?_,fun y s=>p y (by simp[s]),by lia⟩;unfold jX;rw[Im,cP d,d];rfl
    . rw[ao d];have n:=zso (C:=C) h (x:=x) (W:=W) (o4:=o4) g (by lia);by_cases m:c.length=Q.st\/x.take c.length≠c;.rw[aq m] at n;rw[aq m];refine .inl ⟨rfl,?_⟩;unfold jX;rw[Im,b8 d,n];rfl
      . rw[ao m] at n;rw[ao m];have o:c.length<Q.st:=by have:=h.len c g;lia
        obtain⟨k,L,w⟩:=h.toWalk.jc g o;obtain⟨G,I⟩:=h.toWalk.xf g o (show k∈eM Q c by simp_all);have j:jz S (eM Q c++W)<=2000:=by rw[Pe];have:=Ig S c (Q.wy c);have:=r.more c g o;unfold eM;lia
        have i:∀y∈eM Q c++W,Ok y:=fun y s=>(bO.mp s).elim (fun z=>(h.toWalk.xf g o z).1) fun z=>p y (by simp[z]);have B:jX zQ _ _ _=jX _ _ f (fK q C _ _ (sv (some _))):=Pk (by rw[Im,b8 d];rfl) n;rw[B];rw[w] at j i⊢;exact Pz h r f k _ _ i j (by lia)
theorem PB(h:mT q Q Ok)(l:vR Q Ok S):∀(L W:List (List Int))(o3 o4:Option D),(∀y∈W,Ok y)->jz S W<=2000-> (pa Q L W=true/\∃g b,jF (aV 3) zR (L.map encC) (fK q C W (sv o3) (sv o4))=.nx (fK q C [] (sv g) (sv b)))\/(pa Q L W=false/\(jF (aV 3) zR (L.map encC) (fK q C W (sv o3) (sv o4))=.rt (.bl false)\/∃c W' g b,jF (aV 3) zR (L.map encC) (fK q C W (sv o3) (sv o4))=.nx (fK q C (c::W') (sv g) (sv b))))
  |[],[],o3,o4,_,_=>.inl ⟨rfl,o3,o4,rfl⟩ |[],c::W,o3,o4,_,_=>.inr ⟨rfl,.inr ⟨c,W,o3,o4,rfl⟩⟩ |x::L,W,o3,o4,A,r=>by
    have p:aV 3 (encC x) (fK q C W (sv o3) (sv o4))=some (fK q C W (.v (encC x)) (sv o4)):=kW (o:=o3) rfl;have s:aI [.lst (W.reverse.map encC)]=some (.int W.length):=by simp
    have n:aS (m2 oEq (aN aI (ai (aj 2) af)) (mC (.int 0))) (fK q C W (.v (encC x)) (sv o4))=.ok (decide ((W.length:Int)=0)):=by simp[aS,d_,aN,ai,af,mC,show aj 2 (fK q C W (.v (encC x)) (sv o4))=.ok _ from rfl,R.ak,s,R.au,zi,lM]
    rw[bH];unfold jF;rw[p];dsimp;cases W with |nil=> refine .inr ⟨rfl,.inl ?_⟩;rfl |cons c W=>
      have k:bf _ (aH (mC (.bl false))) _ _=.nx (fK q C _ (.v (encC x)) (sv o4)):=(fG (n.trans rfl)).trans rfl;rcases Pz (C:=C) h l (x:=x) (Q.st+1) c W o4 A r (by lia) with⟨d,f⟩|⟨W',b,d,f,t,m⟩;.have w:=CY f (fun z=>by cases z);have i:zR _=.rt (.bl _):=(br k).trans (lQ w);rw[i];refine .inr ⟨?_,.inl rfl⟩;show(match pull Q (Q.st+1) x (c::W) with|none=>false|some W'=>pa Q L W')=false;rw[d]
      . have w:=CY f (fun z=>by cases z);have B:BF 2 (fK q C (x::W') (.v (encC x)) (sv b))=.nx (fK q C W' (.v (encC x)) (sv b)):=by unfold fK;unfold BF;simp
        have i:zR (fK q C (c::W) _ _)=.nx (fK q C _ _ (sv _)):=(br k).trans ((br w).trans B);have E:=PB (C:=C) h l L _ (some (encC x)) b t m;have e:pa Q (x::L) (c::W)=pa Q L W':=by show(match pull Q _ x _ with|none=>false|some _=>pa Q L _)=_;rw[d]
        simp_all
theorem znp(h:mT q Q Ok)(l:vR Q Ok S)(cl:List (List Int)):DF [q,.lst (cl.map encC)]=.ok (.bl (pa Q cl [[]])):=by
 obtain⟨C,k⟩:∃C,C=D.lst (cl.map encC):=⟨_,rfl⟩;have r:aB (bT (ai (bY af) af)) (dq 2) [.v q,.v C,.no,.no,.no]=.nx (fK q C [[]] _ _):=dP (d:=.lst [.tup _]) (by simp[bT,bY,ai,af,sizeLine]) rfl;have j:∀o,jF _ _ _ (fK q C [[]] (sv none) (sv none))=o->Ob _=o:=fun o e=>(lN (by rw[k];rfl)).trans e;have i:∀(W:List _)(g b:Option D),aH (m2 oEq (aN aI (ai (aj 2) af)) (mC (.int 0))) (fK q C W (sv g) (sv b))=.rt _:=fun W g b=>by
  have p:aI [.lst (W.reverse.map encC)]=some (.int W.length):=by simp
  simp only[aH,d_,aN,ai,af,mC,show aj 2 (fK q C W _ _)=.ok _ from rfl,R.ak,p,R.au,zi];rfl
 rw[<-k];refine gw ((br r).trans ?_);have n:jz S [[]]<=2000:=by have:=l.all;simpa[jz] using this
 rcases PB h l _ _ _ _ (fun y s=>by rw[bP.mp s];exact h.nil) n with⟨f,g,b,a⟩|⟨f,a|⟨c,t,g,b,a⟩⟩;.rw[f];exact(br (j _ a)).trans rfl
 .rw[f];exact lQ (j _ a)
 .rw[f];refine(br (j _ a)).trans ((i _ _ _).trans ?_);rfl
theorem kI:∀bs:List Bool,lh (bs.map .bl)=some bs |[]=>rfl |b::bs=>by show((lh _).map _)=_;rw[kI _];rfl
theorem zuM(bs:List Bool):rH [.lst (bs.map .bl)]=some (.bl (bs.any id)):=by simp[rH,kI,lY]
def bV(n:Nat):Option (List (List Int))->Int |none=>-1 |some L=>(n:Int)-L.length
def kO(q C:D)(i:Int)(c:List Int)(s:Sl):En:=[.v q,.v C,.v (.int i),.v (encC c),s]
theorem zq9{q C X:D}{cl:List (List Int)}:oz (f+1) [q,.lst (cl.map encC),.int (-1),X]=.ok (.int (-1)):=rfl
theorem PD(h:mT q Q Ok)(G:cl.length<=10000):∀(f:Nat)(c:List Int)(L pre:List (List Int)),Ok c->Q.st-c.length+1<=f->cl=pre++L-> oz f [q,.lst (cl.map encC),.int pre.length,encC c]=.ok (.int (bV cl.length (nh Q f c L))):=by
    intro f;induction f using Nat.strongRecOn;rename_i f I;intro c L pre M hf Z;cases f with|zero=>clear I;lia|succ f=>?_
    have:oz (f+1) [q,.lst (cl.map encC),.int pre.length,encC c]=bM 4 1 (DG (oz f)) [q,.lst (cl.map encC),.int pre.length,encC c]:=rfl;rw[this];have r:aI [.lst (cl.map encC)]=some (.int cl.length):=by simp
    have ln:cl.length=pre.length+L.length:=by simp_all
    obtain⟨C,B⟩:∃C,C=D.lst (cl.map encC):=⟨_,rfl⟩;rw[<-B] at r⊢;refine gw ?_;show aw _ _ (kO q C pre.length c .no)=_;have H:∀i s,aj 1 (kO q C i c s)=.ok C:=fun _ _=>rfl;have A:∀i s,aj 2 (kO q C i c s)=.ok (.int i):=fun _ _=>rfl;have y:∀i s,aj 3 (kO q C i c s)=.ok (encC c):=fun _ _=>rfl;have T:jv (aS (m2 oLt (aj 2) (mC (.int 0)))) (aS (m2 vd (aj 2) (aN aI (ai (aj 1) af)))) (kO q C pre.length c .no)=.ok (decide (L=[])):=by
      simp only[jv,aS,d_,mC,aN,ai,af,H,A,R.ak,r,R.au,C1,LS,lM];rw[b8 (by lia),ao fA];congr 1;rw[jh];constructor;.intro z;exact lG.mp (by lia)
      .intro z;simp_all
    cases L with |nil=>exact lQ ((hZ T).trans rfl) |cons x L=>
      refine(br ((fG (T.trans (by simp))).trans rfl)).trans ?_;have ix:aJ C (.int pre.length)=some (encC x):=by rw[B];exact xX (by lia) (by rw[Int.toNat_natCast,cj,Z,iR (aG _),Nat.sub_self];rfl)
      have px:m2 aJ (aj 1) (aj 2) (kO q C pre.length c .no)=.ok (encC x):=by simp only[d_,H,A,R.ak,ix,R.au]
      have X:aS (m2 gv (m2 aJ (aj 1) (aj 2)) (aj 3)) (kO q C pre.length c .no)=.ok (decide (x=c)):=by simp only[aS,d_,H,A,y,R.ak,ix,R.au,Px,lM]
      unfold nh;by_cases e1:x=c;.rw[aq e1];refine lQ ((hZ (X.trans (by simp_all))).trans ?_);simp only[aH,d_,mC,A,R.ak,xW,R.au];show O.rt (.int _)=O.rt (.int _);congr 2;simp only[gm] at ln;show _=(cl.length:Int)-L.length;lia
      . rw[ao e1];refine(br ((fG (X.trans (by simp_all))).trans rfl)).trans ?_;have s:=h.steps 0 (kO q C pre.length c .no) rfl;have le:dF (aN aI (ai (aj 3) af)) (kO q C pre.length c .no)=.ok (some (c.length:Int)):=by simp only[dF,aN,ai,af,y,R.ak,rL,R.au,vm]
        have sl:=Py (m:=m2 aJ (aj 1) (aj 2)) (mh:=dF (aN aI (ai (aj 3) af))) px le;have U:jv (aS (m2 vd (aN aI (ai (aj 3) af)) (uB 0))) (aS (m2 iG (h6 (m2 aJ (aj 1) (aj 2)) bZ (dF (aN aI (ai (aj 3) af)))) (aj 3))) (kO q C pre.length c .no)=.ok (decide (Q.st<=c.length\/x.take c.length≠c)):=by
          have a1:aS (m2 vd (aN aI (ai (aj 3) af)) (uB 0)) (kO q C pre.length c .no)=.ok (decide (Q.st<=c.length)):=by simp only[aS,d_,aN,ai,af,y,R.ak,rL,R.au,s,LS,lM];simp
          have a2:aS (m2 iG (h6 (m2 aJ (aj 1) (aj 2)) bZ (dF (aN aI (ai (aj 3) af)))) (aj 3)) (kO q C pre.length c .no)=.ok (!decide (x.take c.length=c)):=by simp only[aS,d_,sl,y,R.ak,Ik,R.au,lM]
          simp only[jv,a1,a2,R.ak];by_cases z1:Q.st<=c.length<;>by_cases z2:x.take c.length=c<;>simp[z1,z2]
        by_cases p:Q.st<=c.length\/x.take c.length≠c;.rw[aq p];exact lQ ((hZ (U.trans (by simp_all))).trans rfl)
        . rw[ao p];refine(br ((fG (U.trans (by rw[b8 p]))).trans rfl)).trans ?_;have K:c.length<Q.st:=by have:¬Q.st<=c.length:=fun z=>p (.inl z);lia
          have wy:=h.yB c 0 (ag 3) (kO q C pre.length c .no) M K rfl rfl;have qy:=h.qy;obtain⟨a,rfl⟩:∃a,f=a+1:=⟨f-1,by lia⟩;obtain⟨J,I,E,rfl⟩:=lO (b:=aV 4) (m:=Oe (oz (a+1))) D.int (fun e J=>∃E,J=kO q C (bV cl.length (jb (nh Q (a+1)) (e.map fun w=>c++[w]) (x::L))) c (sv E)) (Q.wy c) (by
              rintro e w post J n ⟨E,rfl⟩;have hw:w∈Q.wy c:=by rw[n];simp
              have S:=h.toWalk.xf M K (k:=c++[w]) (fP.mpr ⟨w,hw,rfl⟩);have ct:oo (encC c) (.tup [.int w])=some (encC (c++[w])):=yC (cs:=c) (ws:=[w]) (by simp;lia);have call:oz (a+1) [q,C,.int (bV cl.length (jb (nh Q (a+1)) (e.map fun w=>c++[w]) (x::L))),encC (c++[w])]=.ok (.int (bV cl.length (jb (nh Q (a+1)) ((e++[w]).map fun w=>c++[w]) (x::L)))):=by rw[h_,bH,iS,Pn];have es:=Ih (Ok:=Ok) (g:=nh Q (a+1)) (e.map fun w=>c++[w]) (fun k hk L=>by obtain⟨v,hv,rfl⟩:=fP.mp hk;exact yE h.toWalk _ _ (h.step c M K v (by rw[n];simp[hv])) L) (x::L);cases z:jb (nh Q (a+1)) (e.map fun w=>c++[w]) (x::L) with |none=>rw[B];exact zq9 (C:=C) |some u=>
                  obtain⟨N,p,_⟩:=es u z;have Y:cl=(pre++N)++u:=by rw[Z,p,sr]
                  have ih:=I _ (Nat.lt.base _) (c++[w]) u (pre++N) S.1 (by rw[S.2];lia) Y;have l3:(bV cl.length (some u):Int)=((pre++N).length:Int):=by show(cl.length:Int)-u.length=_;rw[Y];simp;lia
                  rw[l3,B];exact ih
              refine⟨_,_,kW (o:=E) rfl,.inl (dP (d:=.int (bV cl.length (jb (nh Q (a+1)) ((e++[w]).map fun w=>c++[w]) (x::L)))) ?_ rfl),some (.int w),rfl⟩;show bq (oz (a+1)) _ (kO q C _ c (.v (.int w)))=_;have tp:m2 oo (aj 3) (bY (ai (ag 4) af)) (kO q C (bV cl.length (jb (nh Q (a+1)) (e.map fun w=>c++[w]) (x::L))) c (.v (.int w)))=.ok (encC (c++[w])):=by
                have:bY (ai (ag 4) af) (kO q C (bV cl.length (jb (nh Q (a+1)) (e.map fun w=>c++[w]) (x::L))) c (.v (.int w)))=.ok (.tup [.int w]):=by unfold bY;exact fY (show 1<=sizeLine by decide)
                simp only[d_,y,this,R.ak,ct,R.au]
              simp only[bq,ai,af,tp,show∀i s,ag 0 (kO q C i c s)=.ok q from fun _ _=>rfl,show∀i s,ag 1 (kO q C i c s)=.ok C from fun _ _=>rfl,show∀i s,ag 2 (kO q C i c s)=.ok (.int i) from fun _ _=>rfl,R.ak,call,R.ba]) (kO q C pre.length c .no) ⟨none,by show _=kO q C (bV cl.length (some (x::L))) c .no;rw[show bV cl.length (some (x::L))=(pre.length:Int) by show(cl.length:Int)-(x::L).length=_;rw[ln];lia]⟩;have lp:Of (oz (a+1)) (kO q C pre.length c .no)=_:=(lN (l:=(Q.wy c).map .int) (by have:=wy;simp only[cA,wy,R.ak];rfl)).trans I;exact(br lp).trans rfl
theorem PF(h:Walk q Ok)(cl:List (List Int))(f:Nat)(a:q.st+1<=f):(pa q cl [[]]=true↔nh q f [] cl=some [])/\(pa q cl [[]]=true->∀x∈cl,Ok x):=by
 have e:=Pr h _ f _ h.nil (by simp) a cl [];have b:∀L,pa q L []=true↔L=[]:=fun L=>by cases L<;>simp[pa]
 rw[e];cases z:nh q f _ _ with |none=>exact⟨by simp[zW],fun y=>by cases y⟩ |some L=> have k:zW q (some L) []=pa q L _:=rfl;obtain⟨c,d,g⟩:=yE h f _ h.nil _ L z;simp_all
def word(Q:Qs)(cl:List (List Int))(c:List Int)(k:Int):D:=if pa Q cl [[]]=true then(if(cl.any fun x=>decide (Q.low x<k))=true then .str "low" else if c∉cl\/c.length≠Q.st\/Q.low c≠k then .str "case" else .non) else .str "parts"
theorem PH(h:mT q Q Ok){cl:List (List Int)}(b:∀x∈cl,Ok x)(g:δ[0]?=some (.v q))(i:δ[1]?=some (.v (encC c)))(l:δ[2]?=some (.v (.int k)))(r:δ[3]?=some (.v (.lst (cl.map encC)))): jv (aS (m2 yh (aj 1) (aj 3))) (jv (aS (m2 og (aN aI (ai (aj 1) af)) (uB 0))) (aS (m2 og (rK 0 (ag 1)) (aj 2)))) δ=.ok (decide (c∉cl\/c.length≠Q.st\/Q.low c≠k)):=by
  have a:aj 1 δ=.ok (encC c):=by unfold aj;rw[i]
  have f:aj 2 δ=.ok (.int k):=by unfold aj;rw[l]
  have e:aj 3 δ=.ok (.lst (cl.map encC)):=by unfold aj;rw[r]
  have m:ag 1 δ=.ok (encC c):=by unfold ag;rw[i]
  have s:=h.steps 0 δ g;have j:aS (m2 yh (aj 1) (aj 3)) δ=.ok (!decide (c∈cl)):=by simp only[aS,d_,a,e,R.ak,zyD,R.au,lM]
  have o:aS (m2 og (aN aI (ai (aj 1) af)) (uB 0)) δ=.ok (!decide (c.length=Q.st)):=by simp only[aS,d_,aN,ai,af,a,R.ak,rL,R.au,s,FV,lM];congr 2;grind
  by_cases d:c∈cl
  . have p:=h.low c 0 (ag 1) δ (b c d) g m;have u:aS (m2 og (rK 0 (ag 1)) (aj 2)) δ=.ok (!decide (Q.low c=k)):=by simp only[aS,d_,p,f,R.ak,FV,R.au,lM]
    simp only[jv,j,o,u,R.ak];by_cases t:c.length=Q.st<;>by_cases n:Q.low c=k<;>simp[d,t,n]
  .simp only[jv,j,R.ak];simp[d]
theorem PJ(h:mT q Q Ok)(o:vR Q Ok S)(cl:List (List Int))(c:List Int)(k:Int)(s:cl.length<=10000):xa [q,encC c,.int k,.lst (cl.map encC)]=.ok (word Q cl c k):=by
  have l:=znp h o cl;have u:=(PF h.toWalk cl (Q.st+1) (aG _)).2;refine gw ?_;have g:qY (aS (bq DF (ai (ag 0) (ai (ag 3) af)))) [.v q,.v (encC c),.v (.int k),.v (.lst (cl.map encC))]=.ok (!pa Q cl [[]]):=by simp[qY,aS,bq,ai,af,ag,List.getElem?_cons_succ,List.getElem?_cons_zero,R.ak,l,R.ba,lM,R.au]
  unfold word;by_cases p:pa Q cl [[]]=true
  . rw[aq p];refine(br ((fG (g.trans (by simp_all))).trans rfl)).trans ?_;have e:=u p;have j:Hv [.v q,.v (encC c),.v (.int k),.v (.lst (cl.map encC))]=.ok (.lst ((cl.map fun x=>decide (Q.low x<k)).map .bl)):=by
      refine dZ (jP (r:=cl.map fun x=>.bl (decide (Q.low x<k))) rfl (by grind) ?_) (by simp);refine mO encC (fun x=>.bl _) _ fun x n=>?_;have t:=h.low x 1 (ag 2) [.v (.int k),.v q,.v (encC x)] (e x n) rfl rfl;have m:m2 oLt (rK 1 (ag 2)) (aj 0) [.v (.int k),.v q,.v (encC x)]=.ok (.bl (decide (Q.low x<k))):=by simp[d_,t,aj,List.getElem?_cons_zero,R.ak,C1,R.au]
      exact dh (fun r:R D=>r.i7.bind fun d=>R.ok (some d)) m
    have f:aS (aN rH (ai Hv af)) [.v q,.v (encC c),.v (.int k),.v (.lst (cl.map encC))]=.ok (cl.any fun x=>decide (Q.low x<k)):=by simp only[aS,aN,ai,af,j,R.ak,zuM,R.au];simp
    by_cases a:(cl.any fun x=>decide (Q.low x<k))=true;.rw[aq a];exact lQ ((hZ (f.trans (by rw[a]))).trans rfl)
    . rw[ao a];refine(br ((fG (f.trans (by simp_all))).trans rfl)).trans ?_;have i:=PH h (c:=c) (k:=k) (δ:=[.v q,.v _,.v _,.v (.lst (cl.map _))]) e rfl rfl rfl rfl;by_cases b:c∉cl\/c.length≠Q.st\/Q.low c≠k;.rw[aq b];exact lQ ((hZ (i.trans (by rw[cP b]))).trans rfl)
      .rw[ao b];exact(br ((fG (i.trans (by rw[b8 b]))).trans rfl)).trans rfl
  .rw[ao p];exact lQ ((hZ (g.trans (by rw[Bool.eq_false_iff.mpr p];rfl))).trans rfl)
theorem PL(h:mT q Q Ok):∀(l:List (List Int))(o4:Option D),(∀x∈l,Ok x)->(l.any (fun x=>decide (Q.low x<k))=true/\jF (aV 4) BS (l.map encC) [.v q,.v (encC c),.v (.int k),.v C,sv o4]=.rt (.str "low"))\/ (l.any (fun x=>decide (Q.low x<k))=false/\∃g,jF (aV 4) BS (l.map encC) [.v q,.v (encC c),.v (.int k),.v C,sv o4]=.nx [.v q,.v (encC c),.v (.int k),.v C,sv g])
 |[],o4,_=>.inr ⟨rfl,_,rfl⟩ |x::l,o4,b=>by
  have j:=h.low x 0 (ag 4) [.v q,.v (encC c),.v (.int k),.v C,.v (encC x)] (b x (by simp)) rfl rfl;have f:aV 4 (encC x) [.v q,.v (encC c),.v (.int k),.v C,sv o4]=some [.v q,.v _,.v _,.v C,.v _]:=kW rfl;have t:aS (m2 oLt (rK 0 (ag 4)) (aj 2)) [.v q,.v (encC c),.v (.int k),.v C,.v (encC x)]=.ok (decide (Q.low x<k)):=by simp[aS,d_,j,aj,List.getElem?_cons_succ,List.getElem?_cons_zero,R.ak,C1,R.au,lM]
  rw[bH];unfold jF;rw[f];dsimp only;by_cases e:Q.low x<k;.have d:BS _=.rt _:=(hZ (t.trans (by simp_all))).trans rfl;simp_all
  .have d:BS _=.nx _:=(fG (t.trans (by simp_all))).trans rfl;rw[d];have m:=PL h (C:=C) (c:=c) (k:=k) l (some (encC x)) fun y i=>b y (by simp[i]);rw[iQ,b8 e];exact m
theorem zoP(h:mT q Q Ok)(cl:List (List Int))(c:List Int)(k:Int)(l:cl.length<=10000):BU [q,encC c,.int k,.lst (cl.map encC)]=.ok (word Q cl c k):=by
  have w:=h.qy;obtain⟨j,g⟩:=PF h.toWalk cl 8 (by lia);have t:ux [q,.lst (cl.map encC),.int 0,.tup []]=.ok (.int (bV _ _)):=PD h l 8 [] cl [] h.nil (by lia) rfl;have i:aI [.lst (cl.map encC)]=some (.int cl.length):=by simp
  refine gw ?_;show aw _ _ [.v q,.v (encC c),.v (.int k),.v (.lst _),.no]=_;have d:∀m:En,bY af m=.ok (.tup _):=fun m=>by unfold bY;exact fY (show 0<=sizeLine by decide)
  have r:aS (m2 og (bq ux (ai (ag 0) (ai (ag 3) (ai (mC (.int 0)) (ai (bY af) af))))) (aN aI (ai (aj 3) af))) [.v q,.v (encC c),.v (.int k),.v (.lst (cl.map encC)),.no]=.ok (!pa Q cl [[]]):=by simp only[aS,d_,bq,aN,ai,af,ag,aj,mC,d,List.getElem?_cons_succ,List.getElem?_cons_zero,R.ak,t,R.ba,i,R.au,FV,lM];congr 2;rw[uG,l4,j];cases z:nh Q 8 [] cl with |none=>simp[bV] |some L=>
      simp[bV,Option.some.injEq];constructor;.intro y;exact lG.mp (by lia)
      simp_all
  unfold word;by_cases p:pa Q cl [[]]=true
  . rw[aq p];refine(br ((fG (r.trans (by simp_all))).trans rfl)).trans ?_;have f:=g p;have s:∀o,jF _ _ (cl.map encC) [.v q,.v _,.v (.int k),.v (.lst _),sv none]=o->Og [.v q,.v (encC c),.v _,.v _,.no]=o:=fun o e=>(lN rfl).trans e;rcases PL h (C:=.lst _) (k:=k) cl _ f with⟨a,e⟩|⟨a,u,e⟩;.rw[aq a];exact lQ (s _ e)
    . rw[ao (by simp_all)];refine(br (s _ e)).trans ?_;have n:=PH h (c:=c) (k:=k) (δ:=[.v q,.v _,.v _,.v (.lst _),sv u]) f rfl rfl rfl rfl;by_cases b:c∉cl\/c.length≠Q.st\/Q.low c≠k;.rw[aq b];exact lQ ((hZ (n.trans (by grind))).trans rfl)
      .rw[ao b];exact(br ((fG (n.trans (by rw[b8 b]))).trans rfl)).trans rfl
  .rw[ao p];exact lQ ((hZ (r.trans (by rw[Bool.eq_false_iff.mpr p];rfl))).trans rfl)
theorem B5{n:Nat}:cutD l none (some (n:Int))=l.take n:=by show(List.drop 0 _).take (min n _-0)=_;simp
theorem Io{n:Nat}:cutD l (some (n:Int)) none=l.drop n:=by
 show(List.drop (min n _) l).take (l.length-min n _)=_;by_cases h:n<=l.length;.rw[Nat.min_eq_left h,lV (by simp)]
 .rw[Nat.min_eq_right (by lia),List.drop_eq_nil_of_le (aG _),List.drop_eq_nil_of_le (by lia)];simp
theorem zxW(x:List Int):cutD (x.map D.int) none (some (-1))=(x.dropLast).map .int:=by
 unfold cutD;have e:HT.dV (x.map D.int).length (x.map D.int).length (some (-1))=x.length-1:=by show(if-1<0 then((-1:Int)+(x.map D.int).length).toNat else min (-1).toNat (x.map D.int).length)=_;rw[aq (by decide),aW];lia
 rw[e];show(List.drop 0 _).take (x.length-1-0)=_;rw[List.drop_zero,Nat.sub_zero,su,qr]
theorem zz6(h:m δ=.ok (encC x)):h6 m bZ (dF (m1 eJ (mC (.int 1)))) δ=.ok (encC x.dropLast):=by have a:CL (encC x)=some _:=rfl;simp only[h6,h,R.ak,bZ,dF,uZ,mC,zh,R.au,vm,a,zxW];rfl
theorem yF(h:m δ=.ok d):bY (ai m af) δ=.ok (.tup [d]):=by simp[bY,ai,h];exact fY (show 1<=sizeLine by decide)
theorem yG(h:c.length<=500):oo (encC c) (.tup [.int i])=some (encC (c++[i])):=yC (ws:=[i]) (by grind)
theorem PN(n:Int)(B:c.length<=500):∃a:List Int,a.length<=c.length+2/\yp [encC c,.int n]=.ok (encC a):=by
  have A:eI 4:=c8 100 (by decide);have k:eI 12:=c8 100 (by decide);have b:∀s:En,bY af s=.ok (encC []):=fun s=>by exact fY (show 0<=sizeLine by decide)
  obtain⟨C,o⟩:∃C,C=encC c:=⟨_,rfl⟩;have h:aj 0 [.v C,.v (.int n)]=.ok (encC c):=by rw[o];rfl
  have g:aj 1 [.v C,.v (.int n)]=.ok (.int n):=rfl;have t:jv (aS (m2 gv (aj 0) (bY af))) (aS (m2 oEq (m2 oMod (aj 1) (mC (.int 4))) (mC (.int 0)))) [.v C,.v (.int n)]=.ok (decide (c=[]\/n%4=0)):=by
    have N:aS (m2 gv (aj 0) (bY af)) [.v C,.v (.int n)]=.ok (decide (c=[])):=by simp only[aS,d_,h,b,R.ak,Px,R.au,lM]
    have E:aS (m2 oEq (m2 oMod (aj 1) (mC (.int 4))) (mC (.int 0))) [.v C,.v (.int n)]=.ok (decide (n%4=0)):=by simp[aS,g,mC,hV]
    simp only[jv,N,E,R.ak];by_cases H:c=[]<;>by_cases M:n%4=0<;>simp[H,M]
  have go:∀a,Oc [.v C,.v (.int n)]=.rt (encC a)->yp [encC c,.int n]=.ok (encC a):=fun a e=>by rw[<-o];exact gw e
  by_cases J:c=[]\/n%4=0;.refine⟨c++[n/4%5],by simp,go _ (lQ ((hZ (t.trans (by simp_all))).trans ?_))⟩;have f:=yF (m:=m2 oMod (m2 oDiv (aj 1) (mC (.int 4))) (mC (.int 5))) (δ:=[.v C,.v (.int n)]) (d:=.int (n/4%5)) (by simp[g,mC,nR,A,hV]);simp only[aH,d_,h,R.ak] at f⊢;rw[f];simp only[R.ak,yG B];rfl
  . have q:c≠[]:=fun z=>J (.inl z);have j:=(fG (m:=aH (m2 oo (aj 0) (bY (ai (m2 oMod (m2 oDiv (aj 1) (mC (.int 4))) (mC (.int 5))) af)))) (m':=cB) (t.trans (by simp_all)));have w:aS (m2 oEq (m2 oMod (aj 1) (mC (.int 4))) (mC (.int 1))) [.v C,.v (.int n)]=.ok (decide (n%4=1)):=by simp[aS,g,mC,hV]
    have u:aS (m2 oEq (m2 oMod (aj 1) (mC (.int 4))) (mC (.int 2))) [.v C,.v (.int n)]=.ok (decide (n%4=2)):=by simp[aS,g,mC,hV]
    have r:=zz6 (m:=aj 0) (δ:=[.v C,.v (.int n)]) h;by_cases I:n%4=1;.refine⟨c.dropLast,by grind,go _ ((br (j.trans rfl)).trans (lQ ((hZ (w.trans (by rw[cP I]))).trans ?_)))⟩;simp only[aH,r];rfl
    . have x:=(fG (m:=aH (h6 (aj 0) bZ (dF (m1 eJ (mC (.int 1)))))) (m':=cB) (w.trans (by simp_all)));by_cases p:n%4=2
      . obtain⟨y,G⟩:∃y,c=c.dropLast++[y]:=⟨c.getLast q,(wc q).symm⟩;have l:cC (encC c) (.int (-1))=some (.int y):=by rw[G];exact Pb
        refine⟨c.dropLast++[y+1],by simp;lia,go _ ((br (j.trans rfl)).trans ((br (x.trans rfl)).trans (lQ ((hZ (u.trans (by rw[cP p]))).trans ?_))))⟩;have f:=yF (m:=m2 bL (m2 cC (aj 0) (m1 eJ (mC (.int 1)))) (mC (.int 1))) (δ:=[.v C,.v (.int n)]) (d:=.int (y+1)) (by simp[d_,uZ,h,mC,R.ak,zh,R.au,l,xW]);have K:=yG (c:=c.dropLast) (i:=y+1) (by simp;lia);simp only[aH];rw[show m2 oo (h6 (aj 0) bZ (dF (m1 eJ (mC (.int 1))))) (bY (ai (m2 bL (m2 cC (aj 0) (m1 eJ (mC (.int 1)))) (mC (.int 1))) af)) [.v C,.v (.int n)]=.ok (encC (c.dropLast++[y+1])) by simp only[d_] at f⊢;rw[r,R.ak,f,R.ak,K,R.au]];rfl
      .have L:=(fG (m:=aH (m2 oo (h6 (aj 0) bZ (dF (m1 eJ (mC (.int 1))))) (bY (ai (m2 bL (m2 cC (aj 0) (m1 eJ (mC (.int 1)))) (mC (.int 1))) af)))) (m':=cB) (u.trans (by rw[b8 p])));refine⟨[n/4%3,n/12%3-1],by simp,go _ ((br (j.trans rfl)).trans ((br (x.trans rfl)).trans ((br (L.trans rfl)).trans ?_)))⟩;simp[aH,bY,ai,af,g,mC,nR,A,k,hV,sizeLine,encC]
def c6(l:List (List Int)):D:=.lst (l.map encC)
theorem slT{n:Nat}(h:m δ=.ok (c6 l))(a:mh δ=.ok (.int n)):gq m bZ (dF mh) δ=.ok (c6 (l.take n)):=by simp[gq,h,a,R.ak,bZ,dF,vm,R.au,c6,uj,B5,qr]
theorem PQ{n:Nat}(h:m δ=.ok (c6 l))(a:mh δ=.ok (.int n)):gq m (dF mh) bZ δ=.ok (c6 (l.drop n)):=by simp[gq,h,a,R.ak,bZ,dF,vm,R.au,c6,uj,Io,List.map_drop]
theorem pX(h1:m δ=.ok (c6 a))(h2:n δ=.ok (c6 b))(h:a.length+b.length<=50000):m2 fS m n δ=.ok (c6 (a++b)):=by
 have c:fS (c6 a) (c6 b)=some (c6 (a++b)):=by unfold c6;rw[h_];exact fY (by rw[fc];grind)
 simp[d_,h1,h2,R.ak,c,R.au]
theorem B6(h:m δ=.ok (encC c)):bT (ai m af) δ=.ok (c6 [c]):=by simp[bT,ai,h];exact fY (show 1<=sizeLine by decide)
theorem tN(h:m δ=.ok d):fi m δ=.ro d:=by simp only[fi,h];rfl
theorem yH{k:Nat}(h:l[k]?=some c):aJ (c6 l) (.int k)=some (encC c):=xX (by lia) (by rw[Int.toNat_natCast,cj,h];rfl)
theorem DQ(h:m δ=.ro d):aw m n δ=.ro d:=by unfold aw;rw[h]
theorem zjp(h:mT q Q Ok)(ne:cl≠[])(Y:∀x∈cl,Ok x)(wt:cl.length<=5000)(n:Int)(n0:0<=n):∃I:List (List Int),I.length<=cl.length+20/\BR [q,c6 cl,.int n]=.ok (c6 I):=by
  have f8:eI 8:=c8 100 (by decide);have J:eI 64:=c8 100 (by decide);have B:0<(cl.length:Int):=by have:=sE.mpr ne;lia
  have y:aI [c6 cl]=some (.int cl.length):=by simp[c6]
  obtain⟨a,ea⟩:∃a:Nat,(a:Int)=n/8%cl.length:=⟨(n/8%cl.length).toNat,by have:=m9 (n/8) B;lia⟩;obtain⟨o,eo⟩:∃o:Nat,(o:Int)=n/64%cl.length:=⟨(n/64%cl.length).toNat,by have:=m9 (n/64) B;omega⟩;have a1:a<cl.length:=by have:=oA (n/8) B;omega
  have o1:o<cl.length:=by have:=oA (n/64) B;omega
  obtain⟨j,ga⟩:∃c,cl[a]?=some c:=⟨_,bW a1⟩;obtain⟨E,go⟩:∃c,cl[o]?=some c:=⟨_,bW o1⟩;have t:=Y j (ib ga);have lca:=h.len j t;have qy:=h.qy;have ia:=yH ga;have io:=yH go;obtain⟨C,G⟩:∃C,C=c6 cl:=⟨_,rfl⟩;rw[<-G] at y ia io⊢;have e3:∀g f:Sl,aj 3 [.v q,.v C,.v (.int n),.v (.int a),.v (.int o),g,f]=.ok (.int a):=fun _ _=>rfl;have Z:∀g f:Sl,ag 3 [.v q,.v C,.v (.int n),.v (.int a),.v (.int o),g,f]=.ok (.int a):=fun _ _=>rfl;have v4:∀g f:Sl,ag 4 [.v q,.v C,.v (.int n),.v (.int a),.v (.int o),g,f]=.ok (.int o):=fun _ _=>rfl;have e4:∀g f:Sl,aj 4 [.v q,.v C,.v (.int n),.v (.int a),.v (.int o),g,f]=.ok (.int o):=fun _ _=>rfl;have A:∀g f:Sl,aj 1 [.v q,.v C,.v (.int n),.v (.int a),.v (.int o),g,f]=.ok C:=fun _ _=>rfl;have U:∀g f:Sl,aj 2 [.v q,.v C,.v (.int n),.v (.int a),.v (.int o),g,f]=.ok (.int n):=fun _ _=>rfl;have L:∀g f:Sl,m2 aJ (aj 1) (aj 3) [.v q,.v C,.v (.int n),.v (.int a),.v (.int o),g,f]=.ok (encC j):=fun g f=>by simp only[d_,A,e3,R.ak,ia,R.au]
  have xo:∀g f:Sl,m2 aJ (aj 1) (aj 4) [.v q,.v C,.v (.int n),.v (.int a),.v (.int o),g,f]=.ok (encC E):=fun g f=>by simp only[d_,A,e4,R.ak,io,R.au]
  have N:∀g f:Sl,gq (aj 1) bZ (dF (ag 3)) [.v q,.v C,.v (.int n),.v (.int a),.v (.int o),g,f]=.ok (c6 (cl.take a)):=fun g f=>slT ((A g f).trans (by rw[G])) (Z g f);have dr:∀g f:Sl,gq (aj 1) (dF (ag 3)) bZ [.v q,.v C,.v (.int n),.v (.int a),.v (.int o),g,f]=.ok (c6 (cl.drop a)):=fun g f=>PQ ((A g f).trans (by rw[G])) (Z g f);have u:∀g f:Sl,gq (aj 1) (dF (m2 bL (aj 3) (mC (.int 1)))) bZ [.v q,.v C,.v (.int n),.v (.int a),.v (.int o),g,f]=.ok (c6 (cl.drop (a+1))):=fun g f=>PQ ((A g f).trans (by rw[G])) (by rfl);have K:aB (m2 oMod (m2 oDiv (aj 2) (mC (.int 8))) (aN aI (ai (aj 1) af))) (aV 3) [.v q,.v C,.v (.int n),.no,.no,.no,.no]=.nx [.v q,.v C,.v (.int n),.v (.int a),.no,.no,.no]:=dP (d:=.int a) (by simp[aj,mC,aN,ai,af,nR,f8,y,hV B,ea]) rfl;have H:aB (m2 oMod (m2 oDiv (aj 2) (mC (.int 64))) (aN aI (ai (aj 1) af))) (aV 4) [.v q,.v C,.v (.int n),.v (.int a),.no,.no,.no]=.nx [.v q,.v C,.v (.int n),.v (.int a),.v (.int o),.no,.no]:=dP (d:=.int o) (by simp[aj,mC,aN,ai,af,nR,J,y,hV B,eo]) rfl;have p:∀(k:Int)(g f:Sl),aS (m2 oEq (m2 oMod (aj 2) (mC (.int 8))) (mC (.int k))) [.v q,.v C,.v (.int n),.v (.int a),.v (.int o),g,f]=.ok (decide (n%8=k)):=fun k g f=>by simp[aS,U,mC,hV]
  have tl:=List.length_take_le a cl;have dl:(cl.drop a).length<=cl.length:=by simp
  have dl1:(cl.drop (a+1)).length<=cl.length:=by simp
  have run:∀(X:List (List Int)){o'},o'=c6 X->Od [.v q,.v C,.v (.int n),.no,.no,.no,.no]=.ro o'->BR [q,C,.int n]=.ok (c6 X):=fun X o' e z=>by rw[e] at z;exact nU z
  by_cases c0:n%8=0;.refine⟨cl.take a++cl.drop (a+1),by grind,run _ rfl ((br K).trans ((br H).trans (DQ ((hZ ((p 0 .no .no).trans (by rw[cP c0]))).trans (tN (pX (N _ _) (u _ _) (by lia)))))))⟩
  . have S:=((fG (m:=fi (m2 fS (gq (aj 1) bZ (dF (ag 3))) (gq (aj 1) (dF (m2 bL (aj 3) (mC (.int 1)))) bZ))) (m':=cB) ((p 0 .no .no).trans (by simp_all)))).trans (show cB [.v q,.v C,.v (.int n),.v (.int a),.v (.int o),.no,.no]=.nx [.v q,.v C,.v (.int n),.v (.int a),.v (.int o),.no,.no] from rfl);by_cases c1:n%8=1;.refine⟨cl.take a++[j]++cl.drop a,by simp;omega,run _ rfl ((br K).trans ((br H).trans ((br S).trans (DQ ((hZ ((p 1 .no .no).trans (by rw[cP c1]))).trans (tN (pX (pX (N _ _) (B6 (L _ _)) (by simp;omega)) (dr _ _) (by simp;omega))))))))⟩
    . have T:=((fG (m:=fi (m2 fS (m2 fS (gq (aj 1) bZ (dF (ag 3))) (bT (ai (m2 aJ (aj 1) (aj 3)) af))) (gq (aj 1) (dF (ag 3)) bZ))) (m':=cB) ((p 1 .no .no).trans (by rw[b8 c1])))).trans (show cB [.v q,.v C,.v (.int n),.v (.int a),.v (.int o),.no,.no]=.nx [.v q,.v C,.v (.int n),.v (.int a),.v (.int o),.no,.no] from rfl);by_cases c2:n%8=2
      . refine⟨(cl.set a E).set o j,by simp,run _ rfl ((br K).trans ((br H).trans ((br S).trans ((br T).trans (DQ ((hZ ((p 2 .no .no).trans (by rw[cP c2]))).trans ?_))))))⟩;have fl:kU [C]=some C:=by rw[G];rfl
        have w1:aB (aN kU (ai (aj 1) af)) (dq 5) [.v q,.v C,.v (.int n),.v (.int a),.v (.int o),.no,.no]=.nx [.v q,.v C,.v (.int n),.v (.int a),.v (.int o),.o (c6 cl),.no]:=dP (d:=c6 cl) (dZ (b:=R.ok C) (by simp only[aN,ai,af,A,R.ak,fl,R.au]) (by rw[G])) rfl;refine(br w1).trans ?_;have tp:bY (ai (m2 aJ (aj 1) (aj 4)) (ai (m2 aJ (aj 1) (aj 3)) af)) [.v q,.v C,.v (.int n),.v (.int a),.v (.int o),.o (c6 cl),.no]=.ok (.tup [encC E,encC j]):=by simp only[bY,ai,af,L,xo,R.ak];exact fY (show 2<=sizeLine by decide)
        have ixa:gK (cl.map encC).length (a:Int)=some a:=by unfold gK;rw[aW];simp[a1]
        have ixo:gK (cl.map encC).length (o:Int)=some o:=by unfold gK;rw[aW];simp[o1]
        have w2:zz 5 (ag 3) (ag 4) (bY (ai (m2 aJ (aj 1) (aj 4)) (ai (m2 aJ (aj 1) (aj 3)) af))) [.v q,.v C,.v (.int n),.v (.int a),.v (.int o),.o (c6 cl),.no]=.nx [.v q,.v C,.v (.int n),.v (.int a),.v (.int o),.o (c6 ((cl.set a E).set o j)),.no]:=by unfold zz;rw[show([.v q,.v C,.v (.int n),.v (.int a),.v (.int o),.o (c6 cl),.no]:En)[5]?=some (.o (.lst (cl.map encC))) from rfl];dsimp only;rw[tp,R.dn];dsimp only;rw[Z,R.dn];dsimp only;rw[ixa];dsimp only;rw[show ag 4 (List.set [.v q,.v C,.v (.int n),.v (.int a),.v (.int o),.o (c6 cl),.no] 5 (.o (.lst ((cl.map encC).set a (encC E)))))=.ok (.int o) from rfl,R.dn];dsimp only;rw[ixo];show O.nx [.v q,.v C,.v (.int n),.v (.int a),.v (.int o),.o (.lst (((cl.map encC).set a (encC E)).set o (encC j))),.no]=_;rw[<-List.map_set,<-List.map_set];rfl
        exact(br w2).trans rfl
      . have s2:=((fG (m:=aw (aB (aN kU (ai (aj 1) af)) (dq 5)) (aw (zz 5 (ag 3) (ag 4) (bY (ai (m2 aJ (aj 1) (aj 4)) (ai (m2 aJ (aj 1) (aj 3)) af)))) (A6 5))) (m':=cB) ((p 2 .no .no).trans (by rw[b8 c2])))).trans (show cB [.v q,.v C,.v (.int n),.v (.int a),.v (.int o),.no,.no]=.nx [.v q,.v C,.v (.int n),.v (.int a),.v (.int o),.no,.no] from rfl);have st:=h.steps 0 [.v q,.v C,.v (.int n),.v (.int a),.v (.int o),.no,.no] rfl;have t4:k9 (aS (m2 oLt (m2 oMod (aj 2) (mC (.int 8))) (mC (.int 5)))) (aS (m2 oLt (aN aI (ai (m2 aJ (aj 1) (aj 3)) af)) (uB 0))) [.v q,.v C,.v (.int n),.v (.int a),.v (.int o),.no,.no]=.ok (decide (n%8<5/\j.length<Q.st)):=by
          have b1:aS (m2 oLt (m2 oMod (aj 2) (mC (.int 8))) (mC (.int 5))) [.v q,.v C,.v (.int n),.v (.int a),.v (.int o),.no,.no]=.ok (decide (n%8<5)):=by simp[aS,U,mC,hV]
          have b2:aS (m2 oLt (aN aI (ai (m2 aJ (aj 1) (aj 3)) af)) (uB 0)) [.v q,.v C,.v (.int n),.v (.int a),.v (.int o),.no,.no]=.ok (decide (j.length<Q.st)):=by have s:=L .no .no;simp only[d_] at s;simp only[aS,d_,aN,ai,af,s,R.ak,rL,R.au,st,C1,lM];congr 1;rw[jh];omega
          simp only[k9,b1,b2,R.ak];by_cases z1:n%8<5<;>by_cases z2:j.length<Q.st<;>simp[z1,z2]
        by_cases M:n%8<5/\j.length<Q.st
        . have wl:=h.wl j t M.2;have wy:=h.yB j 0 (m2 aJ (aj 1) (aj 3)) [.v q,.v C,.v (.int n),.v (.int a),.v (.int o),.no,.no] t M.2 rfl (L _ _);have kk:Hw [.v q,.v C,.v (.int n),.v (.int a),.v (.int o),.no,.no]=.ok (c6 (eM Q j)):=by
            refine dZ (jP (l:=(Q.wy j).map .int) (r:=(Q.wy j).map fun w=>encC (j++[w])) (by simp only[cA,wy,R.ak];rfl) (by rw[aW];lia) ?_) (by unfold c6 eM;rw[cK];rfl);refine mO .int (fun w=>encC (j++[w])) _ fun w _=>?_;have e:c9 [.v q,.v C,.v (.int n),.v (.int a),.v (.int o),.no,.no] [1,3] 1=[.v C,.v (.int a),.no]:=rfl;rw[e];have b1:cX 2 (.int w) [.v C,.v (.int a),.no]=some [.v C,.v (.int a),.v (.int w)]:=rfl;have tp:=yF (m:=ag 2) (δ:=[.v C,.v (.int a),.v (.int w)]) (d:=.int w) rfl;have m:m2 oo (m2 aJ (aj 0) (aj 1)) (bY (ai (ag 2) af)) [.v C,.v (.int a),.v (.int w)]=.ok (encC (j++[w])):=by have ct:=yG (c:=j) (i:=w) (by omega);simp only[d_,tp,show aj 0 [.v C,.v (.int a),.v (.int w)]=.ok C from rfl,show aj 1 [.v C,.v (.int a),.v (.int w)]=.ok (.int a) from rfl,R.ak,ia,R.au,ct]
            simp only[iN,b1,R.au,R.ak];rw[m];rfl
          have w1:aB Hw (aV 6) [.v q,.v C,.v (.int n),.v (.int a),.v (.int o),.no,.no]=.nx [.v q,.v C,.v (.int n),.v (.int a),.v (.int o),.no,.v (c6 (eM Q j))]:=dP kk rfl;have kl:(eM Q j).length<=10:=by unfold eM;rw[aW];exact wl
          refine⟨cl.take a++eM Q j++cl.drop (a+1),by simp;lia,run _ rfl ((br K).trans ((br H).trans ((br S).trans ((br T).trans ((br s2).trans (DQ ((hZ (t4.trans (by rw[cP M]))).trans ((br w1).trans (tN (pX (pX (N _ _) rfl (by lia)) (u _ _) (by simp;lia)))))))))))⟩
        . obtain⟨c',lc,ec⟩:=PN (c:=j) (n/64) (by lia);have oc:bq yp (ai (m2 aJ (aj 1) (aj 3)) (ai (m2 oDiv (aj 2) (mC (.int 64))) af)) [.v q,.v C,.v (.int n),.v (.int a),.v (.int o),.no,.no]=.ok (encC c'):=by have s:=L .no .no;simp only[d_] at s;simp only[bq,ai,af,d_,s,U,mC,R.ak,nR (show(0:Int)<64 by decide) J,R.au,ec,R.ba]
          refine⟨cl.take a++[c']++cl.drop (a+1),by simp;lia,run _ rfl ((br K).trans ((br H).trans ((br S).trans ((br T).trans ((br s2).trans ((br ((fG (t4.trans (by rw[b8 M]))).trans rfl)).trans (tN (pX (pX (N _ _) (B6 oc) (by simp;lia)) (u _ _) (by simp;lia)))))))))⟩
theorem eqS(a:Str):oEq (.str a) (.str a)=some (.bl true):=by show(if nF (.str a) (.str a)=true then some _ else none)=_;rw[aq (show nF _ _=true from rfl),cP rfl]
def j9(q T:D)(n:Int)(c:List Int)(k:Int)(cl:List (List Int)):En:=[.v q,.v T,.v (.int n),.v (encC c),.v (.int k),.v (c6 cl),.v (.int (n%6)),.v (.int (n/6)),.no,.no,.no]
theorem tO(j:Int):aS (m2 oEq (aj 6) (mC (.int j))) (j9 q T n c k cl)=.ok (decide (n%6=j)):=by simp[aS,d_,show aj 6 (j9 q T n c k _)=.ok _ from rfl,mC,R.ak,zi,R.au,lM]
theorem DR(i j:Int):jv (aS (m2 oEq (aj 6) (mC (.int i)))) (aS (m2 oEq (aj 6) (mC (.int j)))) (j9 q T n c k cl)=.ok (decide (n%6=i\/n%6=j)):=by simp[jv,tO];by_cases a:n%6=i<;>by_cases b:n%6=j<;>simp[a]
theorem zrj(Q:Qs)(cl:List (List Int))(c:List Int)(k:Int):word Q cl c k=.non\/∃s:Str,word Q cl c k=.str s:=by
  unfold word;split
  . split;.simp
    . split;.simp
      simp
  simp
theorem zt5(h:mT q Q Ok)(hs:vR Q Ok S)(J:cl≠[])(o:∀x∈cl,Ok x)(wt:cl.length<=3000)(hc:c.length<=100)(k n:Int)(n0:0<=n):DH [q,.tup [encC c,.int k,c6 cl],.int n]=.ok (.bl true):=by
  have Z:eI 6:=c8 1000 (by decide);have j:eI 512:=c8 1000 (by decide);obtain⟨T,B⟩:∃T,T=D.tup [encC c,.int k,c6 cl]:=⟨_,rfl⟩;refine gw ?_;rw[<-B];show aw _ _ [.v q,.v T,.v (.int n),.no,.no,.no,.no,.no,.no,.no,.no]=_;have q1:aB (ag 1) (dM 3 (eS (aV 3) (eS (aV 4) (eS (aV 5) ef)))) [.v q,.v T,.v (.int n),.no,.no,.no,.no,.no,.no,.no,.no]=.nx [.v q,.v T,.v (.int n),.v (encC c),.v (.int k),.v (c6 cl),.no,.no,.no,.no,.no]:=dP (d:=T) rfl (by rw[B];rfl);have q2:aB (m2 oMod (aj 2) (mC (.int 6))) (aV 6) [.v q,.v T,.v (.int n),.v (encC c),.v (.int k),.v (c6 cl),.no,.no,.no,.no,.no]=.nx [.v q,.v T,.v (.int n),.v (encC c),.v (.int k),.v (c6 cl),.v (.int (n%6)),.no,.no,.no,.no]:=dP (d:=.int (n%6)) (by simp[aj,mC,hV]) rfl;have U:aB (m2 oDiv (aj 2) (mC (.int 6))) (aV 7) [.v q,.v T,.v (.int n),.v (encC c),.v (.int k),.v (c6 cl),.v (.int (n%6)),.no,.no,.no,.no]=.nx (j9 q T n c k cl):=dP (d:=.int (n/6)) (by simp[aj,mC,nR,Z]) rfl;refine(br q1).trans ((br q2).trans ((br U).trans ?_));obtain⟨b,l',L,e4⟩:∃b:List (List Int),b.length<=cl.length+20/\(n%6=5->b=cl)/\bf (jv (aS (m2 oEq (aj 6) (mC (.int 1)))) (aS (m2 oEq (aj 6) (mC (.int 4))))) (aB (bq BR (ai (ag 0) (ai (ag 5) (ai (ag 7) af)))) (aV 5)) cB (j9 q T n c k cl)=.nx (j9 q T n c k b):=by
    by_cases z:n%6=1\/n%6=4;.obtain⟨b,H,m⟩:=zjp h J o (by lia) (n/6) (by lia);refine⟨b,H,fun y=>by lia,(hZ ((DR 1 4).trans (by simp_all))).trans (dP (d:=c6 b) ?_ rfl)⟩;simp only[bq,ai,af,show ag 0 (j9 q T n c k cl)=.ok q from rfl,show ag 5 (j9 q T n c k cl)=.ok (c6 cl) from rfl,show ag 7 (j9 q T n c k cl)=.ok (.int (n/6)) from rfl,R.ak,m,R.ba]
    .exact⟨cl,by lia,fun _=>rfl,(fG ((DR 1 4).trans (by simp_all))).trans rfl⟩
  obtain⟨f,X⟩:∃f:Int,bf (jv (aS (m2 oEq (aj 6) (mC (.int 2)))) (aS (m2 oEq (aj 6) (mC (.int 4))))) (aB (m2 bL (aj 4) (m2 aJ (bT (ai (mC (.int 1)) (ai (m1 eJ (mC (.int 1))) (ai (m2 gU (mC (.int 0)) (aj 4)) (ai (ag 7) af))))) (m2 oMod (m2 oDiv (aj 7) (mC (.int 512))) (mC (.int 4))))) (aV 4)) cB (j9 q T n c k b)=.nx (j9 q T n c f b):=by
    by_cases z:n%6=2\/n%6=4
    . obtain⟨y,K⟩:∃y,aJ (.lst [.int 1,.int (-1),.int (0-k),.int (n/6)]) (.int (n/6/512%4))=some (.int y):=by have a2:=m9 (n/6/512) (show(0:Int)<4 by decide);have a3:=oA (n/6/512) (show(0:Int)<4 by decide);rcases(show n/6/512%4=0\/n/6/512%4=1\/n/6/512%4=2\/n/6/512%4=3 by lia) with e|e|e|e<;>rw[e]<;>exact⟨_,rfl⟩
      refine⟨k+y,(hZ ((DR 2 4).trans (by simp_all))).trans (dP (d:=.int (k+y)) ?_ rfl)⟩;have G:aj 4 (j9 q T n c k b)=.ok (.int k):=rfl;have r7:aj 7 (j9 q T n c k b)=.ok (.int (n/6)):=rfl;have v7:ag 7 (j9 q T n c k b)=.ok (.int (n/6)):=rfl;have ls:bT (ai (mC (.int 1)) (ai (m1 eJ (mC (.int 1))) (ai (m2 gU (mC (.int 0)) (aj 4)) (ai (ag 7) af)))) (j9 q T n c k b)=.ok (.lst [.int 1,.int (-1),.int (0-k),.int (n/6)]):=by simp only[bT,ai,af,uZ,d_,mC,G,v7,R.ak,zh,CZ,R.au];exact fY (show 4<=sizeLine by decide)
      simp only[d_,ls,G,r7,mC,R.ak,nR (show(0:Int)<512 by decide) j,hV (show(0:Int)<4 by decide),R.au,K,xW]
    .exact⟨k,(fG ((DR 2 4).trans (by simp_all))).trans rfl⟩
  obtain⟨i,lc1,N⟩:∃i:List Int,i.length<=110/\bf (aS (m2 oEq (aj 6) (mC (.int 3)))) (aB (bq yp (ai (ag 3) (ai (ag 7) af))) (aV 3)) cB (j9 q T n c f b)=.nx (j9 q T n i f b):=by
    by_cases z:n%6=3;.obtain⟨i,H,m⟩:=PN (c:=c) (n/6) (by lia);refine⟨i,by lia,(hZ ((tO 3).trans (by simp_all))).trans (dP (d:=encC i) ?_ rfl)⟩;simp only[bq,ai,af,show ag 3 (j9 q T n c f b)=.ok (encC c) from rfl,show ag 7 (j9 q T n c f b)=.ok (.int (n/6)) from rfl,R.ak,m,R.ba]
    .exact⟨c,by lia,(fG ((tO 3).trans (by simp_all))).trans rfl⟩
  obtain⟨g,Y⟩:∃g:List Int,bf (aS (m2 oEq (aj 6) (mC (.int 5)))) (aB (m2 aJ (aj 5) (m2 oMod (aj 7) (aN aI (ai (aj 5) af)))) (aV 3)) cB (j9 q T n i f b)=.nx (j9 q T n g f b):=by
    by_cases z:n%6=5
    . have M:=L z;have p:0<(b.length:Int):=by rw[M];have:=sE.mpr J;lia
      have a2:=m9 (n/6) p;have a3:=oA (n/6) p;obtain⟨a,ea⟩:∃a:Nat,(a:Int)=n/6%b.length:=⟨(n/6%b.length).toNat,by lia⟩;obtain⟨g,g2⟩:∃x,b[a]?=some x:=⟨_,bW (by lia)⟩;have ix:=yH g2;have A:aI [c6 b]=some (.int b.length):=by simp[c6]
      refine⟨g,(hZ ((tO 5).trans (by simp_all))).trans (dP (d:=encC g) ?_ rfl)⟩;simp only[d_,aN,ai,af,show aj 5 (j9 q T n i f b)=.ok (c6 b) from rfl,show aj 7 (j9 q T n i f b)=.ok (.int (n/6)) from rfl,R.ak,A,R.au,hV p,<-ea,ix]
    .exact⟨i,(fG ((tO 5).trans (by simp_all))).trans rfl⟩
  refine(br e4).trans ((br X).trans ((br N).trans ((br Y).trans ?_)));have E:=PJ h hs b g f (by lia);have I:=zoP h b g f (by lia);obtain⟨w,ew⟩:∃w,w=word Q b g f:=⟨_,rfl⟩;have C:=zrj Q b g f;rw[<-ew] at E I C;have q8:aB (aN kU (ai (aj 5) af)) (aV 8) (j9 q T n g f b)=.nx [.v q,.v T,.v (.int n),.v (encC g),.v (.int f),.v (c6 b),.v (.int (n%6)),.v (.int (n/6)),.v (c6 b),.no,.no]:=dP (d:=c6 b) rfl rfl;have q9:aB (bq xa (ai (ag 0) (ai (ag 3) (ai (ag 4) (ai (ag 5) af))))) (aV 9) [.v q,.v T,.v (.int n),.v (encC g),.v (.int f),.v (c6 b),.v (.int (n%6)),.v (.int (n/6)),.v (c6 b),.no,.no]=.nx [.v q,.v T,.v (.int n),.v (encC g),.v (.int f),.v (c6 b),.v (.int (n%6)),.v (.int (n/6)),.v (c6 b),.v w,.no]:=dP (d:=w) (by have l:xa [q,encC g,.int f,c6 b]=.ok w:=E;simp only[bq,ai,af,ag,List.getElem?_cons_succ,List.getElem?_cons_zero,R.ak,l,R.ba]) rfl;have u:aB (bq BU (ai (ag 0) (ai (ag 3) (ai (ag 4) (ai (ag 8) af))))) (aV 10) [.v q,.v T,.v (.int n),.v (encC g),.v (.int f),.v (c6 b),.v (.int (n%6)),.v (.int (n/6)),.v (c6 b),.v w,.no]=.nx [.v q,.v T,.v (.int n),.v (encC g),.v (.int f),.v (c6 b),.v (.int (n%6)),.v (.int (n/6)),.v (c6 b),.v w,.v w]:=dP (d:=w) (by have r:BU [q,encC g,.int f,c6 b]=.ok w:=I;simp only[bq,ai,af,ag,List.getElem?_cons_succ,List.getElem?_cons_zero,R.ak,r,R.ba]) rfl;refine(br q8).trans ((br q9).trans ((br u).trans ?_));have t:iG (c6 b) (c6 b)=some (.bl false):=Uq (Ij b) (Ij b) rfl;refine(br ((fG (by simp only[aS,d_,aj,List.getElem?_cons_succ,List.getElem?_cons_zero,R.ak,t,R.au,lM])).trans rfl)).trans ?_;rcases C with e|⟨s,e⟩<;>subst e;.rfl
  .refine(br ((fG rfl).trans rfl)).trans ?_;have es:=eqS s;have is:xU "str" (.str s)=some (.bl true):=rfl;simp[aH,Fs,aj,is,es]
theorem zAh{n:Nat}(k:cs.Nodup)(i:∀v∈cs,1<=v/\v<(n:Int))(j:cs.length+1<n):rW n cs≠[]:=fun e=>by
 have d:∀x∈Rg 1 _,x∈cs:=fun x g=>by apply Classical.byContradiction;intro z;have:x∈rW n cs:=gy.mpr ⟨g,by simp_all⟩;simp_all
 have c:(Rg 1 (n-1)).Nodup:=by refine List.Pairwise.map _ (fun a b h e=>h ?_) qs;lia
 have:=sq c d;rw[yA] at this;lia
theorem sd(h:δ[i]?=some (.v S))(a:PM.isObj c m S=some ())(b:ma δ=.ok x)(e:f [S,x]=.ok d):bN c m f (ag i) (ai ma af) δ=.ok d:=by unfold bN ai;simp[ag,h,R.ak,a,R.au,b,af,e,R.ba]
theorem zY(h:δ[i]?=some (.v S))(a:PM.isObj c m S=some ())(b:f [S]=.ok d):bN c m f (ag i) af δ=.ok d:=by unfold bN;simp[ag,h,R.ak,a,R.au,af,b,R.ba]
theorem B7(h:δ[i]?=some (.v (.obj c ks l))):bg i c x y δ=x δ:=by unfold bg;simp_all
theorem pY(h:δ[i]?=some (.v (.obj c ks l)))(b:c≠a):bg i a x y δ=y δ:=by unfold bg;simp_all
theorem Iq(h:δ[i]?=some (.v (.obj 8 ks l))):vS nm a f2 b d e c i ma δ=bN 8 nm a (ag i) ma δ:=B7 h
theorem Ir(h:δ[i]?=some (.v (.obj 9 ks l))):vS nm a f2 b d e c i ma δ=bN 9 nm f2 (ag i) ma δ:=(pY h (by decide)).trans (B7 h)
theorem Iu(h:δ[i]?=some (.v (.obj 7 ks l))):vS nm b f2 a d e c i ma δ=bN 7 nm a (ag i) ma δ:=(pY h (by decide)).trans ((pY h (by decide)).trans (B7 h))
theorem yI(h:δ[i]?=some (.v (.obj 12 ks l))):vS nm b f2 d a e c i ma δ=bN 12 nm a (ag i) ma δ:=(pY h (by decide)).trans ((pY h (by decide)).trans ((pY h (by decide)).trans (B7 h)))
theorem yJ(h:δ[i]?=some (.v (.obj 11 ks l))):vS nm b f2 e d a c i ma δ=bN 11 nm a (ag i) ma δ:=(pY h (by decide)).trans ((pY h (by decide)).trans ((pY h (by decide)).trans ((pY h (by decide)).trans (B7 h))))
theorem yK(h:δ[i]?=some (.v (.obj 10 ks l))):vS nm b f2 c d e a i ma δ=bN 10 nm a (ag i) ma δ:=(pY h (by decide)).trans ((pY h (by decide)).trans ((pY h (by decide)).trans ((pY h (by decide)).trans (pY h (by decide)))))
theorem zz3{T:List Nat}(h:T.all (fun x=>decide (1<=x))=true)(k:Nat):1<=T.getD k 1:=by rw[dR];cases e:T[k]? with |none=>simp |some x=>exact l4.mp (iP.mp h x (ib e))
theorem zZ(B T:List Nat)(f:∀c,Ok c->c.length<Q.st->(Q.wy c).length<=B.getD c.length 0)(a:∀k,k<Q.st->1+B.getD k 0*T.getD (k+1) 1<=T.getD k 1)(d:T.all (fun x=>decide (1<=x))=true)(b:T.getD 0 1<=2000):vR Q Ok (fun k=>T.getD k 1):= ⟨fun c g e=>bK (Nat.add_le_add_left (Nat.mul_le_mul_right _ (f c g e)) 1) (a _ e),fun k=>zz3 d k,b⟩
theorem ly{P:Nat->Prop}(h0:P 0)(h1:P 1)(h2:P 2)(h3:P 3)(b:P 4)(a:k<5):P k:=by grind
structure pZ(q:D)(Q:Qs)(Ok:List Int->Prop):Prop where
 ok:mT q Q Ok
 sz:∃S,vR Q Ok S
def zzs(n:Nat)(sets:List Ps):Qs:=⟨sets.length,yt n sets,wy n sets⟩
theorem zxX(l:gX n sets)(m:sets.length<=5)(p:∀t∈eR n,∃s∈sets,t∈s.2):pZ (uz n sets) (zzs n sets) (fun c=>c.length<=sets.length/\BZ n sets c):=by
 refine⟨⟨⟨⟨bU _,Y4 p⟩,fun c h=>h.1,fun c h d w q=>⟨by simp at d⊢;exact d,Y3 d h.2 q⟩,fun c _ _ e=>?_⟩,m,fun c _ _=>?_,fun c i o g h b f=>?_,fun i g b=>?_,fun c i o g h d b f=>?_⟩,_,zZ [2,2,2,2,2] [63,31,15,7,3] (fun c _ d=>?_) (fun k j=>?_) rfl (by decide)⟩;.have:=(HQ n sets c).1;have e:wy n _ c=[]:=e;simp_all
 .have:=(HQ n sets c).2;show(wy n _ c).length<=10;lia
 .exact(Iu b).trans (sd b rfl f (Y0 l h.1 (by lia) h.2))
 .exact(Iu b).trans (zY b rfl YU)
 .exact(Iu b).trans (sd b rfl f (YX l d (by lia)))
 .have:=(HQ n sets c).2;have d:c.length<sets.length:=d;exact ly (P:=fun k=>(wy n _ c).length<=[2,2,2,2,2].getD k 0) this this this this this (by lia)
 .have j:k<sets.length:=j;exact ly (P:=fun k=>1+[2,2,2,2,2].getD k 0*[63,31,15,7,3].getD (k+1) 1<=[63,31,15,7,3].getD k 1) (by decide) (by decide) (by decide) (by decide) (by decide) (by lia)
def DS(r:Int)(ts:List Fr):Qs:=⟨ts.length,fun c=>HV ts (fw c 1),fun c=>if yw ts (fw c 0)+(th ts c.length).2<=r then[0,1] else[1]⟩
theorem zyC(m:ts.length<=5):pZ (uA r ts) (DS r ts) (fun c=>c.length<=ts.length):=by
 have g:∀c,0<((DS r ts).wy c).length/\((DS r ts).wy c).length<=2:=fun c=>by show 0<(if yw _ _+(th _ c.length).2<=r then[0,1] else[1]).length/\(if yw _ _+(th _ _).2<=r then[0,1] else[1]:List _).length<=2;split<;>decide
 refine⟨⟨⟨bU _,fun c h=>h,fun c h d w o=>by have d:c.length<ts.length:=d;grind,fun c _ _ e=>?_⟩,m,fun c _ _=>?_,fun c i n l h b f=>?_,fun i l b=>?_,fun c i n l h d b f=>?_⟩,_,zZ [2,2,2,2,2] [63,31,15,7,3] (fun c _ d=>?_) (fun k j=>?_) (rfl) (by decide)⟩;.grind
 .grind
 .exact(yK b).trans (sd b rfl f (Y9 h (by lia)))
 .exact(yK b).trans (zY b rfl Y8)
 .exact(yK b).trans (sd b rfl f (Y_ d (by lia)))
 .have:=(g c).2;have d:c.length<ts.length:=d;exact ly (P:=fun k=>((DS r _).wy c).length<=[2,2,2,2,2].getD k 0) this this this this this (by lia)
 .have j:k<ts.length:=j;exact ly (P:=fun k=>1+[2,2,2,2,2].getD k 0*[63,31,15,7,3].getD (k+1) 1<=[63,31,15,7,3].getD k 1) (by decide) (by decide) (by decide) (by decide) (by decide) (by lia)
def zzc(m:Nat)(ws:List Int):Qs:=⟨ws.length,yx m ws,lq m⟩
theorem zxw{m:Nat}(r:0<m)(p:m<=4)(s:ws.length<=5):pZ (sb m ws) (zzc m ws) (fun c=>c.length<=ws.length/\∀x∈c,0<=x/\x<(m:Int)):=by
  have d:∀c,(lq m c).length<=c.length+1/\(lq m c).length<=m/\0<(lq m c).length:=fun c=>by have:=OR c;unfold lq;rw[hI];grind
  refine⟨⟨⟨⟨bU _,fun _ z=>(nomatch z)⟩,fun c h=>h.1,fun c h b w j=>⟨by have b:c.length<ws.length:=b;grind,fun x o=>?_⟩,fun c _ _ e=>?_⟩,s,fun c _ _=>?_,fun c i t g h a f=>?_,fun i g a=>?_,fun c i t g h b a f=>?_⟩,_,zZ [1,2,3,4,5] [154,153,76,25,6] (fun c _ b=>?_) (fun k l=>?_) (by decide) (by decide)⟩
  . rcases bO.mp o with z|z;.exact h.2 x z
    .rw[bP.mp z];have n:=(d c).2.1;unfold lq at j n;rw[hI] at n;have:=bR.mp j;lia
  .have:=(d c).2.2;have e:lq m c=[]:=e;simp_all
  .have:=(d c).2.1;show(lq m c).length<=10;lia
  .exact(Iq a).trans (sd a (O1 (by decide)) f (Zz r (by lia) h.1 h.2))
  .exact(Iq a).trans (zY a rfl Zu)
  .exact(Iq a).trans (sd a (O1 (by decide)) f (Zv (by lia) (by lia)))
  .have q:=(d c).1;have b:c.length<ws.length:=b;exact bK q (ly (P:=fun k=>k+1<=[1,2,3,4,5].getD k 0) (by decide) (by decide) (by decide) (by decide) (by decide) (by lia))
  .have l:k<ws.length:=l;exact ly (P:=fun k=>1+[1,2,3,4,5].getD k 0*[154,153,76,25,6].getD (k+1) 1<=[154,153,76,25,6].getD k 1) (by decide) (by decide) (by decide) (by decide) (by decide) (by lia)
def Iv(r:Int)(ws:List Int):Qs:=⟨ws.length,vP r ws,nY r ws⟩
theorem zz8(v:0<r)(f:r<=1000000000000000000)(u:ws.length<=5):pZ (lr r ws) (Iv r ws) (fun c=>c.length<=ws.length/\Cn c):=by
  have n:∀c,(nY r ws c).length<=c.length+1:=fun c=>by have j:=Ia c;have o:=qh (fun k=>decide (cZ ((dy ws).zip c) k+gA (dy ws) c.length<=r)) (bF (nB c));rw[hI] at o;unfold nY;simp[h7,gm,List.length_nil];lia
  refine⟨⟨⟨⟨bU _,fun p c q e=>by simp at e⟩,fun c h=>h.1,fun c h b w s=>⟨by have b:c.length<ws.length:=b;grind,?_⟩,fun c _ _ e=>?_⟩,u,fun c h _=>?_,fun c i t m h a d=>?_,fun i m a=>?_,fun c i t m h b a d=>?_⟩,_,zZ [1,2,3,4,5] [154,153,76,25,6] (fun c _ b=>?_) (fun k l=>?_) rfl (by decide)⟩
  . rcases bO.mp s with z|z;.have:=bR.mp (gy.mp z).1;exact OZ h.2 this.1 (by lia)
    .rw[bP.mp z];exact OZ h.2 (by lia) (lB _)
  .have e:nY r _ c=[]:=e;unfold nY at e;simp at e
  .have:=n c;show(nY r _ c).length<=10;lia
  .exact(Ir a).trans (sd a rfl d (ZM v f (by lia) h.1 h.2))
  .exact(Ir a).trans (zY a rfl ZI)
  .exact(Ir a).trans (sd a rfl d (ZK (by lia) b h.2))
  .have j:=n c;have b:c.length<ws.length:=b;exact bK j (ly (P:=fun k=>k+1<=[1,2,3,4,5].getD k 0) (by decide) (by decide) (by decide) (by decide) (by decide) (by lia))
  .have l:k<ws.length:=l;exact ly (P:=fun k=>1+[1,2,3,4,5].getD k 0*[154,153,76,25,6].getD (k+1) 1<=[154,153,76,25,6].getD k 1) (by decide) (by decide) (by decide) (by decide) (by decide) (by lia)
theorem zuy(h0:0<n):vL [tK (bE (bD n d))]=.ok (.int ((n-1:Nat):Int)):=by have a:aI [bE (bD n d)]=some _:=zU;have b:=O9 (bE (bD n d));refine gw ?_;show aH _ [.v _]=_;rw[show((n-1:Nat):Int)=n-1 by lia];simp[aH,aN,ai,af,aj,mC,b,a]
def zzy(n:Nat)(d:Int->Int->Int):Qs:=⟨n-1,fun c=>B3 d (0::c),rW n⟩
theorem zx2(s:ja n B d)(h0:0<n)(E:n<=5):pZ (tK (bE (bD n d))) (zzy n d) (fun c=>c.length<=n-1/\c.Nodup/\∀v∈c,1<=v/\v<(n:Int)):=by
  have o:∀c,(rW n c).length<=4:=fun c=>by have:=qh (fun p=>decide (p∉c)) (Rg 1 (n-1));rw[yA] at this;unfold rW;lia
  refine⟨⟨⟨⟨bU _,by simp,fun _ z=>(nomatch z)⟩,fun c h=>h.1,fun c h f w j=>?_,fun c h f=>?_⟩,show n-1<=5 by lia,fun c _ _=>?_,fun c i A m h b g=>?_,fun i m b=>?_,fun c i A m h f b g=>?_⟩,_,zZ [4,4,4,4,4] [1365,341,85,21,5] (fun c _ f=>?_) (fun k l=>?_) rfl (by decide)⟩
  . have f:c.length<n-1:=f;unfold rW at j;obtain⟨u,G⟩:=gy.mp j;have r:=pV.mp u;have C:w∉c:=by simp_all
    refine⟨by grind,?_,fun v hv=>?_⟩;.rw[fQ];exact⟨h.2.1,by simp,fun x q y t=>by rw[bP.mp t];exact fun e=>C (e▸q)⟩
    . rcases bO.mp hv with z|z;.simp_all
      .rw[bP.mp z];lia
  .have f:c.length<n-1:=f;exact zAh h.2.1 h.2.2 (by lia)
  .have:=o c;show(rW n c).length<=10;lia
  .exact(yJ b).trans (sd b (yy _ (by decide)) g (Z5 s h0 (by lia) fun v hv=>by have:=h.2.2 v hv;lia))
  .exact(yJ b).trans (zY b (yy _ (by decide)) (zuy h0))
  .exact(yJ b).trans (sd b (yy _ (by decide)) g (Z1 (by lia) (by lia)))
  .have:=o c;exact ly (P:=fun k=>(rW n c).length<=[4,4,4,4,4].getD k 0) this this this this this (by lia)
  .have l:k<n-1:=l;exact ly (P:=fun k=>1+[4,4,4,4,4].getD k 0*[1365,341,85,21,5].getD (k+1) 1<=[1365,341,85,21,5].getD k 1) (by decide) (by decide) (by decide) (by decide) (by decide) (by lia)
theorem zvH:vK [tL T m]=.ok (.int m):=rfl
def Iw(n m:Nat)(d:Int->Int->Int):Qs:=⟨m,fun c=>vQ n d (sm n (bl c).toNat (m-c.length) c),fun c=>pW n (bl c).toNat (m-c.length)⟩
structure vV(n m:Nat)(c:List Int):Prop where
 le:c.length<=m
 b1:(c.length:Int)<=bl c
 b2:bl c+((m-c.length:Nat):Int)<=n
 mem:∀v∈c,0<=v/\v<(n:Int)
theorem zwV(U:1<=m)(m1:m<=n)(Q:n<=5):pZ (tL (bE (bD n d)) m) (Iw n m d) (vV n m):=by
  have u:∀c,vV n m c->c.length<m->0<(pW n (bl c).toNat (m-c.length)).length/\(pW n (bl c).toNat (m-c.length)).length<=n-m+1:=fun c h a=>by have:=h.b1;have:=h.b2;unfold pW;rw[yA];omega
  have y:mT (tL (bE (bD n d)) m) (Iw n m d) (vV n m):=by
    refine⟨⟨⟨bU _,by show(0:Int)<=0;decide,by show(0:Int)+((m-0:Nat):Int)<=n;omega,fun _ z=>(nomatch z)⟩,fun c h=>h.le,fun c h a w q=>?_,fun c h a e=>?_⟩,show m<=5 by omega,fun c h a=>?_,fun c i I G h l A=>?_,fun i G l=>?_,fun c i I G h a l A=>?_⟩
    . have a:c.length<m:=a;have q:w∈pW n (bl c).toNat (m-c.length):=q;unfold pW at q;have r:=pV.mp q;have:=h.b1;have:=h.b2;refine⟨by simp;omega,?_,?_,fun v hv=>?_⟩;.rw[Ib];simp;omega
      .rw[Ib];simp;omega
      . rcases bO.mp hv with z|z;.exact h.mem v z
        .rw[bP.mp z];omega
    .have:=(u c h a).1;have e:pW n (bl c).toNat (m-c.length)=[]:=e;rw[e] at this;exact absurd this (by decide)
    .have:=(u c h a).2;show(pW n (bl c).toNat (m-c.length)).length<=10;omega
    . have E:=h.b1;have C:=h.b2;have N:=h.le;refine(yI l).trans (sd l (yz _ _ (by decide)) A (Z' (b:=(bl c).toNat) (t:=m-c.length) (by omega) (by omega) (by lia) (by omega) (by lia) (by omega) (fun z=>?_) fun v hv=>?_));.unfold sm at z;obtain⟨K,s⟩:=List.append_eq_nil_iff.mp z;rw[K] at s E C;simp only[List.length_nil] at s C;rw[ao (by omega)] at s;have:=dh List.length s;rw[yA] at this;have H:bl []=0:=rfl;simp[H] at this;omega
      . unfold sm at hv;rcases bO.mp hv with z|z;.exact h.mem v z
        . split at z;.cases z
          .have:=pV.mp z;omega
    .exact(yI l).trans (zY l (yz _ _ (by decide)) zvH)
    .have E:=h.b1;have C:=h.b2;have a:c.length<m:=a;exact(yI l).trans (sd l (yz _ _ (by decide)) A (Z6 (b:=(bl c).toNat) (t:=m-c.length) (by omega) (by omega) (by omega) (by omega) (by omega)))
  refine⟨y,?_⟩;have g:∀(B T:List Nat),(∀k,k<m->n-m+1<=B.getD k 0)->(∀k,k<m->1+B.getD k 0*T.getD (k+1) 1<=T.getD k 1)->T.all (fun x=>decide (1<=x))=true->T.getD 0 1<=2000->∃S,vR (Iw n m d) (vV n m) S:=fun B T l L J M=>⟨_,zZ B T (fun c h a=>bK (u c h a).2 (l _ a)) L J M⟩;have o:∀{P:Nat->Prop}(j:Nat),(∀k,k<j->P k)->m=j->∀k,k<m->P k:=fun j h e k p=>h k (by omega);rcases(show m=1\/m=2\/m=3\/m=4\/m=5 by omega) with e|e|e|e|e;.exact g [5] [6] (fun k p=>by rcases(show k=0 by omega) with rfl;show n-m+1<=5;omega) (o 1 (by decide) e) (by decide) (by decide)
  .exact g [4,4] [21,5] (fun k p=>by rcases(show k=0\/k=1 by omega) with z|z<;>subst z<;>(show n-m+1<=4;omega)) (o 2 (by decide) e) (by decide) (by decide)
  .exact g [3,3,3] [40,13,4] (fun k p=>by rcases(show k=0\/k=1\/k=2 by omega) with z|z|z<;>subst z<;>(show n-m+1<=3;lia)) (o 3 (by decide) e) (by decide) (by decide)
  .exact g [2,2,2,2] [31,15,7,3] (fun k p=>by rcases(show k=0\/k=1\/k=2\/k=3 by lia) with z|z|z|z<;>subst z<;>(show n-m+1<=2;lia)) (o 4 (by decide) e) (by decide) (by decide)
  .exact g [1,1,1,1,1] [6,5,4,3,2] (fun k p=>by rcases(show k=0\/k=1\/k=2\/k=3\/k=4 by lia) with z|z|z|z|z<;>subst z<;>(show n-m+1<=1;lia)) (o 5 (by decide) e) (by decide) (by decide)
theorem zxP(cs:List Int)(h0:0<=k):∃c:Int,oy [iL cs,.int k]=.ok (.int c):=by
  by_cases h:k<cs.length;.refine⟨gA cs k,gw ?_⟩;show aw _ _ [.v _,.v _]=_;refine lQ ?_;rw[hZ (by simp[aS,aj,aN,ai,af,h])];have:=DI (L:=cs) h0 (by lia);simp[aH,aj,this]
  . refine⟨0,gw ?_⟩;have q:bf (aS (m2 oLt (aj 1) (aN aI (ai (aj 0) af)))) (aH (m2 aJ (aj 0) (aj 1))) cB [.v (iL cs),.v (.int k)]=.nx [.v (iL cs),.v (.int k)]:=by rw[fG (by simp[aS,aj,aN,ai,af,h])];rfl
    exact(br q).trans rfl
theorem zAd(h0:0<=i)(h1:i<4):∃x,(x=a\/x=b\/x=c\/x=e)/\aJ (.lst [.int a,.int b,.int c,.int e]) (.int i)=some (.int x):=by
 rcases(show i=0\/i=1\/i=2\/i=3 by lia) with h|h|h|h<;>subst h;.exact⟨a,.inl rfl,rfl⟩
 .exact⟨b,.inr (.inl rfl),rfl⟩
 .exact⟨c,.inr (.inr (.inl rfl)),rfl⟩
 .exact⟨e,.inr (.inr (.inr rfl)),rfl⟩
structure vW(p:Fr):Prop where l1:0<=p.1h1:p.1<=100000000000000000l2:0<=p.2h2:p.2<=100000000000000000
theorem p8:iF (.int 10) (.int 8)=some (.int 100000000):=C0 ⟨by decide,by decide,by decide⟩
theorem p17:iF (.int 10) (.int 17)=some (.int 100000000000000000):=C0 ⟨by decide,by decide,by decide⟩
theorem zu6{α:Type}(ts:List Fr)(f:Fr->α):ts.map f=(bF ts.length).map fun k=>f (th ts k):=by
 apply kd;intro i;by_cases a:i<ts.length;.rw[cj,cj,zT a];have:=HS (ts:=ts) (k:=i) (by lia);simp_all
 .rw[jD.mpr (by simp_all),jD.mpr (by rw[aW,hI];lia)]
def nZ(sp:List Fr)(l a b:Int):Int:=if a=b then 0 else l+((th sp (if b<a then b else a)).2+7*(th sp (if b>a then b else a)).1+(if b<a then b else a)*(if b>a then b else a))%(l+1)
def rM(sp:List Fr)(a b:Int):Int:=(if(th sp a).1-(th sp b).1<0 then-((th sp a).1-(th sp b).1) else(th sp a).1-(th sp b).1)+(if(th sp a).2-(th sp b).2<0 then-((th sp a).2-(th sp b).2) else(th sp a).2-(th sp b).2)
theorem zzW(o:0<l)(r:l<=1000000000000000000):ja n 2000000000000000000 (nZ sp l):=by
  have g:∀a b:Int,a≠b->l<=nZ sp l a b/\nZ sp l a b<=2*l:=fun a b p=>by unfold nZ;obtain⟨X,j⟩:∃X,X=((th sp (if b<a then b else a)).2+7*(th sp (if b>a then b else a)).1+(if b<a then b else a)*(if b>a then b else a)):=⟨_,rfl⟩;rw[<-j];have:=m9 X (show 0<l+1 by lia);have:=oA X (show 0<l+1 by lia);lia
  have d:∀a:Int,nZ sp l a a=0:=fun a=>aq rfl;have f:∀a b:Int,0<=nZ sp l a b/\nZ sp l a b<=2*l:=fun a b=>by
    by_cases e:a=b;.grind
    grind
  refine⟨fun a b _ _ _ _=>by have:=f a b;lia,fun a _ _=>d a,fun a b _ _ _ _=>?_,fun a b c _ _ _ _ _ _=>?_⟩
  . by_cases e:a=b;.rw[e]
    . have h:(if b<a then b else a)=(if a<b then a else b):=by lia
      have i:(if b>a then b else a)=(if a>b then a else b):=by lia
      unfold nZ;rw[ao e,h,i,ao (show¬b=a from fun z=>e z.symm)]
  . by_cases h:a=b;.rw[h,d];lia
    . by_cases i:b=c;.simp_all
      .have m:=g a b h;have q:=g b c i;have k:=f a c;lia
theorem zzJ(h:∀p∈sp,vW p):ja sp.length 2000000000000000000 (rM sp):=by
 have i:∀a:Int,0<=a->a<sp.length->vW _:=fun a d e=>h _ (HU d e);refine⟨fun a b d e g f=>?_,fun a d e=>?_,fun a b d e g f=>?_,fun a b c d e g f k m=>?_⟩;.obtain⟨r,l,q,n⟩:=i a d e;obtain⟨o,t,s,j⟩:=i b g f;unfold rM;omega
 .unfold rM;lia
 .unfold rM;lia
 .unfold rM;omega
theorem zri{sp:List Fr}{l a b:Int}(y:sp.length<=100)(A:0<l)(h:∀p∈sp,vW p)(z:0<=a)(B:a<sp.length)(x:0<=b)(w:b<sp.length):Ha [fm sp,.int a,.int b,.int l]=.ok (.int (nZ sp l a b)):=by
  refine gw ?_;show aw _ _ [.v (fm sp),.v (.int a),.v (.int b),.v (.int l),.no,.no,.no]=_;unfold nZ;by_cases e:a=b;.rw[aq e];refine lQ ?_;rw[hZ (by simp[aS,aj,e])];rfl
  . rw[ao e];have n1:bf (aS (m2 oEq (aj 1) (aj 2))) (aH (mC (.int 0))) cB [.v (fm sp),.v (.int a),.v (.int b),.v (.int l),.no,.no,.no]=.nx [.v (fm sp),.v (.int a),.v (.int b),.v (.int l),.no,.no,.no]:=by rw[fG (by simp[aS,aj,e])];rfl
    refine(br n1).trans ?_;obtain⟨d,g⟩:∃d,d=if b<a then b else a:=⟨_,rfl⟩;obtain⟨c,f⟩:∃c,c=if b>a then b else a:=⟨_,rfl⟩;have mn:uq [.int a,.int b]=some (.int d):=by rw[g];rfl
    have mx:vu [.int a,.int b]=some (.int c):=by rw[f];rfl
    have k:0<=d/\d<sp.length:=by lia
    have i:0<=c/\c<sp.length:=by lia
    rw[<-g,<-f];have n:=zS (ts:=sp) k.1 k.2;have i2:=zS (ts:=sp) i.1 i.2;have m:=h _ (HU i.1 i.2);obtain⟨T,u⟩:∃T,T=fm sp:=⟨_,rfl⟩;rw[<-u] at n i2⊢;have o:aB (aN uq (ai (aj 1) (ai (aj 2) af))) (aV 4) [.v T,.v (.int a),.v (.int b),.v (.int l),.no,.no,.no]=.nx [.v T,.v _,.v _,.v _,.v (.int d),.no,.no]:=dP (by simp[aN,ai,af,aj,mn]) rfl;have q:aB (aN vu (ai (aj 1) (ai (aj 2) af))) (aV 5) [.v T,.v (.int a),.v (.int b),.v (.int l),.v (.int d),.no,.no]=.nx [.v T,.v _,.v _,.v _,.v _,.v (.int c),.no]:=dP (by simp[aN,ai,af,aj,mx]) rfl;have r:eI 7:=c8 10 (by decide);have t:eI (th sp c).1:=c8 (10^18) (by have:=m.l1;have:=m.h1;lia);have fl:eI d:=c8 1000 (by lia);have j:eI c:=c8 1000 (by lia);have s:aB (m2 bL (m2 bL (m2 cC (m2 aJ (aj 0) (aj 4)) (mC (.int 1))) (m2 fE (mC (.int 7)) (m2 cC (m2 aJ (aj 0) (aj 5)) (mC (.int 0))))) (m2 fE (aj 4) (aj 5))) (aV 6) [.v T,.v (.int a),.v (.int b),.v (.int l),.v (.int d),.v (.int c),.no]=.nx [.v T,.v (.int a),.v (.int b),.v (.int l),.v (.int d),.v (.int c),.v (.int ((th sp d).2+7*(th sp c).1+d*c))]:=by refine dP ?_ rfl;simp[aj,mC,n,i2,eB,vj r t,vj fl j]
    refine(br o).trans ((br q).trans ((br s).trans ?_));simp[aH,aj,mC,hV (show 0<l+1 by lia)]
theorem zrK(cs:List Int)(n0:0<n)(n1:n<=8)(w:Int):∃d:Int->Int->Int,ja n 2000000000000000000 d/\BN [iL cs,.int n,.int w]=.ok (bE (bD n d)):=by
  obtain⟨C,S⟩:∃C,C=iL cs:=⟨_,rfl⟩;have H:=mR (show n<=1000 by lia);have f4:eI 4:=c8 10 (by decide);obtain⟨M,h1,f,i,h,g,rfl,t,B⟩:=lO (b:=aV 4) (m:=NK) D.int (fun j M=>∃(f:List Fr) (i h g:Option D),M=[.v C,.v (.int n),.v (.int w),.o (fm f),sv i,sv h,sv g,.no]/\f.length=j.length/\∀p∈f,vW p) (bF n) (by
      rintro j x post M s ⟨f,i,h,g,rfl,t,B⟩;obtain⟨x0,x1⟩:=bR.mp (show x∈bF n by simp_all);have pl:j.length<=8:=by have:=dh List.length s;rw[hI,h7,gm] at this;lia
      obtain⟨c,hc⟩:=zxP cs (k:=x) x0;rw[<-S] at hc;have Z:=Ou c (x+300) (by lia) (by lia);obtain⟨z,ez⟩:∃z,z=num c (x+300):=⟨_,rfl⟩;have z0:=Yu c (x+300);have z1:=Yv c (x+300);rw[<-ez] at Z z0 z1;obtain⟨r,hr,ir⟩:=zAd (a:=3) (b:=50) (c:=100000000) (e:=100000000000000000) (m9 z (show(0:Int)<4 by decide)) (oA z (show(0:Int)<4 by decide));have u:0<r/\r<=100000000000000000:=by lia
      have fz:eI (z/4):=c8 (10^10) (by lia);have fk:eI 48271:=c8 (10^10) (by decide);have J:eI 69621:=c8 (10^10) (by decide);have N:eI 40692:=c8 (10^10) (by decide);obtain⟨y,Y⟩:∃y,y=z/4*69621%2147483629:=⟨_,rfl⟩;have y0:=m9 (z/4*69621) (show(0:Int)<2147483629 by decide);have y1:=oA (z/4*69621) (show(0:Int)<2147483629 by decide);have fy:eI y:=c8 (10^10) (by lia);have E:=m9 (z/4*48271) u.1;have a2:=oA (z/4*48271) u.1;have a3:=m9 (y*40692) u.1;have a4:=oA (y*40692) u.1;have I:aB (bq pQ (ai (bq oy (ai (ag 0) (ai (ag 4) af))) (ai (m2 bL (aj 4) (mC (.int 300))) af))) (aV 5) [.v C,.v (.int n),.v (.int w),.o (fm f),.v (.int x),sv h,sv g,.no]=.nx [.v C,.v (.int n),.v (.int w),.o (fm f),.v (.int x),.v (.int z),sv g,.no]:=dP (d:=.int z) (by simp[bq,ai,af,ag,aj,mC,hc,Z]) (kW rfl);have q2:aB (m2 aJ (bT (ai (mC (.int 3)) (ai (mC (.int 50)) (ai (m2 iF (mC (.int 10)) (mC (.int 8))) (ai (m2 iF (mC (.int 10)) (mC (.int 17))) af))))) (m2 oMod (aj 5) (mC (.int 4)))) (aV 6) [.v C,.v (.int n),.v (.int w),.o (fm f),.v (.int x),.v (.int z),sv g,.no]=.nx [.v C,.v (.int n),.v (.int w),.o (fm f),.v (.int x),.v (.int z),.v (.int r),.no]:=dP (d:=.int r) (by simp[bT,ai,af,aj,mC,p8,p17,sizeLine,hV,ir]) (kW rfl);have q3:rX 3 (bY (ai (m2 oMod (m2 fE (m2 oDiv (aj 5) (mC (.int 4))) (mC (.int 48271))) (aj 6)) (ai (m2 oMod (m2 fE (m2 oMod (m2 fE (m2 oDiv (aj 5) (mC (.int 4))) (mC (.int 69621))) (mC (.int 2147483629))) (mC (.int 40692))) (aj 6)) af))) [.v C,.v (.int n),.v (.int w),.o (fm f),.v (.int x),.v (.int z),.v (.int r),.no]=.nx [.v C,.v (.int n),.v (.int w),.o (fm (f++[(z/4*48271%r,y*40692%r)])),.v (.int x),.v (.int z),.v (.int r),.no]:=by
        refine(HB (l:=f.map eB) (d:=eB (z/4*48271%r,y*40692%r)) rfl ?_ (by grind)).trans ?_;.rw[Y] at fy;simp[bY,ai,af,aj,mC,nR,f4,vj fz fk,vj fz J,hV,vj fy N,hV u.1,eB,sizeLine,Y]
        .simp[fm]
      refine⟨[.v C,.v (.int n),.v (.int w),.o (fm f),.v (.int x),sv h,sv g,.no],_,kW rfl,.inl ((br I).trans ((br q2).trans q3)),_,some (.int x),some (.int z),some (.int r),rfl,by simp[t],fun p hp=>?_⟩;rcases bO.mp hp with m|m;.simp_all
      .rw[bP.mp m];exact⟨E,by lia,a3,by lia⟩) [.v C,.v (.int n),.v (.int w),.o (fm []),.no,.no,.no,.no] ⟨[],none,none,none,rfl,rfl,fun _ z=>by cases z⟩;rw[hI] at t;have st:aB (bT af) (dq 3) [.v C,.v (.int n),.v (.int w),.no,.no,.no,.no,.no]=.nx [.v C,.v (.int n),.v (.int w),.o (fm []),.no,.no,.no,.no]:=dP (d:=fm []) (by simp[bT,af,fm,sizeLine]) rfl;have lp:NL [.v C,.v (.int n),.v (.int w),.o (fm []),.no,.no,.no,.no]=_:=(lN (l:=(bF n).map .int) (by simp[b9,ai,af,ag,H])).trans h1;rw[<-S];have run:∀X,_->BN [C,.int n,.int w]=.ok X:=fun X hX=>nU ((br st).trans ((br lp).trans hX));obtain⟨TS,q⟩:∃TS,TS=fm f:=⟨_,rfl⟩;by_cases c:w%3=0
  . obtain⟨l,el⟩:∃l,l=1+(th f 0).1:=⟨_,rfl⟩;have s0:=B _ (HU (ts:=f) (k:=0) (by decide) (by lia));have i0:=zS (ts:=f) (k:=0) (by decide) (by lia);rw[<-q] at i0;have U:0<l:=by have:=s0.l1;lia
    have l1:l<=1000000000000000000:=by have:=s0.h1;lia
    refine⟨nZ f l,zzW U l1,run _ ?_⟩;refine ZE ?_;rw[hZ (by simp[aS,aj,mC,hV,c]),<-q];have I:aB (m2 bL (mC (.int 1)) (m2 cC (m2 aJ (aj 3) (mC (.int 0))) (mC (.int 0)))) (aV 7) [.v C,.v (.int n),.v (.int w),.o TS,sv i,sv h,sv g,.no]=.nx [.v C,.v (.int n),.v (.int w),.o TS,sv i,sv h,sv g,.v (.int l)]:=dP (d:=.int l) (by simp[aj,mC,i0,eB,el]) rfl;refine(br I).trans ?_;have k1:∀a:Int,0<=a->a<n->NM [.l TS,.v (.int l),.v (.int n),.v (.int a)]=.ok (iL ((bF n).map (nZ f l a))):=fun a Q E=>by refine dZ (jP (l:=(bF n).map .int) (r:=(bF n).map fun b=>.int (nZ f l a b)) (by simp[b9,ai,af,ag,H]) (by rw[aW,hI];lia) ?_) (by simp[iL]);refine mO .int (fun b=>.int (nZ f l a b)) _ fun b hb=>?_;obtain⟨b0,b1⟩:=bR.mp hb;have bt:=zri (sp:=f) (l:=l) (by lia) U B Q (show a<f.length by lia) b0 (show b<f.length by lia);rw[<-q] at bt;have e:c9 [.l TS,.v (.int l),.v (.int n),.v (.int a)] [0,3,1] 1=[.l TS,.v (.int a),.v (.int l),.no]:=rfl;rw[e];simp[iN,cX,zg,ai,af,ag,aj,bt,mL]
    have k2:Hb [.v C,.v (.int n),.v (.int w),.o TS,sv i,sv h,sv g,.v (.int l)]=.ok (bE (bD n (nZ f l))):=by refine dZ (jP (l:=(bF n).map .int) (r:=(bF n).map fun a=>iL ((bF n).map (nZ f l a))) (by simp[b9,ai,af,ag,H]) (by rw[aW,hI];lia) ?_) (by simp[bE,bD]);refine mO .int (fun a=>iL ((bF n).map (nZ f l a))) _ fun a ha=>?_;obtain⟨Q,E⟩:=bR.mp ha;have e:c9 [.v C,.v (.int n),.v (.int w),.o TS,sv i,sv h,sv g,.v (.int l)] [3,7,1] 1=[.l TS,.v (.int l),.v (.int n),.no]:=rfl;rw[e];simp[iN,cX,k1 a Q E]
    simp[fi,k2]
  . have G:bf (aS (m2 oEq (m2 oMod (aj 2) (mC (.int 3))) (mC (.int 0)))) (aw (aB (m2 bL (mC (.int 1)) (m2 cC (m2 aJ (aj 3) (mC (.int 0))) (mC (.int 0)))) (aV 7)) (fi Hb)) cB [.v C,.v (.int n),.v (.int w),.o (fm f),sv i,sv h,sv g,.no]=.nx [.v C,.v (.int n),.v (.int w),.o (fm f),sv i,sv h,sv g,.no]:=by rw[fG (by simp[aS,aj,mC,hV,c])];rfl
    have A:=zzJ B;rw[t] at A;refine⟨rM f,A,run _ ((br G).trans ?_)⟩;have K:∀x:Int,nP [.int x]=some (.int (if x<0 then-x else x)):=fun _=>rfl;have L:=zu6 f eB;rw[t] at L;have k3:∀a:Int,NN [.l (fm f),.v (eB (th f a))]=.ok (iL ((bF n).map (rM f a))):=fun a=>by refine dZ (jP (l:=(bF n).map fun k=>eB (th f k)) (r:=(bF n).map fun b=>.int (rM f a b)) (by rw[<-L];simp[cA,aj,fm]) (by rw[aW,hI];lia) ?_) (by simp[iL]);refine mO (fun k=>eB (th f k)) (fun b=>.int (rM f a b)) _ fun b hb=>?_;have e:c9 [.l (fm f),.v (eB (th f a))] [1] 1=[.v (eB (th f a)),.no]:=rfl;rw[e];simp[iN,cX,aN,ai,af,aj,mC,eB,K,rM]
    have k4:NO [.v C,.v (.int n),.v (.int w),.o (fm f),sv i,sv h,sv g,.no]=.ok (bE (bD n (rM f))):=by refine dZ (jP (l:=(bF n).map fun k=>eB (th f k)) (r:=(bF n).map fun a=>iL ((bF n).map (rM f a))) (by rw[<-L];simp[cA,aj,fm]) (by rw[aW,hI];lia) ?_) (by simp[bE,bD]);refine mO (fun k=>eB (th f k)) (fun a=>iL ((bF n).map (rM f a))) _ fun a ha=>?_;have e:c9 [.v C,.v (.int n),.v (.int w),.o (fm f),sv i,sv h,sv g,.no] [3] 1=[.l (fm f),.no]:=rfl;rw[e];have b1:cX 1 (eB (th f a)) [.l (fm f),.no]=some [.l (fm f),.v (eB (th f a))]:=rfl;simp[iN,b1,k3 a]
    show fi _ _=_;simp[fi,k4]
def se(c k:Int):Int:=if h:0<=k/\k<=1000 then(Ov c h.1 h.2).choose else 0
theorem DT(c:Int)(h0:0<=k)(h1:k<=1000):tJ [.int c,.int k]=.ok (.int (se c k))/\0<=se c k/\se c k<=1000000000000000000:=by unfold se;rw[dif_pos ⟨h0,h1⟩];grind
theorem PR(h:m δ=.ok (iL ps)):qZ (ai m af) δ=.ok (ps.zipIdx.map mS):=by
 have a:qC (ps.map D.int)=ps.zipIdx.map mS:=by rw[C2,List.zipIdx_map,cK];rfl
 simp[qZ,ai,h];show R.of (some _)=_;simp_all
theorem PU{cs:List Int}(a:p∈cs.zipIdx):p.2<cs.length:=(b'.mp (List.mk_mem_zipIdx_iff_getElem?.mp (a))).1
def uC(cs:List Int):List Int:=cs.zipIdx.map fun p=>1+se p.1 p.2%1000000000000000000
theorem zxj(cs:List Int):(uC cs).length=cs.length:=by simp[uC]
theorem zyM(c:cs.length<=5):∀s∈uC cs,1<=s/\s<=1000000000000000000:=fun s a=>by obtain⟨p,b,rfl⟩:=fP.mp a;lia
theorem zvL(d:cs.length<=5):Du [iL cs]=.ok (iL (uC cs)):=by
 refine nU ?_;have k:Nk [.v (iL cs)]=.ok (iL (uC cs)):=by refine dZ (jP (r:=cs.zipIdx.map fun p=>.int (1+se p.1 p.2%1000000000000000000)) (PR rfl) (by simp;lia) (mO _ _ _ fun p b=>?_)) (by simp[iL,uC]);have i:=PU b;have a:=(DT p.1 (k:=p.2) (by lia) (by lia)).1;have e:c9 [.v (iL cs)] [] 2=[.no,.no]:=rfl;rw[e];have c:dM 2 (eS (cX 0) (eS (cX 1) ef)) (mS p) [.no,.no]=some _:=rfl;simp[iN,c,mC,bq,ai,af,ag,a,Hz,hV]
 exact tN k
theorem PV:∀(l:List Int)(a:Int),a<=dO l a/\(∀x∈l,x<=dO l a)/\(dO l a=a\/dO l a∈l)
  |[],a=>⟨lB _,fun _ z=>(nomatch z),.inl rfl⟩ |x::l,a=>by
    have f:=PV l (if x>a then x else a);have e:dO (x::l) a=dO l _:=rfl;rw[e];obtain⟨g,i2,d⟩:=f;refine⟨?_,fun y c=>?_,?_⟩;.lia
    . rcases aY.mp c with z|z;.lia
      simp_all
    . rcases d with z|z
      . rw[z];split;.simp
        lia
      .exact .inr (bJ _ z)
theorem zAg(h:∀s∈c,1<=s/\s<=1000000000000000000):∃r:Int,vi [iL c] (.int 1)=some (.int r)/\1<=r/\r<=1000000000000000000/\∀s∈c,s<=r:=by cases c with |nil=>exact⟨1,rfl,by decide,by decide,fun _ z=>(nomatch z)⟩ |cons a l=>
    obtain⟨d,b,f⟩:=PV l a;have e:vi [iL (a::l)] (.int 1)=some (.int (dO l a)):=by show(dG (l.map _)).map _=_;rw[rZ];rfl
    refine⟨_,e,by grind,?_,fun s i=>?_⟩
    . rcases f with z|z;.simp_all
      .exact(h _ (bJ _ z)).2
    . rcases aY.mp i with z|z;.rw[z];exact d
      .exact b s z
def yL(cs:List Int):List Fr:=cs.zipIdx.map fun p=>(se p.1 ((p.2:Int)+40),gA (uC cs) p.2)
theorem zow(cs:List Int)(k0:0<=f)(k1:f<6)(c0:0<=b):∃q Q Ok,pZ q Q Ok/\BO [.int f,iL cs,.int b]=.ok q:=by
  have f5:eI 5:=c8 1000 (by decide);have f15:eI 15:=c8 1000 (by decide);have f1:=m9 b (show(0:Int)<5 by decide);have f2:=oA b (show(0:Int)<5 by decide);obtain⟨n,en⟩:∃n:Nat,(n:Int)=1+b%5:=⟨(1+b%5).toNat,by omega⟩;obtain⟨x,e5⟩:∃x,x=cs.take 5:=⟨_,rfl⟩;have l5:x.length<=5:=by rw[e5];grind
  have U:∀{δ:En},δ[1]?=some (.v (iL cs))->gq (aj 1) bZ (dF (mC (.int 5))) δ=.ok (iL x):=fun{δ} h=>by
    have r:aj 1 δ=.ok (iL cs):=by unfold aj;rw[h]
    have c:=B5 (l:=cs.map D.int) (n:=5);simp only[gq,r,R.ak,bZ,dF,mC,vm,R.au,iL,uj];rw[show(5:Int)=((5:Nat):Int) from rfl,c,e5,qr]
  have sz:=zvL l5;have K:=zyM l5;have I:=zxj x;obtain⟨Z,eZ⟩:∃Z,Z=uC x:=⟨_,rfl⟩;rw[<-eZ] at sz K I;have go:∀(d:D),(∀δ:En,δ=[.v (.int f),.v (iL cs),.v (.int b),.v (.int n),.v (iL Z),.no,.no,.no]->aw (bf (aS (m2 oEq (aj 0) (mC (.int 0)))) _ cB) _ δ=.rt d)->BO [.int f,iL cs,.int b]=.ok d:=fun d h=>by refine gw ?_;show aw _ _ [.v (.int f),.v (iL cs),.v (.int b),.no,.no,.no,.no,.no]=_;have q1:aB (m2 bL (mC (.int 1)) (m2 oMod (aj 2) (mC (.int 5)))) (aV 3) [.v (.int f),.v (iL cs),.v (.int b),.no,.no,.no,.no,.no]=.nx [.v (.int f),.v (iL cs),.v (.int b),.v (.int n),.no,.no,.no,.no]:=dP (d:=.int n) (by simp[mC,aj,hV,en]) rfl;have q2:aB (bq Du (ai (gq (aj 1) bZ (dF (mC (.int 5)))) af)) (aV 4) [.v (.int f),.v (iL cs),.v (.int b),.v (.int n),.no,.no,.no,.no]=.nx [.v (.int f),.v (iL cs),.v (.int b),.v (.int n),.v (iL Z),.no,.no,.no]:=dP (d:=iL Z) (by simp only[bq,ai,af,U (δ:=[.v (.int f),.v (iL cs),.v (.int b),.v (.int n),.no,.no,.no,.no]) rfl,R.ak,sz,R.ba]) rfl;exact(br q1).trans ((br q2).trans (h _ rfl))
  obtain⟨t,s⟩:∃t,t=iL cs:=⟨_,rfl⟩;obtain⟨o,g⟩:∃o,o=iL Z:=⟨_,rfl⟩;have M:∀(j:Int)(s3 s4 s5 s6 E:Sl),aS (m2 oEq (aj 0) (mC (.int j))) [.v (.int f),.v t,.v (.int b),s3,s4,s5,s6,E]=.ok (decide (f=j)):=fun j _ _ _ _ _=>by simp[aS,aj,mC]
  have y:∀(j:Int){X:En->O}(E:Sl),f≠j->bf (aS (m2 oEq (aj 0) (mC (.int j)))) X cB [.v (.int f),.v t,.v (.int b),.v (.int n),.v o,.no,.no,E]=.nx [.v (.int f),.v t,.v (.int b),.v (.int n),.v o,.no,.no,E]:=fun j X E ne=>(fG ((M j _ _ _ _ _).trans (by simp_all))).trans rfl;have C:∀(j:Int){X:En->O}{N:En->O}(E:Sl){d:D},f=j->X [.v (.int f),.v t,.v (.int b),.v (.int n),.v o,.no,.no,E]=.rt d->aw (bf (aS (m2 oEq (aj 0) (mC (.int j)))) X cB) N [.v (.int f),.v t,.v (.int b),.v (.int n),.v o,.no,.no,E]=.rt d:=fun j X N E d e h=>lQ ((hZ ((M j _ _ _ _ _).trans (by simp_all))).trans h);have ret:∀{m:En->R D}{δ:En}{d:D},m δ=.ok d->aH m δ=.rt d:=fun{m δ d} h=>by simp only[aH,h];rfl
  rw[<-s] at U;rw[<-g] at sz;by_cases H:f=0;.obtain⟨sets,es,sk,sl5,cv⟩:=Yz (n:=n) (cs:=x) (by lia) l5;have z:=YR sk cv;refine⟨_,_,_,zxX sk sl5 cv,go _ fun δ e=>?_⟩;subst e;rw[<-s,<-g];refine C 0 .no H (ret ?_);simp only[bq,ai,af,U (δ:=[.v (.int f),.v t,.v (.int b),.v (.int n),.v o,.no,.no,.no]) (by simp),show ag 3 [.v (.int f),.v t,.v (.int b),.v (.int n),.v o,.no,.no,.no]=.ok (.int n) from rfl,R.ak,es,R.ba,z]
  by_cases J:f=1
  . have g1:=m9 (b/5) (show(0:Int)<4 by decide);have g2:=oA (b/5) (show(0:Int)<4 by decide);obtain⟨m,em⟩:∃m:Nat,(m:Int)=1+b/5%4:=⟨(1+b/5%4).toNat,by lia⟩;have z:=Zr (m:=m) (ws:=Z) (by omega) (by omega) (by omega);rw[<-g] at z;refine⟨_,_,_,zxw (m:=m) (ws:=Z) (by omega) (by omega) (by omega),go _ fun δ e=>?_⟩;subst e;rw[<-s,<-g];refine(br (y 0 .no H)).trans (C 1 .no J (ret ?_));have ar:m2 bL (mC (.int 1)) (m2 oMod (m2 oDiv (aj 2) (mC (.int 5))) (mC (.int 4))) [.v (.int f),.v t,.v (.int b),.v (.int n),.v o,.no,.no,.no]=.ok (.int m):=by simp[mC,aj,nR,f5,hV,em]
    simp only[bq,ai,af,ar,show ag 4 [.v (.int f),.v t,.v (.int b),.v (.int n),.v o,.no,.no,.no]=.ok o from rfl,R.ak,z,R.ba]
  by_cases S:f=2
  . obtain⟨B,er,r1,r2,r3⟩:=zAg K;rw[<-g] at er;obtain⟨T,a0,a1⟩:=DT b (k:=9) (by decide) (by decide);obtain⟨A,eA⟩:∃A,A=se b 9:=⟨_,rfl⟩;rw[<-eA] at T a0 a1;have g1:=m9 A (show(0:Int)<B+1 by omega);obtain⟨r,hr⟩:∃r,r=if B+A%(B+1)<1000000000000000000 then B+A%(B+1) else 1000000000000000000:=⟨_,rfl⟩;have mn:uq [.int 1000000000000000000,.int (B+A%(B+1))]=some (.int r):=by rw[hr];rfl
    have rr:B<=r/\r<=1000000000000000000:=by rw[hr];split<;>omega
    have z:=ZG (r:=r) (ws:=Z) (by omega) (fun w hw=>by have:=r3 w hw;omega);rw[<-g] at z;refine⟨_,_,_,zz8 (r:=r) (ws:=Z) (by omega) rr.2 (by omega),go _ fun δ e=>?_⟩;subst e;rw[<-s,<-g];refine(br (y 0 .no H)).trans ((br (y 1 .no J)).trans (C 2 .no S ?_));have Y:aB (xV (ai (aj 4) af) (mC (.int 1))) (aV 5) [.v (.int f),.v t,.v (.int b),.v (.int n),.v o,.no,.no,.no]=.nx [.v (.int f),.v t,.v (.int b),.v (.int n),.v o,.v (.int B),.no,.no]:=dP (d:=.int B) (by simp[xV,ai,af,aj,mC,er]) rfl;refine(br Y).trans (ret ?_);have md:oMod (.int A) (.int (B+1))=some (.int (A%(B+1))):=hV (by omega);simp only[bq,aN,ai,af,d_,ag,aj,mC,List.getElem?_cons_succ,List.getElem?_cons_zero,R.ak,Hz,R.au,T,R.ba,xW,md,mn,z]
  by_cases z3:f=3
  . obtain⟨T,_,_⟩:=DT b (k:=3) (by decide) (by decide);have z:=Y6 (r:=se b 3) (ts:=yL x);have tl:(yL x).length=x.length:=by simp[yL]
    refine⟨_,_,_,zyC (r:=se b 3) (ts:=yL x) (by omega),go _ fun δ e=>?_⟩;subst e;rw[<-s,<-g];refine(br (y 0 .no H)).trans ((br (y 1 .no J)).trans ((br (y 2 .no S)).trans (C 3 .no z3 ?_)));have kk:Hj [.v (.int f),.v t,.v (.int b),.v (.int n),.v o,.no,.no,.no]=.ok (fm (yL x)):=by refine dZ (jP (l:=x.zipIdx.map mS) (r:=x.zipIdx.map fun p=>eB (se p.1 ((p.2:Int)+40),gA (uC x) p.2)) (PR (U (by rw[s];rfl))) (by simp;omega) ?_) (by simp[fm,yL]);refine mO mS (fun p:Int×Nat=>eB (se p.1 ((p.2:Int)+40),gA (uC x) p.2)) _ fun p hp=>?_;have i:=PU hp;have a:=(DT p.1 (k:=(p.2:Int)+40) (by omega) (by lia)).1;have ix:=DI (L:=Z) (k:=(p.2:Int)) (by lia) (by lia);rw[<-g] at ix;rw[<-eZ];have e:c9 [.v (.int f),.v t,.v (.int b),.v (.int n),.v o,.no,.no,.no] [4] 2=[.v o,.no,.no]:=rfl;rw[e];have b1:dM 2 (eS (cX 1) (eS (cX 2) ef)) (mS p) [.v o,.no,.no]=some [.v o,.v (.int p.2),.v (.int p.1)]:=rfl;simp[iN,b1,bY,mC,bq,ai,af,ag,aj,a,ix,sizeLine,eB]
    have Y:aB Hj (aV 6) [.v (.int f),.v t,.v (.int b),.v (.int n),.v o,.no,.no,.no]=.nx [.v (.int f),.v t,.v (.int b),.v (.int n),.v o,.no,.v (fm (yL x)),.no]:=dP kk rfl;refine(br Y).trans (ret ?_);simp only[bq,ai,af,ag,mC,List.getElem?_cons_succ,List.getElem?_cons_zero,R.ak,T,R.ba,z]
  obtain⟨d,G,el⟩:=zrK cs (n:=n) (by omega) (by lia) (b/5);rw[<-s] at el;have w7:aB (bq BN (ai (ag 1) (ai (ag 3) (ai (m2 oDiv (aj 2) (mC (.int 5))) af)))) (aV 7) [.v (.int f),.v t,.v (.int b),.v (.int n),.v o,.no,.no,.no]=.nx [.v (.int f),.v t,.v (.int b),.v (.int n),.v o,.no,.no,.v (bE (bD n d))]:=dP (d:=bE (bD n d)) (by simp only[bq,ai,af,d_,ag,aj,mC,List.getElem?_cons_succ,List.getElem?_cons_zero,R.ak,nR (show(0:Int)<5 by decide) f5,R.au,el,R.ba]) rfl;by_cases z4:f=4;.have z:=ZX G (by lia);refine⟨_,_,_,zx2 G (by omega) (by lia),go _ fun δ e=>?_⟩;subst e;rw[<-s,<-g];refine(br (y 0 .no H)).trans ((br (y 1 .no J)).trans ((br (y 2 .no S)).trans ((br (y 3 .no z3)).trans ((br w7).trans (C 4 _ z4 (ret ?_))))));simp only[bq,ai,af,ag,List.getElem?_cons_succ,List.getElem?_cons_zero,R.ak,z,R.ba]
  . have n0:0<(n:Int):=by lia
    have g1:=m9 (b/15) n0;have g2:=oA (b/15) n0;obtain⟨m,em⟩:∃m:Nat,(m:Int)=1+b/15%n:=⟨(1+b/15%n).toNat,by lia⟩;have z:=ZY (k:=(m:Int)) G (by lia);refine⟨_,_,_,zwV (d:=d) (n:=n) (m:=m) (by lia) (by omega) (by lia),go _ fun δ e=>?_⟩;subst e;rw[<-s,<-g];refine(br (y 0 .no H)).trans ((br (y 1 .no J)).trans ((br (y 2 .no S)).trans ((br (y 3 .no z3)).trans ((br w7).trans ((br (y 4 _ z4)).trans (ret ?_))))));have md:oMod (.int (b/15)) (.int n)=some (.int (b/15%n)):=hV n0;simp only[bq,ai,af,d_,ag,aj,mC,List.getElem?_cons_succ,List.getElem?_cons_zero,R.ak,nR (show(0:Int)<15 by decide) f15,R.au,md,xW,<-em,z,R.ba]
theorem zts {Q:Qs} {Ok:List Int→Prop} (h:Walk Q Ok) {n:Nat} {r:Rn} (hr:run Q n none [[]]=some r) {c:List Int} {k:Int} (e:r.b=some (c,k)):word Q r.cl c k=.non:=by
 have p:=Pt h hr (fun x hx=>by rw[bP.mp hx];exact h.nil)
 obtain⟨_,l2,l3⟩:=Pu hr c k e
 unfold word
 rw[aq p,ao,ao]
 ·rcases l3 with z|⟨z1,z2,z3⟩
  ·cases z
  ·exact fun z=>z.elim (fun y=>y z1) fun y=>y.elim (fun w=>w z2) fun w=>w z3
 ·intro z
  obtain⟨x,hx,y⟩:=p_.mp z
  have:=l2 x hx
  have y:=of_decide_eq_true y
  lia
theorem tQ (ns:List Int) (h:ns.length≤63):Oj [.ig ns]=.ok (.bl true):=by
 have c0:=DJ ns (k:=0) (by decide)
 have c1:=DJ ns (k:=1) (by decide)
 have c2:=DJ ns (k:=2) (by decide)
 have c3:=DJ ns (k:=3) (by decide)
 obtain⟨a0,e0⟩:∃a,a=ns.getD (0:Int).toNat 0:=⟨_,rfl⟩
 obtain⟨a1,e1⟩:∃a,a=ns.getD (1:Int).toNat 0:=⟨_,rfl⟩
 obtain⟨a2,e2⟩:∃a,a=ns.getD (2:Int).toNat 0:=⟨_,rfl⟩
 obtain⟨a3,e3⟩:∃a,a=ns.getD (3:Int).toNat 0:=⟨_,rfl⟩
 rw[← e0] at c0
 rw[← e1] at c1
 rw[← e2] at c2
 rw[← e3] at c3
 have k0:=m9 a0 (show (0:Int)<6 by decide)
 have k1:=oA a0 (show (0:Int)<6 by decide)
 obtain⟨cell,hc,cc0,cc1⟩:=BX (a1+a2) (k:=1) (by decide) (by decide)
 obtain⟨cs,hcs,lcs⟩:=Um ns (some 4) (some 63)
 obtain⟨q,Q,Ok,as,hq⟩:=zow cs k0 k1 cc0
 obtain⟨bI,S,hs⟩:=as
 have z0:jz S [[]]≤2000:=by
  have:=hs.all
  simpa[jz] using this
 have PX:∀x∈[([]:List Int)],Ok x:=fun x hx=>by rw[bP.mp hx];exact bI.nil
 obtain⟨r,hr⟩:=Pf bI.toWalk hs 2000 none [[]] PX z0
 have rv:=Pd hr
 have rc:=Pw hr
 have bo:=zx7 bI hr (aG _) (M:=2000) (by lia)
 obtain⟨r1,r2,r3⟩:=Ph bI.toWalk hr PX
 obtain⟨rb,rn⟩:=r2 rfl (by simp)
 obtain⟨⟨c,k⟩,eb⟩:∃p,r.b=some p:=Option.ne_none_iff_exists'.mp rb
 have CH:=r3 (fun _ _ z=>by cases z) c k eb
 have lc:=bI.len c CH
 have qy:=bI.qy
 have wd:=zts bI.toWalk hr eb
 have cb:=PJ bI hs r.cl c k (by lia)
 rw[wd] at cb
 have eA:vU r=.tup [encC c,.int k,c6 r.cl]:=by unfold vU fj gj;rw[eb];rfl
 rw[eA] at bo
 obtain⟨T,eT⟩:∃T,T=D.tup [encC c,.int k,c6 r.cl]:=⟨_,rfl⟩
 obtain⟨X,eX⟩:∃X,X=D.ig ns:=⟨_,rfl⟩
 have aX:uj X=some (ns.map .int):=by rw[eX];rfl
 have i0:cC T (.int 0)=some (encC c):=by rw[eT];rfl
 have i1:cC T (.int 1)=some (.int k):=by rw[eT];rfl
 have i2:cC T (.int 2)=some (c6 r.cl):=by rw[eT];rfl
 have fl:kU [c6 r.cl]=some (c6 r.cl):=rfl
 rw[← eT] at bo
 rw[← eX] at c0 c1 c2 c3 ⊢
 have lk:∀n:Int,0≤n→DH [q,T,.int n]=.ok (.bl true):=fun n n0=>by rw[eT];exact zt5 bI hs rn r1 (by lia) (by lia) k n n0
 have q1:aB (bq pQ (ai (m2 bL (bq oy (ai (ag 0) (ai (mC (.int 1)) af))) (bq oy (ai (ag 0) (ai (mC (.int 2)) af)))) (ai (mC (.int 1)) af))) (aV 1) [.v X,.no,.no,.no,.no]=.nx [.v X,.v (.int cell),.no,.no,.no]:=dP (d:=.int cell) (by simp[bq,ai,af,ag,mC,c1,c2,hc]) rfl
 have sl:gq (aj 0) (dF (mC (.int 4))) (dF (mC (.int 63))) [.v X,.v (.int cell),.no,.no,.no]=.ok (iL cs):=by
  simp only[gq,aj,mC,dF,List.getElem?_cons_zero,R.ak,R.au,vm,aX,hcs,iL]
 have md:m2 oMod (bq oy (ai (ag 0) (ai (mC (.int 0)) af))) (mC (.int 6)) [.v X,.v (.int cell),.no,.no,.no]=.ok (.int (a0%6)):=by simp[bq,ai,af,ag,mC,c0,hV]
 have q2:aB (bq BO (ai (m2 oMod (bq oy (ai (ag 0) (ai (mC (.int 0)) af))) (mC (.int 6))) (ai (gq (aj 0) (dF (mC (.int 4))) (dF (mC (.int 63)))) (ai (ag 1) af)))) (aV 2) [.v X,.v (.int cell),.no,.no,.no]=.nx [.v X,.v (.int cell),.v q,.no,.no]:=by
  refine dP (d:=q) ?_ rfl
  simp only[bq,ai,af] at md ⊢
  simp only[md,sl,show ag 1 [.v X,.v (.int cell),.no,.no,.no]=.ok (.int cell) from rfl,R.ak,hq,R.ba]
 have q3:aB (bq BQ (ai (ag 2) (ai (mC (.int 2000)) af))) (aV 3) [.v X,.v (.int cell),.v q,.no,.no]=.nx [.v X,.v (.int cell),.v q,.v T,.no]:=dP (d:=T) (by simp only[bq,ai,af,ag,mC,List.getElem?_cons_succ,List.getElem?_cons_zero,R.ak,bo,R.ba]) rfl
 have cb':xa [q,encC c,.int k,c6 r.cl]=.ok .non:=cb
 have t4:aS (m2 zf (bq xa (ai (ag 2) (ai (m2 cC (aj 3) (mC (.int 0))) (ai (m2 cC (aj 3) (mC (.int 1))) (ai (aN kU (ai (m2 cC (aj 3) (mC (.int 2))) af)) af))))) (mC .non)) [.v X,.v (.int cell),.v q,.v T,.no]=.ok false:=by
  have:zf .non .non=some (.bl false):=rfl
  simp only[aS,d_,bq,aN,ai,af,ag,aj,mC,List.getElem?_cons_succ,List.getElem?_cons_zero,R.ak,i0,i1,i2,fl,R.au,cb',R.ba,this,lM]
 obtain⟨δ,hl,o4,rfl⟩:=lO (b:=aV 4) (m:=Oh) D.int (fun _ δ=>∃o4,δ=[.v X,.v (.int cell),.v q,.v T,sv o4]) (bF 3)
  (by
   rintro pre x post δ rh ⟨o4,rfl⟩
   obtain⟨x0,x1⟩:=bR.mp (show x∈bF 3 by rw[rh];simp)
   obtain⟨y,hy,y0,_⟩:=BX a3 (k:=19*x) (by lia) (by lia)
   have l:=lk y y0
   refine⟨[.v X,.v (.int cell),.v q,.v T,.v (.int x)],_,kW (o:=o4) rfl,.inl ((fG ?_).trans rfl),some (.int x),rfl⟩
   have f19:eI 19:=c8 1000 (by decide)
   have fx:eI x:=c8 1000 (by lia)
   simp[qY,aS,bq,ai,af,ag,aj,mC,c3,vj f19 fx,hy,l])
  [.v X,.v (.int cell),.v q,.v T,.no] ⟨none,rfl⟩
 have rn3:lI [.int 3]=some ((bF 3).map .int):=mR (n:=3) (by decide)
 refine gw ?_
 show aw _ _ [.v X,.no,.no,.no,.no]=_
 refine (br q1).trans ((br q2).trans ((br q3).trans ((br ((fG t4).trans rfl)).trans ?_)))
 exact (br ((lN (l:=(bF 3).map .int) (by simp[b9,ai,af,mC,rn3])).trans hl)).trans rfl
end My
namespace My
open PySem L2 PM PyProof.Rows
noncomputable def top (i:Nat):Stmt:=PySem.Challenge.pw_goodenough_k50_best_looked_at.main.body.getD i (.Pass ⟨0,0,0,0⟩)
abbrev XO0:c5:=fun _ _ _ _ _=>False
def PY:Stmt→Stmt
 | .ClassDef _ _ _ b _ _ _ _ _ _ _=>b.getD 0 (.Pass ⟨0,0,0,0⟩)
 | s=>s
structure yM where
 a0:Addr
 a1:Addr
 a2:Addr
 a3:Addr
 a4:Addr
 a5:Addr
 a6:Addr
 a7:Addr
 a8:Addr
 a9:Addr
 j_:Addr
 kY:Addr
 b0:Addr
 b1:Addr
noncomputable def Iy (ad:yM):Nat→Addr
 | 0=>ad.a0
 | 1=>ad.a1
 | 2=>ad.a2
 | 3=>ad.a3
 | 4=>ad.a4
 | 5=>ad.a5
 | 7=>ad.a6
 | 8=>ad.a7
 | 9=>ad.a8
 | 10=>ad.a9
 | 11=>ad.j_
 | 12=>ad.kY
 | _=>0
def B8 (ad:yM) (c:Nat):Addr:=Iy ad (c%16)
def PZ:Nat→Str
 | 4=>"thing"
 | 5=>"thing"
 | _=>Str.empty
def B9 (c:Nat):Str:=PZ (c%16)
abbrev KX (K:PySem.W.Frag) (ad:yM):Kx:=⟨K,B8 ad,B9⟩
def DU (K:PySem.W.Frag):Sp:=fun vs H Q _=>∃(a:Addr) (ns:List Int),vs=[.ref a]∧fX K H a (ns.map V.int)∧ns.length≤63∧∀H',Q (.bl true) H'
structure Txt (K:PySem.W.Frag) (mg:Str→Option Value) (ad:yM):Prop where
 xg:∃h:Heap,K.In h∧h.Ns mainGlobals mg
 fg:mg "len"=none
 DV:mg "abs"=none
 qac:mg "isinstance"=none
 sf:mg "list"=none
 yN:mg "sum"=none
 qaf:mg "str"=none
 qag:mg "dict"=none
 j':mg "range"=none
 z5:mg "enumerate"=none
 Iz:mg "reversed"=none
 yO:mg "max"=none
 B_:mg "min"=none
 qam:mg "sorted"=none
 P0:mg "zip"=none
 P1:mg "set"=none
 qap:mg "any"=none
 qaq:mg "ValueError"=none
 qar:mg "CoverQuestion"=some (.ref ad.a6)
 qas:mg "BenchQuestion"=some (.ref ad.a7)
 qat:mg "BinQuestion"=some (.ref ad.a8)
 qau:mg "SackQuestion"=some (.ref ad.a9)
 qav:mg "RoundQuestion"=some (.ref ad.j_)
 qaw:mg "PlaceQuestion"=some (.ref ad.kY)
 uD:dI K ad.a6
 P2:aE K ad.a6 "cheapest"
 P4:aE K ad.a6 "many"
 P5:aE K ad.a6 "sets"
 tR:dI K ad.a7
 P6:aE K ad.a7 "falling"
 P7:aE K ad.a7 "least"
 P8:aE K ad.a7 "many"
 P9:aE K ad.a7 "order"
 uE:dI K ad.a8
 P_:aE K ad.a8 "falling"
 Qa:aE K ad.a8 "order"
 Qb:aE K ad.a8 "room"
 yP:dI K ad.a9
 Qc:aE K ad.a9 "room"
 Qd:aE K ad.a9 "things"
 z8:dI K ad.j_
 Qe:aE K ad.j_ "lengths"
 yQ:dI K ad.kY
 Qf:aE K ad.kY "lengths"
 Qg:aE K ad.kY "many"
 qbi:mg "EnoughError"=some (.ref ad.a0)
 qbj:mg "NoShare"=some (.ref ad.a1)
 IA:mg "NoLengths"=some (.ref ad.a2)
 qbl:mg "TooMany"=some (.ref ad.a3)
 qbm:mg "NoCover"=some (.ref ad.a4)
 qbn:mg "NoRoom"=some (.ref ad.a5)
 qbo:zo K ad.a4 [.type "ValueError",.type "Exception",.type "BaseException",.type "object"] "ValueError.__new__" ad.b0=true
 qbp:PySem.W.isFn K (.ref ad.b0)=true
 Qh:aE K ad.a4 "thing"
 qbr:zo K ad.a5 [.type "ValueError",.type "Exception",.type "BaseException",.type "object"] "ValueError.__new__" ad.b1=true
 qbs:PySem.W.isFn K (.ref ad.b1)=true
 Qi:aE K ad.a5 "thing"
 qbu:PySem.W.excIn K ad.a1 [.type "ValueError",.type "Exception",.type "BaseException",.type "object"] "ValueError.__new__"=true
 IB:PySem.W.excIn K ad.a2 [.type "ValueError",.type "Exception",.type "BaseException",.type "object"] "ValueError.__new__"=true
 qbw:PySem.W.excIn K ad.a3 [.type "ValueError",.type "Exception",.type "BaseException",.type "object"] "ValueError.__new__"=true
 qbx:gQ K ad.a1
 qby:gQ K ad.a2
 qbz:gQ K ad.a3
 qb0:gQ K ad.a4
 qb1:s_ K ad.a4
 qb2:gQ K ad.a5
 qb3:s_ K ad.a5
 qb4:PySem.W.makesIn K ad.a6=true∧PySem.W.keepIn K (.ref ad.a6)=true
 qb5:PySem.W.makesIn K ad.a7=true∧PySem.W.keepIn K (.ref ad.a7)=true
 qb6:PySem.W.makesIn K ad.a8=true∧PySem.W.keepIn K (.ref ad.a8)=true
 qb7:PySem.W.makesIn K ad.a9=true∧PySem.W.keepIn K (.ref ad.a9)=true
 qb8:PySem.W.makesIn K ad.j_=true∧PySem.W.keepIn K (.ref ad.j_)=true
 qb9:PySem.W.makesIn K ad.kY=true∧PySem.W.keepIn K (.ref ad.kY)=true
structure aD where
 P:Program
 w:World
 K:PySem.W.Frag
 mg:Str→Option Value
 base:Heap
 ad:yM
abbrev mU (c:aD):Kx:=(KX c.K c.ad)
abbrev bG (c:aD):Prop:=Txt c.K c.mg c.ad
abbrev du (c:aD) (k:Nat) (x:Str) (ps:List Str) (sp:Sp):Prop:=uW c.P c.w c.K c.mg c.base kT k x ps sp
abbrev fW (c:aD) (k:Nat) (x:Str) (C:Addr) (ps:List Str) (sp:Sp):Prop:=nX c.P c.w c.K c.mg c.base kT k x C ps sp
abbrev IC (c:aD) (k:Nat) (x:Str) (C:Addr) (ps:List Str) (sp:Sp):Prop:=tu c.P c.w c.K c.mg c.base kT k x C ps sp
abbrev vX (c:aD) (k:Nat) (x:Str) (ps:List Str) (sp:Sp):Prop:=uW c.P c.w c.K c.mg c.base (qW c.P c.w) k x ps sp
abbrev ID (c:aD) (k:Nat) (x:Str) (C:Addr) (ps:List Str) (sp:Sp):Prop:=nX c.P c.w c.K c.mg c.base (qW c.P c.w) k x C ps sp
abbrev tU (c:aD) (k:Nat) (x:Str) (C:Addr) (ps:List Str) (sp:Sp):Prop:=tu c.P c.w c.K c.mg c.base (qW c.P c.w) k x C ps sp
abbrev cE (c:aD) (f:List D→R D):Sp:=qA (mU c) (jH (mU c)) f
abbrev gY (c:aD) (f:List D→R D):Sp:=vg (mU c) (jH (mU c)) f
abbrev rN (c:aD) (k:Nat) (f:List D→R D):Sp:=zv (mU c) k f
section
variable {P:Program} {w:World} {K:PySem.W.Frag} {mg:Str→Option Value} {base:Heap} {ad:yM}
theorem Qj (T:Txt K mg ad):∀c,ym c=true→dI (KX K ad).f ((KX K ad).ca c)∧aE (KX K ad).f ((KX K ad).ca c) "cheapest":=by
 intro c h
 match c,h with
 | 7,_=>exact⟨T.uD,T.P2⟩
theorem zfI (T:Txt K mg ad):dI (KX K ad).f ((KX K ad).ca 7)∧aE (KX K ad).f ((KX K ad).ca 7) "cheapest":=⟨T.uD,T.P2⟩
theorem z9 (T:Txt K mg ad):∀c,ou c=true→dI (KX K ad).f ((KX K ad).ca c)∧aE (KX K ad).f ((KX K ad).ca c) "falling":=by
 intro c h
 match c,h with
 | 8,_=>exact⟨T.tR,T.P6⟩
 | 9,_=>exact⟨T.uE,T.P_⟩
theorem zfX (T:Txt K mg ad):dI (KX K ad).f ((KX K ad).ca 8)∧aE (KX K ad).f ((KX K ad).ca 8) "falling":=⟨T.tR,T.P6⟩
theorem zgQ (T:Txt K mg ad):dI (KX K ad).f ((KX K ad).ca 9)∧aE (KX K ad).f ((KX K ad).ca 9) "falling":=⟨T.uE,T.P_⟩
theorem zvC (T:Txt K mg ad):∀c,Dt c=true→dI (KX K ad).f ((KX K ad).ca c)∧aE (KX K ad).f ((KX K ad).ca c) "least":=by
 intro c h
 match c,h with
 | 8,_=>exact⟨T.tR,T.P7⟩
theorem zgM (T:Txt K mg ad):dI (KX K ad).f ((KX K ad).ca 8)∧aE (KX K ad).f ((KX K ad).ca 8) "least":=⟨T.tR,T.P7⟩
theorem z_ (T:Txt K mg ad):∀c,r9 c=true→dI (KX K ad).f ((KX K ad).ca c)∧aE (KX K ad).f ((KX K ad).ca c) "lengths":=by
 intro c h
 match c,h with
 | 11,_=>exact⟨T.z8,T.Qe⟩
 | 12,_=>exact⟨T.yQ,T.Qf⟩
theorem zfW (T:Txt K mg ad):dI (KX K ad).f ((KX K ad).ca 11)∧aE (KX K ad).f ((KX K ad).ca 11) "lengths":=⟨T.z8,T.Qe⟩
theorem zfP (T:Txt K mg ad):dI (KX K ad).f ((KX K ad).ca 12)∧aE (KX K ad).f ((KX K ad).ca 12) "lengths":=⟨T.yQ,T.Qf⟩
theorem Aa (T:Txt K mg ad):∀c,r_ c=true→dI (KX K ad).f ((KX K ad).ca c)∧aE (KX K ad).f ((KX K ad).ca c) "many":=by
 intro c h
 match c,h with
 | 7,_=>exact⟨T.uD,T.P4⟩
 | 8,_=>exact⟨T.tR,T.P8⟩
 | 12,_=>exact⟨T.yQ,T.Qg⟩
theorem zgY (T:Txt K mg ad):dI (KX K ad).f ((KX K ad).ca 7)∧aE (KX K ad).f ((KX K ad).ca 7) "many":=⟨T.uD,T.P4⟩
theorem zht (T:Txt K mg ad):dI (KX K ad).f ((KX K ad).ca 8)∧aE (KX K ad).f ((KX K ad).ca 8) "many":=⟨T.tR,T.P8⟩
theorem zhc (T:Txt K mg ad):dI (KX K ad).f ((KX K ad).ca 12)∧aE (KX K ad).f ((KX K ad).ca 12) "many":=⟨T.yQ,T.Qg⟩
theorem Qk (T:Txt K mg ad):∀c,BK c=true→dI (KX K ad).f ((KX K ad).ca c)∧aE (KX K ad).f ((KX K ad).ca c) "order":=by
 intro c h
 match c,h with
 | 8,_=>exact⟨T.tR,T.P9⟩
 | 9,_=>exact⟨T.uE,T.Qa⟩
theorem zgK (T:Txt K mg ad):dI (KX K ad).f ((KX K ad).ca 8)∧aE (KX K ad).f ((KX K ad).ca 8) "order":=⟨T.tR,T.P9⟩
theorem zhC (T:Txt K mg ad):dI (KX K ad).f ((KX K ad).ca 9)∧aE (KX K ad).f ((KX K ad).ca 9) "order":=⟨T.uE,T.Qa⟩
theorem IE (T:Txt K mg ad):∀c,yn c=true→dI (KX K ad).f ((KX K ad).ca c)∧aE (KX K ad).f ((KX K ad).ca c) "room":=by
 intro c h
 match c,h with
 | 9,_=>exact⟨T.uE,T.Qb⟩
 | 10,_=>exact⟨T.yP,T.Qc⟩
theorem zh8 (T:Txt K mg ad):dI (KX K ad).f ((KX K ad).ca 9)∧aE (KX K ad).f ((KX K ad).ca 9) "room":=⟨T.uE,T.Qb⟩
theorem zhO (T:Txt K mg ad):dI (KX K ad).f ((KX K ad).ca 10)∧aE (KX K ad).f ((KX K ad).ca 10) "room":=⟨T.yP,T.Qc⟩
theorem DW (T:Txt K mg ad):∀c,uv c=true→dI (KX K ad).f ((KX K ad).ca c)∧aE (KX K ad).f ((KX K ad).ca c) "sets":=by
 intro c h
 match c,h with
 | 7,_=>exact⟨T.uD,T.P5⟩
theorem Ql (T:Txt K mg ad):dI (KX K ad).f ((KX K ad).ca 7)∧aE (KX K ad).f ((KX K ad).ca 7) "sets":=⟨T.uD,T.P5⟩
theorem DX (T:Txt K mg ad):∀c,zD c=true→dI (KX K ad).f ((KX K ad).ca c)∧aE (KX K ad).f ((KX K ad).ca c) "things":=by
 intro c h
 match c,h with
 | 10,_=>exact⟨T.yP,T.Qd⟩
theorem zgP (T:Txt K mg ad):dI (KX K ad).f ((KX K ad).ca 10)∧aE (KX K ad).f ((KX K ad).ca 10) "things":=⟨T.yP,T.Qd⟩
theorem zra (k:Nat):B8 ad (4+16*(k+1))=ad.a4:=by
 unfold B8
 rw[show (4+16*(k+1))%16=4 by lia];rfl
theorem zqr (k:Nat):B9 (4+16*(k+1)) = "thing":=by
 unfold B9
 rw[show (4+16*(k+1))%16=4 by omega];rfl
theorem ztT (k:Nat):B8 ad (5+16*(k+1))=ad.a5:=by
 unfold B8
 rw[show (5+16*(k+1))%16=5 by lia];rfl
theorem zue (k:Nat):B9 (5+16*(k+1)) = "thing":=by
 unfold B9
 rw[show (5+16*(k+1))%16=5 by omega];rfl
theorem zz1 (T:Txt K mg ad):∀c,Xr c=true→gQ (KX K ad).f ((KX K ad).ca c)∧aE (KX K ad).f ((KX K ad).ca c) "thing"∧(KX K ad).an c = "thing":=by
 have key:∀r,Ni r=true→gQ K (Iy ad r)∧aE K (Iy ad r) "thing"∧PZ r = "thing":=by
  intro c h
  match c,h with
  | 4,_=>exact⟨T.qb0,T.Qh,rfl⟩
  | 5,_=>exact⟨T.qb2,T.Qi,rfl⟩
 exact fun c h=>key (c%16) h
abbrev IF:Stmt:=PY (top 5)
theorem zlp:b_ ["self","thing"] ["self","thing"] (cM IF):=jS
theorem zkH {f:Addr} {fd:FuncData} (F:jM K "__init__" "NoCover.__init__" IF f fd):cz P w K mg base kT 1 f fd ["self","thing"] (zp K "thing"):=by
 refine F.ok zlp (fun vs H Q E h=>MB h) (fun qV A outer s H vs Q E hr h=>?_)
 obtain⟨e,C,xs,n,rfl,hH,zA,zN,q⟩:=h
 exact⟨_,cU (Mz (pv 0) (pv 1) rfl),_,rfl,_,rfl,e,C,xs,rfl,hH,zA,zN,fun dx hd=>q dx hd⟩
abbrev Qm (c:aD):Prop:=ya c.P c.w c.K c.mg c.base c.ad.b0 ["self","thing"] (zp c.K "thing")
abbrev IG:Stmt:=PY (top 6)
theorem zls:b_ ["self","thing"] ["self","thing"] (cM IG):=jS
theorem zlF {f:Addr} {fd:FuncData} (F:jM K "__init__" "NoRoom.__init__" IG f fd):cz P w K mg base kT 1 f fd ["self","thing"] (zp K "thing"):=by
 refine F.ok zls (fun vs H Q E h=>MB h) (fun qV A outer s H vs Q E hr h=>?_)
 obtain⟨e,C,xs,n,rfl,hH,zA,zN,q⟩:=h
 exact⟨_,cU (Mz (pv 0) (pv 1) rfl),_,rfl,_,rfl,e,C,xs,rfl,hH,zA,zN,fun dx hd=>q dx hd⟩
abbrev Qn (c:aD):Prop:=ya c.P c.w c.K c.mg c.base c.ad.b1 ["self","thing"] (zp c.K "thing")
abbrev IH (c:aD):Prop:=du c 1 "_law_cell_at" ["_law_script","_law_k"] (cE c oy)
abbrev Qo:Stmt:=top 46
theorem zlz {c:aD} (T:bG c) (d:De c.K "_law_cell_at" Qo):IH c:=hD T.xg d fun _ _ F=>ik ["_law_script","_law_k"] F fun _ _ _ _ _ _ hr hu nd=>⟨_,(bx (eD (pq uO (pv 1) (pB ft T.fg aU (aZ (pv 0)))) (pR (pI (pv 0) (pv 1))) eN) (pR aT)),(bC (eE (cW (aA ve av (dc fF (bB av)).r)) (da (aA dN av av)) eO) (da aL))⟩
abbrev B' (c:aD):Prop:=du c 1 "_law_number" ["_law_cell","_law_k"] (cE c pQ)
abbrev Qp:Stmt:=top 47
theorem zmu {c:aD} (T:bG c) (d:De c.K "_law_number" Qp):B' c:=hD T.xg d fun _ _ F=>ik ["_law_cell","_law_k"] F fun _ _ _ _ _ _ hr hu nd=>⟨_,(pR (bA gd (bA sR (bA gb (bA gb (bA gd (pv 0) (bA xA aT aT)) (bA sR (pv 1) (pv 1))) aT) (bA gb aT (bA sR aT (pv 1)))) aT)),(da (aA gh (aA sX (aA gg (aA gg (aA gh av (aA xR sI sI).r).r (aA sX av av).r).r sI).r (aA gg sI (aA sX sI av).r).r).r sI))⟩
abbrev DY (c:aD):Prop:=du c 2 "_law_amount" ["_law_cell","_law_k"] (cE c tJ)
abbrev Qq:Stmt:=top 48
theorem zmJ {c:aD} (T:bG c) (d:De c.K "_law_amount" Qq) (g1:B' c):DY c:=hD T.xg d fun _ _ F=>ik ["_law_cell","_law_k","_law_number_here"] F fun _ _ _ _ _ _ hr hu nd=>⟨_,(bx (pS 2 nd (bQ g1 hr bz (cY (pv 0) (pv 1)))) (bx (eD (pq iJ (bA gd (pv 2) aT) aT) (pR (bA gd (bA lJ (pv 2) aT) aT)) eN) (bx (eD (pq iJ (bA gd (pv 2) aT) aT) (pR (bA gd (bA lJ (pv 2) aT) aT)) eN) (pR (bA gd (bA gb (bA sR (bA gd (pv 0) (bA xA aT aT)) aT) (pv 2)) (bA gb (bA xA aT aT) aT)))))),(bC (dH (fZ (eL ay ay)) cf) (bC (eE (cW (aA iM (aA gh av sI).r sI)) (da (aA gh (aA lL av sI).r sI)) eO) (bC (eE (cW (aA iM (aA gh av sI).r sI)) (da (aA gh (aA lL av sI).r sI)) eO) (da (aA gh (aA gg (aA sX (aA gh av (aA xR sI sI).r).r sI).r av).r (aA gg (aA xR sI sI).r sI).r)))))⟩
abbrev Qr (c:aD):Prop:=du c 3 "_law_sizes" ["_law_cells"] (gY c Du)
abbrev II:Stmt:=top 54
abbrev Qt:List Str:=["_law_cells"]
theorem znu {c:aD} (T:bG c) (d:De c.K "_law_sizes" II) (g2:DY c):Qr c:=hD T.xg d fun _ _ F=>oq Qt F fun _ _ _ _ _ _ hr hu nd=>⟨_,(pR (kC rfl (AW rfl T.z5 (aZ (pv 0))) (lj (cM II) Qt ["_law_k" ,"_law_cell"] [] 2 (fun _ _ _ _ _ _ nd=>⟨(qN rfl (jm (pN 0 nd) (jm (pN 1 nd) qM))),(bA gb aT (bA gd (bQ g2 hr bz (cY (pv 1) (pv 0))) (bA xA aT aT)))⟩)))),(k_ (jG (Fv (bB av)) (by decide) (rT (jN gZ (jN gZ rS))) (za (rV g_ (rV g_ y'))) (Or.inl ⟨rfl,rfl⟩) (aA gg sI (aA gh (fZ (eL ay ay)).r (aA xR sI sI).r).r)))⟩
abbrev Qu (c:aD):Prop:=du c 1 "_law_bit" ["_law_number_here","_law_place"] (cE c zE)
abbrev Qv:Stmt:=top 49
theorem zqV {c:aD} (T:bG c) (d:De c.K "_law_bit" Qv):Qu c:=hD T.xg d fun _ _ F=>ik ["_law_number_here","_law_place","_law_k"] F fun _ _ _ _ _ _ hr hu nd=>⟨_,(bx (pF (mB rfl T.j' (aZ (pv 1))) (pN 2 nd) (cU (pS 0 nd (bA lJ (pv 0) aT)))) (pR (bA gd (pv 0) aT))),(bC (jO (mK gf (b7 ay)) cf (dH (aA lL av sI) cf)) (da (aA gh av sI)))⟩
abbrev Qw (c:aD):Prop:=du c 2 "_law_has" ["_law_cell","_law_k","_law_thing"] (cE c BL)
abbrev Qx:Stmt:=top 50
theorem zrt {c:aD} (T:bG c) (d:De c.K "_law_has" Qx) (g1:B' c) (g4:Qu c):Qw c:=hD T.xg d fun _ _ F=>ik ["_law_cell","_law_k","_law_thing","_law_number_here","_law_both"] F fun _ _ _ _ _ _ hr hu nd=>⟨_,(bx (pS 3 nd (bQ g1 hr bz (cY (pv 0) (bA gb (pv 1) aT)))) (bx (pS 4 nd (bA gb (bQ g4 hr bz (cY (pv 3) (pv 2))) (bQ g4 hr bz (cY (bQ g1 hr bz (cY (pv 0) (bA gb (pv 1) aT))) (pv 2))))) (pR (pr y4 (pv 4) (bA ub aT (bA gd (bA lJ (pv 3) aT) aT)))))),(bC (dH (fZ (eL ay (aA gg av sI))) cf) (bC (dH (aA gg (fZ (eL ay ay)).r (fZ (eL (fZ (eL ay (aA gg av sI))) ay)).r) cf) (da (aA ze av (aA um sI (aA gh (aA lL av sI).r sI).r).r))))⟩
abbrev Qy (c:aD):Prop:=du c 3 "_law_sets" ["_law_cells","_law_many"] (gY c GP)
abbrev DZ:Stmt:=top 51
abbrev IJ:List Str:=["_law_cells","_law_many","_law_found","_law_k","_law_cell","_law_things","_law_thing"]
theorem zoO {c:aD} (T:bG c) (d:De c.K "_law_sets" DZ) (g2:DY c) (g5:Qw c):Qy c:=hD T.xg d fun _ _ F=>oq IJ F fun _ _ _ _ _ _ hr hu nd=>⟨_,(bx (pS 2 nd (mX dY)) (bx (pF (AW rfl T.z5 (aZ (pv 0))) (qN rfl (jm (pN 3 nd) (jm (pN 4 nd) qM))) (bx (BH 5 nd (mB rfl T.j' (aZ (pv 1))) (zC (cM DZ) IJ ["_law_cell" ,"_law_k" ,"_law_thing"] [4,3] 1 (fun _ _ _ _ _ _ nd=>⟨(pN 2 nd),(pv 2),(Cg (bQ g5 hr bz (cy (pv 0) (cY (pv 1) (pv 2)))))⟩))) (cU (BG (pv 2) (mW (cY (bQ g2 hr bz (cY (pv 4) (pv 3))) (pv 5))))))) (bx (eD (pq (FZ hr.units) (pv 2) (mX dY)) (cU (BG (pv 2) (mW (cY aT (mX dY))))) eN) (bx (pF (mB rfl T.j' (aZ (pv 1))) (pN 6 nd) (cU (eD (pq iJ (pB ft T.fg aU (aZ (kC rfl (kB (pv 2)) (zC (cM DZ) IJ ["_law_thing" ,"_law_price" ,"_law_things"] [6] 2 (fun _ _ _ _ _ _ nd=>⟨(qN rfl (jm (pN 1 nd) (jm (pN 2 nd) qM))),aT,(nG KJ (pv 0) (pv 2) (by with_unfolding_all rfl))⟩))))) aT) (cU (BG (pJ (pI (pv 2) (bA gd (bA sR (pv 6) aT) (pB ft T.fg aU (aZ (pv 2))))) aT) (pv 6))) eN))) (pR (pv 2)))))),(bC (WO (m7 cG)) (bC (jO (Lu (b7 ay)) (rT (jN cf (jN cf rS))) (bC (q_ (jG (mK gf (b7 ay)).c (by decide) gZ g_ (Or.inr ⟨_,_,rfl,rfl,(pE (fZ (c7 ay (eL ay ay))))⟩) ay)) (WQ (fZ (eL ay ay))))) (bC (eE (cW (Gg (aA F6 av (m7 cG).e.r))) (WV aL (m7 cG)) eO) (bC (jO (mK gf (b7 ay)) cf (eE (cW (Gg (aA iM (dc fF (bB (jG (qB av) (by decide) (rT (jN gZ (jN gZ rS))) (za (rV g_ (rV g_ y'))) (Or.inr ⟨_,_,rfl,rfl,(cW (aA L_ av av))⟩) aL).e.r)).r sI))) (WU (Gg (aA gh (aA sX av sI).r (dc fF (bB av)).r)) aL ay) eO)) U'))))⟩
abbrev Qz (c:aD):Prop:=vX c 3 "refuse_missing" ["many","sets"] (cE c GS)
abbrev QA:Stmt:=top 21
theorem zi9 {c:aD} (T:bG c) (d:De c.K "refuse_missing" QA) (jA:Qm c):Qz c:=hD T.xg d fun _ _ F=>tG ["many","sets","held","one","thing"] F fun _ _ _ _ _ _ hr hu nd=>⟨_,(bx (pS 2 nd EX) (bx (qO eV rfl (kB (pv 1)) (pN 3 nd) (cU (qO eV rfl (kB (pJ (pv 3) aT)) (pN 4 nd) (cU (EW hu (pv 2) (pv 4) wh rfl))))) (cU (qO eV rfl (mB rfl T.j' (aZ (pv 0))) (pN 4 nd) (cU (eD (El (EV hu (pv 4) (pv 2))) (cU (MC rfl rfl (by rfl) T.qbm T.qbo dA (by decide +kernel) dA MA jA (hr.mono (by decide)) T.qbp (aZ (pv 4)))) eN)))))),(bC (q_ kG) (bC (jO (u6 ay) cf (jO (u6 (aA lg av sI)) cf (FC ay wD))) (jO (mK gf (b7 ay)) cf (eE (pE (FD ay av)) (MD (c0:=4) (by decide) (fun k=>(zra k).symm) zqr T.qb1 T.Qh (b7 ay)) eO))))⟩
abbrev QB (c:aD):Prop:=du c 1 "least_prices" ["sets"] (gY c GU)
abbrev QC:Stmt:=top 37
theorem zkD {c:aD} (T:bG c) (d:De c.K "least_prices" QC):QB c:=hD T.xg d fun _ _ F=>oq ["sets","rows","price","things","row","thing"] F fun _ _ _ _ _ _ hr hu nd=>⟨_,(bx (pS 1 nd (mX (aZ EX))) (bx (pF (L3 rfl T.Iz (aZ (pv 0))) (qN rfl (jm (pN 2 nd) (jm (pN 3 nd) qM))) (bx (pS 4 nd (qw V9 (by rfl) T.qag boot_dict (aZ (pI (pv 1) (qP qQ aT))))) (bx (pF (kB (pv 3)) (pN 5 nd) (cU (EW hu (pv 4) (pv 5) (pB (Cq rfl) T.B_ boot_min (cY (pv 2) (K8 hu (pv 4) (pv 5) (pv 2) L9))) rfl))) (cU (BG (pv 1) (pv 4)))))) (pR (Vg rfl (by rfl) T.sf (by rfl) T.Iz (pv 1))))),(bC (q_ (m7 (b7 kG.e))) (bC (jO (UC (b7 ay)) (rT (jN cf (jN cf rS))) (bC (q_ (Xm (b7 (aA dN av (qX rg sI).r)))) (bC (jO (u6 ay) cf (FC ay (dc C8 (pP av (L' av ay ay).r)))) (Lw (i:=4) (CO ay))))) (k_ (Vh av))))⟩
abbrev QD (c:aD):Prop:=tU c 4 "CoverQuestion" c.ad.a6 ["self","many","sets"] (rN c 7 GX)
abbrev IK:Stmt:=jr (top 39) 0
abbrev QE:List Str:=["self","many","sets"]
theorem zfF {c:aD} (T:bG c) (d:Dm c.K c.ad.a6 "__init__" "CoverQuestion.__init__" IK) (g7:Qz c) (g8:QB c):QD c:=hC T.qb4 T.qar d fun _ _ F=>tH QE F fun _ _ _ _ _ _ hr hu nd=>⟨_,(bx (t_ (zB g7 hr y9 (cY (pv 1) (pv 2)))) (bx (pw (pv 0) (pv 1) rfl) (bx (pw (pv 0) (kC rfl (kB (pv 2)) (lj (cM IK) QE ["price" ,"things"] [] 2 (fun _ _ _ _ _ _ nd=>⟨(qN rfl (jm (pN 0 nd) (jm (pN 1 nd) qM))),(mW (cY (pv 0) (qw wq (by rfl) T.sf eF (aZ (pv 1)))))⟩))) rfl) (cU (pw (pv 0) (bQ g8 hr bz (aZ (gJ (pv 0) rfl))) rfl))))),(rG (Di (y_ (eL ay ay))) (rG (zr (zgY T) ay) (rG (Xi (Ql T) (Xe (qB av) (by decide) (rT (jN gZ (jN gZ rS))) (za (rV g_ (rV g_ y'))) (Xa ay (wK wL (bB av))))) (Xl (zfI T) (Ql T)))))⟩
abbrev IL (c:aD):Prop:=du c 1 "greatest_order" ["sizes"] (gY c vG)
abbrev sg:Stmt:=top 12
theorem zjt:b_ ["sizes"] ["sizes"] (cM sg):=jS
theorem zjz {f vY tP:Addr} {oc:Value} {od D0:Option Addr} {uR:Array (Option Value)} {D1 vZ D2 D3:Value} (lk:K.lookup f=some ⟨oc,od,.func (PySem.W.fnOf "greatest_order" "greatest_order" (nM sg) (kS sg) (cM sg) .none D1 vZ D2 D0 (.ref vY) D3),uR⟩) (Dg:PySem.W.codeIn K (.ref vY) "greatest_order"=true) (T:Txt K mg ad) (hT:tabOf K=some (tP,#[.str ("greatest_order"++".<locals>."++"<lambda>") 0,rawInt ((38:Nat):Int),rawInt ((41:Nat):Int)])) (hC:PySem.W.codeHdIn K vY tP=true) (hB:mP mg base):cz P w K mg base kT 1 f (PySem.W.fnOf "greatest_order" "greatest_order" (nM sg) (kS sg) (cM sg) .none D1 vZ D2 D0 (.ref vY) D3) ["sizes"] (vg (KX K ad) (jH (KX K ad)) vG):=by
 refine Cs lk Dg zjt (fun vs H Q E h=>LM h) (fun A outer s H vs Q E hr h=>?_)
 have hu:=ue hr
 exact⟨_,(cU (sN (VS rfl hr (by rfl) T.qam (cy (Ma (by rfl) T.j' (cy (xD ft (by rfl) T.fg aU (cy (pv 0) dY)) dY)) dY) hT hC rfl hB (fun cc h=>by cases h;rfl) rfl (fun _ _ _ _ _ _=>rfl) rfl rfl rfl rfl rfl (by decide +kernel) rfl rfl (by decide) (by decide) (by decide)))),LL (K:=(KX K ad)) (XO:=(jH (KX K ad))) (E:=E) (np:=1) (nv:=0) (m:=NB)
   (k_ V1) rfl h⟩
abbrev QF (c:aD):Prop:=du c 1 "common_factor" ["one","other"] (cE c G0)
abbrev QG:Stmt:=top 8
theorem zj0 {c:aD} (T:bG c) (d:De c.K "common_factor" QG):QF c:=hD T.xg d fun _ _ F=>ik ["one","other","great","small","rest"] F fun _ _ _ _ _ _ hr hu nd=>⟨_,(bx (pS 2 nd (pB Cp T.DV boot_abs (aZ (pv 0)))) (bx (pS 3 nd (pB Cp T.DV boot_abs (aZ (pv 1)))) (bx (Es kj (pq y4 (pv 3) aT) (bx (pS 4 nd (bA gd (pv 2) (pv 3))) (bx (pS 2 nd (pv 3)) (cU (pS 3 nd (pv 4)))))) (pR (pv 2))))),(bC (dH (dc CW (bB av)) cf) (bC (dH (dc CW (bB av)) cf) (bC (Fy (cW (aA ze av sI)) (bC (dH (aA gh av av) cf) (bC (dH ay cf) (dH ay cf)))) (da ay))))⟩
abbrev IM (c:aD):Prop:=vX c 2 "share" ["top","bottom"] (cE c uw)
abbrev QH:Stmt:=top 9
theorem zvd {c:aD} (T:bG c) (d:De c.K "share" QH) (IP:QF c):IM c:=hD T.xg d fun _ _ F=>tG ["top","bottom","factor"] F fun _ _ _ _ _ _ hr hu nd=>⟨_,(bx (eD (pq iJ (pv 1) aT) (cU (A3 rfl (by rfl) T.qbj T.qbu dA (by decide +kernel) dA A5 (aZ sM))) eN) (bx (pS 2 nd (bQ IP hr bz (cY (pv 0) (pv 1)))) (bx (eD (pq uO (pv 1) aT) (cU (pS 2 nd (qP qQ (pv 2)))) eN) (pR (mW (cY (bA lJ (pv 0) (pv 2)) (bA lJ (pv 1) (pv 2)))))))),(bC (eE (cW (aA iM av sI)) (Bc (c:=1) rfl (by decide) (b7 sV)) eO) (bC (dH (fZ (eL ay ay)) cf) (bC (eE (cW (aA ve av sI)) (dH (qX rg av) cf) eO) (da (pD (eL (aA lL av av) (aA lL av av)))))))⟩
abbrev IQ (c:aD):Prop:=du c 1 "rounded_up" ["one"] (cE c wV)
abbrev QI:Stmt:=top 10
theorem zmi {c:aD} (T:bG c) (d:De c.K "rounded_up" QI):IQ c:=hD T.xg d fun _ _ F=>ik ["one"] F fun _ _ _ _ _ _ hr hu nd=>⟨_,(pR (qP qQ (bA lJ (qP qQ (pJ (pv 0) aT)) (pJ (pv 0) aT)))),(da (qX rg (aA lL (qX rg (aA lg av sI).r).r (aA lg av sI).r).r))⟩
abbrev QJ (c:aD):Prop:=tU c 3 "BenchQuestion" c.ad.a7 ["self","works","many"] (rN c 8 G6)
abbrev IS:Stmt:=jr (top 40) 0
abbrev QK:List Str:=["self","works","many"]
theorem zfB {c:aD} (T:bG c) (d:Dm c.K c.ad.a7 "__init__" "BenchQuestion.__init__" IS) (Ab:IL c) (Ac:IM c) (Ad:IQ c):QJ c:=hC T.qb5 T.qas d fun _ _ F=>tH QK F fun _ _ _ _ _ _ hr hu nd=>⟨_,(bx (pw (pv 0) (pv 2) rfl) (bx (pw (pv 0) (bQ Ab hr bz (aZ (pv 1))) rfl) (bx (pw (pv 0) (kC rfl (kB (gJ (pv 0) rfl)) (lj (cM IS) QK ["works" ,"number"] [1] 1 (fun _ _ _ _ _ _ nd=>⟨(pN 1 nd),(pI (pv 0) (pv 1))⟩))) rfl) (cU (pw (pv 0) (bQ Ad hr bz (aZ (zB Ac hr y9 (cY (pB (xZ rfl) T.yN boot_sum (aZ (pv 1))) (pv 2))))) rfl))))),(rG (zr (zht T) ay) (rG (GD (zgK T) (rY (b7 ay))) (rG (MU (zfX T) (jG (qB (hG (Qk T) av).r) (by decide) gZ g_ (Or.inl ⟨rfl,rfl⟩) (aA dN av av))) (zr (zgM T) (fZ (b7 (y_ (eL (dc xY (bB av)) ay))))))))⟩
abbrev QL (c:aD):Prop:=vX c 3 "refuse_too_great" ["sizes","room"] (cE c BM)
abbrev QM:Stmt:=top 15
theorem zib {c:aD} (T:bG c) (d:De c.K "refuse_too_great" QM) (kP:Qn c):QL c:=hD T.xg d fun _ _ F=>tG ["sizes","room","number","size"] F fun _ _ _ _ _ _ hr hu nd=>⟨_,(cU (qO eV rfl (AW rfl T.z5 (aZ (pv 0))) (qN rfl (jm (pN 2 nd) (jm (pN 3 nd) qM))) (cU (eD (pq y4 (pv 3) (pv 1)) (cU (MC rfl rfl (by rfl) T.qbn T.qbr dA (by decide +kernel) dA MA kP (hr.mono (by decide)) T.qbs (aZ (pv 2)))) eN)))),(jO (Lu (b7 ay)) (rT (jN cf (jN cf rS))) (eE (cW (aA ze av av)) (MD (c0:=5) (by decide) (fun k=>(ztT k).symm) zue T.qb3 T.Qi (b7 ay)) eO))⟩
abbrev QN (c:aD):Prop:=tU c 4 "BinQuestion" c.ad.a8 ["self","sizes","room"] (rN c 9 G9)
abbrev IT:Stmt:=jr (top 41) 0
abbrev QO:List Str:=["self","sizes","room"]
theorem zgo {c:aD} (T:bG c) (d:Dm c.K c.ad.a8 "__init__" "BinQuestion.__init__" IT) (Ab:IL c) (IU:QL c):QN c:=hC T.qb6 T.qat d fun _ _ F=>tH QO F fun _ _ _ _ _ _ hr hu nd=>⟨_,(bx (t_ (zB IU hr y9 (cY (pv 1) (pv 2)))) (bx (pw (pv 0) (pv 2) rfl) (bx (pw (pv 0) (bQ Ab hr bz (aZ (pv 1))) rfl) (cU (pw (pv 0) (kC rfl (kB (gJ (pv 0) rfl)) (lj (cM IT) QO ["sizes" ,"number"] [1] 1 (fun _ _ _ _ _ _ nd=>⟨(pN 1 nd),(pI (pv 0) (pv 1))⟩))) rfl))))),(rG (Di (y_ (eL ay ay))) (rG (zr (zh8 T) ay) (rG (GD (zhC T) (rY (b7 ay))) (MU (zgQ T) (jG (qB (hG (Qk T) av).r) (by decide) gZ g_ (Or.inl ⟨rfl,rfl⟩) (aA dN av av))))))⟩
abbrev QP (c:aD):Prop:=IC c 1 "SackQuestion" c.ad.a9 ["self","room","things"] (rN c 10 G')
abbrev QQ:Stmt:=jr (top 42) 0
theorem zf9 {c:aD} (T:bG c) (d:Dm c.K c.ad.a9 "__init__" "SackQuestion.__init__" QQ):QP c:=hC T.qb7 T.qau d fun _ _ F=>Xq ["self","room","things"] F fun _ _ _ _ _ _ hr hu nd=>⟨_,(bx (pw (pv 0) (pv 1) rfl) (cU (pw (pv 0) (qw wq (by rfl) T.sf eF (aZ (pv 2))) rfl))),(rG (zr (zhO T) ay) (GD (zgP T) (wK wL (bB av))))⟩
abbrev QR (c:aD):Prop:=du c 1 "_law_between" ["_law_spots","_law_one","_law_other","_law_least"] (cE c Ha)
abbrev QS:Stmt:=top 53
theorem zlx {c:aD} (T:bG c) (d:De c.K "_law_between" QS):QR c:=hD T.xg d fun _ _ F=>ik ["_law_spots","_law_one","_law_other","_law_least","_law_low","_law_high","_law_much"] F fun _ _ _ _ _ _ hr hu nd=>⟨_,(bx (eD (pq iJ (pv 1) (pv 2)) (pR aT) eN) (bx (pS 4 nd (pB (Cq rfl) T.B_ boot_min (cY (pv 1) (pv 2)))) (bx (pS 5 nd (pB (EA rfl) T.yO boot_max (cY (pv 1) (pv 2)))) (bx (pS 6 nd (bA gb (bA gb (pJ (pI (pv 0) (pv 4)) aT) (bA sR aT (pJ (pI (pv 0) (pv 5)) aT))) (bA sR (pv 4) (pv 5)))) (pR (bA gb (pv 3) (bA gd (pv 6) (bA gb (pv 3) aT)))))))),(bC (eE (cW (aA iM av av)) (da aL) eO) (bC (dH (dc C8 (pP av av)) cf) (bC (dH (dc Gb (pP av av)) cf) (bC (dH (aA gg (aA gg (aA lg (aA dN av av).r sI).r (aA sX sI (aA lg (aA dN av av).r sI).r).r).r (aA sX av av).r) cf) (da (aA gg av (aA gh av (aA gg av sI).r).r))))))⟩
abbrev QT (c:aD):Prop:=du c 2 "_law_lengths" ["_law_cells","_law_many","_law_way"] (gY c BN)
abbrev Ae:Stmt:=top 52
abbrev IV:List Str:=["_law_cells","_law_many","_law_way","_law_spots","_law_k","_law_number_here","_law_reach","_law_least"]
theorem zlA {c:aD} (T:bG c) (d:De c.K "_law_lengths" Ae) (g0:IH c) (g1:B' c) (IW:QR c):QT c:=hD T.xg d fun _ _ F=>oq IV F fun _ _ _ _ _ _ hr hu nd=>⟨_,(bx (pS 3 nd (mX dY)) (bx (pF (mB rfl T.j' (aZ (pv 1))) (pN 4 nd) (bx (pS 5 nd (bQ g1 hr bz (cY (bQ g0 hr bz (cY (pv 0) (pv 4))) (bA gb (pv 4) aT)))) (bx (pS 6 nd (pI (mX (cy aT (cy aT (cY (bA xA aT aT) (bA xA aT aT))))) (bA gd (pv 5) aT))) (cU (BG (pv 3) (mW (cY (bA gd (bA sR (bA lJ (pv 5) aT) aT) (pv 6)) (bA gd (bA sR (bA gd (bA sR (bA lJ (pv 5) aT) aT) aT) aT) (pv 6))))))))) (bx (eD (pq iJ (bA gd (pv 2) aT) aT) (bx (pS 7 nd (bA gb aT (pJ (pI (pv 3) aT) aT))) (pR (kC rfl (mB rfl T.j' (aZ (pv 1))) (lj (cM Ae) IV ["_law_spots" ,"_law_least" ,"_law_many" ,"_law_one"] [3,7,1] 1 (fun _ _ _ _ _ _ nd=>⟨(pN 3 nd),(kC rfl (mB (by rfl) (by exact T.j') (aZ (pv 2))) (lj (L1 _ (cM Ae)) ["_law_spots" ,"_law_least" ,"_law_many" ,"_law_one"] ["_law_spots" ,"_law_one" ,"_law_least" ,"_law_other"] [0,3,1] 1 (fun _ _ _ _ _ _ nd=>⟨(pN 3 nd),(bQ IW hr bz (cy (pv 0) (cy (pv 1) (cY (pv 3) (pv 2)))))⟩)))⟩))))) eN) (pR (kC rfl (kB (pv 3)) (lj (cM Ae) IV ["_law_spots" ,"_law_a"] [3] 1 (fun _ _ _ _ _ _ nd=>⟨(pN 1 nd),(kC rfl (kB (pv 0)) (lj (L1 _ (cM Ae)) ["_law_spots" ,"_law_a"] ["_law_a" ,"_law_b"] [1] 1 (fun _ _ _ _ _ _ nd=>⟨(pN 1 nd),(bA gb (pB Cp (by exact T.DV) boot_abs (aZ (bA ub (pJ (pv 0) aT) (pJ (pv 1) aT)))) (pB Cp (by exact T.DV) boot_abs (aZ (bA ub (pJ (pv 0) aT) (pJ (pv 1) aT)))))⟩)))⟩))))))),(bC (q_ (m7 cG)) (bC (jO (mK gf (b7 ay)) cf (bC (dH (fZ (eL (fZ (eL ay ay)) (aA gg av sI))) cf) (bC (dH (aA dN (m7 (c7 aL (c7 aL (eL (aA xR sI sI) (aA xR sI sI))))).e.r (aA gh av sI).r) cf) (CO (pD (eL (aA gh (aA sX (aA lL av sI).r sI).r av) (aA gh (aA sX (aA gh (aA sX (aA lL av sI).r sI).r sI).r sI).r av))))))) (bC (eE (cW (aA iM (aA gh av sI).r sI)) (bC (dH (aA gg sI (aA lg (aA dN av sI).r sI).r) cf) (k_ (jG (mK gf (b7 ay)).c (by decide) gZ g_ (Or.inl ⟨rfl,rfl⟩) (jG (mK gf (b7 ay)).c (by decide) gZ g_ (Or.inl ⟨rfl,rfl⟩) (LO (LN (pK ay (pK ay (pK ay wI)))))).e))) eO) (k_ (jG (qB av) (by decide) gZ g_ (Or.inl ⟨rfl,rfl⟩) (jG (qB av) (by decide) gZ g_ (Or.inl ⟨rfl,rfl⟩) (aA gg (dc CW (bB (aA um (aA lg av sI).r (aA lg av sI).r).r)).r (dc CW (bB (aA um (aA lg av sI).r (aA lg av sI).r).r)).r)).e)))))⟩
abbrev IX (c:aD):Prop:=vX c 1 "look_at" ["lengths"] (cE c Dw)
abbrev QU:Stmt:=top 24
theorem zq4 {c:aD} (T:bG c) (d:De c.K "look_at" QU):IX c:=hD T.xg d fun _ _ F=>tG ["lengths","count","a","b","c"] F fun _ _ _ _ _ _ hr hu nd=>⟨_,(bx (pS 1 nd (pB ft T.fg aU (aZ (pv 0)))) (bx (qO eV rfl (mB rfl T.j' (aZ (pv 1))) (pN 2 nd) (cU (eD (pq xB (pI (pI (pv 0) (pv 2)) (pv 2)) aT) (cU (A3 rfl (by rfl) T.IA T.IB dA (by decide +kernel) dA A5 (aZ sM))) eN))) (bx (qO eV rfl (mB rfl T.j' (aZ (pv 1))) (pN 2 nd) (cU (qO eV rfl (mB rfl T.j' (aZ (pv 2))) (pN 3 nd) (cU (eD (pq xB (pI (pI (pv 0) (pv 2)) (pv 3)) (pI (pI (pv 0) (pv 3)) (pv 2))) (cU (A3 rfl (by rfl) T.IA T.IB dA (by decide +kernel) dA A5 (aZ sM))) eN))))) (cU (qO eV rfl (mB rfl T.j' (aZ (pv 1))) (pN 2 nd) (cU (qO eV rfl (mB rfl T.j' (aZ (pv 1))) (pN 3 nd) (cU (qO eV rfl (mB rfl T.j' (aZ (pv 1))) (pN 4 nd) (cU (eD (pq uO (bA gb (pI (pI (pv 0) (pv 2)) (pv 3)) (pI (pI (pv 0) (pv 3)) (pv 4))) (pI (pI (pv 0) (pv 2)) (pv 4))) (cU (A3 rfl (by rfl) T.IA T.IB dA (by decide +kernel) dA A5 (aZ sM))) eN))))))))))),(bC (dH (dc fF (bB av)) cf) (bC (jO (mK gf (b7 ay)) cf (eE (cW (aA xS (aA dN (aA dN av av).r av).r sI)) (Bc (c:=2) rfl (by decide) (b7 sV)) eO)) (bC (jO (mK gf (b7 ay)) cf (jO (mK gf (b7 ay)) cf (eE (cW (aA xS (aA dN (aA dN av av).r av).r (aA dN (aA dN av av).r av).r)) (Bc (c:=2) rfl (by decide) (b7 sV)) eO))) (jO (mK gf (b7 ay)) cf (jO (mK gf (b7 ay)) cf (jO (mK gf (b7 ay)) cf (eE (cW (aA ve (aA gg (aA dN (aA dN av av).r av).r (aA dN (aA dN av av).r av).r).r (aA dN (aA dN av av).r av).r)) (Bc (c:=2) rfl (by decide) (b7 sV)) eO)))))))⟩
abbrev IY (c:aD):Prop:=du c 1 "copied_lengths" ["lengths"] (By (mU c) (jH (mU c)) zF)
abbrev D4:Stmt:=top 33
theorem zjc:b_ ["lengths"] ["lengths"] (cM D4):=jS
theorem zjd {f:Addr} {fd:FuncData} (F:jM K "copied_lengths" "copied_lengths" D4 f fd) (T:Txt K mg ad)  : cz P w K mg base kT 1 f fd ["lengths"] (By (KX K ad) (jH (KX K ad)) zF):=by
 refine F.ok zjc (fun vs H Q E h=>W3 h) (fun qV A outer s H vs Q E hr h=>?_)
 have hu:=ue hr
 exact⟨_,(cU (sN (kC rfl (kB (pv 0)) (Fc (cM D4) ["lengths"] ["row"] [] 1 rfl rfl rfl (by decide +kernel) (by decide +kernel) (by decide +kernel) rfl (by decide +kernel) (fun cl C s H fp pins=>(Cj (i:=0) (show List.Nodup (["row"]:List Str) by decide +kernel) rfl (Or.inl rfl))) (fun cl C s H fp pins=>(qw wq (by rfl) T.sf eF (cy (pv 0) dY))) (Or.inl ⟨rfl,rfl⟩))))),W4 (K:=(KX K ad)) (XO:=(jH (KX K ad))) (E:=E) (np:=1) (m:=NV)
   (U6 (qB av) (by decide) gZ g_ (wK wL (uh av u5))) rfl h⟩
abbrev QV (c:aD):Prop:=tU c 2 "RoundQuestion" c.ad.j_ ["self","lengths"] (rN c 11 Hg)
abbrev QW:Stmt:=jr (top 43) 0
theorem zfG {c:aD} (T:bG c) (d:Dm c.K c.ad.j_ "__init__" "RoundQuestion.__init__" QW) (Af:IX c) (Ag:IY c):QV c:=hC T.qb8 T.qav d fun _ _ F=>tH ["self","lengths"] F fun _ _ _ _ _ _ hr hu nd=>⟨_,(bx (t_ (zB Af hr y9 (aZ (pv 1)))) (cU (pw (pv 0) (bQ Ag hr bz (aZ (pv 1))) rfl))),(rG (Di (y_ (b7 ay))) (M' (zfW T) (M_ (b7 ay))))⟩
abbrev QX (c:aD):Prop:=tU c 2 "PlaceQuestion" c.ad.kY ["self","lengths","many"] (rN c 12 Hi)
abbrev QY:Stmt:=jr (top 44) 0
theorem zfE {c:aD} (T:bG c) (d:Dm c.K c.ad.kY "__init__" "PlaceQuestion.__init__" QY) (Af:IX c) (Ag:IY c):QX c:=hC T.qb9 T.qaw d fun _ _ F=>tH ["self","lengths","many"] F fun _ _ _ _ _ _ hr hu nd=>⟨_,(bx (t_ (zB Af hr y9 (aZ (pv 1)))) (bx (pw (pv 0) (bQ Ag hr bz (aZ (pv 1))) rfl) (cU (pw (pv 0) (pv 2) rfl)))),(rG (Di (y_ (b7 ay))) (rG (M' (zfP T) (M_ (b7 ay))) (zr (zhc T) ay)))⟩
abbrev QZ (c:aD):Prop:=du c 6 "_law_question" ["_law_kind","_law_cells","_law_cell"] (cE c BO)
abbrev IZ:Stmt:=top 55
abbrev Q0:List Str:=["_law_kind","_law_cells","_law_cell","_law_many","_law_sizes_here","_law_room","_law_things","_law_lengths_here"]
theorem zkX {c:aD} (T:bG c) (d:De c.K "_law_question" IZ) (g2:DY c) (g3:Qr c) (g6:Qy c) (g9:QD c) (I0:QJ c) (I_:QN c) (Ja:QP c) (Jb:QT c) (Jc:QV c) (Jd:QX c):QZ c:=hD T.xg d fun _ _ F=>ik Q0 F fun _ _ _ _ _ _ hr hu nd=>⟨_,(bx (pS 3 nd (bA gb aT (bA gd (pv 2) aT))) (bx (pS 4 nd (bQ g3 hr bz (aZ (mY qx (pv 1) nK (mF aT))))) (bx (eD (pq iJ (pv 0) aT) (pR (zq g9 (hr.mono (by decide)) (by rfl) sT (cY (pv 3) (bQ g6 hr bz (cY (mY qx (pv 1) nK (mF aT)) (pv 3)))))) eN) (bx (eD (pq iJ (pv 0) aT) (pR (zq I0 (hr.mono (by decide)) (by rfl) sT (cY (pv 4) (bA gb aT (bA gd (bA lJ (pv 2) aT) aT))))) eN) (bx (eD (pq iJ (pv 0) aT) (bx (pS 5 nd (L7 rfl (by rfl) T.yO (aZ (pv 4)) aT)) (pR (zq I_ (hr.mono (by decide)) (by rfl) sT (cY (pv 4) (pB (Cq rfl) T.B_ boot_min (cY (bA xA aT aT) (bA gb (pv 5) (bA gd (bQ g2 hr bz (cY (pv 2) aT)) (bA gb (pv 5) aT))))))))) eN) (bx (eD (pq iJ (pv 0) aT) (bx (BH 6 nd (AW rfl T.z5 (aZ (mY qx (pv 1) nK (mF aT)))) (lj (cM IZ) Q0 ["_law_sizes_here" ,"_law_k" ,"_law_one"] [4] 2 (fun _ _ _ _ _ _ nd=>⟨(qN rfl (jm (pN 1 nd) (jm (pN 2 nd) qM))),(mW (cY (bQ g2 hr bz (cY (pv 2) (bA gb (pv 1) aT))) (pI (pv 0) (pv 1))))⟩))) (pR (zq Ja (hr.mono (by decide)) (by rfl) bz (cY (bQ g2 hr bz (cY (pv 2) aT)) (pv 6))))) eN) (bx (pS 7 nd (bQ Jb hr bz (cy (pv 1) (cY (pv 3) (bA lJ (pv 2) aT))))) (bx (eD (pq iJ (pv 0) aT) (pR (zq Jc (hr.mono (by decide)) (by rfl) sT (aZ (pv 7)))) eN) (pR (zq Jd (hr.mono (by decide)) (by rfl) sT (cY (pv 7) (bA gb aT (bA gd (bA lJ (pv 2) aT) (pv 3)))))))))))))),(bC (dH (aA gg sI (aA gh av sI).r) cf) (bC (dH (rY (b7 (qF av nQ (mM aL)).e)).e cf) (bC (eE (cW (aA iM av sI)) (da (zw rfl (pK ay (pK (rY (eL (qF av nQ (mM aL)).e ay)).e wI))).e) eO) (bC (eE (cW (aA iM av sI)) (da (zw rfl (pK ay (pK (aA gg sI (aA gh (aA lL av sI).r sI).r) wI))).e) eO) (bC (eE (cW (aA iM av sI)) (bC (dH (L8 (bB av) aL) cf) (da (zw rfl (pK ay (pK (dc C8 (pP (aA xR sI sI).r (aA gg av (aA gh (fZ (eL ay aL)).r (aA gg av sI).r).r).r)) wI))).e)) eO) (bC (eE (cW (aA iM av sI)) (bC (dH (jG (Fv (bB (qF av nQ (mM aL)).e.r)) (by decide) (rT (jN gZ (jN gZ rS))) (za (rV g_ (rV g_ y'))) (Or.inl ⟨rfl,rfl⟩) (pD (eL (fZ (eL ay (aA gg av sI))) (aA dN av av)))).e cf) (da (zw rfl (pK (fZ (eL ay aL)) (pK ay wI))).e)) eO) (bC (dH (rY (c7 ay (eL ay (aA lL av sI)))).e cf) (bC (eE (cW (aA iM av sI)) (da (zw rfl (pK ay wI)).e) eO) (da (zw rfl (pK ay (pK (aA gg sI (aA gh (aA lL av sI).r av).r) wI))).e)))))))))⟩
abbrev Q1 (c:aD):Prop:=du c 1 "heaviest" ["works","many","put"] (cE c Hk)
abbrev Je:Stmt:=top 13
abbrev Q2:List Str:=["works","many","put","sums","work","bench"]
theorem zox {c:aD} (T:bG c) (d:De c.K "heaviest" Je):Q1 c:=hD T.xg d fun _ _ F=>ik Q2 F fun _ _ _ _ _ _ hr hu nd=>⟨_,(bx (BH 3 nd (mB rfl T.j' (aZ (pv 1))) (lj (cM Je) Q2 ["bench"] [] 1 (fun _ _ _ _ _ _ nd=>⟨(pN 0 nd),aT⟩))) (bx (pF (MZ rfl T.P0 (cY (pv 0) (pv 2))) (qN rfl (jm (pN 4 nd) (jm (pN 5 nd) qM))) (cU (J6 (pv 3) (pv 5) Mh (pv 4) J7 Cw))) (pR (pB (Me rfl) T.yO boot_max (aZ (pv 3)))))),(bC (q_ (jG (mK gf (b7 ay)).c (by decide) gZ g_ (Or.inl ⟨rfl,rfl⟩) aL)) (bC (jO (M0 (eL ay ay)) (rT (jN cf (jN cf rS))) (LA ay ay)) (da (dc Gd (bB av)))))⟩
abbrev D5 (c:aD):Prop:=fW c 2 "low" c.ad.a7 ["self","case"] (cE c wW)
abbrev Q3:Stmt:=jr (top 40) 3
theorem zhz {c:aD} (T:bG c) (d:Dm c.K c.ad.a7 "low" "BenchQuestion.low" Q3) (Jf:Q1 c):D5 c:=hM T.tR d fun _ _ F=>ik ["self","case","so_far"] F fun _ _ _ _ _ _ hr hu nd=>⟨_,(bx (pS 2 nd (mY qx (gJ (pv 0) rfl) nK (mF (pB ft T.fg aU (aZ (pv 1)))))) (pR (pB (EA rfl) T.yO boot_max (cY (gJ (pv 0) rfl) (bQ Jf hr bz (cy (pv 2) (cY (gJ (pv 0) rfl) (pv 1)))))))),(bC (dH (qF (hG (z9 T) av).r nQ (mM (dc fF (bB av)))).e cf) (da (dc Gb (pP (hG (zvC T) av).r (fZ (c7 ay (eL (hG (Aa T) av) ay))).r))))⟩
abbrev Jg (c:aD):Prop:=fW c 1 "free" c.ad.a8 ["self","case"] (gY c zG)
abbrev Jh:Stmt:=jr (top 41) 1
abbrev Q4:List Str:=["self","case","left","size","chosen"]
theorem zio {c:aD} (T:bG c) (d:Dm c.K c.ad.a8 "free" "BinQuestion.free" Jh):Jg c:=hM T.uE d fun _ _ F=>oq Q4 F fun _ _ _ _ _ _ hr hu nd=>⟨_,(bx (BH 2 nd (mB rfl T.j' (aZ (pB Mj T.fg aU (aZ (qw (M4 rfl) (by rfl) T.P1 boot_set (aZ (pv 1))))))) (lj (cM Jh) Q4 ["self" ,"number"] [0] 1 (fun _ _ _ _ _ _ nd=>⟨(pN 1 nd),(gJ (pv 0) rfl)⟩))) (bx (pF (MZ rfl T.P0 (cY (gJ (pv 0) rfl) (pv 1))) (qN rfl (jm (pN 3 nd) (jm (pN 4 nd) qM))) (cU (J6 (pv 2) (pv 4) Mh (pv 3) Se Cw))) (pR (pv 2)))),(bC (q_ (jG (mK gf (b7 (M5 (b7 ay)))).c (by decide) gZ g_ (Or.inl ⟨rfl,rfl⟩) (hG (IE T) av))) (bC (jO (M0 (eL (hG (z9 T) av) ay)) (rT (jN cf (jN cf rS))) (LA ay ay)) Lv))⟩
abbrev D6 (c:aD):Prop:=ID c 3 "low" c.ad.a8 ["self","case"] (cE c wX)
abbrev Q5:Stmt:=jr (top 41) 4
theorem ziJ {c:aD} (T:bG c) (d:Dm c.K c.ad.a8 "low" "BinQuestion.low" Q5) (Ac:IM c) (Ad:IQ c) (Ah:Jg c):D6 c:=hM T.uE d fun _ _ F=>tG ["self","case","left","beyond"] F fun _ _ _ _ _ _ hr hu nd=>⟨_,(bx (pS 2 nd (pM Ah hr bz (pv 0) (aZ (pv 1)))) (bx (pS 3 nd (bA ub (pB (xZ rfl) T.yN boot_sum (aZ (mY qx (gJ (pv 0) rfl) (mF (pB ft T.fg aU (aZ (pv 1)))) nK))) (pB (xZ rfl) T.yN boot_sum (aZ (pv 2))))) (pR (bA gb (pB ft T.fg aU (aZ (pv 2))) (pB (EA rfl) T.yO boot_max (cY aT (bQ Ad hr bz (aZ (zB Ac hr y9 (cY (pv 3) (gJ (pv 0) rfl))))))))))),(bC (dH (kL rfl ay (b7 ay)).e cf) (bC (dH (aA um (dc xY (bB (qF (hG (z9 T) av).r (mM (dc fF (bB av))) nQ).e.r)).r (dc xY (bB av)).r) cf) (da (aA gg (dc fF (bB av)).r (dc Gb (pP sI (fZ (b7 (y_ (eL ay (hG (IE T) av))))).r)).r))))⟩
abbrev Ca (c:aD):Prop:=du c 1 "chosen_by" ["case","choice"] (gY c zH)
abbrev Ji:Stmt:=top 35
abbrev Q6:List Str:=["case","choice"]
theorem znY {c:aD} (T:bG c) (d:De c.K "chosen_by" Ji):Ca c:=hD T.xg d fun _ _ F=>oq Q6 F fun _ _ _ _ _ _ hr hu nd=>⟨_,(pR (kC rfl (Wh rfl T.z5 (aZ (pv 0))) (zC (cM Ji) Q6 ["choice" ,"number" ,"made"] [1] 2 (fun _ _ _ _ _ _ nd=>⟨(qN rfl (jm (pN 1 nd) (jm (pN 2 nd) qM))),(pv 1),(pq iJ (pv 2) (pv 0))⟩)))),(k_ (jG (Wk (b7 ay)).c (by decide) (rT (jN gZ (jN gZ rS))) (za (rV g_ (rV g_ y'))) (Or.inr ⟨_,_,rfl,rfl,(cW (aA iM av av))⟩) ay))⟩
abbrev Jj (c:aD):Prop:=fW c 2 "not_covered" c.ad.a6 ["self","case"] (gY c Dx)
abbrev Jk:Stmt:=jr (top 39) 1
abbrev Q7:List Str:=["self","case","held","number","thing"]
theorem zeN {c:aD} (T:bG c) (d:Dm c.K c.ad.a6 "not_covered" "CoverQuestion.not_covered" Jk) (sh:Ca c):Jj c:=hM T.uD d fun _ _ F=>oq Q7 F fun _ _ _ _ _ _ hr hu nd=>⟨_,(bx (pS 2 nd EX) (bx (pF (kB (bQ sh hr bz (cY (pv 1) aT))) (pN 3 nd) (cU (pF (kB (pJ (pI (gJ (pv 0) rfl) (pv 3)) aT)) (pN 4 nd) (cU (EW hu (pv 2) (pv 4) wh rfl))))) (pR (kC rfl (mB rfl T.j' (aZ (gJ (pv 0) rfl))) (zC (cM Jk) Q7 ["held" ,"thing"] [2] 1 (fun _ _ _ _ _ _ nd=>⟨(pN 1 nd),(pv 1),(El (EV hu (pv 1) (pv 0)))⟩)))))),(bC (q_ kG) (bC (jO (u6 (rY (eL ay aL)).e) cf (jO (u6 (aA lg (aA dN (hG (DW T) av).r av).r sI)) cf (FC ay wD))) (k_ (jG (mK gf (b7 (hG (Aa T) av))).c (by decide) gZ g_ (Or.inr ⟨_,_,rfl,rfl,(pE (FD ay av))⟩) ay))))⟩
abbrev Q8 (c:aD):Prop:=du c 1 "price_of" ["sets","chosen"] (cE c Hn)
abbrev Jl:Stmt:=top 22
abbrev Q9:List Str:=["sets","chosen"]
theorem zpk {c:aD} (T:bG c) (d:De c.K "price_of" Jl):Q8 c:=hD T.xg d fun _ _ F=>ik Q9 F fun _ _ _ _ _ _ hr hu nd=>⟨_,(pR (pB (xZ rfl) T.yN boot_sum (aZ (kC rfl (kB (pv 1)) (lj (cM Jl) Q9 ["sets" ,"number"] [0] 1 (fun _ _ _ _ _ _ nd=>⟨(pN 1 nd),(pJ (pI (pv 0) (pv 1)) aT)⟩)))))),(da (dc xY (bB (jG (qB av) (by decide) gZ g_ (Or.inl ⟨rfl,rfl⟩) (aA lg (aA dN av av).r sI)).e.r)))⟩
abbrev D7 (c:aD):Prop:=fW c 3 "low" c.ad.a6 ["self","case"] (cE c wY)
abbrev Jm:Stmt:=jr (top 39) 4
abbrev Q_:List Str:=["self","case","still","besides"]
theorem zhI {c:aD} (T:bG c) (d:Dm c.K c.ad.a6 "low" "CoverQuestion.low" Jm) (sh:Ca c) (Ai:Jj c) (Jn:Q8 c):D7 c:=hM T.uD d fun _ _ F=>ik Q_ F fun _ _ _ _ _ _ hr hu nd=>⟨_,(bx (pS 2 nd (pI (gJ (pv 0) rfl) (pB ft T.fg aU (aZ (pv 1))))) (bx (pS 3 nd (L7 rfl (by rfl) T.yO (aZ (kC rfl (kB (pM Ai hr bz (pv 0) (aZ (pv 1)))) (lj (cM Jm) Q_ ["still" ,"thing"] [2] 1 (fun _ _ _ _ _ _ nd=>⟨(pN 1 nd),(K8 (by exact hu) (pv 0) (pv 1) aT L9)⟩)))) aT)) (pR (bA gb (bQ Jn hr bz (cY (gJ (pv 0) rfl) (bQ sh hr bz (cY (pv 1) aT)))) (pv 3))))),(bC (dH (aA dN (hG (Qj T) av).r (dc fF (bB av)).r) cf) (bC (dH (L8 (bB (jG (qB (kL rfl ay (b7 ay)).e.r) (by decide) gZ g_ (Or.inl ⟨rfl,rfl⟩) (L' av ay aL)).e.r) aL) cf) (da (aA gg (fZ (eL (hG (DW T) av) (rY (eL ay aL)).e)).r av))))⟩
abbrev Jo (c:aD):Prop:=du c 1 "behind_last" ["case"] (cE c yo)
abbrev Ra:Stmt:=top 36
theorem zlH {c:aD} (T:bG c) (d:De c.K "behind_last" Ra):Jo c:=hD T.xg d fun _ _ F=>ik ["case"] F fun _ _ _ _ _ _ hr hu nd=>⟨_,(pR (Sd (pq y4 (pB ft T.fg aU (aZ (pv 0))) aT) (bA gb (pJ (pv 0) (qP qQ aT)) aT) aT)),(da (TZ (cW (aA ze (dc fF (bB av)).r sI)) (aA gg (aA lg av (qX rg sI).r).r sI) aL))⟩
abbrev Rb (c:aD):Prop:=du c 1 "nearest" ["lengths","place","some"] (cE c Hq)
abbrev Jp:Stmt:=top 28
abbrev Rc:List Str:=["lengths","place","some"]
theorem zqN {c:aD} (T:bG c) (d:De c.K "nearest" Jp):Rb c:=hD T.xg d fun _ _ F=>ik Rc F fun _ _ _ _ _ _ hr hu nd=>⟨_,(pR (pB (UT rfl) T.B_ boot_min (aZ (kC rfl (kB (pv 2)) (lj (cM Jp) Rc ["lengths" ,"place" ,"other"] [0,1] 1 (fun _ _ _ _ _ _ nd=>⟨(pN 2 nd),(pI (pI (pv 0) (pv 1)) (pv 2))⟩)))))),(da (dc Gd (bB (jG (qB av) (by decide) gZ g_ (Or.inl ⟨rfl,rfl⟩) (aA dN (aA dN av av).r av)).e.r)))⟩
abbrev Rf (c:aD):Prop:=du c 2 "reach" ["lengths","some"] (cE c Dy)
abbrev Jq:Stmt:=top 29
abbrev Rh:List Str:=["lengths","some"]
theorem zve {c:aD} (T:bG c) (d:De c.K "reach" Jq) (Jr:Rb c):Rf c:=hD T.xg d fun _ _ F=>ik Rh F fun _ _ _ _ _ _ hr hu nd=>⟨_,(pR (pB (Me rfl) T.yO boot_max (aZ (kC rfl (mB rfl T.j' (aZ (pB ft T.fg aU (aZ (pv 0))))) (lj (cM Jq) Rh ["lengths" ,"some" ,"place"] [0,1] 1 (fun _ _ _ _ _ _ nd=>⟨(pN 2 nd),(bQ Jr hr bz (cy (pv 0) (cY (pv 2) (pv 1))))⟩)))))),(da (dc Gd (bB (jG (mK gf (b7 (dc fF (bB av)))).c (by decide) gZ g_ (Or.inl ⟨rfl,rfl⟩) (fZ (c7 ay (eL ay ay)))).e.r)))⟩
abbrev D8 (c:aD):Prop:=fW c 3 "low" c.ad.kY ["self","case"] (cE c wZ)
abbrev Ri:Stmt:=jr (top 44) 3
theorem zhH {c:aD} (T:bG c) (d:Dm c.K c.ad.kY "low" "PlaceQuestion.low" Ri) (Aj:Jo c) (Js:Rf c):D8 c:=hM T.yQ d fun _ _ F=>ik ["self","case","some"] F fun _ _ _ _ _ _ hr hu nd=>⟨_,(bx (pS 2 nd (qw wq (by rfl) T.sf eF (aZ (pv 1)))) (bx (eD (pq uO (pB ft T.fg aU (aZ (pv 1))) (gJ (pv 0) rfl)) (cU (J4 (i:=2) nd rfl (by first|exact Or.inl rfl|exact Or.inr rfl) (qw (Mr rfl) (by rfl) T.sf eF (aZ (Mp (by rfl) T.j' (cY (bQ Aj hr bz (aZ (pv 1))) (pB ft T.fg aU (aZ (gJ (pv 0) rfl))))))) W9)) eN) (pR (bQ Js hr bz (cY (gJ (pv 0) rfl) (pv 2)))))),(bC (q_ (wK wL (bB av))) (bC (eE (cW (aA ve (dc fF (bB av)).r (hG (Aa T) av).r)) (W_ (Ms (eL (fZ (b7 ay)) (dc fF (bB (hG (z_ T) av).r))))) eO) (da (LO (pK (hG (z_ T) av) (LN wI))))))⟩
abbrev Rj (c:aD):Prop:=fW c 1 "answer" c.ad.j_ ["self","case"] (gY c Dz)
abbrev Rk:Stmt:=jr (top 43) 4
theorem zgd {c:aD} (T:bG c) (d:Dm c.K c.ad.j_ "answer" "RoundQuestion.answer" Rk):Rj c:=hM T.z8 d fun _ _ F=>oq ["self","case"] F fun _ _ _ _ _ _ hr hu nd=>⟨_,(pR (bA vo (mX (aZ aT)) (qw wq (by rfl) T.sf eF (aZ (pv 1))))),(k_ (u4 vp (m7 (b7 aL)).e.r (wK wL (bB av)).e.r))⟩
abbrev Rl (c:aD):Prop:=du c 1 "way_length" ["lengths","way"] (cE c DA)
abbrev Jt:Stmt:=top 25
abbrev Rm:List Str:=["lengths","way"]
theorem zmB {c:aD} (T:bG c) (d:De c.K "way_length" Jt):Rl c:=hD T.xg d fun _ _ F=>ik Rm F fun _ _ _ _ _ _ hr hu nd=>⟨_,(pR (pB (xZ rfl) T.yN boot_sum (aZ (kC rfl (mB rfl T.j' (aZ (bA ub (pB ft T.fg aU (aZ (pv 1))) aT))) (lj (cM Jt) Rm ["lengths" ,"way" ,"k"] [0,1] 1 (fun _ _ _ _ _ _ nd=>⟨(pN 2 nd),(pI (pI (pv 0) (pI (pv 1) (pv 2))) (pI (pv 1) (bA gb (pv 2) aT)))⟩)))))),(da (dc xY (bB (jG (mK gf (b7 (aA um (dc fF (bB av)).r sI))).c (by decide) gZ g_ (Or.inl ⟨rfl,rfl⟩) (aA dN (aA dN av (aA dN av av).r).r (aA dN av (aA gg av sI).r).r)).e.r)))⟩
abbrev Ro (c:aD):Prop:=du c 2 "round_length" ["lengths","way"] (cE c Hr)
abbrev Rp:Stmt:=top 26
theorem zkF {c:aD} (T:bG c) (d:De c.K "round_length" Rp) (Ju:Rl c):Ro c:=hD T.xg d fun _ _ F=>ik ["lengths","way"] F fun _ _ _ _ _ _ hr hu nd=>⟨_,(bx (eD (pq iJ (pB ft T.fg aU (aZ (pv 1))) aT) (pR aT) eN) (pR (bA gb (bQ Ju hr bz (cY (pv 0) (pv 1))) (pI (pI (pv 0) (pI (pv 1) (qP qQ aT))) (pI (pv 1) aT))))),(bC (eE (cW (aA iM (dc fF (bB av)).r sI)) (da aL) eO) (da (aA gg (fZ (eL ay ay)).r (aA dN (aA dN av (aA dN av (qX rg sI).r).r).r (aA dN av sI).r).r)))⟩
abbrev D_ (c:aD):Prop:=fW c 3 "low" c.ad.j_ ["self","case"] (cE c w8)
abbrev Rq:Stmt:=jr (top 43) 3
theorem zhJ {c:aD} (T:bG c) (d:Dm c.K c.ad.j_ "low" "RoundQuestion.low" Rq) (Jv:Rj c) (Jw:Ro c):D_ c:=hM T.z8 d fun _ _ F=>ik ["self","case"] F fun _ _ _ _ _ _ hr hu nd=>⟨_,(pR (bQ Jw hr bz (cY (gJ (pv 0) rfl) (pM Jv hr bz (pv 0) (aZ (pv 1)))))),(da (fZ (eL (hG (z_ T) av) (kL rfl ay (b7 ay)).e)))⟩
abbrev Ea (c:aD):Prop:=fW c 2 "low" c.ad.a9 ["self","case"] (cE c w9)
abbrev Jx:Stmt:=jr (top 42) 3
abbrev Rr:List Str:=["self","case"]
theorem zim {c:aD} (T:bG c) (d:Dm c.K c.ad.a9 "low" "SackQuestion.low" Jx) (sh:Ca c):Ea c:=hM T.yP d fun _ _ F=>ik Rr F fun _ _ _ _ _ _ hr hu nd=>⟨_,(pR (pB (xZ rfl) T.yN boot_sum (aZ (kC rfl (kB (bQ sh hr bz (cY (pv 1) aT))) (lj (cM Jx) Rr ["self" ,"number"] [0] 1 (fun _ _ _ _ _ _ nd=>⟨(pN 1 nd),(pJ (pI (gJ (pv 0) rfl) (pv 1)) aT)⟩)))))),(da (dc xY (bB (jG (qB (rY (eL ay aL)).e.r) (by decide) gZ g_ (Or.inl ⟨rfl,rfl⟩) (aA lg (aA dN (hG (DX T) av).r av).r sI)).e.r)))⟩
abbrev yR (c:aD):Prop:=fW c 1 "steps" c.ad.a7 ["self"] (cE c vH)
abbrev Rt:Stmt:=jr (top 40) 1
theorem zgR {c:aD} (T:bG c) (d:Dm c.K c.ad.a7 "steps" "BenchQuestion.steps" Rt):yR c:=hM T.tR d fun _ _ F=>ik ["self"] F fun _ _ _ _ _ _ hr hu nd=>⟨_,(pR (pB ft T.fg aU (aZ (gJ (pv 0) rfl)))),(da (dc fF (bB (hG (z9 T) av).r)))⟩
abbrev yS (c:aD):Prop:=fW c 1 "steps" c.ad.a8 ["self"] (cE c vI)
abbrev Ru:Stmt:=jr (top 41) 2
theorem zhA {c:aD} (T:bG c) (d:Dm c.K c.ad.a8 "steps" "BinQuestion.steps" Ru):yS c:=hM T.uE d fun _ _ F=>ik ["self"] F fun _ _ _ _ _ _ hr hu nd=>⟨_,(pR (pB ft T.fg aU (aZ (gJ (pv 0) rfl)))),(da (dc fF (bB (hG (z9 T) av).r)))⟩
abbrev yT (c:aD):Prop:=fW c 1 "steps" c.ad.a6 ["self"] (cE c vJ)
abbrev Rv:Stmt:=jr (top 39) 2
theorem zgS {c:aD} (T:bG c) (d:Dm c.K c.ad.a6 "steps" "CoverQuestion.steps" Rv):yT c:=hM T.uD d fun _ _ F=>ik ["self"] F fun _ _ _ _ _ _ hr hu nd=>⟨_,(pR (pB ft T.fg aU (aZ (gJ (pv 0) rfl)))),(da (dc fF (bB (hG (DW T) av).r)))⟩
abbrev yU (c:aD):Prop:=fW c 1 "steps" c.ad.kY ["self"] (cE c vK)
abbrev Rw:Stmt:=jr (top 44) 1
theorem zgI {c:aD} (T:bG c) (d:Dm c.K c.ad.kY "steps" "PlaceQuestion.steps" Rw):yU c:=hM T.yQ d fun _ _ F=>ik ["self"] F fun _ _ _ _ _ _ hr hu nd=>⟨_,(pR (gJ (pv 0) rfl)),(da (hG (Aa T) av))⟩
abbrev yV (c:aD):Prop:=fW c 1 "steps" c.ad.j_ ["self"] (cE c vL)
abbrev Rx:Stmt:=jr (top 43) 1
theorem zgJ {c:aD} (T:bG c) (d:Dm c.K c.ad.j_ "steps" "RoundQuestion.steps" Rx):yV c:=hM T.z8 d fun _ _ F=>ik ["self"] F fun _ _ _ _ _ _ hr hu nd=>⟨_,(pR (bA ub (pB ft T.fg aU (aZ (gJ (pv 0) rfl))) aT)),(da (aA um (dc fF (bB (hG (z_ T) av).r)).r sI))⟩
abbrev yW (c:aD):Prop:=fW c 1 "steps" c.ad.a9 ["self"] (cE c vM)
abbrev Ry:Stmt:=jr (top 42) 1
theorem zg8 {c:aD} (T:bG c) (d:Dm c.K c.ad.a9 "steps" "SackQuestion.steps" Ry):yW c:=hM T.yP d fun _ _ F=>ik ["self"] F fun _ _ _ _ _ _ hr hu nd=>⟨_,(pR (pB ft T.fg aU (aZ (gJ (pv 0) rfl)))),(da (dc fF (bB (hG (DX T) av).r)))⟩
abbrev Eb (c:aD):Prop:=fW c 1 "ways" c.ad.a7 ["self","case"] (gY c zI)
abbrev Rz:Stmt:=jr (top 40) 2
theorem zgX {c:aD} (T:bG c) (d:Dm c.K c.ad.a7 "ways" "BenchQuestion.ways" Rz):Eb c:=hM T.tR d fun _ _ F=>oq ["self","case","used"] F fun _ _ _ _ _ _ hr hu nd=>⟨_,(bx (pS 2 nd (pB Mj T.fg aU (aZ (qw (M4 rfl) (by rfl) T.P1 boot_set (aZ (pv 1)))))) (pR (qw (UO rfl) (by rfl) T.sf eF (aZ (Ma (by rfl) T.j' (aZ (pB (Cq rfl) T.B_ boot_min (cY (bA gb (pv 2) aT) (gJ (pv 0) rfl))))))))),(bC (dH (M5 (b7 ay)) cf) (k_ (UQ (b7 (dc C8 (pP (aA gg av sI).r (hG (Aa T) av).r))))))⟩
abbrev Ec (c:aD):Prop:=fW c 2 "ways" c.ad.a8 ["self","case"] (gY c zJ)
abbrev Jy:Stmt:=jr (top 41) 3
abbrev RA:List Str:=["self","case","left","size"]
theorem zin {c:aD} (T:bG c) (d:Dm c.K c.ad.a8 "ways" "BinQuestion.ways" Jy) (Ah:Jg c):Ec c:=hM T.uE d fun _ _ F=>oq RA F fun _ _ _ _ _ _ hr hu nd=>⟨_,(bx (pS 2 nd (pM Ah hr bz (pv 0) (aZ (pv 1)))) (bx (pS 3 nd (pI (gJ (pv 0) rfl) (pB ft T.fg aU (aZ (pv 1))))) (pR (bA vo (kC rfl (AW rfl T.z5 (aZ (pv 2))) (zC (cM Jy) RA ["size" ,"number" ,"space"] [3] 2 (fun _ _ _ _ _ _ nd=>⟨(qN rfl (jm (pN 1 nd) (jm (pN 2 nd) qM))),(pv 1),(pq Ki (pv 0) (pv 2))⟩))) (mX (aZ (pB ft T.fg aU (aZ (pv 2))))))))),(bC (dH (kL rfl ay (b7 ay)).e cf) (bC (dH (aA dN (hG (z9 T) av).r (dc fF (bB av)).r) cf) (k_ (u4 vp (jG (Fv (bB av)) (by decide) (rT (jN gZ (jN gZ rS))) (za (rV g_ (rV g_ y'))) (Or.inr ⟨_,_,rfl,rfl,(cW (aA LD av av))⟩) ay).e.r (m7 (b7 (dc fF (bB av)))).e.r))))⟩
abbrev Ed (c:aD):Prop:=fW c 3 "ways" c.ad.a6 ["self","case"] (gY c zL)
abbrev RB:Stmt:=jr (top 39) 3
theorem zg5 {c:aD} (T:bG c) (d:Dm c.K c.ad.a6 "ways" "CoverQuestion.ways" RB) (Ai:Jj c):Ed c:=hM T.uD d fun _ _ F=>oq ["self","case","later","here","thing"] F fun _ _ _ _ _ _ hr hu nd=>⟨_,(bx (pS 2 nd (pI (gJ (pv 0) rfl) (bA gb (pB ft T.fg aU (aZ (pv 1))) aT))) (bx (pS 3 nd (pJ (pI (gJ (pv 0) rfl) (pB ft T.fg aU (aZ (pv 1)))) aT)) (bx (pF (kB (pM Ai hr bz (pv 0) (aZ (pv 1)))) (pN 4 nd) (cU (eD (Eo (nG KJ (pv 4) (pv 3) (by with_unfolding_all rfl)) (Em (El (EV hu (pv 4) (pv 2))))).pt (pR (mX (aZ aT))) eN))) (pR (mX (cY aT aT)))))),(bC (dH (aA dN (hG (Qj T) av).r (aA gg (dc fF (bB av)).r sI).r) cf) (bC (dH (aA lg (aA dN (hG (DW T) av).r (dc fF (bB av)).r).r sI) cf) (bC (jO (u6 (kL rfl ay (b7 ay)).e) cf (eE (Fq (cW (aA L_ av av)) (pE (FD ay av))) (k_ (m7 (b7 aL))) eO)) (k_ (m7 (eL aL aL))))))⟩
abbrev Ee (c:aD):Prop:=fW c 2 "ways" c.ad.kY ["self","case"] (gY c zM)
abbrev RC:Stmt:=jr (top 44) 2
theorem zhh {c:aD} (T:bG c) (d:Dm c.K c.ad.kY "ways" "PlaceQuestion.ways" RC) (Aj:Jo c):Ee c:=hM T.yQ d fun _ _ F=>oq ["self","case","to_come"] F fun _ _ _ _ _ _ hr hu nd=>⟨_,(bx (pS 2 nd (bA ub (gJ (pv 0) rfl) (pB ft T.fg aU (aZ (pv 1))))) (pR (qw (Mr rfl) (by rfl) T.sf eF (aZ (Mp (by rfl) T.j' (cY (bQ Aj hr bz (aZ (pv 1))) (bA gb (bA ub (pB ft T.fg aU (aZ (gJ (pv 0) rfl))) (pv 2)) aT))))))),(bC (dH (aA um (hG (Aa T) av).r (dc fF (bB av)).r) cf) (k_ (Ms (eL (fZ (b7 ay)) (aA gg (aA um (dc fF (bB (hG (z_ T) av).r)).r av).r sI)))))⟩
abbrev Ef (c:aD):Prop:=fW c 1 "ways" c.ad.j_ ["self","case"] (gY c zO)
abbrev Jz:Stmt:=jr (top 43) 2
abbrev RD:List Str:=["self","case"]
theorem zgW {c:aD} (T:bG c) (d:Dm c.K c.ad.j_ "ways" "RoundQuestion.ways" Jz):Ef c:=hM T.z8 d fun _ _ F=>oq RD F fun _ _ _ _ _ _ hr hu nd=>⟨_,(pR (kC rfl (Sh rfl T.j' (cY aT (pB ft T.fg aU (aZ (gJ (pv 0) rfl))))) (zC (cM Jz) RD ["case" ,"place"] [1] 1 (fun _ _ _ _ _ _ nd=>⟨(pN 1 nd),(pv 1),(nG S8 (pv 1) (pv 0) (by with_unfolding_all rfl))⟩)))),(k_ (jG (T1 Fu (eL aL (dc fF (bB (hG (z_ T) av).r)))).c (by decide) gZ g_ (Or.inr ⟨_,_,rfl,rfl,(cW (aA UM av av))⟩) ay))⟩
abbrev Eg (c:aD):Prop:=fW c 2 "ways" c.ad.a9 ["self","case"] (gY c zP)
abbrev JA:Stmt:=jr (top 42) 2
abbrev RE:List Str:=["self","case","taken"]
theorem zhK {c:aD} (T:bG c) (d:Dm c.K c.ad.a9 "ways" "SackQuestion.ways" JA) (sh:Ca c):Eg c:=hM T.yP d fun _ _ F=>oq RE F fun _ _ _ _ _ _ hr hu nd=>⟨_,(bx (pS 2 nd (pB (xZ rfl) T.yN boot_sum (aZ (kC rfl (kB (bQ sh hr bz (cY (pv 1) aT))) (lj (cM JA) RE ["self" ,"number"] [0] 1 (fun _ _ _ _ _ _ nd=>⟨(pN 1 nd),(pJ (pI (gJ (pv 0) rfl) (pv 1)) aT)⟩)))))) (bx (eD (pq Ki (bA gb (pv 2) (pJ (pI (gJ (pv 0) rfl) (pB ft T.fg aU (aZ (pv 1)))) aT)) (gJ (pv 0) rfl)) (pR (mX (cY aT aT))) eN) (pR (mX (aZ aT))))),(bC (dH (dc xY (bB (jG (qB (rY (eL ay aL)).e.r) (by decide) gZ g_ (Or.inl ⟨rfl,rfl⟩) (aA lg (aA dN (hG (DX T) av).r av).r sI)).e.r)) cf) (bC (eE (cW (aA LD (aA gg av (aA lg (aA dN (hG (DX T) av).r (dc fF (bB av)).r).r sI).r).r (hG (IE T) av).r)) (k_ (m7 (eL aL aL))) eO) (k_ (m7 (b7 aL)))))⟩
abbrev JB (c:aD):Prop:=du c 4 "gone_on" ["question","case"] (gY c w_)
abbrev JC:Stmt:=top 17
abbrev RF:List Str:=["question","case"]
theorem zry {c:aD} (T:bG c) (d:De c.K "gone_on" JC) (v5:Eb c) (v8:Ec c) (v9:Ed c) (v_:Ee c) (wa:Ef c) (wb:Eg c):JB c:=hD T.xg d fun _ _ F=>oq RF F fun _ _ _ _ _ _ hr hu nd=>⟨_,(pR (kC rfl (L3 rfl T.Iz (aZ (cR (pM v5 hr bz (pv 0) (aZ (pv 1))) (cR (pM v8 hr bz (pv 0) (aZ (pv 1))) (cR (pM v9 hr bz (pv 0) (aZ (pv 1))) (cR (pM v_ hr bz (pv 0) (aZ (pv 1))) (cR (pM wa hr bz (pv 0) (aZ (pv 1))) (pM wb hr bz (pv 0) (aZ (pv 1)))))))))) (lj (cM JC) RF ["case" ,"way"] [1] 1 (fun _ _ _ _ _ _ nd=>⟨(pN 1 nd),(bA Bj (pv 0) (mW (aZ (pv 1))))⟩)))),(k_ (jG (UD (bB (pO (kL rfl ay (b7 ay)) (pO (kL rfl ay (b7 ay)) (pO (kL rfl ay (b7 ay)) (pO (kL rfl ay (b7 ay)) (pO (kL rfl ay (b7 ay)) (kL rfl ay (b7 ay))))))).e.r)) (by decide) gZ g_ (Or.inl ⟨rfl,rfl⟩) (aA Bl av (pD (b7 ay)).r)))⟩
abbrev RG (c:aD):Prop:=yc c.P c.w c.K c.mg c.base (qW c.P c.w) 5 "best_by_cases" ["question","most"] (cE c BQ) (.int 2000)
abbrev JD:Stmt:=top 18
theorem bh:b_ ["question","most","best","cost","closed","looked_at","waiting","case","least"] ["question","most"] (cM JD):=jS
theorem zj4 {f:Addr} {fd:FuncData} (F:rA K "best_by_cases" "best_by_cases" JD f fd (.int 2000)) (T:Txt K mg ad) (tV:D5 ⟨P,w,K,mg,base,ad⟩) (tW:D6 ⟨P,w,K,mg,base,ad⟩) (tX:D7 ⟨P,w,K,mg,base,ad⟩) (tY:D8 ⟨P,w,K,mg,base,ad⟩) (tZ:D_ ⟨P,w,K,mg,base,ad⟩) (t6:Ea ⟨P,w,K,mg,base,ad⟩) (ni:yR ⟨P,w,K,mg,base,ad⟩) (nj:yS ⟨P,w,K,mg,base,ad⟩) (nq:yT ⟨P,w,K,mg,base,ad⟩) (nr:yU ⟨P,w,K,mg,base,ad⟩) (nu:yV ⟨P,w,K,mg,base,ad⟩) (ny:yW ⟨P,w,K,mg,base,ad⟩) (Ak:JB ⟨P,w,K,mg,base,ad⟩):cz P w K mg base (qW P w) 5 f fd ["question","most"] (qA (KX K ad) (jH (KX K ad)) BQ):=by
 refine F.CI bh (fun vs H Q E h=>CU h) (fun qV A outer s H vs Q E hr h=>?_)
 have hu:=ue hr
 exact⟨_,(bx (qv (i:=2) bh.nd rfl (by first|exact Or.inl rfl|exact Or.inr rfl) wj)
   (bx (qv (i:=3) bh.nd rfl (by first|exact Or.inl rfl|exact Or.inr rfl) wj)
   (bx (qv (i:=4) bh.nd rfl (by first|exact Or.inl rfl|exact Or.inr rfl) (mX dY))
   (bx (qv (i:=5) bh.nd rfl (by first|exact Or.inl rfl|exact Or.inr rfl) aT)
   (bx (qv (i:=6) bh.nd rfl (by first|exact Or.inl rfl|exact Or.inr rfl) (mX (cy (mW dY) dY)))
   (bx (Es eV (nG y4 (xD ft (by rfl) T.fg aU (cy (pv 6) dY)) aT (qR _))
   (bx (J4 (i:=5) bh.nd rfl (by first|exact Or.inl rfl|exact Or.inr rfl) aT J7)
   (bx (eD (nG y4 (pv 5) (pv 1) (qR _))
   (cU (A3 rfl (by rfl) T.qbl T.qbw dA (by decide +kernel) dA A5 (cy sM dY)))
   eN)
   (bx (qv (i:=7) bh.nd rfl (by first|exact Or.inl rfl|exact Or.inr rfl) (EM gz oJ oN ES (pv 6)))
   (bx (qv (i:=8) bh.nd rfl (by first|exact Or.inl rfl|exact Or.inr rfl) (cR (rC tV (hr.mono (by decide)) bz (pv 0) (cy (pv 7) dY)) (cR (rC tW (hr.mono (by decide)) sT (pv 0) (cy (pv 7) dY)) (cR (rC tX (hr.mono (by decide)) bz (pv 0) (cy (pv 7) dY)) (cR (rC tY (hr.mono (by decide)) bz (pv 0) (cy (pv 7) dY)) (cR (rC tZ (hr.mono (by decide)) bz (pv 0) (cy (pv 7) dY)) (rC t6 (hr.mono (by decide)) bz (pv 0) (cy (pv 7) dY))))))))
   (cU (eD ((Eo (nG Kk (pv 3) wj (qR _)) (Em (nG Ey (pv 8) (pv 3) (qR _))))).pt
   (cU (t_ (AS gz oI oM CA (pv 4) (cy (pv 7) dY))))
   (cU (eD (nG iJ (xD ft (by rfl) T.fg aU (cy (pv 7) dY)) (cR (rD ni (hr.mono (by decide)) bz (pv 0)) (cR (rD nj (hr.mono (by decide)) bz (pv 0)) (cR (rD nq (hr.mono (by decide)) bz (pv 0)) (cR (rD nr (hr.mono (by decide)) bz (pv 0)) (cR (rD nu (hr.mono (by decide)) bz (pv 0)) (rD ny (hr.mono (by decide)) bz (pv 0))))))) (qR _))
   (bx (t_ (AS gz oI oM CA (pv 4) (cy (pv 7) dY)))
   (bx (qv (i:=2) bh.nd rfl (by first|exact Or.inl rfl|exact Or.inr rfl) (pv 7))
   (cU (qv (i:=3) bh.nd rfl (by first|exact Or.inl rfl|exact Or.inr rfl) (pv 8)))))
   (cU (t_ (AS gz PySem.F.slot_list_extend PySem.F.type_list_extend KP (pv 6) (cy (bQ Ak hr bz (cy (pv 0) (cy (pv 7) dY))) dY)))))))))))))
   (cU (sN (mW (cy (pv 2) (cy (pv 3) (cy (pv 4) dY)))))))))))),A_ (K:=(KX K ad)) (XO:=(jH (KX K ad))) (E:=E) (np:=2) (nv:=7) (m:=Hu)
   (bC (dH gR cf)
   (bC (dH gR cf)
   (bC (q_ (m7 cG))
   (bC (dH aL cf)
   (bC (q_ (m7 (c7 (pD cG) cG)))
   (bC (Fy (cW (aA ze ((dc fF (uh av u5))).r (aL).r))
   (bC (T5 aL)
   (bC (eE (cW (aA ze av av))
   (Bc (c:=3) rfl (by decide) (c7 sV cG))
   eO)
   (bC (Mg cf)
   (bC (dH (dX (c_ rfl ay (c7 ay cG)) (dX (c_ rfl ay (c7 ay cG)) (dX (c_ rfl ay (c7 ay cG)) (dX (c_ rfl ay (c7 ay cG)) (dX (c_ rfl ay (c7 ay cG)) (c_ rfl ay (c7 ay cG))))))) cf)
   (eE (Fq (cW (aA LH av (gR).r)) (cW (aA FE av av)))
   (CO ay)
   (eE (cW (aA iM ((dc fF (uh av u5))).r ((dX (c_ rfl ay cG) (dX (c_ rfl ay cG) (dX (c_ rfl ay cG) (dX (c_ rfl ay cG) (dX (c_ rfl ay cG) (c_ rfl ay cG))))))).r))
   (bC (CO ay)
   (bC (dH ay cf)
   (dH ay cf)))
   (Nh (rY (c7 ay (c7 ay cG)))))))))))
   (Lw (i:=4) (da (pD (c7 ay (c7 ay (c7 ay cG)))))))))))) rfl h⟩
abbrev RH (c:aD):Prop:=du c 5 "parts_all" ["question","closed"] (cE c DF)
abbrev RI:Stmt:=top 19
theorem zoq {c:aD} (T:bG c) (d:De c.K "parts_all" RI) (ni:yR c) (nj:yS c) (nq:yT c) (nr:yU c) (nu:yV c) (ny:yW c) (Ak:JB c):RH c:=hD T.xg d fun _ _ F=>ik ["question","closed","waiting","case","wide"] F fun _ _ _ _ _ _ hr hu nd=>⟨_,(bx (pS 2 nd (mX (aZ (mW dY)))) (bx (pF (kB (pv 1)) (pN 3 nd) (bx (eD (pq iJ (pB ft T.fg aU (aZ (pv 2))) aT) (pR wh) eN) (bx (Es kj (pq (C4 hr.units) (pI (pv 2) (qP qQ aT)) (pv 3)) (bx (pS 4 nd (EM gz oJ oN ES (pv 2))) (bx (eD (t9 (pq iJ (pB ft T.fg aU (aZ (pv 4))) (cR (jZ ni hr bz (pv 0)) (cR (jZ nj hr bz (pv 0)) (cR (jZ nq hr bz (pv 0)) (cR (jZ nr hr bz (pv 0)) (cR (jZ nu hr bz (pv 0)) (jZ ny hr bz (pv 0)))))))) (wk (pq (C4 hr.units) (mY Dq (pv 3) nK (mF (pB ft T.fg aU (aZ (pv 4))))) (pv 4)))).pt (pR wh) eN) (cU (t_ (AS gz PySem.F.slot_list_extend PySem.F.type_list_extend KP (pv 2) (aZ (bQ Ak hr bz (cY (pv 0) (pv 4)))))))))) (cU (t_ (EM gz oJ oN ES (pv 2))))))) (pR (pr iJ (pB ft T.fg aU (aZ (pv 2))) aT)))),(bC (q_ (m7 (b7 (pD cG)))) (bC (jO (u6 ay) cf (bC (eE (cW (aA iM (dc fF (bB av)).r sI)) (da wD) eO) (bC (Fy (cW (aA C5 (aA dN av (qX rg sI).r).r av)) (bC (Mg cf) (bC (eE (ui (cW (aA iM (dc fF (bB av)).r (dX (c_ rfl ay cG) (dX (c_ rfl ay cG) (dX (c_ rfl ay cG) (dX (c_ rfl ay cG) (dX (c_ rfl ay cG) (c_ rfl ay cG)))))).r)) (cW (aA C5 (Dr av nQ (mM (dc fF (bB av)))).r av))) (da wD) eO) (Nh (rY (eL ay ay)))))) Xp))) (da (aA iM (dc fF (bB av)).r sI))))⟩
abbrev JE (c:aD):Prop:=du c 6 "check_best" ["question","case","cost","closed"] (cE c xa)
abbrev JF:Stmt:=top 31
abbrev RJ:List Str:=["question","case","cost","closed"]
theorem zmO {c:aD} (T:bG c) (d:De c.K "check_best" JF) (tV:D5 c) (tW:D6 c) (tX:D7 c) (tY:D8 c) (tZ:D_ c) (t6:Ea c) (ni:yR c) (nj:yS c) (nq:yT c) (nr:yU c) (nu:yV c) (ny:yW c) (JG:RH c):JE c:=hD T.xg d fun _ _ F=>ik RJ F fun _ _ _ _ _ _ hr hu nd=>⟨_,(bx (eD (JX (Cg (bQ JG hr bz (cY (pv 0) (pv 3))))) (pR sM) eN) (bx (eD (Cg (pB (WX rfl) T.qap boot_any (aZ (kC rfl (kB (pv 3)) (lj (cM JF) RJ ["cost" ,"question" ,"one"] [2,0] 1 (fun _ _ _ _ _ _ nd=>⟨(pN 2 nd),(pr uO (cR (pM tV hr bz (pv 1) (aZ (pv 2))) (cR (pM tW hr sT (pv 1) (aZ (pv 2))) (cR (pM tX hr bz (pv 1) (aZ (pv 2))) (cR (pM tY hr bz (pv 1) (aZ (pv 2))) (cR (pM tZ hr bz (pv 1) (aZ (pv 2))) (pM t6 hr bz (pv 1) (aZ (pv 2)))))))) (pv 0))⟩)))))) (pR sM) eN) (bx (eD (t9 (nG (M8 hr.units) (pv 1) (pv 3) (by with_unfolding_all rfl)) (t9 (pq xB (pB ft T.fg aU (aZ (pv 1))) (cR (jZ ni hr bz (pv 0)) (cR (jZ nj hr bz (pv 0)) (cR (jZ nq hr bz (pv 0)) (cR (jZ nr hr bz (pv 0)) (cR (jZ nu hr bz (pv 0)) (jZ ny hr bz (pv 0)))))))) (wk (pq xB (cR (pM tV hr bz (pv 0) (aZ (pv 1))) (cR (pM tW hr sT (pv 0) (aZ (pv 1))) (cR (pM tX hr bz (pv 0) (aZ (pv 1))) (cR (pM tY hr bz (pv 0) (aZ (pv 1))) (cR (pM tZ hr bz (pv 0) (aZ (pv 1))) (pM t6 hr bz (pv 0) (aZ (pv 1)))))))) (pv 2))))).pt (pR sM) eN) (pR wj)))),(bC (eE (Lp (pE (fZ (eL ay ay)))) (da sV) eO) (bC (eE (pE (dc WY (bB (jG (qB av) (by decide) gZ g_ (Or.inl ⟨rfl,rfl⟩) (aA ve (dX (c_ rfl ay (b7 ay)) (dX (c_ rfl ay (b7 ay)) (dX (c_ rfl ay (b7 ay)) (dX (c_ rfl ay (b7 ay)) (dX (c_ rfl ay (b7 ay)) (c_ rfl ay (b7 ay))))))).r av)).e.r))) (da sV) eO) (bC (eE (ui (cW (aA M9 av av)) (ui (cW (aA xS (dc fF (bB av)).r (dX (c_ rfl ay cG) (dX (c_ rfl ay cG) (dX (c_ rfl ay cG) (dX (c_ rfl ay cG) (dX (c_ rfl ay cG) (c_ rfl ay cG)))))).r)) (cW (aA xS (dX (c_ rfl ay (b7 ay)) (dX (c_ rfl ay (b7 ay)) (dX (c_ rfl ay (b7 ay)) (dX (c_ rfl ay (b7 ay)) (dX (c_ rfl ay (b7 ay)) (c_ rfl ay (b7 ay))))))).r av)))) (da sV) eO) (da gR))))⟩
abbrev zev (c:aD):Prop:=du c 1 "_law_other_case" ["_law_case","_law_number_here"] (cE c yp)
abbrev RK:Stmt:=top 58
theorem zjC {c:aD} (T:bG c) (d:De c.K "_law_other_case" RK):zev c:=hD T.xg d fun _ _ F=>ik ["_law_case","_law_number_here"] F fun _ _ _ _ _ _ hr hu nd=>⟨_,(bx (eD (t9 (pq (FZ hr.units) (pv 0) (mW dY)) (wk (pq iJ (bA gd (pv 1) aT) aT))).pt (pR (bA Bj (pv 0) (mW (aZ (bA gd (bA lJ (pv 1) aT) aT))))) eN) (bx (eD (pq iJ (bA gd (pv 1) aT) aT) (pR (mY Dq (pv 0) nK (mF (qP qQ aT)))) eN) (bx (eD (pq iJ (bA gd (pv 1) aT) aT) (pR (bA Bj (mY Dq (pv 0) nK (mF (qP qQ aT))) (mW (aZ (bA gb (pJ (pv 0) (qP qQ aT)) aT))))) eN) (pR (mW (cY (bA gd (bA lJ (pv 1) aT) aT) (bA ub (bA gd (bA lJ (pv 1) aT) aT) aT))))))),(bC (eE (ui (cW (aA F6 av (pD cG).r)) (cW (aA iM (aA gh av sI).r sI))) (da (aA Bl av (pD (b7 (aA gh (aA lL av sI).r sI))).r)) eO) (bC (eE (cW (aA iM (aA gh av sI).r sI)) (da (Dr av nQ (mM (qX rg sI)))) eO) (bC (eE (cW (aA iM (aA gh av sI).r sI)) (da (aA Bl (Dr av nQ (mM (qX rg sI))).r (pD (b7 (aA gg (aA lg av (qX rg sI).r).r sI))).r)) eO) (da (pD (eL (aA gh (aA lL av sI).r sI) (aA um (aA gh (aA lL av sI).r sI).r sI)))))))⟩
abbrev RL (c:aD):Prop:=du c 4 "_law_closed_changed" ["_law_question_here","_law_closed","_law_number_here"] (gY c BR)
abbrev JH:Stmt:=top 59
abbrev RM:List Str:=["_law_question_here","_law_closed","_law_number_here","_law_at","_law_other","_law_found","_law_parted"]
theorem zhs {c:aD} (T:bG c) (d:De c.K "_law_closed_changed" JH) (ni:yR c) (nj:yS c) (nq:yT c) (nr:yU c) (nu:yV c) (ny:yW c) (v5:Eb c) (v8:Ec c) (v9:Ed c) (v_:Ee c) (wa:Ef c) (wb:Eg c) (Al:zev c):RL c:=hD T.xg d fun _ _ F=>oq RM F fun _ _ _ _ _ _ hr hu nd=>⟨_,(bx (pS 3 nd (bA gd (bA lJ (pv 2) aT) (pB ft T.fg aU (aZ (pv 1))))) (bx (pS 4 nd (bA gd (bA lJ (pv 2) aT) (pB ft T.fg aU (aZ (pv 1))))) (bx (eD (pq iJ (bA gd (pv 2) aT) aT) (pR (bA vo (mY qx (pv 1) nK (mF (pv 3))) (mY qx (pv 1) (mF (bA gb (pv 3) aT)) nK))) eN) (bx (eD (pq iJ (bA gd (pv 2) aT) aT) (pR (bA vo (bA vo (mY qx (pv 1) nK (mF (pv 3))) (mX (aZ (pI (pv 1) (pv 3))))) (mY qx (pv 1) (mF (pv 3)) nK))) eN) (bx (eD (pq iJ (bA gd (pv 2) aT) aT) (bx (pS 5 nd (qw wq (by rfl) T.sf eF (aZ (pv 1)))) (bx (J3 (mW (cY (pI (pv 1) (pv 4)) (pI (pv 1) (pv 3)))) (qN rfl (jm (J2 (pv 5) (pv 3) Cw) (jm (J2 (pv 5) (pv 4) Cw) qM)))) (pR (pv 5)))) eN) (bx (eD (Eo (pq uO (bA gd (pv 2) aT) aT) (Em (pq uO (pB ft T.fg aU (aZ (pI (pv 1) (pv 3)))) (cR (jZ ni hr bz (pv 0)) (cR (jZ nj hr bz (pv 0)) (cR (jZ nq hr bz (pv 0)) (cR (jZ nr hr bz (pv 0)) (cR (jZ nu hr bz (pv 0)) (jZ ny hr bz (pv 0)))))))))).pt (bx (BH 6 nd (kB (cR (pM v5 hr bz (pv 0) (aZ (pI (pv 1) (pv 3)))) (cR (pM v8 hr bz (pv 0) (aZ (pI (pv 1) (pv 3)))) (cR (pM v9 hr bz (pv 0) (aZ (pI (pv 1) (pv 3)))) (cR (pM v_ hr bz (pv 0) (aZ (pI (pv 1) (pv 3)))) (cR (pM wa hr bz (pv 0) (aZ (pI (pv 1) (pv 3)))) (pM wb hr bz (pv 0) (aZ (pI (pv 1) (pv 3)))))))))) (lj (cM JH) RM ["_law_closed" ,"_law_at" ,"_law_way"] [1,3] 1 (fun _ _ _ _ _ _ nd=>⟨(pN 2 nd),(bA Bj (pI (pv 0) (pv 1)) (mW (aZ (pv 2))))⟩))) (pR (bA vo (bA vo (mY qx (pv 1) nK (mF (pv 3))) (pv 6)) (mY qx (pv 1) (mF (bA gb (pv 3) aT)) nK)))) eN) (pR (bA vo (bA vo (mY qx (pv 1) nK (mF (pv 3))) (mX (aZ (bQ Al hr bz (cY (pI (pv 1) (pv 3)) (bA lJ (pv 2) aT)))))) (mY qx (pv 1) (mF (bA gb (pv 3) aT)) nK))))))))),(bC (dH (aA gh (aA lL av sI).r (dc fF (bB av)).r) cf) (bC (dH (aA gh (aA lL av sI).r (dc fF (bB av)).r) cf) (bC (eE (cW (aA iM (aA gh av sI).r sI)) (k_ (u4 vp (qF av nQ (mM ay)).e.r (qF av (mM (aA gg av sI)) nQ).e.r)) eO) (bC (eE (cW (aA iM (aA gh av sI).r sI)) (k_ (u4 vp (u4 vp (qF av nQ (mM ay)).e.r (m7 (b7 (aA dN av av))).e.r).e.r (qF av (mM ay) nQ).e.r)) eO) (bC (eE (cW (aA iM (aA gh av sI).r sI)) (bC (q_ (wK wL (bB av))) (bC (WW (pD (eL (aA dN av av) (aA dN av av))) ay ay) Lv)) eO) (bC (eE (Fq (cW (aA ve (aA gh av sI).r sI)) (cW (aA ve (dc fF (bB (aA dN av av).r)).r (dX (c_ rfl ay cG) (dX (c_ rfl ay cG) (dX (c_ rfl ay cG) (dX (c_ rfl ay cG) (dX (c_ rfl ay cG) (c_ rfl ay cG)))))).r))) (bC (dH (jG (qB (pO (kL rfl ay (b7 (aA dN av av))) (pO (kL rfl ay (b7 (aA dN av av))) (pO (kL rfl ay (b7 (aA dN av av))) (pO (kL rfl ay (b7 (aA dN av av))) (pO (kL rfl ay (b7 (aA dN av av))) (kL rfl ay (b7 (aA dN av av)))))))).e.r) (by decide) gZ g_ (Or.inl ⟨rfl,rfl⟩) (aA Bl (aA dN av av).r (pD (b7 ay)).r)).e cf) (k_ (u4 vp (u4 vp (qF av nQ (mM ay)).e.r av).e.r (qF av (mM (aA gg av sI)) nQ).e.r))) eO) (k_ (u4 vp (u4 vp (qF av nQ (mM ay)).e.r (m7 (b7 (fZ (eL (aA dN av av) (aA lL av sI))))).e.r).e.r (qF av (mM (aA gg av sI)) nQ).e.r))))))))⟩
abbrev RN (c:aD):Prop:=du c 12 "_law_behind" ["_law_question_here","_law_closed","_law_at","_law_case"] (cE c ux)
abbrev JI:Stmt:=top 56
theorem fN:b_ ["_law_question_here","_law_closed","_law_at","_law_case","_law_way"] ["_law_question_here","_law_closed","_law_at","_law_case"] (cM JI):=jS
theorem zmW {n:Nat} {f:Addr} {fd:FuncData} (F:jM K "_law_behind" "_law_behind" JI f fd) (T:Txt K mg ad) (Cb:uW P w K mg base kT (n+4) "_law_behind" ["_law_question_here","_law_closed","_law_at","_law_case"] (qA (KX K ad) (jH (KX K ad)) (oz n))) (ni:yR ⟨P,w,K,mg,base,ad⟩) (nj:yS ⟨P,w,K,mg,base,ad⟩) (nq:yT ⟨P,w,K,mg,base,ad⟩) (nr:yU ⟨P,w,K,mg,base,ad⟩) (nu:yV ⟨P,w,K,mg,base,ad⟩) (ny:yW ⟨P,w,K,mg,base,ad⟩) (v5:Eb ⟨P,w,K,mg,base,ad⟩) (v8:Ec ⟨P,w,K,mg,base,ad⟩) (v9:Ed ⟨P,w,K,mg,base,ad⟩) (v_:Ee ⟨P,w,K,mg,base,ad⟩) (wa:Ef ⟨P,w,K,mg,base,ad⟩) (wb:Eg ⟨P,w,K,mg,base,ad⟩):cz P w K mg base kT (n+5) f fd ["_law_question_here","_law_closed","_law_at","_law_case"] (qA (KX K ad) (jH (KX K ad)) (oz (n+1))):=by
 rw[show oz (n+1)=bM 4 1 (DG (oz n)) from rfl]
 refine F.ok fN (fun vs H Q E h=>CU h) (fun qV A outer s H vs Q E hr h=>?_)
 have hu:=ue hr
 exact⟨_,(bx (eD ((t9 (nG uO (pv 2) aT (qR _)) (wk (nG Ey (pv 2) (xD ft (by rfl) T.fg aU (cy (pv 1) dY)) (qR _))))).pt
   (cU (sN (qP qQ aT)))
   eN)
   (bx (eD (nG (FZ hr.units) (xE EK (pv 1) (pv 2) (fun _ _=>rfl)) (pv 3) (qR _))
   (cU (sN (bA gb (pv 2) aT)))
   eN)
   (bx (eD ((t9 (nG Ey (xD ft (by rfl) T.fg aU (cy (pv 3) dY)) (cR (rD ni (hr.mono (by lia)) bz (pv 0)) (cR (rD nj (hr.mono (by lia)) bz (pv 0)) (cR (rD nq (hr.mono (by lia)) bz (pv 0)) (cR (rD nr (hr.mono (by lia)) bz (pv 0)) (cR (rD nu (hr.mono (by lia)) bz (pv 0)) (rD ny (hr.mono (by lia)) bz (pv 0))))))) (qR _)) (wk (nG (C4 hr.units) (mY Dq (xE EK (pv 1) (pv 2) (fun _ _=>rfl)) nK (mF (xD ft (by rfl) T.fg aU (cy (pv 3) dY)))) (pv 3) (qR _))))).pt
   (cU (sN (qP qQ aT)))
   eN)
   (bx (qO kj rfl (kB (cR (rC v5 (hr.mono (by lia)) bz (pv 0) (cy (pv 3) dY)) (cR (rC v8 (hr.mono (by lia)) bz (pv 0) (cy (pv 3) dY)) (cR (rC v9 (hr.mono (by lia)) bz (pv 0) (cy (pv 3) dY)) (cR (rC v_ (hr.mono (by lia)) bz (pv 0) (cy (pv 3) dY)) (cR (rC wa (hr.mono (by lia)) bz (pv 0) (cy (pv 3) dY)) (rC wb (hr.mono (by lia)) bz (pv 0) (cy (pv 3) dY)))))))) (Cj (i:=4) fN.nd rfl (by first|exact Or.inl rfl|exact Or.inr rfl))
   (cU (qv (i:=2) fN.nd rfl (by first|exact Or.inl rfl|exact Or.inr rfl) (Lj Cb hr (by rfl) bz (cy (pv 0) (cy (pv 1) (cy (pv 2) (cy (bA Bj (pv 3) (mW (cy (pv 4) dY))) dY))))))))
   (cU (sN (pv 2))))))),A_ (K:=(KX K ad)) (XO:=(jH (KX K ad))) (E:=E) (np:=4) (nv:=1) (m:=DG (oz n))
   (bC (eE (ui (cW (aA ve av (aL).r)) (cW (aA FE av ((dc fF (uh av u5))).r)))
   (da (qX rg (aL).r))
   eO)
   (bC (eE (cW (aA F6 ((aA dN av av)).r av))
   (da (aA gg av (aL).r))
   eO)
   (bC (eE (ui (cW (aA FE ((dc fF (uh av u5))).r ((dX (c_ rfl ay cG) (dX (c_ rfl ay cG) (dX (c_ rfl ay cG) (dX (c_ rfl ay cG) (dX (c_ rfl ay cG) (c_ rfl ay cG))))))).r)) (cW (aA C5 ((Dr ((aA dN av av)).r nQ (mM (dc fF (uh av u5))))).r av)))
   (da (qX rg (aL).r))
   eO)
   (bC (jO (u6 ((pO (kL rfl ay (c7 ay cG)) (pO (kL rfl ay (c7 ay cG)) (pO (kL rfl ay (c7 ay cG)) (pO (kL rfl ay (c7 ay cG)) (pO (kL rfl ay (c7 ay cG)) (kL rfl ay (c7 ay cG)))))))).e) cf
   (dH (fZ (c7 ay (c7 ay (c7 ay (c7 (aA Bl av ((pD (c7 ay cG))).r) cG))))) cf))
   (da ay))))) rfl h⟩
abbrev RO (c:aD):Prop:=du c 13 "_law_word" ["_law_question_here","_law_case","_law_cost","_law_closed"] (cE c BU)
abbrev RP:Stmt:=top 57
theorem zou {c:aD} (T:bG c) (d:De c.K "_law_word" RP) (tV:D5 c) (tW:D6 c) (tX:D7 c) (tY:D8 c) (tZ:D_ c) (t6:Ea c) (ni:yR c) (nj:yS c) (nq:yT c) (nr:yU c) (nu:yV c) (ny:yW c) (Cb:RN c):RO c:=hD T.xg d fun _ _ F=>ik ["_law_question_here","_law_case","_law_cost","_law_closed","_law_one"] F fun _ _ _ _ _ _ hr hu nd=>⟨_,(bx (eD (pq xB (bQ Cb hr bz (cy (pv 0) (cy (pv 3) (cY aT (mW dY))))) (pB ft T.fg aU (aZ (pv 3)))) (pR sM) eN) (bx (pF (kB (pv 3)) (pN 4 nd) (cU (eD (pq uO (cR (pM tV hr bz (pv 0) (aZ (pv 4))) (cR (pM tW hr sT (pv 0) (aZ (pv 4))) (cR (pM tX hr bz (pv 0) (aZ (pv 4))) (cR (pM tY hr bz (pv 0) (aZ (pv 4))) (cR (pM tZ hr bz (pv 0) (aZ (pv 4))) (pM t6 hr bz (pv 0) (aZ (pv 4)))))))) (pv 2)) (pR sM) eN))) (bx (eD (t9 (nG (M8 hr.units) (pv 1) (pv 3) (by with_unfolding_all rfl)) (t9 (pq xB (pB ft T.fg aU (aZ (pv 1))) (cR (jZ ni hr bz (pv 0)) (cR (jZ nj hr bz (pv 0)) (cR (jZ nq hr bz (pv 0)) (cR (jZ nr hr bz (pv 0)) (cR (jZ nu hr bz (pv 0)) (jZ ny hr bz (pv 0)))))))) (wk (pq xB (cR (pM tV hr bz (pv 0) (aZ (pv 1))) (cR (pM tW hr sT (pv 0) (aZ (pv 1))) (cR (pM tX hr bz (pv 0) (aZ (pv 1))) (cR (pM tY hr bz (pv 0) (aZ (pv 1))) (cR (pM tZ hr bz (pv 0) (aZ (pv 1))) (pM t6 hr bz (pv 0) (aZ (pv 1)))))))) (pv 2))))).pt (pR sM) eN) (pR wj)))),(bC (eE (cW (aA xS (fZ (c7 ay (c7 ay (eL aL (pD cG))))).r (dc fF (bB av)).r)) (da sV) eO) (bC (jO (u6 ay) cf (eE (cW (aA ve (dX (c_ rfl ay (b7 ay)) (dX (c_ rfl ay (b7 ay)) (dX (c_ rfl ay (b7 ay)) (dX (c_ rfl ay (b7 ay)) (dX (c_ rfl ay (b7 ay)) (c_ rfl ay (b7 ay))))))).r av)) (da sV) eO)) (bC (eE (ui (cW (aA M9 av av)) (ui (cW (aA xS (dc fF (bB av)).r (dX (c_ rfl ay cG) (dX (c_ rfl ay cG) (dX (c_ rfl ay cG) (dX (c_ rfl ay cG) (dX (c_ rfl ay cG) (c_ rfl ay cG)))))).r)) (cW (aA xS (dX (c_ rfl ay (b7 ay)) (dX (c_ rfl ay (b7 ay)) (dX (c_ rfl ay (b7 ay)) (dX (c_ rfl ay (b7 ay)) (dX (c_ rfl ay (b7 ay)) (c_ rfl ay (b7 ay))))))).r av)))) (da sV) eO) (da gR))))⟩
abbrev RQ (c:aD):Prop:=du c 14 "_law_looked" ["_law_question_here","_law_told_best","_law_number_here"] (cE c DH)
abbrev RS:Stmt:=top 60
theorem zmD {c:aD} (T:bG c) (d:De c.K "_law_looked" RS) (Am:JE c) (Al:zev c) (JJ:RL c) (JK:RO c):RQ c:=hD T.xg d fun _ _ F=>ik ["_law_question_here","_law_told_best","_law_number_here","_law_case","_law_cost","_law_closed","_law_kind","_law_part","_law_kept","_law_found","_law_due"] F fun _ _ _ _ _ _ hr hu nd=>⟨_,(bx (J3 (pv 1) (qN rfl (jm (pN 3 nd) (jm (pN 4 nd) (jm (pN 5 nd) qM))))) (bx (pS 6 nd (bA gd (pv 2) aT)) (bx (pS 7 nd (bA lJ (pv 2) aT)) (bx (eD (t9 (pq iJ (pv 6) aT) (wk (pq iJ (pv 6) aT))).pt (cU (pS 5 nd (bQ JJ hr bz (cy (pv 0) (cY (pv 5) (pv 7)))))) eN) (bx (eD (t9 (pq iJ (pv 6) aT) (wk (pq iJ (pv 6) aT))).pt (cU (pS 4 nd (bA gb (pv 4) (pI (mX (cy aT (cy (qP qQ aT) (cY (bA ub aT (pv 4)) (pv 7))))) (bA gd (bA lJ (pv 7) aT) aT))))) eN) (bx (eD (pq iJ (pv 6) aT) (cU (pS 3 nd (bQ Al hr bz (cY (pv 3) (pv 7))))) eN) (bx (eD (pq iJ (pv 6) aT) (cU (pS 3 nd (pI (pv 5) (bA gd (pv 7) (pB ft T.fg aU (aZ (pv 5))))))) eN) (bx (pS 8 nd (qw wq (by rfl) T.sf eF (aZ (pv 5)))) (bx (pS 9 nd (bQ Am hr bz (cy (pv 0) (cy (pv 3) (cY (pv 4) (pv 5)))))) (bx (pS 10 nd (bQ JK hr bz (cy (pv 0) (cy (pv 3) (cY (pv 4) (pv 8)))))) (bx (eD (pq (C4 hr.units) (pv 5) (pv 8)) (pR wh) eN) (bx (eD (pq Kj (pv 10) wj) (pR (pr Kj (pv 9) wj)) eN) (pR (Sb (pB Ti T.qac boot_isinstance (cY (pv 9) (R' (v:=.ty "str") (by rfl) T.qaf boot_str rfl))) (Sa (pr iJ (pv 9) (pv 10))))))))))))))))),(bC (dH ay (rT (jN cf (jN cf (jN cf rS))))) (bC (dH (aA gh av sI) cf) (bC (dH (aA lL av sI) cf) (bC (eE (ui (cW (aA iM av sI)) (cW (aA iM av sI))) (dH (rY (c7 ay (eL ay ay))).e cf) eO) (bC (eE (ui (cW (aA iM av sI)) (cW (aA iM av sI))) (dH (aA gg av (aA dN (m7 (c7 aL (c7 (qX rg sI) (eL (aA um sI av) ay)))).e.r (aA gh (aA lL av sI).r sI).r).r) cf) eO) (bC (eE (cW (aA iM av sI)) (dH (fZ (eL ay ay)) cf) eO) (bC (eE (cW (aA iM av sI)) (dH (aA dN av (aA gh av (dc fF (bB av)).r).r) cf) eO) (bC (dH (wK wL (bB av)).e cf) (bC (dH (fZ (c7 ay (c7 ay (eL ay ay)))) cf) (bC (dH (fZ (c7 ay (c7 ay (eL ay ay)))) cf) (bC (eE (cW (aA C5 av av)) (da wD) eO) (bC (eE (cW (aA LG av gR.r)) (da (aA LG av gR.r)) eO) (da (TY (Uz Uy av) (aA iM av av)))))))))))))))⟩
abbrev Ao:Stmt:=top 61
theorem kQ:b_ ["_law_script","_law_cell","_law_question_here","_law_told_best","_law_k"] ["_law_script"] (cM Ao):=jS
theorem zzH {c:aD} {f:Addr} {fd:FuncData} (F:jM c.K "law" "law" Ao f fd) (T:bG c) (g0:IH c) (g1:B' c) (JL:QZ c) (JM:RG c) (Am:JE c) (JN:RQ c):cz c.P c.w c.K c.mg c.base kT 15 f fd ["_law_script"] (DU c.K):=by
 refine F.ok kQ (fun vs H Q E h=>?_) (fun qV A outer s H vs Q E hr h=>?_)
 ·obtain⟨a,ns,rfl,_⟩:=h
  rfl
 ·obtain⟨a,ns,rfl,hS,hlen,hq⟩:=h
  have hu:=ue hr
  exact⟨_,(bx (qv (i:=1) kQ.nd rfl (by first|exact Or.inl rfl|exact Or.inr rfl) (bQ g1 hr bz (cy (bA gb (bQ g0 hr bz (cy (pv 0) (cy aT dY))) (bQ g0 hr bz (cy (pv 0) (cy aT dY)))) (cy aT dY))))
   (bx (qv (i:=2) kQ.nd rfl (by first|exact Or.inl rfl|exact Or.inr rfl) (bQ JL hr bz (cy (bA gd (bQ g0 hr bz (cy (pv 0) (cy aT dY))) aT) (cy (mY qx (pv 0) (mF aT) (mF aT)) (cy (pv 1) dY)))))
   (bx (qv (i:=3) kQ.nd rfl (by first|exact Or.inl rfl|exact Or.inr rfl) (Xn JM (hr.mono (by decide)) (by rfl) sT (pv 2)))
   (bx (eD (nG Kk (bQ Am hr bz (cy (pv 2) (cy (xE Cu (pv 3) aT (fun _ _=>rfl)) (cy (xE Cu (pv 3) aT (fun _ _=>rfl)) (cy (qw wq (by rfl) T.sf eF (cy (xE Cu (pv 3) aT (fun _ _=>rfl)) dY)) dY))))) wj (qR _))
   (cU (sN wh))
   eN)
   (bx (qO kj rfl (mB rfl T.j' (cy aT dY)) (Cj (i:=4) kQ.nd rfl (by first|exact Or.inl rfl|exact Or.inr rfl))
   (cU (eD (JX (Cg (bQ JN hr bz (cy (pv 2) (cy (pv 3) (cy (bQ g1 hr bz (cy (bQ g0 hr bz (cy (pv 0) (cy aT dY))) (cy (bA sR aT (pv 4)) dY))) dY))))))
   (cU (sN wh))
   eN)))
   (cU (sN wh))))))),A_ (K:=(mU c)) (XO:=(jH (mU c))) (E:=E) (np:=1) (nv:=4) (m:=Oi)
   (bC (dH (fZ (c7 (aA gg ((fZ (c7 ay (c7 aL cG)))).r ((fZ (c7 ay (c7 aL cG)))).r) (c7 aL cG))) cf)
   (bC (dH (fZ (c7 (aA gh ((fZ (c7 ay (c7 aL cG)))).r (aL).r) (c7 ((qF av (mM aL) (mM aL))).e (c7 ay cG)))) cf)
   (bC (dH (fZ (c7 ay (c7 aL cG))) cf)
   (bC (eE (cW (aA LH ((fZ (c7 ay (c7 (aA lg av (aL).r) (c7 (aA lg av (aL).r) (c7 ((wK wL (uh ((aA lg av (aL).r)).r u5))).e cG)))))).r (gR).r))
   (da wD)
   eO)
   (bC (jO (mK gf (c7 aL cG)) cf
   (eE (Lp (pE (fZ (c7 ay (c7 ay (c7 (fZ (c7 (fZ (c7 ay (c7 aL cG))) (c7 (aA sX (aL).r av) cG))) cG))))))
   (da wD)
   eO))
   (da wD)))))) rfl (T8 (f:=Oj) (tQ ns hlen) hS hq)⟩
end
theorem all_mk {l:PySem.W.OpenLaw} {w:World} {K:PySem.W.Frag} {h:Heap} {mg:Str→Option Value} {fa:Addr} {a0 a1 a2 a3 a4 a5 a6 a7 a8 a9 j_ kY b0 b1:Addr} (X:K.In h) (G:h.Ns mainGlobals mg) (hfa:mg "law"=some (.ref fa)) (Ap:PySem.W.findIn K (.ref a4) "__init__"=some (some (.ref b0))) (Cc:PySem.W.findIn K (.ref a5) "__init__"=some (some (.ref b1))) (T:Txt K mg ⟨a0,a1,a2,a3,a4,a5,a6,a7,a8,a9,j_,kY,b0,b1⟩)
  (d0:De K "_law_cell_at" Qo)
  (d1:De K "_law_number" Qp)
  (d2:De K "_law_amount" Qq)
  (d3:De K "_law_sizes" II)
  (d4:De K "_law_bit" Qv)
  (d5:De K "_law_has" Qx)
  (d6:De K "_law_sets" DZ)
  (d7:De K "refuse_missing" QA)
  (d8:De K "least_prices" QC)
  (d10:De K "common_factor" QG)
  (d11:De K "share" QH)
  (d12:De K "rounded_up" QI)
  (d13:De K "refuse_too_great" QM)
  (d14:De K "_law_between" QS)
  (d15:De K "_law_lengths" Ae)
  (d16:De K "look_at" QU)
  (d17:De K "copied_lengths" D4)
  (d18:De K "_law_question" IZ)
  (d19:De K "heaviest" Je)
  (d20:De K "chosen_by" Ji)
  (d21:De K "price_of" Jl)
  (d22:De K "behind_last" Ra)
  (d23:De K "nearest" Jp)
  (d24:De K "reach" Jq)
  (d25:De K "way_length" Jt)
  (d26:De K "round_length" Rp)
  (d27:De K "gone_on" JC)
  (d28:∃f fd,mQ K "best_by_cases" JD f fd (.int 2000))
  (d29:De K "parts_all" RI)
  (d30:De K "check_best" JF)
  (d31:De K "_law_other_case" RK)
  (d32:De K "_law_closed_changed" JH)
  (d33:De K "_law_behind" JI)
  (d34:De K "_law_word" RP)
  (d35:De K "_law_looked" RS)
  (dL:De K "law" Ao)
  (rO:∃fd,jM K "__init__" "NoCover.__init__" IF b0 fd)
  (t7:∃fd,jM K "__init__" "NoRoom.__init__" IG b1 fd)
  {fM vY tP:Addr} {ocM oc2:Value} {odM D0 od2:Option Addr} {JO JP:Array (Option Value)} {vT:Array Value} {D1 vZ D2 D3:Value}
  (vn:PySem.W.nsIn K mainGlobals "greatest_order"=some (some (.ref fM)))
  (vl:K.lookup fM=some ⟨ocM,odM,.func (PySem.W.fnOf "greatest_order" "greatest_order" (nM sg) (kS sg) (cM sg) .none D1 vZ D2 D0 (.ref vY) D3),JO⟩)
  (vc:PySem.W.codeIn K (.ref vY) "greatest_order"=true)
  (vk:PySem.W.keepIn K (.ref fM)=true)
  (vv:K.lookup vY=some ⟨oc2,od2,.fields vT,JP⟩)
  (vt:vT[11]?=some (Value.ref tP))
  (vT:tabOf K=some (tP,#[.str ("greatest_order"++".<locals>."++"<lambda>") 0,rawInt ((38:Nat):Int),rawInt ((41:Nat):Int)]))
  (vC:PySem.W.codeHdIn K vY tP=true)
  (e0:Dm K a6 "__init__" "CoverQuestion.__init__" IK)
  (e1:Dm K a7 "__init__" "BenchQuestion.__init__" IS)
  (e2:Dm K a8 "__init__" "BinQuestion.__init__" IT)
  (e3:Dm K a9 "__init__" "SackQuestion.__init__" QQ)
  (e4:Dm K j_ "__init__" "RoundQuestion.__init__" QW)
  (e5:Dm K kY "__init__" "PlaceQuestion.__init__" QY)
  (e6:Dm K a7 "low" "BenchQuestion.low" Q3)
  (e7:Dm K a8 "free" "BinQuestion.free" Jh)
  (e8:Dm K a8 "low" "BinQuestion.low" Q5)
  (e9:Dm K a6 "not_covered" "CoverQuestion.not_covered" Jk)
  (e10:Dm K a6 "low" "CoverQuestion.low" Jm)
  (e11:Dm K kY "low" "PlaceQuestion.low" Ri)
  (e12:Dm K j_ "answer" "RoundQuestion.answer" Rk)
  (e13:Dm K j_ "low" "RoundQuestion.low" Rq)
  (e14:Dm K a9 "low" "SackQuestion.low" Jx)
  (e15:Dm K a7 "steps" "BenchQuestion.steps" Rt)
  (e16:Dm K a8 "steps" "BinQuestion.steps" Ru)
  (e17:Dm K a6 "steps" "CoverQuestion.steps" Rv)
  (e18:Dm K kY "steps" "PlaceQuestion.steps" Rw)
  (e19:Dm K j_ "steps" "RoundQuestion.steps" Rx)
  (e20:Dm K a9 "steps" "SackQuestion.steps" Ry)
  (e21:Dm K a7 "ways" "BenchQuestion.ways" Rz)
  (e22:Dm K a8 "ways" "BinQuestion.ways" Jy)
  (e23:Dm K a6 "ways" "CoverQuestion.ways" RB)
  (e24:Dm K kY "ways" "PlaceQuestion.ways" RC)
  (e25:Dm K j_ "ways" "RoundQuestion.ways" Jz)
  (e26:Dm K a9 "ways" "SackQuestion.ways" JA)
  : ∃fd:FuncData,(∀(s:Shared) (v:Value),BindsTo s fd ⟨[v],[]⟩ [("_law_script",v)])∧∀base:Heap,K.In base→base.Ns mainGlobals mg→mP mg base→cz l.prog w K mg base kT 15 fa fd ["_law_script"] (DU K):=by
 let ad:yM:=⟨a0,a1,a2,a3,a4,a5,a6,a7,a8,a9,j_,kY,b0,b1⟩
 obtain⟨fL,gL,DL⟩:=dL
 have e:=hfa.symm.trans (dg X G DL.ns)
 cases e
 have FL:=DL.fn
 obtain⟨oc,od,kV,doc,pm,an,qV,ct,uR,rfl,lk,Dg⟩:=DL.fn.ex
 refine⟨PySem.W.fnOf "law" "law" (nM Ao) (kS Ao) (cM Ao) .none kV doc pm an qV ct,fun s v=>.of_eq rfl,fun base _ _ KB=>?_⟩
 let c:aD:=⟨l.prog,w,K,mg,base,ad⟩
 have T:bG c:=T
 obtain⟨_,lU⟩:=rO
 have jA:Qm c:=⟨_,zkH lU,lU.binds GL⟩
 obtain⟨_,n_⟩:=t7
 have kP:Qn c:=⟨_,zlF n_,n_.binds GL⟩
 obtain⟨f17,q17,JQ⟩:=d17
 obtain⟨f28,q28,JR⟩:=d28
 obtain⟨f33,q33,Cd⟩:=d33
 have D9:nN K "greatest_order" sg fM _:=⟨vn,CF (st:=sg) vl vc vk⟩
 have g0:=zlz T d0
 have g1:=zmu T d1
 have g2:=zmJ T d2 g1
 have g3:=znu T d3 g2
 have g4:=zqV T d4
 have g5:=zrt T d5 g1 g4
 have g6:=zoO T d6 g2 g5
 have g7:=zi9 T d7 jA
 have g8:=zkD T d8
 have g9:=zfF T e0 g7 g8
 have Ab:IL c:=D9.has X G (zjz vl vc T vT vC KB) (D9.fn.binds GL)
 have IP:=zj0 T d10
 have Ac:=zvd T d11 IP
 have Ad:=zmi T d12
 have I0:=zfB T e1 Ab Ac Ad
 have IU:=zib T d13 kP
 have I_:=zgo T e2 Ab IU
 have Ja:=zf9 T e3
 have IW:=zlx T d14
 have Jb:=zlA T d15 g0 g1 IW
 have Af:=zq4 T d16
 have Ag:IY c:=JQ.has X G (zjd JQ.fn T) (JQ.fn.binds GL)
 have Jc:=zfG T e4 Af Ag
 have Jd:=zfE T e5 Af Ag
 have JL:=zkX T d18 g2 g3 g6 g9 I0 I_ Ja Jb Jc Jd
 have Jf:=zox T d19
 have tV:=zhz T e6 Jf
 have Ah:=zio T e7
 have tW:=ziJ T e8 Ac Ad Ah
 have sh:=znY T d20
 have Ai:=zeN T e9 sh
 have Jn:=zpk T d21
 have tX:=zhI T e10 sh Ai Jn
 have Aj:=zlH T d22
 have Jr:=zqN T d23
 have Js:=zve T d24 Jr
 have tY:=zhH T e11 Aj Js
 have Jv:=zgd T e12
 have Ju:=zmB T d25
 have Jw:=zkF T d26 Ju
 have tZ:=zhJ T e13 Jv Jw
 have t6:=zim T e14 sh
 have ni:=zgR T e15
 have nj:=zhA T e16
 have nq:=zgS T e17
 have nr:=zgI T e18
 have nu:=zgJ T e19
 have ny:=zg8 T e20
 have v5:=zgX T e21
 have v8:=zin T e22 Ah
 have v9:=zg5 T e23 Ai
 have v_:=zhh T e24 Aj
 have wa:=zgW T e25
 have wb:=zhK T e26 sh
 have Ak:=zry T d27 v5 v8 v9 v_ wa wb
 have JM:RG c:=JR.has X G (zj4 JR.fn T tV tW tX tY tZ t6 ni nj nq nr nu ny Ak) (JR.fn.binds (fun _ _ _ _ _ _ _ _ us hl=>match us,hl with|[_,_],_=>⟨_,rfl,rfl⟩) fun _ _ _ _ _ _ _ _ us hl=>match us,hl with|[_],_=>⟨_,rfl,rfl⟩)
 have JG:=zoq T d29 ni nj nq nr nu ny Ak
 have Am:=zmO T d30 tV tW tX tY tZ t6 ni nj nq nr nu ny JG
 have Al:=zjC T d31
 have JJ:=zhs T d32 ni nj nq nr nu ny v5 v8 v9 v_ wa wb Al
 have kR:∀n,cz l.prog w K mg base kT (n+4) f33 q33 ["_law_question_here","_law_closed","_law_at","_law_case"] (qA (KX K ad) (jH (KX K ad)) (oz n)):=by
  intro n
  induction n with
  | zero=>exact⟨fun vs H Q E h=>by obtain⟨_,_,_,_,z⟩:=h;exact (show False from z).elim,fun A outer s H args us vs Q E hr e b v h=>by obtain⟨_,_,_,_,z⟩:=h;exact (show False from z).elim⟩
  | succ n ih=>exact zmW Cd.fn T (Cd.has X G ih (Cd.fn.binds GL)) ni nj nq nr nu ny v5 v8 v9 v_ wa wb
 have Cb:RN c:=Cd.has X G (kR 8) (Cd.fn.binds GL)
 have JK:=zou T d34 tV tW tX tY tZ t6 ni nj nq nr nu ny Cb
 have JN:=zmD T d35 Am Al JJ JK
 exact zzH (c:=c) FL T g0 g1 JL JM Am JN
theorem walk {l:PySem.W.OpenLaw} {q:Program} {loose:List Str} {XP:(Str→Option Value)→Heap→Prop} {YP:World→Heap→Prop} {d:DefRec} {K:Params→PySem.W.Frag} (hn:l.most=some 63) (hdf:d.params.defaults=[])
  (hY:∀(w:World) (h:Heap),YP w h→(K w.params).In h) {tP:Addr} (hY2:∀(w:World) (h:Heap),YP w h→∀t∈[tP],h.get? t=some (PySem.W.tabObj #[])) (hT:∀w:World,Bi (K w.params) tP=true)
  (F:∀(w:World) (mg:Str→Option Value) (fa:Addr) (h:Heap),(K w.params).In h→h.Ns mainGlobals mg→mg d.name=some (.ref fa) →
   ∃fd:FuncData,(∀(s:Shared) (u:Value),BindsTo s fd ⟨[u],[]⟩ [("_law_script",u)])∧∀base:Heap,(K w.params).In base→base.Ns mainGlobals mg→mP mg base→cz l.prog w (K w.params) mg base kT 15 fa fd ["_law_script"] (DU (K w.params))) :
  PySem.W.WalkO q loose XP YP l.row.toRowW d [] (fun f vs=>PySem.call f vs):=
 L2.tf (n:=63) (k:=15) (x:="_law_script") (CX:=fun _=>kT) (sp:=fun w=>DU (K w.params)) hn (by decide) hdf ⟨rfl,by decide,by decide⟩ hY hY2 hT F (fun _ _ a ns hl hS=>⟨a,ns,rfl,hS,hl,fun _=>rfl⟩) fun _ _ _ _ _ z=>z
end My
structure PySem.W.Fast:Prop where(tw2874976957628765901 tw6207807103431498624 tw17135876155056724495 tw13824648966020736947 tw5398458128129630500 tw6352175519704757632 tw5211927929732735429 tw8840085325920341629 tw2005688201463090324 tw1952463098500238291 tw14517003339075781582 tw349619626563696594 tw5759831751941213517 tw13999324576596422075 tw2019307622431904504 tw9750114069268573387 tw7893753332058480035 tw11556191313722352413 tw6929400215295154369 tw18278962373361524299 tw12382767813164309262 tw7637169237816995344 tw9565956786519518949 tw8741609991518597443 tw5533965500653518464 tw16129948041232267872 tw18427735181220507920 tw16273872154299041414 tw686506819721431144 tw10113285575804286366 tw8172399968833360368 tw483719653671935935 tw2772435963576250530 tw329842495260349116 tw4700813031747904792 tw18133670979463052087 tw15545574365915056087 tw12270270475676575284 tw5161919146233889828 tw11995762456753319954 tw9235192677886914976 tw6254972660013712153 tw5598503138828003331 tw17387648902470336918 tw15940006406399416673 tw1859742730766654481 tw10810774080270244629 tw2440750629286976797 tw12207601437589438303 tw9236851686199529429 tw3733654927346089515 tw4689884960387587992 tw12895556921180472507 tw10590375511058810116 tw14227025210793555217 tw14016318201353278933 tw17202807622311301087 tw13745379328991555021 tw6852591427031574071 tw17541117003446770037 tw13020003427628760917 tw9479612268820546000 tw1349880664735501447 tw1978383228210049344 tw2544699844037452142 tw4871617103184125761 tw2123167999887814987 tw16653128291644632893 tw5574106182666506626 tw15403926226021571493 tw455341493831666754 tw10223810239806300799 tw3505362047611557830 tw17409598011270919234 tw1349120955895944319 tw16639264840249023804 tw15772337969584588239 tw3584114910719960547 tw11496222781247979311 tw11438245750774331221 tw769321187168854227 tw13358911623957058282 tw16693636981849933525 tw2408732819935450148 tw10350639484911359042 tw6060535678130782218 tw16327599728036037676 tw17835869638690842208 tw2343938300531804214 tw131396498260263508 tw13457714517941426725 tw4878291488331916708 tw2168549897355215543 tw16210641895854983343 tw18087462808773952022 tw15266753930878266670 tw15504095774126190392 tw12394952597848273430 tw16357240658436243498 tw18294442362690027506 tw2747179369800639646 tw9476794613670014956 tw2451701544007145161 tw4038578534531704251 tw646826448078160047 tw7416699012812522681 tw888562136400629514 tw2211873784250184780 tw9914221747122897278 tw4327074394702130641 tw8249341185170904646 tw5274864272667826715 tw15072385572550851637 tw14724079941134649859 tw12240614908471352462 tw7641162566820271210 tw17587726318595598143 tw10329809077530957527 tw7029129353045569730 tw2395393010698004333 tw15966223140830375565 tw3394971565866307198 tw13595516285057904944 tw17935774928059145723 tw4645211835800400416 tw3635679788742513206 tw13153324409787790898 tw8826932270309140482 tw6410316707574483632 tw311909441298905107 tw15880180425220189982 tw297812627047369121 tw14195614450153565927 tw111693551383327754 tw15053830377680925000 tw10401499939317308715 tw6567673209446987016 tw6309893301367365167 tw8921719541210854327 tw18180525689057953298 tw1144437478145679730 tw926250123703660988 tw9642169831209607063 tw903364396782911316 tw14142240384528478197 tw13118995618103213183 tw7647222405428342043 tw10745126586502585155 tw4848471627733986771 tw4620592757582536274 tw14588357359331052498 tw14054184045257908908 tw7440906697906688985 tw3831289670492819879 tw14502156912900927939 tw12907967929297487069 tw18063111344738247800 tw9587932536067641649 tw12633453654526278758 tw14059376481716659084 tw5899051904842444269 tw17188815199928431961 tw1529676210627357640 tw14367709325495259499 tw9556948931391220444 tw8074461728050558748 tw15968694874210739346 tw10706749280497399672 tw15462495631332850364 tw11357493642522983818 tw15355402940891647799 tw12625253038090841368 tw18319782939700083686 tw5987482424644222004 tw3050242320756606538 tw11503026754427953433 tw2415738147242820556 tw5798022254080888990 tw10410497655044215194 tw808885333039259053 tw4752444991757733882 tw893618785561801438 tw12517829856002720166 tw7363228430157372084 tw13261298303478982486 tw15348687768423407231 tw9775928630136892760 tw5777325639587731416 tw3868971382962508015 tw8771118097732142547 tw15928532561502845579 tw6557368080421255695 tw17886131626035194763 tw10389807452956820414 tw18123500671165034132 tw6618461785302113239 tw3481651737555806648 tw632071330926304781 tw16656383020796012589 tw1438068731100672690 tw13312839586967235446 tw18204124276182692831 tw4649219144630003888 tw1501543424565157566 tw17085730694968303958 tw1178566396016685446 tw15446974610016865898 tw9951686597879635606 tw12943082652467937443 tw6148993949145153699 tw10351167192957031135 tw535738040587481371 tw17949461572435743335 tw2296994916349616390 tw3778884200682578539 tw1408645127435047533 tw16776740913077217711 tw10534536980774628322 tw15921781391891650200 tw12532381219693338250 tw8338005124777581879 tw5090172664846405488 tw16640961048389352496 tw15373498359258178183 tw18053198154964804061 tw6008589448250809920 tw12456845861042742293 tw262508803805666531 tw10198109043214564082 tw17099793415641209624 tw14531166253040708551 tw3733381743340326402 tw4846177755683202926 tw9658881800501551130 tw17990506471895165152 tw17285876358473030865 tw12428554802351805571 tw5935337956837526206 tw4031669879073876558 tw951114983334409295 tw6532202001075996087 tw7719205435527640536 tw2681436669161352514 tw6358245548876881295 tw4769385063856222577 tw3352748332427501770 tw8315594007476754588 tw7592659489066779451 tw7349035255164922530 tw6399601549019307290 tw16747234043930838513 tw15269290757785528943 tw9039344429222573286 tw10223983194238826581 tw15929735005711194010 tw2244155474427574373 tw16141485025577685782 tw11613141967558333523 tw7483749257471281075 tw6206442614350448286 tw14818041834124066387 tw13812540519783903826 tw966727699958319462 tw1172581234215347625 tw8220562732945086666 tw17516103955366710038 tw15707903024581809487 tw1350984038147980316 tw8941248783522275712 tw15776905841559742330 tw11783458151154291311 tw9007403818343267942 tw7317710984186383442 tw6605693219592792939 tw12851088455915657953 tw13032522982274380531:True)
open PySem PySem.W PyProof.Rows
set_option maxRecDepth 100000 in
set_option maxHeartbeats 0 in
theorem PySem.Challenge.cw_goodenough_k50_best_looked_at_holds : PySem.Challenge.rw_goodenough_k50_best_looked_at.Holds := by
 w_on;o_law;k_head;(case hw=>w_witness2)
 k_fill
 refine My.walk (l:=PySem.Challenge.rw_goodenough_k50_best_looked_at) rfl rfl (fun w h Y=>by first|exact PySem.W.kIn_of Y|exact PySem.W.km_in_of Y) (fun w h Y=>PySem.W.km_tabs_of Y) ?tab ?F
 (case tab=>intro w;kernel_rfl)
 case F=>
  intro w mg fa h X G hmg
  refine' My.all_mk X G hmg ?_ ?_ ⟨⟨h,X,G⟩,cO X G ?_,cO X G ?_,cO X G ?_,cO X G ?_,cO X G ?_,cO X G ?_,cO X G ?_,cO X G ?_,cO X G ?_,cO X G ?_,cO X G ?_,cO X G ?_,cO X G ?_,cO X G ?_,cO X G ?_,cO X G ?_,cO X G ?_,dg X G ?h0,dg X G ?h1,dg X G ?h2,dg X G ?h3,dg X G ?h4,dg X G ?h5,⟨?h14,?h8,?h15,?h16⟩,?h17,?h18,?h19,⟨?h22,?h9,?h23,?h24⟩,?h25,?h26,?h27,?h28,⟨?h31,?h10,?h32,?h33⟩,?h34,?h35,?h36,⟨?h39,?h11,?h40,?h41⟩,?h42,?h43,⟨?h46,?h12,?h47,?h48⟩,?h49,⟨?h52,?h13,?h53,?h54⟩,?h55,?h56,dg X G ?h59,dg X G ?h60,dg X G ?h61,dg X G ?h62,dg X G ?h63,dg X G ?h64,?h69,?h70,?h71,?h78,?h79,?h80,?h83,?h84,?h85,⟨?h100,?h101,?h89,?h102,?h86,?h87,?h109,?h110⟩,⟨?h112,?h113,?h90,?h114,?h86,?h87,?h121,?h122⟩,⟨?h124,?h125,?h91,?h126,?h86,?h87,?h133,?h134⟩,⟨?h136,?h137,?h92,?h138,?h86,?h87,?h145,?h146⟩,⟨⟨?h136,?h137,?h92,?h138,?h86,?h87,?h145,?h146⟩,?h72,?h73⟩,⟨?h148,?h149,?h93,?h150,?h86,?h87,?h157,?h158⟩,⟨⟨?h148,?h149,?h93,?h150,?h86,?h87,?h157,?h158⟩,?h81,?h82⟩,⟨?h20,?h21⟩,⟨?h29,?h30⟩,⟨?h37,?h38⟩,⟨?h44,?h45⟩,⟨?h50,?h51⟩,⟨?h57,?h58⟩⟩ ?_ ?_ ?_ ?_ ?_ ?_ ?_ ?_ ?_ ?_ ?_ ?_ ?_ ?_ ?_ ?_ ?_ ?_ ?_ ?_ ?_ ?_ ?_ ?_ ?_ ?_ ?_ ?_ ?_ ?_ ?_ ?_ ?_ ?_ ?_ ?_ ?_ ?_ ?_ ?_ ?_ ?_ ?_ ?vt ?_ ?_ ?_ ?_ ?_ ?_ ?_ ?_ ?_ ?_ ?_ ?_ ?_ ?_ ?_ ?_ ?_ ?_ ?_ ?_ ?_ ?_ ?_ ?_ ?_ ?_ ?_ ?_ ?_
  any_goals refine' L2.sS ?_ ?_ ?_ ?_
  any_goals refine' L2.rB ?_ ?_ ?_ ?_ ?_
  any_goals refine' L2.rF ?_ ?_ ?_ ?_ ?_
  any_goals refine' L2.BJ ?_ ?_ ?_
  all_goals try first|k_is|(dsimp only;k_is)|(unfold L2.aE;dsimp only;k_is)
  (case vt=>rfl)
  all_goals try first|k_is|(dsimp only;k_is)
  all_goals first|k_exc|(dsimp only;k_exc)|kernel_rfl|(dsimp only;kernel_rfl)|rfl
#print axioms PySem.Challenge.cw_goodenough_k50_best_looked_at_holds
