import PyProof.Rows.All
import Wide.All
import OpenK.AllK
import Wide.FinOn
import Lean
import PyProof.EqAt
import PyProof.EqKinds
import PyProof.TupleCall
import PySem.Challenge.RW_goodenough_k39_cases_part_all
set_option Elab.async false
set_option linter.all false
set_option maxRecDepth 100000
set_option maxHeartbeats 4000000
set_option bootstrap.genMatcherCode false
noncomputable section
theorem xz{α:Sort u}(a:α):∃x,x=a:=⟨_,rfl⟩
theorem xL{a:Prop}(h:a:=by first|exact Or.inl rfl|exact Or.inr rfl):a:=h
def sC:=@PySem.Around.under_plainId
def oK:=@Array.getD_eq_getD_getElem?
def uK:=@Array.getElem?_eq_some_iff
def wN:=@Array.getElem?_toList
def oM:=@Array.length_toList
def jH:=@Bool.and_eq_true
def uL:=@Bool.false_eq_true
def eN:=@Bool.false_ne_true
def wO:=@PySem.Calls.callWith_builtin
def uM:=@PySem.Calls.evalArgs_plain
def nC:=@PySem.Calls.spliced_cons
def p9:=@PySem.Calls.spliced_nil
def sD:=@PySem.Code.quiet_builtin
def gW:=@Eq.trans
def jy:=@PySem.F.called_set
def lB:=@PySem.F.plain_max_loop
def p_:=@PySem.F.slot_tuple_iterator_next
def qc:=@PySem.F.slot_zip_next
def nE:=@PySem.Heap.SameBut.update
def lD:=@PySem.Heap.get?_none_of_le
def aK:=@PySem.Heap.get?_push_of_some
def b9:=@PySem.Heap.get?_push_size
def fO:=@PySem.Heap.get?_update_other
def jz:=@PySem.Heap.get?_update_self
def aM:=@PySem.Heap.lt_size
def iA:=@PySem.Heap.size_push
def j_:=@Int.emod_lt_of_pos
def j':=@Int.emod_nonneg
def sE:=@Int.le_antisymm
def lE:=@Int.le_refl
def vV:=@List.Nodup.length_le_of_subset
def lF:=@List.all_cons
def lG:=@List.all_eq_true
def qf:=@List.all_map
def lH:=@List.any_cons
def nF:=@List.append_assoc
def dN:=@List.append_nil
def qh:=@List.cons_append
def vW:=@List.dropLast_concat_getLast
def sF:=@List.dropLast_eq_take
def nG:=@List.drop_eq_getElem_cons
def qi:=@List.drop_length
def vX:=@List.eq_nil_of_length_eq_zero
def sH:=@List.eq_nil_or_concat
def sJ:=@List.ext_getElem
def iB:=@List.ext_getElem?
def sL:=@List.filterMap_cons
def sN:=@List.forIn_cons
def du:=@List.getD_eq_getElem?_getD
def fZ:=@List.getElem?_append_left
def iC:=@List.getElem?_append_right
def b7:=@List.getElem?_eq_getElem
def f9:=@List.getElem?_eq_none_iff
def b_:=@List.getElem?_eq_some_iff
def sO:=@List.getElem?_inj
def bY:=@List.getElem?_map
def lI:=@List.getElem?_replicate
def aI:=@List.getElem?_set_ne
def a_:=@List.getElem?_set_self
def nI:=@List.getElem_of_mem
def gX:=@List.length_append
def gY:=@List.length_cons
def nJ:=@List.length_drop
def lJ:=@List.length_eq_zero_iff
def qj:=@List.length_filter_le
def aN:=@List.length_map
def sP:=@List.length_pos_iff
def qo:=@List.length_range
def ka:=@List.length_reverse
def qq:=@List.length_set
def sQ:=@List.length_singleton
def lK:=@List.length_take
def fq:=@List.lookup_cons
def gZ:=@List.map_append
def iD:=@List.map_congr_left
def bJ:=@List.map_cons
def qr:=@List.map_const'
def sR:=@List.map_fst_zip
def cM:=@List.map_map
def jA:=@List.map_nil
def cO:=@List.mem_append
def lL:=@List.mem_append_left
def eO:=@List.mem_append_right
def aU:=@List.mem_cons
def bK:=@List.mem_cons_of_mem
def g_:=@List.mem_cons_self
def hG:=@List.mem_filter
def lN:=@List.mem_filterMap
def nK:=@List.mem_flatMap
def hI:=@List.mem_map
def jB:=@List.mem_of_getElem?
def iE:=@List.mem_range
def cY:=@List.mem_singleton
def lO:=@List.nodup_append
def iF:=@List.nodup_cons
def qs:=@List.nodup_range
def iG:=@List.not_mem_nil
def nL:=@List.of_mem_zip
def qt:=@List.reverse_cons
def dX:=@List.size_toArray
def oN:=@List.take_of_length_le
def oO:=@List.zipIdx_map
def l4:=@Nat.le_of_eq
def hX:=@Nat.le_of_lt
def aC:=@Nat.le_refl
def gp:=@Nat.le_succ
def bI:=@Nat.le_trans
def dw:=@Nat.lt_irrefl
def l5:=@Nat.lt_of_le_of_lt
def cP:=@Nat.lt_of_lt_of_le
def kb:=@Nat.lt_succ_of_lt
def eP:=@Nat.lt_succ_self
def fS:=@Nat.lt_trans
def eQ:=@Nat.ne_of_gt
def aY:=@Nat.ne_of_lt
def ke:=@Nat.not_lt_zero
def bR:=@Nat.zero_le
def aR:=@Ne.symm
def kf:=@PySem.Obj.data_mapFields
def l7:=@PySem.Obj.isFreed_of_fields
def oP:=@Option.map_eq_some_iff
def oQ:=@Option.map_some
def dO:=@Option.some.inj
def eR:=@PySem.PassesOwn.leaving
def jd:=@PySem.PassesOwn.never
def eU:=@PyProof.Rows.callWith_type1
def je:=@PyProof.Rows.slot_tuple_getitem
def oR:=@PySem.F.args_tuple_add_2
def oS:=@PySem.F.entry_tuple_add
def dy:=@PySem.F.excBase_ValueError
def fx:=@PySem.F.plainAttrs_list
def oU:=@PySem.F.slot_dict_get
def kg:=@PySem.F.slot_list_append
def oV:=@PySem.F.slot_list_pop
def oW:=@PySem.F.slot_tuple_add
def kh:=@PySem.F.type_list_append
def oX:=@PySem.F.type_list_pop
def ki:=@PySem.W.KasT.kasWp_bind
def oY:=@PySem.W.any_some
def l8:=@PySem.W.callWith_K
def oZ:=@PySem.W.cellsFrom_some
def o5:=@PySem.W.hideAll_get
def o9:=@PySem.W.isNs_of_in
def eV:=@PySem.W.kia_one
def o_:=@PySem.W.looks_clsIn
def pd:=@PySem.W.looks_findIn
def ph:=@PySem.W.makes_of
def cI:=@PySem.W.mg_none_of
def cU:=@PySem.W.mg_of
def pj:=@PySem.W.of_hideAll
def pk:=@PySem.W.plainGet_of
def aV:=@PySem.boot_len
def fT:=@PySem.mem_of_lookup
def kj:=@beq_eq_false_iff_ne
def eW:=@beq_iff_eq
def jf:=@PyProof.Rows.boot_isinstance
def eB:=@PyProof.Rows.boot_list
def jg:=@PySem.codeAny_builtin
def l9:=@PySem.codeAny_call_builtin
def gq:=@PySem.codeAny_mono
def c7:=@congrArg
def l_:=@decide_eq_decide
def cV:=@decide_eq_false
def eY:=@decide_eq_true
def ak:=@if_neg
def ao:=@if_pos
def hZ:=@not_or
def h7:=@or_false
def km:=@PySem.plainId_quiet
def l':=@PySem.rangeSize_one
def mf:=@PySem.seqIndex_neg
def dP:=@PySem.sizeLine_eq
def pw:=@PySem.tupleKind_room_in1
def gr:=@PySem.wpAny_Call_Name_kw
def kn:=@PySem.wpAny_Name
def mm:=@PySem.wpAny_attempt
def ah:=@PySem.wpAny_bind
def fU:=@PySem.wpAny_call
def h8:=@PySem.wpAny_callSpecial?_slot
def h_:=@PySem.wpAny_call_entry
def mu:=@PySem.wpAny_execs_nil
def cj:=@PySem.wpAny_field
def dz:=@PySem.wpAny_holding
def gu:=@PySem.wpAny_letGo
def px:=@PySem.wpAny_loadName_local
def mw:=@PySem.wpAny_loadPart'
def c8:=@PySem.wpAny_mono
def ko:=@PySem.wpAny_newObj_type
def mz:=@PySem.wpAny_onRaise
def ia:=@PySem.wpAny_passesOwn
def au:=@PySem.wpAny_pure
def mB:=@PySem.wpAny_pyIter_enum
def pz:=@PySem.wpAny_pyIter_revIter
def mD:=@PySem.wpAny_pyIter_tuple
def ib:=@PySem.wpAny_rule
def eD:=@PySem.wpAny_seqItems
def kq:=@PySem.wpAny_setField
def jh:=@PySem.wpAny_setField_rec
def gv:=@PySem.wpAny_standAt
def kr:=@PySem.wpAny_truthy_bool
def ku:=@PySem.wpAny_tryCatch
def ji:=@PySem.wpAny_typeOf
def mE:=@PySem.wpAny_updateSeq
def pA:=@PySem.wpAny_updateSeq_pair
namespace L2
open PySem PySem.Spec PyProof.Rows
abbrev Key:=Sum Int Str
def yH:Key->Value->Bool |.inl k,v=>Value.isInt k v |.inr x,v=>Value.isStrOf x v
def EF(w:World):Key->Int |.inl k=>hashInt k |.inr x=>hashStr w x
theorem uN:∀{k:Key}{v:Value},yH k v=true->(∃i t,k=Sum.inl i/\v=Value.int i t)\/(∃x t,k=Sum.inr x/\v=Value.str x t) |.inl i,v,h=>by obtain⟨t,e⟩:=Value.isInt_shape h;simp_all |.inr x,v,h=>by obtain⟨t,e⟩:=Value.isStrOf_shape h;simp_all
theorem Sx(i:Int)(t:Tok):yH (.inl i) (.int i t)=true:=by simp[yH,Value.isInt]
theorem Sy(x:Str)(t:Tok):yH (.inr x) (.str x t)=true:=by simp[yH,Value.isStrOf]
theorem Sz(a b:Int):decide ((Sum.inl a:Key)=Sum.inl b)=(a==b):=by
 by_cases e:a=b;.simp_all
 .have h:¬(Sum.inl a:Key)=Sum.inl b:=fun q=>e (Sum.inl.inj q);rw[cV h];exact(kj.mpr e).symm
theorem SD(a b:Str):decide ((Sum.inr a:Key)=Sum.inr b)=decide (a=b):=by simp
theorem SF(a:Int)(b:Str):decide ((Sum.inl a:Key)=Sum.inr b)=false:=cV (fun q=>nomatch q)
theorem SH(a:Str)(b:Int):decide ((Sum.inr a:Key)=Sum.inl b)=false:=cV (fun q=>nomatch q)
def qL(prog:Program)(w:World):PySem.KeyKind prog w Key where
  is:=yH;hash:=EF w;inj:=fun v a b l f=>by
    rcases uN l with⟨i,t,rfl,rfl⟩|⟨x,t,rfl,rfl⟩
    . rcases uN f with⟨j,u,rfl,e⟩|⟨y,u,rfl,e⟩;.injection e with c _;rw[c]
      .exact nomatch e
    . rcases uN f with⟨j,u,rfl,e⟩|⟨y,u,rfl,e⟩;.exact nomatch e
      .injection e with c _;rw[c]
  byValue:=fun k v h=>by rcases uN h with⟨i,t,rfl,rfl⟩|⟨x,t,rfl,rfl⟩<;>rfl
  pyHash:=fun d h=>by
    rcases uN d with⟨i,t,rfl,rfl⟩|⟨x,t,rfl,rfl⟩;.exact wpAny_pyHash_int h
    .exact wpAny_pyHash_str h
  eqBool:=fun g d h=>by
    rcases uN g with⟨i,t,rfl,rfl⟩|⟨x,t,rfl,rfl⟩
    . rcases uN d with⟨j,u,rfl,rfl⟩|⟨y,u,rfl,rfl⟩;.rw[Sz] at h;exact wpAny_eqBool_int h
      .rw[SF] at h;exact SeqAt.EqAt.int_str i t y u _ _ _ _ h
    . rcases uN d with⟨j,u,rfl,rfl⟩|⟨y,u,rfl,rfl⟩;.rw[SH] at h;exact SeqAt.EqAt.str_int x t j u _ _ _ _ h
      .rw[SD] at h;exact wpAny_eqBool_str h
  «strs»:=fun k x t v h=>by
    rcases uN h with⟨i,u,rfl,e⟩|⟨y,u,rfl,e⟩;.exact nomatch e
    .injection e with c _;subst c;cases v<;>rfl
theorem SJ(prog:Program)(w:World)(i:Int)(t:Tok):(qL prog w).is (.inl i) (.int i t)=true:=Sx i t
theorem SK(prog:Program)(w:World)(x:Str)(t:Tok):(qL prog w).is (.inr x) (.str x t)=true:=Sy x t
inductive V where |non|bl(b:Bool)|int(i:Int)|str(x:Str)|rP(b:Array UInt8)|wQ(b:UInt64)|ref(a:Addr)|ty(n:String) deriving DecidableEq
def RelV:V->Value->Prop |.non,u=>u=Value.none |.bl b,u=>u=Value.bool b |.int i,u=>∃t,u=Value.int i t |.str x,u=>∃t,u=Value.str x t |.rP b,u=>∃t,u=Value.bytes b t |.wQ b,u=>∃t,u=Value.float b t |.ref a,u=>u=Value.ref a |.ty n,u=>u=Value.type n
abbrev Vals:List V->List Value->Prop:=Paired RelV
theorem Vals.length(r:Vals xs us):xs.length=us.length:=Paired.length r
theorem Vals.get:∀{xs:List V}{us:List Value}{i:Nat}{x:V},Vals xs us->xs[i]?=some x->∃u,us[i]?=some u/\RelV x u |_,_,_,_,.nil,e=>by simp at e |_,_,0,_,.cons r _,e=>by simp_all |_,_,i+1,x,.cons _ t,e=>by obtain⟨u,a,b⟩:=Vals.get (i:=i) (x:=x) t (by simp_all);simp_all
theorem Vals.set(r:RelV x u):∀{xs:List V}{us:List Value}(i:Nat),Vals xs us->Vals (xs.set i x) (us.set i u) |_,_,_,.nil=>.nil |_,_,0,.cons _ t=>.cons r t |_,_,i+1,.cons q t=>.cons q (Vals.set r i t)
theorem Vals.append:∀{xs ys:List V}{us ws:List Value},Vals xs us->Vals ys ws->Vals (xs++ys) (us++ws) |_,_,_,_,.nil,s=>s |_,_,_,_,.cons r t,s=>.cons r (Vals.append t s)
theorem Vals.take:∀{xs:List V}{us:List Value}(n:Nat),Vals xs us->Vals (xs.take n) (us.take n) |_,_,0,_=>.nil |_,_,_+1,.nil=>.nil |_,_,n+1,.cons r t=>.cons r (Vals.take n t)
theorem Vals.drop:∀{xs:List V}{us:List Value}(n:Nat),Vals xs us->Vals (xs.drop n) (us.drop n) |_,_,0,r=>r |_,_,_+1,.nil=>.nil |_,_,n+1,.cons _ t=>Vals.drop n t
def gT:Option V->Option Value->Prop |some v,some u=>RelV v u |none,none=>True |_,_=>False
def KV{κ:Type}:List (κ×V)->List (κ×Value)->Prop:=Paired fun(p:κ×V) (q:κ×Value)=>p.1=q.1/\RelV p.2 q.2
def kV:Key->V |.inl i=>.int i |.inr x=>.str x
inductive HO where |lst(xs:List V) |tup(xs:List V) |dK(cu:List (Key×V))|dT(cu:List (List Key×V)) |set(S:Int->Bool)(n:Nat) |ins(C dx:Addr)(fs:List (Str×V)) |own(x:Addr) |xd(fs:List (Str×V)) |met(f x:Addr) |lP(lo hi:Int) |jI(o:Obj)(u:HO) |pC(ps:Array Value) |ext(φ:Heap->Prop)
abbrev Hp:=Addr->Option HO
def upd(H:Hp)(a:Addr)(o:HO):Hp:=fun b=>if b=a then some o else H b
theorem cb:upd H a o a=some o:=by unfold upd;simp
theorem bc(h:b≠a):upd H a o b=H b:=by unfold upd;simp_all
theorem SM{H:Hp}(h:H a=some o)(h':H b=some u)(d:o≠u):a≠b:=by intro e;simp_all
theorem dH{H:Hp}(h:H a=some o)(h':H b=none):a≠b:=by intro e;simp_all
noncomputable def SN(fd:FuncData):Option Pos:= match fd.body with |.stmts [.Return (some (.Call _ _ [⟨_,.Lambda _ _ _ a,_⟩] _)) _]=>some a |_=>none
def tabAt(K:PySem.W.Frag)(v:Value):Option Addr:= match v with
 |.ref c=>match K.lookup c with
  |some o=>match o.data with
   |.fields a=>match(a[11]?:Option Value) with |some (.ref P)=>some P |_=>none
   |_=>none
  |_=>none
 |_=>none
def tabOf(K:PySem.W.Frag):Option (Addr×Array Value):= K.findSome? fun p=>match p.2.data with
 |.func b=>match SN b with |some a=>(tabAt K b.code).map fun P=>(P,#[.str (b.qualname++".<locals>."++"<lambda>") 0,rawInt a.line,rawInt a.col]) |none=>none
 |_=>none
def iH(H:Hp)(h:Heap)(a:Addr)(ps:Array Value):Prop:= ∃(q:Str) (t:Tok) (g e:Int) (d:List Value) (b:Array Value),ps.toList=.str q t::rawInt g::rawInt e::d/\h.get? a=some {cls:=.none,data:=.fields b}/\ (b=#[]\/∃(c:Addr) (o:Obj) (f:Array Value) (u:Tok),b=#[rawInt g,rawInt e,.ref c]/\H c=some (.own a)/\h.get? c=some o/\o.data=.fields f/\f[1]?=some (.str q u))
theorem iH.lt(x:iH H h a ps):a<h.objs.size:=let⟨_,_,_,_,_,_,_,e,_⟩:=x;aM e
theorem iH.ic(x:iH H h a ps)(k:∀b u,(b=a\/H b=some (.own a))->h.get? b=some u->h'.get? b=some u) (m:∀b,H b=some (.own a)->H' b=some (.own a)):iH H' h' a ps:=by
 obtain⟨q,t,r,s,d,e,n,p,g⟩:=x;refine⟨q,t,_,_,_,_,n,k _ _ (.inl rfl) p,?_⟩;rcases g with g|⟨c,o,v,u,l,f,i,j⟩;.simp_all
 .exact .inr ⟨c,o,_,u,l,m _ f,k _ _ (.inr f) i,j⟩
def qM(K:PySem.W.Frag)(H:Hp):Prop:=∀t,tabOf K=some t->∃a,H t.1=some (.pC (t.2++a))
theorem qM.grown{K:PySem.W.Frag}(x:qM K H)(g:∀b ps,H b=some (.pC ps)->∃more,H' b=some (.pC (ps++more))):qM K H':=fun t e=>by obtain⟨d,c⟩:=x t e;obtain⟨a,f⟩:=g _ _ c;exact⟨d++a,by simp_all⟩
section
variable(P:Program)(w:World)
def da(H:Hp)(h:Heap)(a:Addr):HO->Prop |.lst d=>d.length<=sizeLine/\∃(b:List Value) (n:Nat),Vals d b/\h.get? a=some {cls:=.type "list",data:=.seq b.toArray n} |.tup d=>d.length<=sizeLine/\∃b:List Value,Vals d b/\IsTup h a b.toArray |.dK c=>c.length<=sizeLine/\(a==sysModules)=false/\∃s,KV c s/\h.DictOf (qL P w) a s |.dT c=>c.length<=sizeLine/\(a==sysModules)=false/\∃d:List (List Key×Addr×Value), Paired (fun(p:List Key×V) (q:List Key×Addr×Value)=>p.1=q.1/\H q.2.1=some (.tup (p.1.map kV))/\RelV p.2 q.2.2) c d/\ ∃o l y,h.get? a=some o/\o.ExactDict/\o.data=.dict l y/\l.toList=d.map (entryOfKey (tupleKind (qL P w)))/\(d.map (·.1)).Nodup |.set S n=>h.SetOf (intKind P w) a S n |.ins C i g=>H i=some (.own a)/\g.length<=1000/\i≠a/\h.get? a=some (PySem.W.instObj C i)/\ ∃e,h.Ns1 i e/\(∀f,gT (g.lookup f) (e f))/\PySem.Within e (g.map (·.1)) |.own _=>∃o,h.get? a=some o |.xd g=>∃e,h.Ns1 a e/\∀f,gT (g.lookup f) (e f) |.lP lo z=>∃t u v,h.get? a=some {cls:=.type "range",data:=.fields #[.int lo t,.int z u,.int 1 v]} |.jI o u=>h.get? a=some o/\da H h a u |.pC A=>iH H h a A |.met f x=>h.get? a=some (PySem.W.methodObj (.ref f) (.ref x)) |.ext k=>k h/\(∃o,h.get? a=some o)/\∀m r:Heap,k m->(∀o,m.get? a=some o->r.get? a=some o)->k r
def hL(H:Hp)(h:Heap):Prop:=∀a o,H a=some o->da P w H h a o
end
section
variable{P:Program}{w:World}{H H':Hp}{h h':Heap}{a:Addr}{o:HO}
theorem da.lt(x:da P w H h a o):a<h.objs.size:=by cases o with |lst j=>obtain⟨_,_,_,_,e⟩:=x;exact aM e |tup j=>obtain⟨_,_,_,p⟩:=x;exact p.lt |dK b=>obtain⟨_,_,_,_,o,_,_,e,_⟩:=x;exact aM e |dT b=>obtain⟨_,_,_,_,o,_,_,e,_⟩:=x;exact aM e |set S n=>obtain⟨o,_,_,_,e,_⟩:=x;exact aM e |ins C D d=>obtain⟨_,_,_,e,_⟩:=x;exact aM e |own y=>obtain⟨_,e⟩:=x;exact aM e |xd d=>obtain⟨_,⟨_,_,_,e,_⟩,_⟩:=x;exact aM e |lP lo z=>obtain⟨_,_,_,e⟩:=x;exact aM e |jI A u=>obtain⟨e,_⟩:=x;exact aM e |pC v=>exact iH.lt x |met f y=>exact aM x |ext t=>obtain⟨_,⟨_,e⟩,_⟩:=x;exact aM e
theorem Paired.wR:∀{Aq:List α}{Ar:List c},Paired F Aq Ar->(∀a b,F a b->G a b)->Paired G Aq Ar |_,_,.nil,_=>.nil |_,_,.cons r t,f=>.cons (f _ _ r) (Paired.wR t f)
theorem da.ic(x:da P w H h a o)(k:∀b u,(b=a\/H b=some (.own a))->h.get? b=some u->h'.get? b=some u) (s:∀b,H b=some (.own a)->H' b=some (.own a))(J:∀b xs,H b=some (.tup xs)->H' b=some (.tup xs)):da P w H' h' a o:=by induction o with |lst xs=>obtain⟨z,l,n,r,e⟩:=x;exact⟨z,_,n,r,k _ _ (.inl rfl) e⟩ |tup xs=>obtain⟨z,l,r,g,e,c⟩:=x;exact⟨z,_,r,_,k _ _ (.inl rfl) e,c⟩ |dK m=>obtain⟨z,y,vs,r,g,i,j,e,c⟩:=x;exact⟨z,y,_,r,_,_,_,k _ _ (.inl rfl) e,c⟩ |dT m=> obtain⟨z,y,xs,r,g,i,j,e,c⟩:=x;exact⟨z,y,_,Paired.wR r fun p q z=>⟨z.1,J _ _ z.2.1,z.2.2⟩,_,_,_,k _ _ (.inl rfl) e,c⟩ |set S n=>obtain⟨g,i,j,t,e,c⟩:=x;exact⟨_,_,_,t,k _ _ (.inl rfl) e,c⟩ |ins C dx Q=> obtain⟨d,z,B,e,O,⟨L,i,j,D,c⟩,r⟩:=x;exact⟨s _ d,z,B,k _ _ (.inl rfl) e,_,⟨_,_,_,k _ _ (.inr d) D,c⟩,r⟩ |own y=>obtain⟨g,e⟩:=x;exact⟨_,k _ _ (.inl rfl) e⟩ |xd Q=>obtain⟨O,⟨L,i,j,e,c⟩,r⟩:=x;exact⟨_,⟨_,_,_,k _ _ (.inl rfl) e,c⟩,r⟩ |lP lo hi=>obtain⟨t,u,v,e⟩:=x;exact⟨t,u,v,k _ _ (.inl rfl) e⟩ |jI g u N=>obtain⟨e,q⟩:=x;exact⟨k _ _ (.inl rfl) e,N q⟩ |pC ps=>exact iH.ic x k s |met f y=> have e:h.get? a=some _:=x;show h'.get? a=some _;simp_all |ext Y=>obtain⟨p,⟨o,e⟩,st⟩:=x;exact⟨st _ _ p fun o q=>k _ _ (.inl rfl) q,⟨o,k _ _ (.inl rfl) e⟩,st⟩
theorem hL.lt(x:hL P w H h)(e:H a=some o):a<h.objs.size:=(x a o e).lt
theorem hL.fresh(x:hL P w H h)(e:h.objs.size<=a):H a=none:=by cases q:H a with |none=>rfl |some u=>exact absurd (cP (x.lt q) e) (dw _)
theorem hL.kept(x:hL P w H h)(k:∀b u,h.get? b=some u->h'.get? b=some u):hL P w H h':=fun a o e=> (x a o e).ic (fun b u _ q=>k b u q) (fun _ q=>q) fun _ _ q=>q
theorem hL.laid(x:hL P w H h)(k:∀b u,h.get? b=some u->h'.get? b=some u)(g:h.objs.size<=a)(i:da P w (upd H a o) h' a o):hL P w (upd H a o) h':=fun b u e=>by
 have f:=x.fresh g;by_cases d:b=a;.subst d;rw[cb] at e;simp_all
 .rw[bc d] at e;exact(x b u e).ic (fun c v _ q=>k c v q) (fun c q=>by rwa[bc (dH q f)]) fun c j q=>by rwa[bc (dH q f)]
end
def Rd(H:Hp)(a:Addr)(u:HO):Prop:=H a=some u\/∃o,H a=some (.jI o u)
theorem Rd.ok(r:Rd H a u)(x:hL P w H h):da P w H h a u:=by
 rcases r with r|⟨o,r⟩;.exact x a u r
 .obtain⟨_,q⟩:=x a _ r;exact q
def As:Option HO->Prop |some (.lst _)=>True |some (.dK _)=>True |some (.dT _)=>True |some (.set _ _)=>True |some (.ins _ _ _)=>True |some (.ext _)=>True |_=>False
section
variable{P:Program}{w:World}{H:Hp}{h h':Heap}{x e:Addr}{o':HO}
theorem hL.write(s:hL P w H h)(o:As (H x))(n:e=x\/H e=some (.own x))(k:∀b u,b≠e->h.get? b=some u->h'.get? b=some u)(j:∃u,h'.get? e=some u) (p:da P w (upd H x o') h' x o'):hL P w (upd H x o') h':=fun b u q=>by
  have a:∀c y,H c=some (.own y)->c≠x:=fun c y r z=>by subst z;rwa[r] at o
  have f:∀c l,H c=some (.tup l)->c≠x:=fun c l r z=>by subst z;rwa[r] at o
  by_cases i:b=x;.subst i;rw[cb] at q;grind
  . rw[bc i] at q;by_cases d:b=e
    . have m:H b=some (.own x):=by
        rcases n with z|z;.grind
        grind
      rw[q] at m;cases m;obtain⟨v,t⟩:=j;exact⟨v,by rwa[d]⟩
    . refine(s b u q).ic (fun c v g r=>k c v ?_ r) (fun c r=>by rwa[bc (a c b r)]) fun c l r=>by rwa[bc (f c _ r)]
      rcases g with rfl|g;.exact d
      . rintro rfl;rcases n with z|z;.exact a c b g z
        .rw[g] at z;cases z;exact i rfl
end
structure Un(fs ex:List Addr)(H H':Hp)(h h':Heap):Prop where
 keep:∀b o,h.get? b=some o->H b=none->b∉fs->b∉ex->h'.get? b=some o
 slot:∀b o,h.get? b=some o->H b=none->b∈fs->b∉ex->∃sl,h'.get? b=some {o with slots:=sl}free:∀b o,h.get? b=some o->H b=none->b∉ex->H' b=none
 there:∀b o,h.get? b=some o->b∉ex->∃o',h'.get? b=some o'
 kv:∀b xs,H b=some (.tup xs)->H' b=some (.tup xs)jJ:∀b o u,H b=some (.jI o u)->H' b=some (.jI o u)ie:∀b ps,H b=some (.pC ps)->∃more,H' b=some (.pC (ps++more))
section
variable{fs EG ex Kj:List Addr}{H H1 H2:Hp}{h h1 h2 h':Heap}{a x e:Addr}{o:HO}
theorem Un.any(u:Un fs ex H H1 h h1)(q:h.get? b=some g)(n:H b=none)(d:b∉ex):∃f,h1.get? b=some {g with slots:=f}:=by
 by_cases c:b∈fs;.exact u.slot b _ q n c d
 .exact⟨_,u.keep b _ q n c d⟩
theorem Un.kept(k:∀b u,h.get? b=some u->h'.get? b=some u):Un fs ex H H h h':= ⟨fun b c q _ _ _=>k b _ q,fun b c q _ _ _=>⟨_,k b _ q⟩,fun _ _ _ n _=>n,fun b c q _=>⟨_,k b _ q⟩,fun _ _ q=>q,fun _ _ _ q=>q,fun _ d q=>⟨#[],by simp_all⟩⟩
theorem Un.refl:Un fs ex H H h h:=Un.kept fun _ _ q=>q
theorem Un.laid(k:∀b u,h.get? b=some u->h'.get? b=some u)(d:h.objs.size<=a)(c:H a=none):Un fs ex H (upd H a o) h h' where
 keep:=fun b u q _ _ _=>k b u q;slot:=fun b u q _ _ _=>⟨_,k b u q⟩;free:=fun b u q n _=>by rwa[bc (aY (cP (aM q) d))]
 there:=fun b u q _=>⟨u,k b u q⟩;kv:=fun b f q=>by rwa[bc (dH q c)]
 jJ:=fun b u f q=>by rwa[bc (dH q c)]
 ie:=fun b g q=>⟨#[],by rw[bc (dH q c),q];simp⟩
theorem Un.write(f:As (H x))(r:e=x\/H e=some (.own x))(k:∀b u,b≠e->h.get? b=some u->h'.get? b=some u)(g:∃u,h'.get? e=some u):Un fs ex H (upd H x o) h h':=by
 have j:∀b,H b=none->b≠x:=fun b n z=>by subst z;rwa[n] at f
 have i:∀b,H b=none->b≠e:=fun b n z=>by simp_all
 have d:∀b u,H b=some u->¬As (some u)->b≠x:=fun b u q m z=>by subst z;rw[q] at f;exact m f
 refine⟨fun b u q n _ _=>k b u (i b n) q,fun b u q n _ _=>⟨_,k b u (i b n) q⟩,fun b u q n _=>by rwa[bc (j b n)],fun b u q _=>?_, fun b l q=>by rwa[bc (d b _ q fun z=>z)],fun b u l q=>by rwa[bc (d b _ q fun z=>z)],fun b p q=>⟨#[],by rw[bc (d b _ q fun z=>z),q];simp⟩⟩;by_cases c:b=e;.subst c;exact g
 .exact⟨u,k b u c q⟩
theorem Un.mono(u:Un fs ex H H1 h h1)(i:∀b∈fs,b∈EG)(d:∀b∈ex,b∈Kj):Un EG Kj H H1 h h1:= ⟨fun b f q n g c=>u.keep b _ q n (fun z=>g (i b z)) fun z=>c (d b z),fun _ _ q n _ c=>u.any q n fun z=>c (d _ z),fun b f q n c=>u.free b _ q n fun z=>c (d b z),fun b f q c=>u.there b _ q fun z=>c (d b z),u.kv,u.jJ,u.ie⟩
end
def Kk(h:Heap)(H:Hp):List Addr:=(List.range h.objs.size).filter fun a=>(H a).isSome
def mF(h:Heap)(H:Hp):Heap:=PySem.W.hideAll h (Kk h H)
theorem SQ(h:Heap)(H:Hp):(mF h H).objs.size=h.objs.size:=PySem.W.hideAll_size _ _
theorem EH(e:h.get? b=some o)(n:H b=none):(mF h H).get? b=some o:= o5 _ e fun a=>by have q:=(hG.mp a).2;simp_all
theorem SV(e:(mF h H).get? b=some o):h.get? b=some o/\H b=none:=by have a:=pj _ e;refine⟨a,?_⟩;cases q:H b with |none=>rfl |some x=> have c:b∈Kk h H:=hG.mpr ⟨iE.mpr (aM a),by simp[q]⟩;have z:(mF h H).get? b=none:=PySem.W.hideAll_none _ c;simp_all
def SW(g h:Heap)(L:Addr):List (Addr×Obj):=(List.range h.objs.size).filterMap fun a=>if a=L\/(g.get? a).isSome=true then none else(h.get? a).map fun o=>(a,o)
def rest(g h:Heap)(L d:Addr):List (Addr×Obj):=(SW g h L).filter fun p=>decide (p.1≠d)
structure Mod(K:PySem.W.Frag)(mg:Str->Option Value)(base:Heap):Prop where
 vY:K.In base
 glob:base.Ns mainGlobals mg
 blt:∃mb,base.Ns builtinsNs mb/\∀x:Str,x≠"__name__"->mb x=bootBuiltins x
 nolimit:base.NoLimit
structure Cx where
 prog:Program
 w:World
 K:PySem.W.Frag
 mg:Str->Option Value
 base:Heap
 A:Around
 N:List Str
 fy:Shared
 qN:Hp
 env:Env
 outer:List Env
 stack:List Env
 ex:List Addr
 fn:Str->Bool
 calm:Bool
 pn:List (Addr×Obj)xe:Value->Shared->Prop
noncomputable def k6(l:List Env):List Addr:=l.filterMap (·.frame)
abbrev Cx.fs(X:Cx):List Addr:=k6 X.outer
def Au(a:Scope)(x:Str):Prop:=a.names.lookup x=some .local\/a.names.lookup x=some .cell\/a.names.lookup x=some .free
def Loc(a:Scope)(x:Str):Prop:=a.names.lookup x=some .local\/a.names.lookup x=some .cell
def Look(env:Env)(h:Heap)(m:Str->Option Value)(x:Str)(u:Value):Prop:= (env.kindOf x=some .local/\m x=some u)\/((env.kindOf x=some .cell\/env.kindOf x=some .free)/\∃c,env.cells.lookup x=some c/\h.IsCell c (some u))
structure Cx.Ok(X:Cx):Prop where
 mod:Mod X.K X.mg X.base
 kind:X.env.scope.kind=.function
 glob:X.env.globals=mainGlobals
 blt:X.env.builtins=builtinsNs
 above:X.fy.heap.objs.size<=X.env.locals
 inj:∀x y c,X.env.cells.lookup x=some c->X.env.cells.lookup y=some c->x=y
 has:∀x,(X.env.kindOf x=some .cell\/X.env.kindOf x=some .free)->∃c,X.env.cells.lookup x=some c
 Av:∀x c,X.fn x=true->X.env.cells.lookup x=some c->X.fy.heap.objs.size<=c
 hd:X.calm=true->X.A.handled=none
 frames:X.A.frames=some X.stack
 CD:X.stack=X.outer\/(X.stack=X.env::X.outer/\X.env.frame=some X.env.locals)Kl:∀b∈X.ex,b≠X.env.locals/\∀x c,X.env.cells.lookup x=some c->c≠b
 bs:∀b o,X.base.get? b=some o->X.fy.heap.get? b=some o/\X.qN b=none
 uO:X.base.objs.size<=X.fy.heap.objs.size
 sS:∀b o,X.base.get? b=some o->b∉X.ex
 uP:∀b∈X.ex,b∉X.fs
 jK:X.fy.heap.FunFrames X.base X.outer
 uh:∀b∈X.fs,X.qN b=none
 tb:qM X.K X.qN
structure Inv(X:Cx)(pins:List (Addr×Obj))(σ:List (Option V))(H:Hp)(s:Shared):Prop where
 ok:X.Ok
 os:s.os=X.fy.os
 bare:AllBare s.gens
 base:Un X.fs X.ex X.qN H X.fy.heap s.heap
 loc:∃m,s.heap.Ns X.env.locals m/\∀(i:Nat)(x:Str)(v:V),X.N[i]?=some x->σ[i]?=some (some v)->Au X.env.scope x->∃u,RelV v u/\Look X.env s.heap m x u
 cell:∀x c,X.env.cells.lookup x=some c->∃v,s.heap.IsCell c v
 free:H X.env.locals=none
 gw:∀x c,X.env.cells.lookup x=some c->H c=none
 pin:∀p∈X.pn++pins,s.heap.get? p.1=some p.2/\H p.1=none/\p.1≠X.env.locals/\p.1∉X.fs/\∀v,p.2.data≠.cell v
 bD:hL X.prog X.w H s.heap
 len:σ.length=X.N.length
section
variable{X:Cx}{pins:List (Addr×Obj)}{σ:List (Option V)}{H H':Hp}{s:Shared}{h':Heap}
theorem Cx.Ok.EI(c:X.Ok)(e:X.base.get? b=some o):b∉X.fs:=fun a=>by have:=(c.jK.mem a).1;simp_all
theorem Inv.bs(I:Inv X pins σ H s):∀b o,X.base.get? b=some o->s.heap.get? b=some o/\H b=none:=fun b o e=> ⟨I.base.keep b o (I.ok.bs b o e).1 (I.ok.bs b o e).2 (I.ok.EI e) (I.ok.sS b o e),I.base.free b o (I.ok.bs b o e).1 (I.ok.bs b o e).2 (I.ok.sS b o e)⟩
theorem Inv.bk(I:Inv X pins σ H s):∀b o,X.base.get? b=some o->s.heap.get? b=some o:=fun b o e=>(I.bs b o e).1
theorem Inv.mod(I:Inv X pins σ H s):Mod X.K X.mg X.base:=I.ok.mod
theorem Inv.gM(I:Inv X pins σ H s):X.K.In s.heap:=I.ok.mod.vY.keeps I.bk
theorem Inv.nolimit(I:Inv X pins σ H s):s.heap.NoLimit:=I.ok.mod.nolimit.keeps I.bk
theorem Inv.lt(I:Inv X pins σ H s):X.env.locals<s.heap.objs.size:=let⟨_,a,_⟩:=I.loc;a.lt
theorem Inv.sz(I:Inv X pins σ H s):X.fy.heap.objs.size<=s.heap.objs.size:=bI I.ok.above (hX I.lt)
theorem Inv.Aw(I:Inv X pins σ H s)(h:s.heap.objs.size<=a):a∉X.fs:=fun c=>let⟨_,o,b,_⟩:=I.ok.jK.mem c;absurd (cP (aM b) (bI I.sz h)) (dw _)
theorem Inv.sT(I:Inv X pins σ H s):∀x c,X.env.cells.lookup x=some c->c≠X.env.locals:=fun x c e z=>by obtain⟨v,o,d,g⟩:=I.cell x c e;obtain⟨m,⟨i,h,f,b,a,_⟩,_⟩:=I.loc;simp_all
theorem Inv.jK(I:Inv X pins σ H s):s.heap.FunFrames X.base X.outer:=by
 have c:∀(l:List _),(∀b∈k6 l,b∈X.fs)->X.fy.heap.FunFrames X.base l->s.heap.FunFrames X.base l:=by intro l;induction l with |nil=>intro _ _;trivial |cons i r q=> rintro g ⟨p,⟨L,o,f,m,t,k⟩,j⟩;have a:=g L (by unfold k6;rw[sL,f];simp);obtain⟨u,e⟩:=I.base.slot L o t (I.ok.uh L a) a fun z=>I.ok.uP L z a;exact⟨p,⟨L,_,f,m,e,k⟩,q (fun b d=>g b (by unfold k6;rw[sL,f];exact bK _ d)) j⟩
 exact c _ (fun _ d=>d) I.ok.jK
theorem Inv.stack(I:Inv X pins σ H s):s.heap.FunFrames X.base X.stack:=by
 rcases I.ok.CD with e|⟨e,b⟩;.rw[e];exact I.jK
 .rw[e];obtain⟨m,a,_⟩:=I.loc;exact .cons (by rw[I.ok.kind];decide) b a (lD (bI I.ok.uO I.ok.above)) I.jK
theorem Inv.gx(I:Inv X pins σ H s):∀b∈k6 X.stack,b∈X.env.locals::X.fs:=fun b a=>by
 rcases I.ok.CD with e|⟨e,c⟩;.simp_all
 .rw[e] at a;unfold k6 at a;rwa[sL,c] at a
theorem Inv.jT(I:Inv X pins σ H s):∀b∈k6 X.stack,H b=none:=fun b a=>by
 rcases aU.mp (I.gx b a) with e|a;.rw[e];exact I.free
 .obtain⟨_,o,c,_⟩:=I.ok.jK.mem a;exact I.base.free b o c (I.ok.uh b a) fun z=>I.ok.uP b z a
theorem Inv.step{g':Array GenState}{t':Nat}{d':Drawn}{ch:List Addr}(I:Inv X pins σ H s) (h:∀b∈ch,(b∈X.ex\/X.fy.heap.objs.size<=b)/\b≠X.env.locals/\(∀x c,X.env.cells.lookup x=some c->c≠b)/\∀p∈X.pn++pins,p.1≠b) (t:∀b o,b≠X.env.locals->b∉X.fs->b∉ch->s.heap.get? b=some o->H b=none->h'.get? b=some o) (A:∀b o,b≠X.env.locals->b∈X.fs->b∉ch->s.heap.get? b=some o->H b=none->∃Q,h'.get? b=some {o with slots:=Q})(f:∀b o,b∉ch->s.heap.get? b=some o->H b=none->H' b=none) (B:∀b o,b∉ch->s.heap.get? b=some o->∃O,h'.get? b=some O) (E:∀b xs,H b=some (.tup xs)->H' b=some (.tup xs))(J:∀b o u,H b=some (.jI o u)->H' b=some (.jI o u))(L:∀b ps,H b=some (.pC ps)->∃more,H' b=some (.pC (ps++more))) (ns:∀m,s.heap.Ns X.env.locals m->h'.Ns X.env.locals m)(N:hL X.prog X.w H' h')(hg:AllBare g'): Inv X pins σ H' {s with heap:=h',gens:=g',drawn:=d',toks:=t'}:=by
  have M:∀b o,X.fy.heap.get? b=some o->b≠X.env.locals:=fun b o e=>aY (cP (aM e) I.ok.above);have y:∀b o,X.fy.heap.get? b=some o->b∉X.ex->b∉ch:=fun b o e a C=>by
    rcases(h b C).1 with z|z;.exact a z
    .exact absurd (cP (aM e) z) (dw _)
  have j:∀x c,X.env.cells.lookup x=some c->∀v,s.heap.IsCell c v->h'.IsCell c v:=fun x c e v ⟨o,D,R⟩=>by
    have g:=fun z=>(h c z).2.2.1 x c e rfl;by_cases S:c∈X.fs;.obtain⟨Q,q⟩:=A c o (I.sT x c e) S g D (I.gw x c e);exact⟨_,q,R⟩
    .exact⟨o,t c o (I.sT x c e) S g D (I.gw x c e),R⟩
  refine⟨I.ok,I.os,hg,⟨fun b o e n C a=>?_,fun b o e n C a=>?_,fun b o e n a=>?_,fun b o e a=>?_,fun b xs e=>E b _ (I.base.kv b _ e),fun b o xs e=>J b o _ (I.base.jJ b o _ e),fun b ps e=>?_⟩,?_,fun x c e=>?_,?_,fun x c e=>?_,fun p Y=>?_,N,I.len⟩;.exact t b o (M b o e) C (y b o e a) (I.base.keep b o e n C a) (I.base.free b o e n a)
  .obtain⟨Q,w⟩:=I.base.slot b o e n C a;obtain⟨sl',G⟩:=A b _ (M b o e) C (y b o e a) w (I.base.free b o e n a);exact⟨_,G⟩
  .obtain⟨O,w⟩:=I.base.there b o e a;exact f b _ (y b o e a) w (I.base.free b o e n a)
  .obtain⟨O,w⟩:=I.base.there b o e a;exact B b _ (y b o e a) w
  .obtain⟨m1,w⟩:=I.base.ie b _ e;obtain⟨m2,G⟩:=L b _ w;exact⟨_,by rw[G,Array.append_assoc]⟩
  . obtain⟨m,Z,hl⟩:=I.loc;refine⟨m,ns m Z,fun i x v w G e3=>?_⟩;obtain⟨u,r,l⟩:=hl i x v w G e3;refine⟨u,r,?_⟩;rcases l with l|⟨k,c,e,z⟩;.exact .inl l
    .exact .inr ⟨k,c,e,j x c e _ z⟩
  .obtain⟨v,z⟩:=I.cell x c e;exact⟨v,j x c e v z⟩
  .obtain⟨m,⟨o,_,_,D,_⟩,_⟩:=I.loc;exact f _ o (fun z=>(h _ z).2.1 rfl) D I.free
  .obtain⟨v,o,D,R⟩:=I.cell x c e;exact f c o (fun z=>(h c z).2.2.1 x c e rfl) D (I.gw x c e)
  .obtain⟨e,n,T,U,d⟩:=I.pin p Y;have g:=fun z=>(h _ z).2.2.2 p Y rfl;exact⟨t _ _ T U g e n,f _ _ g e n,T,U,d⟩
theorem Inv.un(I:Inv X pins σ H s)(u:Un X.fs [] H H' s.heap h')(c:hL X.prog X.w H' h'):Inv X pins σ H' {s with heap:=h',toks:=t'}:=by obtain⟨m,⟨o,p,v,f,r⟩,_⟩:=id I.loc;obtain⟨l,j⟩:=u.any f I.free (by simp);exact I.step (ch:=[]) (fun _ z=>nomatch z) (fun b o _ d _ e n=>u.keep b o e n d (by simp)) (fun b o _ d _ e n=>u.slot b o e n d (by simp)) (fun b o _ e n=>u.free b o e n (by simp)) (fun b o _ e=>u.there b o e (by simp)) u.kv u.jJ u.ie (fun t k=>by obtain⟨q,i,h,a,g⟩:=k;rw[f] at a;cases a;exact⟨_,_,_,j,g⟩) c I.bare
theorem Inv.call(I:Inv X pins σ H s)(u:Un (k6 X.stack) ch H H' s.heap h')(g:hL X.prog X.w H' h')(v:AllBare g') (d:∀b∈ch,(b∈X.ex\/X.fy.heap.objs.size<=b)/\b≠X.env.locals/\(∀x c,X.env.cells.lookup x=some c->c≠b)/\∀p∈X.pn++pins,p.1≠b): Inv X pins σ H' {s with heap:=h',gens:=g',drawn:=d',toks:=t'}:=by obtain⟨m,⟨o,w,y,i,r⟩,_⟩:=id I.loc;obtain⟨C,h⟩:=u.any i I.free fun z=>(d _ z).2.1 rfl;exact I.step d (fun b o h k a e n=>u.keep b o e n (fun z=>(aU.mp (I.gx b z)).elim h k) a) (fun b o _ _ a e n=>u.any e n a) (fun b o a e n=>u.free b o e n a) (fun b o a e=>u.there b o e a) u.kv u.jJ u.ie (fun B q=>by obtain⟨A,j,l,f,t⟩:=q;rw[i] at f;cases f;exact⟨_,_,_,h,t⟩) g v
theorem Inv.turned(I:Inv X pins σ H s)(k:∀b o,b≠a->s.heap.get? b=some o->h'.get? b=some o)(y:H a=none)(g:a≠X.env.locals) (h1:a∈X.ex\/X.fy.heap.objs.size<=a)(h2:∀x c,X.env.cells.lookup x=some c->c≠a)(h3:∀p∈X.pn++pins,p.1≠a):Inv X pins σ H {s with heap:=h',toks:=t'}:=by
  have f:∀b u,H b=some u->b≠a:=fun b u e z=>by simp_all
  refine I.step (ch:=[a]) (fun b j=>?_) (fun b o _ _ d e _=>k b o (fun z=>d (by simp[z])) e) (fun b o _ _ d e _=>⟨_,k b o (fun z=>d (by simp[z])) e⟩) (fun _ _ _ _ n=>n) (fun b o d e=>⟨o,k b o (fun z=>d (by simp[z])) e⟩) (fun _ _ e=>e) (fun _ _ _ e=>e) (fun b t e=>⟨#[],by rw[e];simp⟩) (fun m h=>?_) (fun b u e=>?_) I.bare
  . have e:=by simpa using j
    subst e;exact⟨h1,g,h2,h3⟩
  .obtain⟨o,w,l,i,r⟩:=h;exact⟨o,_,_,k _ o (aR g) i,r⟩
  . refine(I.bD b u e).ic (fun c v d q=>k c v ?_ q) (fun _ q=>q) fun _ _ q=>q;rcases d with z|z;.rw[z];exact f b u e
    .exact f c _ z
theorem Inv.tok(I:Inv X pins σ H s)(t:Nat):Inv X pins σ H {s with toks:=t}:=I.un Un.refl I.bD
theorem Inv.kept(I:Inv X pins σ H s)(k:∀b u,s.heap.get? b=some u->h'.get? b=some u):Inv X pins σ H {s with heap:=h',toks:=t'}:=I.un (Un.kept k) (I.bD.kept k)
theorem Inv.laid(I:Inv X pins σ H s)(k:∀b u,s.heap.get? b=some u->h'.get? b=some u)(c:s.heap.objs.size<=a)(d:da X.prog X.w (upd H a o) h' a o): Inv X pins σ (upd H a o) {s with heap:=h',toks:=t'}:=I.un (Un.laid k c (I.bD.fresh c)) (I.bD.laid k c d)
theorem Inv.write(I:Inv X pins σ H s)(d:As (H x))(f:e=x\/H e=some (.own x))(k:∀b u,b≠e->s.heap.get? b=some u->h'.get? b=some u)(a:∃u,h'.get? e=some u) (c:da X.prog X.w (upd H x o) h' x o):Inv X pins σ (upd H x o) {s with heap:=h',toks:=t'}:=I.un (Un.write d f k a) (I.bD.write d f k a c)
theorem Inv.qu(I:Inv X pins σ H s)(h:∀p∈a,s.heap.get? p.1=some p.2/\H p.1=none/\p.1≠X.env.locals/\p.1∉X.fs/\∀v,p.2.data≠.cell v):Inv X a σ H s:= ⟨I.ok,I.os,I.bare,I.base,I.loc,I.cell,I.free,I.gw,fun p b=>(cO.mp b).elim (fun z=>I.pin p (lL _ z)) (h p),I.bD,I.len⟩
theorem Km{N:List Str}(c:N.Nodup){i j:Nat}(a:N[i]?=some x)(b:N[j]?=some x):i=j:=by obtain⟨g,e⟩:=b_.mp a;obtain⟨f,d⟩:=b_.mp b;exact(List.getElem_inj c).mp (e.trans d.symm)
theorem SX(I:Inv X pins σ H s)(hN:X.N.Nodup)(hi:X.N[i]?=some x)(t:Loc X.env.scope x)(r:RelV v u) (h:∀s',Inv X pins (σ.set i (some v)) H s'->(∃a,Heap.SameBut a s.heap s'.heap/\(a=X.env.locals\/X.env.cells.lookup x=some a))->Q () s')(hf:X.fn x=true\/X.env.scope.names.lookup x=some .local:=by first|exact .inl rfl|exact .inr rfl|assumption):wpAny M A (storeName X.env x u) Q E s:=by
  obtain⟨m,hn,hl⟩:=id I.loc;have R:(X.env.scope.kind==.class||(X.env.scope.kind==.module&&X.env.locals !=X.env.globals))=false:=by rw[I.ok.kind];rfl
  have C:i<σ.length:=by rw[I.len];exact(b_.mp hi).1
  have L:=I.sT;have l:∀{a:Addr}{h':Heap},(∃o,s.heap.get? a=some o/\H a=none)->Heap.SameBut a s.heap h'->hL X.prog X.w H h':=fun{a h'} ha f b ob e=>by refine(I.bD b ob e).ic (fun c w' w q=>(f.2 c ?_).trans q) (fun _ q=>q) fun _ _ q=>q;rintro rfl;simp_all
  rcases t with N|N
  . refine wpAny_storeName_local N hn (fun h' Z f=>?_) R;obtain⟨oL,_,_,SY,_⟩:=id hn;refine h _ ⟨I.ok,I.os,I.bare,⟨fun b o e n G t=>?_,fun b o e n G t=>?_,I.base.free,fun b o e t=>?_,I.base.kv,I.base.jJ,I.base.ie⟩,⟨_,Z,fun j y v' g B Y=>?_⟩,fun y c e=>?_,I.free,I.gw,fun p hp=>?_,l ⟨oL,SY,I.free⟩ f,by simpa using I.len⟩ ⟨_,f,.inl rfl⟩;.exact(f.2 b (aY (cP (aM e) I.ok.above))).trans (I.base.keep b o e n G t)
    .obtain⟨sl,g⟩:=I.base.slot b o e n G t;exact⟨sl,(f.2 b (aY (cP (aM e) I.ok.above))).trans g⟩
    .obtain⟨o',g⟩:=I.base.there b o e t;exact⟨o',(f.2 b (aY (cP (aM e) I.ok.above))).trans g⟩
    . by_cases D:j=i;.subst D;rw[hi] at g;cases g;rw[a_ C] at B;cases B;exact⟨u,r,.inl ⟨N,by simp⟩⟩
      . rw[aI (aR D)] at B;obtain⟨u',r',q⟩:=hl j y v' g B Y;refine⟨u',r',?_⟩;rcases q with⟨k,e⟩|⟨k,c,e,z⟩;.refine .inl ⟨k,?_⟩;have:y≠x:=fun e=>D (Km hN g (e▸hi));grind
        .exact .inr ⟨k,c,e,z.sameBut f (L y c e)⟩
    .obtain⟨w',z⟩:=I.cell y c e;exact⟨w',z.sameBut f (L y c e)⟩
    .obtain⟨e,n,U,nf,d⟩:=I.pin p hp;exact⟨(f.2 p.1 U).trans e,n,U,nf,d⟩
  . have J:X.fn x=true:=by
      rcases hf with z|z;.exact z
      grind
    obtain⟨c,w⟩:=I.ok.has x (.inl N);obtain⟨w',z⟩:=I.cell x c w;refine wpAny_storeName_cell I.ok.kind N w z (fun h' O f=>?_);obtain⟨oc,S,S0⟩:=id z;refine h {s with heap:=h'} ⟨I.ok,I.os,I.bare,⟨fun b o e n G t=>?_,fun b o e n G t=>?_,I.base.free,fun b o e t=>?_,I.base.kv,I.base.jJ,I.base.ie⟩,⟨m,hn.sameBut f (aR (L x c w)),fun j y v' g B Y=>?_⟩,fun y c' e=>?_,I.free,I.gw,fun p hp=>?_,l ⟨oc,S,I.gw x c w⟩ f,by simpa using I.len⟩ ⟨c,f,.inr w⟩;.exact(f.2 b (aY (cP (aM e) (I.ok.Av x c J w)))).trans (I.base.keep b o e n G t)
    .obtain⟨sl,g⟩:=I.base.slot b o e n G t;exact⟨sl,(f.2 b (aY (cP (aM e) (I.ok.Av x c J w)))).trans g⟩
    .obtain⟨o',g⟩:=I.base.there b o e t;exact⟨o',(f.2 b (aY (cP (aM e) (I.ok.Av x c J w)))).trans g⟩
    . by_cases D:j=i;.subst D;rw[hi] at g;cases g;rw[a_ C] at B;cases B;exact⟨u,r,.inr ⟨.inl N,c,w,O⟩⟩
      . rw[aI (aR D)] at B;obtain⟨u',r',q⟩:=hl j y _ g B Y;refine⟨_,r',?_⟩;rcases q with q|⟨k,c',e,z'⟩;.exact .inl q
        .refine .inr ⟨k,_,e,z'.sameBut f ?_⟩;rintro rfl;exact D (Km hN g (I.ok.inj _ _ _ e w▸hi))
    . by_cases T:c'=c;.subst T;exact⟨_,O⟩
      .obtain⟨w2,z2⟩:=I.cell y _ e;exact⟨_,z2.sameBut f T⟩
    .obtain⟨e,n,U,nf,d⟩:=I.pin p hp;refine⟨(f.2 _ ?_).trans e,n,U,nf,d⟩;intro q;rw[q,S] at e;have q':=dO e;exact d _ (by rwa[<-q'])
theorem CF(I:Inv X pins σ H s)(a:X.N.Nodup)(hi:X.N[i]?=some x)(c:Loc X.env.scope x)(r:RelV v u) (h:∀s',Inv X pins (σ.set i (some v)) H s'->Q () s')(d:X.fn x=true\/X.env.scope.names.lookup x=some .local:=by first|exact .inl rfl|exact .inr rfl|assumption):wpAny M A (storeName X.env x u) Q E s:= SX I a hi c r (fun s' b _=>h _ b) d
end
abbrev XK:=Value->Option Addr->Hp->Prop
abbrev St:=List (Option V)
abbrev VK:=V->Hp->Prop
abbrev TE:=St->Hp->VK->Prop
abbrev TT:=St->Hp->(Bool->Hp->Prop)->Prop
abbrev TA:=St->Hp->(List V->Hp->Prop)->Prop
structure Ends where
 nx:St->Hp->Prop
 rt:VK
 bk:St->Hp->Prop:=fun _ _=>False
 ct:St->Hp->Prop:=fun _ _=>False
abbrev TS:=Ends->St->Hp->Prop
def EP(X:Cx)(pins:List (Addr×Obj))(σ:St)(Q:VK)(u:Value)(s':Shared):Prop:=∃v a,Inv X pins σ a s'/\RelV v u/\Q v a
def TP(X:Cx)(pins:List (Addr×Obj))(σ:St)(Q:Bool->Hp->Prop)(b:Bool)(s':Shared):Prop:=∃a,Inv X pins σ a s'/\Q b a
def AP(X:Cx)(pins:List (Addr×Obj))(σ:St)(Q:List V->Hp->Prop)(us:List Value)(s':Shared):Prop:=∃a b,Inv X pins σ b s'/\Vals a us/\Q a b
def SP(X:Cx)(pins:List (Addr×Obj))(D:Ends)(f:Flow)(s':Shared):Prop:= match f with |.next=>∃a b,Inv X pins a b s'/\D.nx a b |.brk=>∃a b,Inv X pins a b s'/\D.bk a b |.cont=>∃a b,Inv X pins a b s'/\D.ct a b |.ret u=>∃v a b,Inv X pins a b s'/\RelV v u/\D.rt v b
def PE(X:Cx)(e:Expr)(t:TE):Prop:= ∀(a:List (Addr×Obj))(s:Shared)(b:St)(H:Hp)(Q:VK),Inv X a b H s->t b H Q->wpAny (model X.prog X.w) X.A (eval e X.env) (EP X a b Q) X.xe s
def PT(X:Cx)(e:Expr)(t:TT):Prop:= ∀(a:List (Addr×Obj))(s:Shared)(b:St)(H:Hp)(Q:Bool->Hp->Prop),Inv X a b H s->t b H Q->wpAny (model X.prog X.w) X.A (isTrue e X.env (eval e X.env)) (TP X a b Q) X.xe s
def PW(X:Cx)(e:Expr)(t:TT):Prop:= ∀(b:Sem Value)(a:List (Addr×Obj))(s:Shared)(c:St)(H:Hp)(Q:Bool->Hp->Prop),Inv X a c H s->t c H Q->wpAny (model X.prog X.w) X.A (isTrue e X.env b) (TP X a c Q) X.xe s
theorem PW.pt(h:PW X e t):PT X e t:=h _
def PA(X:Cx)(es:List Expr)(t:TA):Prop:= ∀(b:Pos)(a:List (Addr×Obj))(s:Shared)(c:St)(H:Hp)(Q:List V->Hp->Prop),Inv X a c H s->t c H Q->wpAny (model X.prog X.w) X.A (spliced (backTo b (starEach es X.env))) (AP X a c Q) X.xe s
def PS(X:Cx)(st:Stmt)(t:TS):Prop:= ∀(a:List (Addr×Obj))(s:Shared)(b:St)(H:Hp)(D:Ends),Inv X a b H s->t D b H->wpAny (model X.prog X.w) X.A (exec st X.env) (SP X a D) X.xe s
def mG(X:Cx)(st:List Stmt)(t:TS):Prop:= ∀(a:List (Addr×Obj))(s:Shared)(b:St)(H:Hp)(D:Ends),Inv X a b H s->t D b H->wpAny (model X.prog X.w) X.A (execs st X.env) (SP X a D) X.xe s
theorem bT(h:wpAny M A t Q E s)(c:∀a s,Q a s->b a s):wpAny M A t b E s:=c8 h c fun _ _ x=>x
section
variable {X : Cx}
def bZ(i:Nat):TE:=fun a H Q=>∃v,a[i]?=some (some v)/\Q v H
def tC(v:V):TE:=fun _ H Q=>Q v H
theorem S1(k:X.N[i]?=some x)(n:Au X.env.scope x)(hd:(x==("__debug__":Str))=false:=by decide)(f:(x==("__classdict__":Str))=false:=by decide):PE X (.Name x pos) (bZ i):=by
  rintro j s t H Q I ⟨v,e,h⟩;obtain⟨m,o,p⟩:=I.loc;obtain⟨u,r,l⟩:=p i x v k e n;have b:EP X _ _ Q u s:=⟨v,H,I,r,h⟩;rcases l with⟨d,q⟩|⟨d,c,g,a⟩;.exact kn (px I.ok.kind d o q b) hd
  . rcases d with d|d;.exact kn (wpAny_loadName_cell I.ok.kind d g a b) hd
    .exact kn (wpAny_loadName_free I.ok.kind d g a b f) hd
theorem aS:PE X (.Constant (.int i) j pos) (tC (.int i)):=fun _ _ _ H _ I h=>wpAny_Constant_int ⟨.int i,H,I.tok _,⟨_,rfl⟩,h⟩
theorem pD:PE X (.Constant (.bool b) j pos) (tC (.bl b)):=fun _ _ _ H _ I h=>Constant_bool ⟨.bl b,H,I,rfl,h⟩
theorem sU:PE X (.Constant .none j pos) (tC .non):=fun _ _ _ H _ I h=>Constant_none ⟨.non,H,I,rfl,h⟩
theorem Ax:PE X (.Constant (.str x) j pos) (tC (.str x)):=fun _ _ _ H _ I h=>Calls.Constant_str ⟨.str x,H,I.tok _,⟨_,rfl⟩,h⟩
def Gl(X:Cx)(x:Str):Prop:=X.env.kindOf x=some .globalImplicit
theorem yI(I:Inv X pins σ H s)(b:Gl X x)(a:X.mg x=some u)(h:Q u s) (hd:(x==("__debug__":Str))=false:=by decide):wpAny (model X.prog X.w) X.A (eval (.Name x pos) X.env) Q E s:= Calls.Name_function_global I.ok.kind b (Calls.loadGlobal_global (by rw[I.ok.glob];exact I.mod.glob.keeps I.bk) a h) hd
theorem pE(I:Inv X pins σ H s)(e:Gl X x)(a:X.mg x=none)(c:bootBuiltins x=some u)(h:Q u s) (b:x≠"__name__":=by decide)(hd:(x==("__debug__":Str))=false:=by decide):wpAny (model X.prog X.w) X.A (eval (.Name x pos) X.env) Q E s:=let⟨_,d,f⟩:=I.mod.blt;Calls.Name_function_global I.ok.kind e (Calls.loadGlobal_builtin (by rw[I.ok.glob];exact I.mod.glob.keeps I.bk) a (by rw[I.ok.blt];exact d.keeps I.bk) ((f x b).trans c) h) hd
theorem yJ(d:Gl X x)(a:X.mg x=none)(c:bootBuiltins x=some u)(r:RelV v u)(b:x≠"__name__":=by decide)(hd:(x==("__debug__":Str))=false:=by decide):PE X (.Name x pos) (tC v):= fun _ _ _ H _ I h=>pE I d a c ⟨v,H,I,r,h⟩ b hd
variable{a b:Expr}{ta tb:TE}{pos:Pos}
def PC(X:Cx)(op:CmpOp)(a b:Expr)(t:TE):Prop:= ∀(c:List (Addr×Obj))(s:Shared)(f:St)(H:Hp)(Q:VK),Inv X c f H s->t f H Q-> wpAny (model X.prog X.w) X.A (eval a X.env) (fun v e=>wpAny (model X.prog X.w) X.A (eval b X.env) (fun u d=>wpAny (model X.prog X.w) X.A (compareOp op v u) (EP X c f Q) X.xe d) X.xe e) X.xe s
def tB(t:TE):TT:=fun d H Q=>t d H fun x e=>∃c,x=.bl c/\Q c e
theorem CG(h:PC X op a b t)(h1:behindInMarks op b=false:=by first|exact Ay _ (by decide) (by decide)|rfl):PT X (.Compare a [op] [b] pos) (tB t):=by intro e s m H Q I j;refine wpAny_isTrue_Compare1 (bT (h _ s _ H _ I j) fun v o h1=>bT h1 fun u n k=>bT k fun c l ⟨x,_,i,g,f⟩=>?_) h1;obtain⟨d,rfl,q⟩:=f;cases g;exact kr ⟨_,i,q⟩
theorem wU(h:PE X e t)(l:∀c,isTrue e X.env c=(do let v<-c;standAt e.pos;holding [v] (truthy v)):=by intro _;rfl):PT X e (tB t):=by intro f s n H Q I k;refine isTrue_plain (bT (h _ s _ H _ I k) fun v m ⟨x,_,j,i,g⟩=>?_) (l _);obtain⟨d,rfl,q⟩:=g;cases i;exact kr ⟨_,j,q⟩
variable{tA uQ:TT}{rest:List Expr}
def uR(t u:TT):TT:=fun d H Q=>t d H fun c e=>if c=true then u d e Q else Q false e
def Kn(t u:TT):TT:=fun d H Q=>t d H fun c e=>if c=true then Q true e else u d e Q
def Az(t:TT):TT:=fun d H Q=>t d H fun c e=>Q (!c) e
theorem CH(f:PT X a tA):PW X (.BoolOp .And [a] pos) tA:=by intro g d s i H Q I h;refine isTrue_and (bT (f _ s _ H Q I h) fun c j e=>?_);cases c with |true=>exact isTrue_and_nil e |false=>exact e
theorem AA(f:PT X a tA):PW X (.BoolOp .Or [a] pos) tA:=by intro g d s i H Q I h;refine isTrue_or (bT (f _ s _ H Q I h) fun c j e=>?_);cases c with |false=>exact isTrue_or_nil e |true=>exact e
theorem CI(g:PT X a tA)(i:PW X (.BoolOp .And (b::rest) pos) uQ):PW X (.BoolOp .And (a::b::rest) pos) (uR tA uQ):=by intro j f s l H Q I h;refine isTrue_and (bT (g _ s _ H _ I h) fun c k ⟨_,d,e⟩=>?_);cases c with |true=>exact i _ _ _ _ _ Q d e |false=>exact⟨_,d,e⟩
theorem yK(g:PT X a tA)(i:PW X (.BoolOp .Or (b::rest) pos) uQ):PW X (.BoolOp .Or (a::b::rest) pos) (Kn tA uQ):=by intro j f s l H Q I h;refine isTrue_or (bT (g _ s _ H _ I h) fun c k ⟨_,d,e⟩=>?_);cases c with |true=>exact⟨_,d,e⟩ |false=>exact i _ _ _ _ _ Q d e
theorem yL(d:PT X a tA):PT X (.UnaryOp .Not a pos) (Az tA):=fun c s e H Q I h=>isTrue_not (d _ s _ H _ I h)
def Ko(ta tb:TE):TE:=fun d H Q=>ta d H fun x e=>∃c,x=.bl c/\if c=true then tb d e Q else Q (.bl false) e
theorem Kq(h:PE X a t):PE X (.BoolOp op [a] pos) t:=fun c s e H Q I d=>BoolOp_one (h _ s _ H Q I d)
theorem EJ(j:PE X a ta)(g:PE X (.BoolOp .And (b::rest) pos) tb):PE X (.BoolOp .And (a::b::rest) pos) (Ko ta tb):=by intro f s l H Q I h;refine BoolOp_and (bT (j _ s _ H _ I h) fun v k ⟨x,_,e,i,d⟩=>?_);obtain⟨c,rfl,d⟩:=d;cases i;refine kr ?_;cases c with |true=>exact g _ _ _ _ Q e d |false=>exact⟨.bl _,_,e,rfl,d⟩
def Kr(t:TT)(ta tb:TE):TE:=fun d H Q=>t d H fun c e=>if c=true then ta d e Q else tb d e Q
theorem S2(j:PT X c tA)(k:PE X a ta)(i:PE X b tb):PE X (.IfExp c a b pos) (Kr tA ta tb):=by intro g s m H Q I h;refine wpAny_IfExp (bT (j _ s _ H _ I h) fun d l ⟨_,f,e⟩=>?_);cases d with |true=>exact k _ _ _ _ Q f e |false=>exact i _ _ _ _ Q f e
end
def fz(K:PySem.W.Frag)(H:Hp)(a:Addr)(xs:List V):Prop:= Rd H a (.lst xs)\/ ∃(o:Obj) (b:Array Value) (n:Nat),K.lookup a=some o/\o.cls=.type "list"/\o.dict=none/\o.data=.seq b n/\b.size<=sizeLine/\Vals xs b.toList
def hO(K:PySem.W.Frag)(H:Hp)(a:Addr)(xs:List V):Prop:= Rd H a (.tup xs)\/ ∃(o:Obj) (b:Array Value) (n:Nat),K.lookup a=some o/\o.cls=.type "tuple"/\o.data=.seq b n/\b.size<=sizeLine/\Vals xs b.toList
def EK:Value->Option V |.none=>some .non |.bool b=>some (.bl b) |.int i _=>some (.int i) |.str x _=>some (.str x) |.bytes b _=>some (.rP b) |.float b _=>some (.wQ b) |.ref a=>some (.ref a) |.type n=>some (.ty n) |_=>none
theorem RelV.abs(r:RelV x u):EK u=some x:=by cases x with |non=>cases r;rfl |bl _=>cases r;rfl |int _=>obtain⟨t,rfl⟩:=r;rfl |str _=>obtain⟨t,rfl⟩:=r;rfl |rP _=>obtain⟨t,rfl⟩:=r;rfl |wQ _=>obtain⟨t,rfl⟩:=r;rfl |ref _=>cases r;rfl |ty _=>cases r;rfl
theorem RelV.inj(r:RelV x u)(q:RelV y u):x=y:=dO (r.abs.symm.trans q.abs)
theorem Vals.inj:∀{xs ys:List V}{us:List Value},Vals xs us->Vals ys us->xs=ys |_,_,_,.nil,.nil=>rfl |_,_,_,.cons r t,.cons a b=>by rw[r.inj a,Vals.inj t b]
section
variable{X:Cx}{pins:List (Addr×Obj)}{σ:St}{H:Hp}{s:Shared}{a:Addr}{xs ys:List V}
theorem hO.of{K:PySem.W.Frag}(h:H a=some (.tup xs)):hO K H a xs:=.inl (.inl h)
theorem Inv.list(I:Inv X pins σ H s)(h:fz X.K H a xs):∃its:List Value,Vals xs its/\PlainL s.heap a its.toArray/\xs.length<=sizeLine:=by
 rcases h with h|⟨o,its,n,b,d,c,g,f,r⟩;.obtain⟨z,its,n,r,e⟩:=h.ok I.bD;exact⟨_,r,⟨_,n,e,rfl,rfl,rfl⟩,z⟩
 .refine⟨_,r,⟨o,n,I.gM a o b,d,c,by omega⟩,?_⟩;have e:=r.length;simp at e;lia
theorem Inv.tuple(I:Inv X pins σ H s)(h:hO X.K H a xs):∃its:List Value,Vals xs its/\IsTup s.heap a its.toArray/\xs.length<=sizeLine:=by
 rcases h with h|⟨o,its,n,c,b,f,d,r⟩;.obtain⟨z,its,r,p⟩:=h.ok I.bD;exact⟨_,r,p,z⟩
 .refine⟨_,r,⟨o,I.gM a o c,b,n,by omega⟩,?_⟩;have e:=r.length;simp at e;omega
theorem Inv.iI(I:Inv X pins σ H s)(h:fz X.K H a xs)(h':fz X.K H a ys):xs=ys:=by
 obtain⟨c,r,⟨o,n,e,_,_,d⟩,_⟩:=I.list h;obtain⟨b,g,⟨i,j,l,_,_,k⟩,_⟩:=I.list h';have:c=b:=by simp_all
 subst this;exact r.inj g
theorem Inv.lQ(I:Inv X pins σ H s)(h:hO X.K H a xs)(h':hO X.K H a ys):xs=ys:=by
 obtain⟨c,r,⟨o,e,_,n,d⟩,_⟩:=I.tuple h;obtain⟨b,g,⟨i,l,_,j,k⟩,_⟩:=I.tuple h';have:c=b:=by simp_all
 subst this;exact r.inj g
end
abbrev Cx.k7(X:Cx)(E:Value->Shared->Prop):Cx:={X with xe:=E}
abbrev Cx.AB(X:Cx):Cx:=X.k7 fun _ _=>False
theorem Cx.Ok.k7{X:Cx}(a:X.Ok)(E:Value->Shared->Prop):(X.k7 E).Ok:= ⟨a.mod,a.kind,a.glob,a.blt,a.above,a.inj,a.has,a.Av,a.hd,a.frames,a.CD,a.Kl,a.bs,a.uO,a.sS,a.uP,a.jK,a.uh,a.tb⟩
theorem Cx.Ok.gy{X:Cx}(a:(X.k7 E).Ok):X.Ok:= ⟨a.mod,a.kind,a.glob,a.blt,a.above,a.inj,a.has,a.Av,a.hd,a.frames,a.CD,a.Kl,a.bs,a.uO,a.sS,a.uP,a.jK,a.uh,a.tb⟩
section
variable{X:Cx}{pins:List (Addr×Obj)}{σ:St}{H:Hp}{s:Shared}{E:Value->Shared->Prop}
theorem Inv.k7(I:Inv X pins σ H s)(E:Value->Shared->Prop):Inv (X.k7 E) pins σ H s:=⟨I.ok.k7 E,I.os,I.bare,I.base,I.loc,I.cell,I.free,I.gw,I.pin,I.bD,I.len⟩
theorem Inv.gy(I:Inv (X.k7 E) pins σ H s):Inv X pins σ H s:=⟨I.ok.gy,I.os,I.bare,I.base,I.loc,I.cell,I.free,I.gw,I.pin,I.bD,I.len⟩
theorem SP.gy(h:SP (X.k7 E) pins D f s'):SP X pins D f s':=by cases f with |next=>obtain⟨a,b,I,q⟩:=h;exact⟨_,_,I.gy,q⟩ |brk=>obtain⟨a,b,I,q⟩:=h;exact⟨_,_,I.gy,q⟩ |cont=>obtain⟨a,b,I,q⟩:=h;exact⟨_,_,I.gy,q⟩ |ret u=>obtain⟨v,a,b,I,r,q⟩:=h;exact⟨v,_,_,I.gy,r,q⟩
theorem mG.AB{st:List Stmt}(h:mG X.AB st t):mG X st t:=fun pins s σ H D I a=> c8 (h _ s _ H D (I.k7 _) a) (fun _ _ q=>q.gy) fun _ _ z=>False.elim z
end
section
variable{X:Cx}{st:Stmt}{rest:List Stmt}{t u:TS}{e:Expr}{te:TE}{pos:Pos}
def Ks:TS:=fun D a H=>D.nx a H
def nM(t u:TS):TS:=fun D a H=>t {D with nx:=u D} a H
theorem fH:mG X [] Ks:=fun _ _ a H _ I h=>mu ⟨_,H,I,h⟩
theorem bh(h1:PS X st t)(h2:mG X rest u):mG X (st::rest) (nM t u):=by intro c s j H D I h;refine wpAny_execs_cons (bT (h1 _ s _ H _ I h) fun f k q=>?_);cases f with |next=> obtain⟨g,l,i,q⟩:=q;exact h2 _ _ _ _ D i q |ret v=>exact q |brk=>exact q |cont=>exact q
theorem cJ(h1:PS X st t):mG X [st] t:=by intro c s g H D I h;refine wpAny_execs_cons (bT (h1 _ s _ H D I h) fun f i q=>?_);cases f with |next=>exact mu q |ret v=>exact q |brk=>exact q |cont=>exact q
theorem Inv.quiet(I:Inv X pins σ H s):interactive X.env=false:=by simp[interactive,I.ok.kind]
def sV(te:TE):TS:=fun D a H=>te a H fun _ b=>D.nx a b
theorem qv(b:PE X e te)(f:swapsWith e none pos.line X.env=pure false:=by rfl):PS X (.Expr e pos) (sV te):=fun a s i H D I h=>wpAny_Expr_any (bT (b _ s _ H _ I h) fun v g ⟨x,_,c,_,d⟩=>⟨_,_,c,d⟩) I.quiet f
def pG(te:TE):TS:=fun D a H=>te a H D.rt
theorem qO(f:PE X e te):PS X (.Return (some e) pos) (pG te):=fun a s i H D I h=>wpAny_Return_some (bT (f _ s _ H _ I h) fun v g ⟨x,_,d,c,b⟩=>⟨x,_,_,d,c,b⟩)
def uS(c:TT)(t u:TS):TS:=fun D a H=>c a H fun b d=>if b=true then t D a d else u D a d
theorem fg(k:PT X c l)(m:mG X a t)(j:mG X b u):PS X (.If c a b pos) (uS l t u):=by intro i s n H D I h;refine wpAny_If (bT (k _ s _ H _ I h) fun d o ⟨_,g,f⟩=>?_);cases d with |true=>exact m _ _ _ _ D g f |false=>exact j _ _ _ _ D g f
end
abbrev TG:=V->St->Hp->(St->Hp->Prop)->Prop
abbrev yM:=List V->St->Hp->(St->Hp->Prop)->Prop
def PG(X:Cx)(a:Expr)(t:TG):Prop:= ∀(b:List (Addr×Obj))(s:Shared)(e:St)(H:Hp)(v:V)(u:Value)(Q:St->Hp->Prop),Inv X b e H s->RelV v u->t v e H Q-> wpAny (model X.prog X.w) X.A (assign a X.env u) (fun _ f=>∃c d,Inv X b c d f/\Q c d) X.xe s
def CJ(X:Cx)(ts:List Expr)(t:yM):Prop:= ∀(a:List (Addr×Obj))(s:Shared)(d:St)(H:Hp)(f:List V)(e:List Value)(Q:St->Hp->Prop),Inv X a d H s->Vals f e->t f d H Q-> wpAny (model X.prog X.w) X.A (assignInOrder ((assignEach ts X.env).map (·.2)) e) (fun _ g=>∃b c,Inv X a b c g/\Q b c) X.xe s
abbrev wV:=V->V->V->Hp->(Hp->Prop)->Prop
def wW(X:Cx)(t:wV):Prop:= ∀(a:List (Addr×Obj))(s:Shared)(d:St)(H:Hp)(o i v:V)(b c u:Value)(Q:Hp->Prop),Inv X a d H s->RelV o b->RelV i c->RelV v u->t o i v H Q-> wpAny (model X.prog X.w) X.A (setItem b c u) (fun _ f=>∃e,Inv X a d e f/\Q e) X.xe s
abbrev AD:=V->V->Hp->VK->Prop
def AE(X:Cx)(op:Operator)(t:AD):Prop:= ∀(a:List (Addr×Obj))(s:Shared)(b:St)(H:Hp)(x y:V)(v u:Value)(Q:VK),Inv X a b H s->RelV x v->RelV y u->t x y H Q-> wpAny (model X.prog X.w) X.A (inplaceOp op v u) (EP X a b Q) X.xe s
section
variable {X : Cx} {pos : Pos}
def qP(i:Nat):TG:=fun v a H Q=>Q (a.set i (some v)) H
theorem AF(b:X.N.Nodup)(hi:X.N[i]?=some x)(d:Loc X.env.scope x)(c:X.fn x=true\/X.env.scope.names.lookup x=some .local:=by first|exact .inl rfl|exact .inr rfl|assumption):PG X (.Name x pos) (qP i):=fun a s g H v u Q I r h=>wpAny_assign_Name (CF I b hi d r (fun f e=>⟨_,H,e,h⟩) c)
def AG:yM:=fun a b H Q=>a=[]/\Q b H
def Kt(t:TG)(u:yM):yM:=fun b d H Q=>∃v r,b=v::r/\t v d H fun a c=>u r a c Q
theorem sW:CJ X [] AG:=by rintro a s c H b d Q I r ⟨e,h⟩;exact assignInOrder_nil ⟨_,H,I,h⟩
theorem kQ(h1:PG X e t)(h2:CJ X es u) (f:(assignEach (e::es) X.env).map (·.2)=assign e X.env::(assignEach es X.env).map (·.2):=by rfl):CJ X (e::es) (Kt t u):=by rintro a s m H k l Q I r ⟨v,n,d,h⟩;subst d;cases r with |cons r i=> rw[f];exact assignInOrder_cons (bT (h1 _ s _ H _ _ _ I r h) fun _ j ⟨_,_,c,g⟩=>h2 _ _ _ _ _ _ Q c i g)
def AH(K:PySem.W.Frag)(n:Nat)(t:yM):TG:=fun v c H Q=>∃a b,v=.ref a/\hO K H a b/\b.length=n/\t b c H Q
theorem sX(y:X.calm=true)(h:CJ X es t) (l:(assignEach es X.env).length=n:=by rfl)(c:(assignEach es X.env).findIdx? (·.1)=none:=by rfl):PG X (.Tuple es k pos) (AH X.K n t):=by rintro d s B H v u Q I r ⟨a,C,j,z,x,f⟩;subst j;cases r;obtain⟨w,g,m,A⟩:=I.tuple z;refine assign_Tuple_tuple (I.ok.hd y) m (by simp[l,<-x,g.length]) c fun i q=>?_;have p:Inv X _ _ H {s with heap:=i}:=I.kept fun b o e=>q b o (aY (aM e)) e;exact h _ _ _ H _ _ Q p (by omega) f
def uT(e b:TE)(t:wV):TG:=fun v a H Q=>e a H fun o d=>b a d fun i f=>t o i v f fun c=>Q a c
theorem CK(f:PE X o w)(hi:PE X i n)(j:wW X t) (C:∀v,assign (.Subscript o i pos) X.env v=(do
 let a<-holding [v] (eval o X.env) let b<-holding [v,a] (eval i X.env)standAt pos
 holding [v,a,b] (setItem a b v)release [v,a,b] []):=by intro _;rfl):PG X (.Subscript o i pos) (uT w n t):=fun c s z H v u Q I r h=>ah (dz (bT (f _ s _ H _ I h) fun a D ⟨x,_,q,l,g⟩=>(ah (dz (bT (hi _ _ _ _ _ q g) fun b B ⟨y,_,e,m,d⟩=>ah (gv (ah (dz (bT (j _ _ _ _ x y v _ _ u _ e l m r d) fun _ A ⟨_,k,p⟩=>wpAny_release ⟨_,_,k,p⟩)))))))))
def iJ(c:TE)(g:TG):TS:=fun D a H=>c a H fun x b=>g x a b D.nx
theorem CL(m:PE X e c)(k:PG X a g)(j:swapsWithSole [a] e pos.line X.env=pure false:=by rfl)(l:swappedStores [a] e X.env=pure none:=by rfl) (h1:(assignEach [a] X.env).map (·.2)=[assign a X.env]:=by rfl):PS X (.Assign [a] e pos) (iJ c g):=by intro b s o H D I h;refine wpAny_Assign_stores (bT (m _ s _ H _ I h) fun v p ⟨x,_,f,d,i⟩=>?_) j l;rw[h1];exact bT (k _ _ _ _ x v _ f d i) fun _ n q=>q
theorem mZ(g:X.N.Nodup)(hi:X.N[i]?=some x)(j:Loc X.env.scope x)(l:PE X e o)(k:swapsWith e (some (.Name x a)) pos.line X.env=pure false:=by rfl)(m:X.fn x=true\/X.env.scope.names.lookup x=some .local:=by first|exact .inl rfl|exact .inr rfl|assumption): PS X (.Assign [.Name x a] e pos) (iJ o (qP i)):=fun b s q H D I h=>wpAny_Assign_Name (bT (l _ s _ H _ I h) fun v p ⟨y,t,f,d,c⟩=>CF f g hi j d (fun r n=>⟨_,_,n,c⟩) m) k
def wX(i:Nat)(e:TE)(b:AD):TS:=fun D a H=>∃x,a[i]?=some (some x)/\e a H fun y c=>b x y c fun z d=>D.nx (a.set i (some z)) d
theorem Ku(Y:X.N.Nodup)(hi:X.N[i]?=some x)(g:Loc X.env.scope x)(R:PE X e G)(C:AE X op N)(T:X.fn x=true\/X.env.scope.names.lookup x=some .local:=by first|exact .inl rfl|exact .inr rfl|assumption): PS X (.AugAssign (.Name x o) op e pos) (wX i G N):=by
  rintro p s σ H D I ⟨v,t,h⟩;obtain⟨m,O,S⟩:=I.loc;have f:Au X.env.scope x:=by rcases g with k|k;exact .inl k;exact .inr (.inl k)
  obtain⟨u,r,l⟩:=S i x v hi t f;refine wpAny_AugAssign_Name ?_;have go:wpAny _ _ _ (fun w j=>wpAny _ _ _ (fun r n=>wpAny (model X.prog X.w) X.A _ (fun _=>SP X _ D .next) X.xe _) _ _) _ s:=bT (R _ s _ H _ I h) fun w s1 ⟨y,H1,E,Q,U⟩=>bT (C _ _ _ _ v y u w _ E r Q U) fun z s2 ⟨_,_,L,B,q⟩=>CF L Y hi g B (fun Z J=>⟨_,_,J,q⟩) T;rcases l with⟨a,M⟩|⟨a,c,A,b⟩;.exact px I.ok.kind a O M go
  . rcases a with a|a;.exact wpAny_loadName_cell I.ok.kind a A b go
    . rcases g with k|k;.have:X.env.scope.names.lookup x=some _:=a;simp_all
      .have:X.env.scope.names.lookup x=some _:=a;rw[k] at this;cases this
def Kv(j h l:TE)(a:V->V->Hp->VK->Prop)(d:AD)(b:wV):TS:=fun D c H=>j c H fun o f=>h c f fun i k=>a o i k fun x g=>l c g fun y e=>d x y e fun z n=>b o i z n fun m=>D.nx c m
def AI(X:Cx)(t:V->V->Hp->VK->Prop):Prop:= ∀(a:List (Addr×Obj))(s:Shared)(c:St)(H:Hp)(o i:V)(b d:Value)(Q:VK),Inv X a c H s->RelV o b->RelV i d->t o i H Q-> wpAny (model X.prog X.w) X.A (getItem b d) (EP X a c Q) X.xe s
theorem Kw(N:PE X o R)(hi:PE X i z)(Q:AI X f)(A:PE X e w)(n:AE X op g)(p:wW X b) (t:∀d c a,augStore i d c a=(do holding [a,d,c] (setItem d c a);release [a,d,c] [];pure .next):=by intros;rfl):PS X (.AugAssign (.Subscript o i l) op e pos) (Kv R z w f g b):=by intro m s σ H D I h;exact wpAny_AugAssign_SubscriptAny (bT (N _ s _ H _ I h) fun d Y ⟨_,_,y,k,T⟩=>(bT (hi _ _ _ _ _ y T) fun c s2 ⟨_,_,G,j,x⟩=>bT (Q _ _ _ _ _ _ _ _ _ G k j x) fun B Z ⟨_,_,L,S,M⟩=>(bT (A _ _ _ _ _ L M) fun v s4 ⟨_,_,E,q,J⟩=>bT (n _ _ _ _ _ _ _ v _ E S q J) fun a s5 ⟨_,_,r,O,u⟩=>bT (p _ _ _ _ _ _ _ _ _ _ _ r k j O u) fun _ s6 ⟨_,C,U⟩=>⟨_,_,C,U⟩))) t
def CM(f:Int->Int->Int):AD:=fun x y H Q=>∃i j,x=.int i/\y=.int j/\Q (.int (f i j)) H
theorem Ky:AE X .Add (CM fun i j=>i+j):=by rintro a s g H x y v u Q I b c ⟨i,j,d,e,q⟩;subst d;subst e;obtain⟨t,rfl⟩:=b;obtain⟨f,rfl⟩:=c;exact iadd_int ⟨.int _,H,I.tok _,⟨_,rfl⟩,q⟩
theorem S3:AE X .Sub (CM fun i j=>i-j):=by rintro a s g H x y v u Q I b c ⟨i,j,d,e,q⟩;subst d;subst e;obtain⟨t,rfl⟩:=b;obtain⟨f,rfl⟩:=c;exact isub_int ⟨.int _,H,I.tok _,⟨_,rfl⟩,q⟩
def Kz(c:TT)(h:TS):TS:=fun D a H=>∃W:Nat->St->Hp->Prop,(∃m,W m a H)/\∀m a H,W m a H-> c a H fun b e=>if b=true then∃N:St->Hp->Prop,(∀d g,N d g->∃f,f<m/\W f d g)/\h {D with nx:=N,ct:=N,bk:=D.nx} a e else D.nx a e
theorem EL(w:PassesOwn (model X.prog X.w) X.A X.env X.xe)(C:PT X c J)(x:mG X e G):PS X (.While c e [] pos) (Kz J G):=by rintro t s T H D I ⟨W,⟨S,z⟩,d⟩;refine wpAny_While (codeAny_whileLoop (fun n O=>∃a u,Inv X _ a u O/\W n a u) ?_ _ ⟨_,H,I,z⟩);rintro n Q ⟨M,U,E,L⟩;refine ia w (bT (C _ _ _ _ _ E (d n _ _ L)) fun b R ⟨_,q,g⟩=>?_);cases b with
 |true=> obtain⟨N,o,g⟩:=g;refine ia w (bT (x _ _ _ _ _ q g) fun f Y h=>?_);cases f with |next=> obtain⟨m,B,j,k⟩:=h;obtain⟨y,l,i⟩:=o _ _ k;exact⟨_,l,_,_,j,i⟩ |cont=> obtain⟨m,B,j,k⟩:=h;obtain⟨y,l,i⟩:=o _ _ k;exact⟨_,l,_,_,j,i⟩ |brk=>exact h |ret v=>exact h
 |false=> exact mu ⟨_,_,q,g⟩
end
structure It where
 go:Nat->Hp->Prop
 AJ:Nat->Hp->V->Hp->Prop
 stop:Nat->Hp->Prop
def jj(X:Cx)(pins:List (Addr×Obj))(H:Hp)(b:Addr):Prop:= H b=none/\b≠X.env.locals/\b∉X.fs/\(b∈X.ex\/X.fy.heap.objs.size<=b)/\(∀x c,X.env.cells.lookup x=some c->c≠b)/\∀p∈X.pn++pins,p.1≠b
theorem Inv.kA(I:Inv X pins σ H s)(a:s.heap.objs.size<=b)(f:H' b=none):jj X pins H' b:=by
 refine⟨f,eQ (cP I.lt a),I.Aw a,.inr (bI I.sz a),fun x c e z=>?_,fun p d z=>?_⟩;.obtain⟨v,q⟩:=I.cell x c e;exact absurd (cP q.lt (by simp_all)) (dw _)
 .exact absurd (cP (aM (I.pin p d).1) (by simp_all)) (dw _)
structure Turn(P:Program)(w:World)(K:PySem.W.Frag)(tg:Expr)(J:It)(fp:List Addr)(it:Addr)(tn:Nat->Heap->Prop):Prop where
 mem:it∈fp
 obj:∀i h,tn i h->∀b∈fp,∃o,h.get? b=some o/\∀v,o.data≠.cell v
 keep:∀i h h',tn i h->(∀b∈fp,∀o,h.get? b=some o->h'.get? b=some o)->tn i h'
 item:∀(X:Cx),X.prog=P->X.w=w->X.K=K->X.calm=true->∀(i:Nat)(pins:List (Addr×Obj))(s:Shared)(σ:St)(H:Hp)(E:Value->Shared->Prop),Inv X pins σ H s->(∀b∈fp,jj X pins H b)->tn i s.heap->J.go i H-> wpAny (model P w) X.A (pyNext (.ref it)) (fun r s1=>∃u,r=some u/\ wpAny (model P w) X.A (letOwnedTupleGo tg (.ref it) u) (fun _ s2=>∃x H',Inv X pins σ H' s2/\RelV x u/\J.AJ i H x H'/\tn (i+1) s2.heap/\∀b∈fp,H' b=none) E s1) E s
 done:∀(X:Cx),X.prog=P->X.w=w->X.K=K->X.calm=true->∀(i:Nat)(pins:List (Addr×Obj))(s:Shared)(σ:St)(H:Hp)(E:Value->Shared->Prop),Inv X pins σ H s->(∀b∈fp,jj X pins H b)->tn i s.heap->J.stop i H-> wpAny (model P w) X.A (pyNext (.ref it)) (fun r s1=>r=none/\Inv X pins σ H s1) E s
 self:∀(A:Around)(i:Nat)(s:Shared)(Q:Value->Shared->Prop)(E:Value->Shared->Prop),tn i s.heap->Q (.ref it) s->wpAny (model P w) A (pyIter (.ref it)) Q E s
abbrev TI:=St->Hp->(It->Hp->Prop)->Prop
def KA(X:Cx)(pins:List (Addr×Obj))(σ:St)(h:Expr)(R:It->Hp->Prop)(a:Value)(e:Shared):Prop:= ∃(f:Addr) (d:List Addr) (g:Nat->Heap->Prop) (J:It) (c:Hp),a=.ref f/\Inv X pins σ c e/\Turn X.prog X.w X.K h J d f g/\g 0 e.heap/\(∀b∈d,jj X pins c b)/\R J c
def PI(X:Cx)(f b:Expr)(d:TI):Prop:= ∀(a:List (Addr×Obj))(s:Shared)(c:St)(H:Hp)(R:It->Hp->Prop),Inv X a c H s->d c H R-> wpAny (model X.prog X.w) X.A (eval b X.env) (fun v e=>wpAny (model X.prog X.w) X.A (pyIter v) (KA X a c f R) X.xe e) X.xe s
theorem CN(b:s.heap.get? d=some o)(e:o.cls=.type n)(hd:o.data=.fields vs) (f:["enumerate","zip","dict_itemiterator","dict_reverseitemiterator","odict_iterator","itertools.zip_longest","itertools.pairwise"].contains n=false)(a:Q () s):wpAny M A (letOwnedTupleGo c (.ref d) u) Q E s:=by cases c<;>first |exact au a |(cases u<;>first |exact au a |(refine ah (wpAny_load b ?_);rw[e,hd];show wpAny M A (if(["enumerate","zip","dict_itemiterator","dict_reverseitemiterator","odict_iterator","itertools.zip_longest","itertools.pairwise"].contains n&&vs[0]?==some _)=true then _ else _) Q E s;rw[ak (by grind)];exact au a))
def EM(K:PySem.W.Frag)(a:Addr):It:= ⟨fun i H=>∃b x,fz K H a b/\b[i]?=some x,fun i H x c=>c=H/\∀b,fz K H a b->b[i]?=some x,fun i H=>∃b,fz K H a b/\b.length<=i⟩
def KC(K:PySem.W.Frag)(a:Addr):It:= ⟨fun i H=>∃b x,hO K H a b/\b[i]?=some x,fun i H x c=>c=H/\∀b,hO K H a b->b[i]?=some x,fun i H=>∃b,hO K H a b/\b.length<=i⟩
def AK(lo:Int)(n:Nat):It:=⟨fun i _=>i<n,fun i H x a=>a=H/\x=.int (lo+i),fun i _=>n<=i⟩
theorem S4{K:PySem.W.Frag}(a g:Addr):Turn P w K tg (EM K a) [g] g (fun i h=>h.IsListIter g a i) where
 mem:=by simp
 obj:=fun i h st b f=>by
  have e:b=g:=by simp_all
  subst e;obtain⟨o,e,c,d⟩:=st;exact⟨o,e,fun v z=>by grind⟩
 keep:=fun i h O st k=>st.at fun o e=>k _ (by simp) o e;item:=by intro X D r B N i l s R H E I n st L;subst D r B;obtain⟨xs,x,m,M⟩:=L;obtain⟨A,G,p,S⟩:=I.list m;obtain⟨u,hu,Q⟩:=G.get M;obtain⟨t,J,Y,y,q,C⟩:=n g (by simp);refine wpAny_pyNext_list_item st p.isList (x:=u) (by simp_all) fun O j U=>?_;obtain⟨o,e,c,d⟩:=id j;exact⟨u,rfl,CN e c d rfl ⟨x,H,(I.turned (fun b o f e=>(U.2 b f).trans e) t J y q C),Q,⟨rfl,fun ys Z=>by rwa[I.iI Z m]⟩,j,fun b f=>(n b f).1⟩⟩
 done:=by intro X D r B N i l s R H E I n st L;subst D r B;obtain⟨xs,m,M⟩:=L;obtain⟨A,G,p,S⟩:=I.list m;obtain⟨t,J,Y,y,q,C⟩:=n g (by simp);have hl:=G.length;exact wpAny_pyNext_list_end (I.ok.hd N) st p.isList (by simp_all) fun O T=>⟨rfl,I.turned (fun b o f e=>T b o f e) t J y q C⟩
 self:=fun _ _ _ _ _ st h=>wpAny_pyIter_listiter st h
theorem S5{w:World}{K:PySem.W.Frag}(a it:Addr):Turn P w K tg (KC K a) [it] it (fun i h=>h.IsTupleIter it a i) where
 mem:=by simp
 obj:=fun i h st b g=>by
  have e:b=it:=by simpa using g
  subst e;obtain⟨o,e,c,d⟩:=st;exact⟨o,e,fun v z=>by simp_all⟩
 keep:=fun i h n st k=>st.at fun o e=>k it (by simp) o e;item:=by intro X L C D N i f s O H E I q st M;subst L C D;obtain⟨T,x,m,t⟩:=M;obtain⟨j,B,p,Q⟩:=I.tuple m;obtain⟨u,hu,U⟩:=B.get t;obtain⟨y,J,Z,A,r,G⟩:=q it (by simp);refine wpAny_pyNext_tuple_item st (show s.heap.IsTuple a j.toArray from p) (x:=u) (by simp_all) fun n l sb=>?_;have S:Inv X f O H {s with heap:=n}:=I.turned (t':=s.toks) (fun b o g e=>(sb.2 b g).trans e) y J A r G;obtain⟨o,e,c,d⟩:=id l;exact⟨u,rfl,CN (s:={s with heap:=n}) e c d (by decide) ⟨x,H,S,U,⟨rfl,fun ys Y=>by rw[I.lQ Y m];exact t⟩,l,fun b g=>(q b g).1⟩⟩
 done:=by intro X L C D N i f s O H E I q st M;subst L C D;obtain⟨T,m,t⟩:=M;obtain⟨j,B,p,Q⟩:=I.tuple m;obtain⟨y,J,Z,A,r,G⟩:=q it (by simp);have hl:=B.length;exact wpAny_pyNext_tuple_end (I.ok.hd N) st (p) (by simp;lia) fun n R=>⟨rfl,I.turned (fun b o g e=>R b o g e) y J A r G⟩
 self:=fun _ _ _ _ _ st h=>wpAny_pyIter_tupleiter st h
theorem S6{K:PySem.W.Frag}(a:Addr)(lo:Int)(n:Nat):Turn P w K O (AK lo n) [a] a (fun i h=>IsRangeIter h a (lo+(i:Nat)*1) ((n:Int)-(i:Nat)) 1) where
 mem:=by simp
 obj:=fun i h st b c=>by
  have e:b=a:=by simp_all
  subst e;exact⟨_,st,fun v z=>by trivial⟩
 keep:=fun i h p st k=>k _ (by simp) _ st;item:=by intro X A y B r i d s L H E I g st u;subst A y B;obtain⟨j,q,G,m,x,l⟩:=g a (by simp);refine(Walks.range (I.ok.hd r) _ _ 1 n).item i s _ _ u st fun v p M D f N=>?_;obtain⟨t,rfl⟩:=D;have C:Inv X _ _ H {s with heap:=p,toks:=M}:=I.turned (fun b o c e=>N b o (by grind) e) j q m x l;refine⟨_,rfl,CN f rfl rfl (by decide) ⟨.int _,H,C,⟨t,?_⟩,⟨rfl,rfl⟩,f,fun b c=>(g b c).1⟩⟩;rw[Int.mul_one]
 done:=by intro X A y B r i d s L H E I g st u;obtain⟨j,q,G,m,x,l⟩:=g a (by simp);exact wpAny_pyNext_range_end (I.ok.hd r) st (by have:n<=i:=u;lia) fun p J=>⟨rfl,I.turned (fun b o c e=>J b o c e) j q m x l⟩
 self:=fun _ _ _ _ _ st h=>wpAny_pyIter_rangeiter st h
section
variable{X:Cx}{tg:Expr}
def CO(K:PySem.W.Frag)(c:TE):TI:=fun d H R=>c d H fun x b=>∃a,x=.ref a/\(∃e,fz K b a e)/\R (EM K a) b
def AL(K:PySem.W.Frag)(c:TE):TI:=fun d H R=>c d H fun x b=>∃a,x=.ref a/\(∃e,hO K b a e)/\R (KC K a) b
theorem k8(f:PE X l k):PI X tg l (CO X.K k):=by
 intro d s w H R I h;refine bT (f _ s _ H _ I h) fun v n ⟨x,_,c,g,j⟩=>?_;obtain⟨a,e,⟨t,i⟩,q⟩:=j;subst e;cases g;obtain⟨m,u,p,y⟩:=c.list i;refine wpAny_pyIter_list p.isList (⟨_,_,_,_,_,rfl,c.kept fun b o e=>aK _ e,S4 a _,⟨_,b9 _ rfl,rfl,rfl⟩,fun b r=>?_,q⟩);have e:b=n.heap.objs.size:=by simp_all
 subst e;exact c.kA (aC _) (c.bD.fresh (aC _))
theorem S7(f:PE X l k):PI X tg l (AL X.K k):=by
 intro d s w H R I h;refine bT (f _ s _ H _ I h) fun v n ⟨x,_,c,g,j⟩=>?_;obtain⟨a,e,⟨t,i⟩,q⟩:=j;subst e;cases g;obtain⟨m,u,p,y⟩:=c.tuple i;refine mD (p) (⟨_,_,_,_,_,rfl,c.kept fun b o e=>aK _ e,S5 a _,⟨_,b9 _ rfl,rfl,rfl⟩,fun b r=>?_,q⟩);have e:b=n.heap.objs.size:=by simp_all
 subst e;exact c.kA (aC _) (c.bD.fresh (aC _))
theorem KD{H:Hp}{lo hi:Int}(I:Inv X pins σ H s)(h1:-(2^62)<=lo)(h2:lo<2^62)(h3:-(2^62)<=hi)(c:hi<2^62) (q:R (AK lo (hi-lo).toNat) H):wpAny (model X.prog X.w) X.A (pyIter (.ref s.heap.objs.size)) (KA X pins σ tg R) E {s with heap:=s.heap.push {cls:=.type "range",data:=.fields #[.int lo t,.int hi u,.int 1 v]},toks:=tk}:=by
  refine wpAny_pyIter_range (IsRange.new ..) (small_one h1 h2 h3 c) ?_;have a:Inv X _ _ H {s with heap:=s.heap.push {cls:=.type "range",data:=.fields #[.int lo t,.int hi u,.int 1 v]},toks:=tk}:=I.kept fun b o e=>aK _ e;refine⟨_,_,_,_,H,rfl, a.kept fun b o e=>aK _ e,S6 _ _ _,?_,fun b g=>?_,q⟩
  . have d:lo+(0:Nat)*1=lo:=by simp
    have f:((hi-lo).toNat:Int)-(0:Nat)=Builtin.Range.rangeSize lo hi 1:=by rw[l'];lia
    rw[d,f];exact b9 _ rfl
  . have e:b=(s.heap.push {cls:=.type "range",data:=.fields #[.int lo t,.int hi u,.int 1 v]}).objs.size:=by simp_all
    subst e;exact a.kA (aC _) (a.bD.fresh (aC _))
def KG(c:TA):TI:=fun a H R=>c a H fun d b=>∃j:Int,d=[.int j]/\-(2^62)<=j/\j<2^62/\R (AK 0 j.toNat) b
def KH(c:TA):TI:=fun d H R=>c d H fun a b=>∃i j:Int,a=[.int i,.int j]/\(-(2^62)<=i/\i<2^62/\-(2^62)<=j/\j<2^62)/\R (AK i (j-i).toNat) b
theorem k9(m:Gl X "range")(i:X.mg "range"=none)(n:PA X [a] f)(k:starEach [a] X.env=[(false,eval a X.env)]:=by rfl):PI X tg (.Call (.Name "range" p) [a] [] pos) (KG f):=by intro c s w H R I h;refine Call_ (pE I m i boot_range (eU (bT (n _ _ s _ H _ I h) fun x v ⟨_,_,g,o,b⟩=>?_) k rfl));obtain⟨j,e,b,u,q⟩:=b;subst e;cases o with |cons r l=> cases l;obtain⟨t,rfl⟩:=r;exact call_range_1 (KD g (by lia) (by lia) b u (by simp_all))
theorem S8(z:Gl X "range")(u:X.mg "range"=none)(o:PA X [a,b] v)(E:starEach [a,b] X.env=[(false,eval a X.env),(false,eval b X.env)]:=by rfl)(d:starEach [b] X.env=[(false,eval b X.env)]:=by rfl): PI X tg (.Call (.Name "range" p) [a,b] [] pos) (KH v):=by intro k s B H R I h;refine Call_ (pE I z u boot_range (eU (bT (o _ _ s _ H _ I h) fun A C ⟨_,_,x,m,f⟩=>?_) (by simp_all) (by rw[d];rfl)));obtain⟨i,j,e,⟨f,l,y,n⟩,q⟩:=f;subst e;cases m with |cons r g=> cases g with |cons w g=> cases g;obtain⟨t,rfl⟩:=r;obtain⟨D,rfl⟩:=w;exact call_range_2 (KD x f l y n q)
def sY(h:TI)(g:TG)(k:TS):TS:=fun D a H=>h a H fun J f=>∃W:Nat->Nat->St->Hp->Prop,(∃m,W 0 m a f)/\∀i m a H,W i m a H-> (J.stop i H/\D.nx a H)\/(J.go i H/\∃N:St->Hp->Prop,(∀b c,N b c->∃e,e<m/\W (i+1) e b c)/\∀x c,J.AJ i H x c->g x a c fun d j=>k {D with nx:=N,ct:=N,bk:=D.nx} d j)
def yN(fp:List Addr)(h:Heap):List (Addr×Obj):=fp.filterMap fun b=>(h.get? b).map fun o=>(b,o)
theorem AM(a:b∈fp)(e:h.get? b=some o):(b,o)∈yN fp h:=lN.mpr ⟨b,a,by simp_all⟩
theorem S9(a:p∈yN fp h):p.1∈fp/\h.get? p.1=some p.2:=by obtain⟨b,c,e⟩:=lN.mp a;cases q:h.get? b with |none=>simp_all |some o=> grind
theorem Inv.pinned(I:Inv X pins σ H s)(i:∀b∈fp,jj X pins H b)(g:∀b∈fp,∃o,s.heap.get? b=some o/\∀v,o.data≠.cell v):Inv X (pins++yN fp s.heap) σ H s:= I.qu fun p f=>(cO.mp f).elim (fun z=>I.pin p (eO _ z)) fun z=>by obtain⟨a,e⟩:=S9 z;obtain⟨j,k,h,_⟩:=i _ a;obtain⟨o,c,d⟩:=g _ a;rw[e] at c;cases c;exact⟨e,j,k,h,d⟩
theorem Inv.gz(I:Inv X (pins++pl) σ H s):Inv X pins σ H s:=I.qu fun p a=>I.pin p (eO _ (lL _ a))
theorem qw(A:PassesOwn (model X.prog X.w) X.A X.env X.xe)(Z:X.calm=true)(hi:PI X tg t wi)(hg:PG X tg g)(j:mG X L tb) (hs:∀x,foldedSetIterable t X.env x=pure x:=by intro _;rfl):PS X (.For tg t L [] pos) (sY wi g tb):=by
  intro a s σ H D I h;refine wpAny_For (bT (hi a s σ H _ I h) fun v s1 h1=>bT h1 fun S_ s2 h2=>?_) hs;obtain⟨it,Q,tn,J,H2,e,I2,T,R,f2,W,⟨m0,w0⟩,M⟩:=h2;subst e;have l:∀{q:Hp},(∀b∈Q,q b=none)->∀b∈Q,jj X a q b:=fun hn b j=>⟨hn b j,(f2 b j).2⟩;refine codeAny_forLoop_any (fun n s'=>∃i p q,Inv X a p q s'/\tn i s'.heap/\(∀b∈Q,q b=none)/\W i n p q) ?_ m0 ⟨0,σ,H2,I2,R,fun b j=>(f2 b j).1,w0⟩;rintro n s3 ⟨i,B,Y,I3,C,E,w3⟩;rcases M i n B Y w3 with⟨G,qn⟩|⟨go,N,hN,step⟩;.refine ia A (bT (T.done X rfl rfl rfl Z i a s3 B Y X.xe I3 (l E) C G) fun r s4 ⟨S,I4⟩=>?_);subst S;exact mu ⟨_,_,I4,qn⟩
  . refine ia A (bT (T.item X rfl rfl rfl Z i _ _ _ _ _ I3 (l E) C go) fun r s4 ⟨u,S,h4⟩=>?_);subst S;refine ia A (bT h4 fun _ s5 ⟨x,_,I5,r5,y5,y,U⟩=>?_);refine ia A (bT (hg _ _ _ _ x u _ (I5.pinned (l U) (T.obj _ _ y)) r5 (step x _ y5)) fun _ s6 ⟨_,_,I6,q6⟩=>(ia A (bT (j _ _ _ _ _ I6 q6) fun f s7 w=>?_)));have again:∀{c:St}{z:Hp},Inv X (a++yN _ _) c z _->N _ _->∃m,m<n/\∃i p q,Inv X _ p q _/\tn i s7.heap/\(∀b∈Q,q b=none)/\W i m p q:=fun{c z} k O=>by obtain⟨m',hm,w7⟩:=hN _ _ O;refine⟨_,hm,_,_,_,k.gz,T.keep _ _ _ y fun b j o e=>(k.pin _ (eO _ (eO _ (AM j e)))).1,fun b j=>?_,w7⟩;obtain⟨o,e,d⟩:=T.obj _ _ y b j;exact(k.pin _ (eO _ (eO _ (AM j e)))).2.1
    cases f with |next=>obtain⟨c,z,k,O⟩:=w;exact again k O |cont=>obtain⟨c,z,k,O⟩:=w;exact again k O |brk=>obtain⟨c,z,k,w⟩:=w;exact⟨_,_,k.gz,w⟩ |ret v=>obtain⟨x7,c,z,k,r7,w⟩:=w;exact⟨_,_,_,k.gz,r7,w⟩
end
abbrev R2:=V->V->Hp->VK->Prop
def hR(X:Cx)(f:Value->Value->Sem Value)(r:R2):Prop:= ∀(a:List (Addr×Obj))(s:Shared)(b:St)(H:Hp)(x y:V)(v u:Value)(Q:VK),Inv X a b H s->RelV x v->RelV y u->r x y H Q-> wpAny (model X.prog X.w) X.A (f v u) (EP X a b Q) X.xe s
def EO(X:Cx)(f:Value->Sem Value)(r:V->Hp->VK->Prop):Prop:= ∀(a:List (Addr×Obj))(s:Shared)(b:St)(H:Hp)(x:V)(v:Value)(Q:VK),Inv X a b H s->RelV x v->r x H Q-> wpAny (model X.prog X.w) X.A (f v) (EP X a b Q) X.xe s
def m7(X:Cx)(f:Value)(r:List V->Hp->VK->Prop):Prop:= ∀(a:List (Addr×Obj))(s:Shared)(d:St)(H:Hp)(b:List V)(c:List Value)(Q:VK),Inv X a d H s->Vals b c->r b H Q-> wpAny (model X.prog X.w) X.A (call f c) (EP X a d Q) X.xe s
def m8(r:R2)(e d:TE):TE:=fun a H Q=>e a H fun x c=>d a c fun y b=>r x y b Q
def KI(r:V->Hp->VK->Prop)(c:TE):TE:=fun a H Q=>c a H fun x b=>r x b Q
def rI(C:Int->Int->Prop)(g:Int->Int->V):R2:=fun x y H Q=>∃i j,x=.int i/\y=.int j/\C i j/\Q (g i j) H
def nN(g:Int->Int->V):R2:=fun x y H Q=>∃i j,x=.int i/\y=.int j/\Q (g i j) H
def rU(g:Int->V):V->Hp->VK->Prop:=fun x H Q=>∃i,x=.int i/\Q (g i) H
section
variable {X : Cx} {a b c : Expr} {ta tb tc : TE} {pos : Pos}
theorem wY(l:PE X a ta)(m:PE X b tb){R:V->V->Hp->Prop}(I:Inv X pins σ H s) (h:ta σ H fun x k=>tb σ k fun y g=>R x y g){f:Value->Value->Sem Value} (p:∀v u i x y g,Inv X pins σ g i->RelV x v->RelV y u->R x y g->wpAny (model X.prog X.w) X.A (f v u) Q X.xe i): wpAny (model X.prog X.w) X.A (eval a X.env) (fun v d=>wpAny (model X.prog X.w) X.A (eval b X.env) (fun u e=>wpAny (model X.prog X.w) X.A (f v u) Q X.xe e) X.xe d) X.xe s:=by refine bT (l _ s _ H _ I h) fun v o ⟨x,_,n,_,j⟩=>(bT (m _ _ _ _ _ n j) fun u i ⟨y,_,_,_,_⟩=>?_);grind
theorem bx(g:hR X (binaryOp op) r)(i:PE X a ta)(j:PE X b tb):PE X (.BinOp a op b pos) (m8 r ta tb):=fun d s n H Q I h=>wpAny_BinOp (wY i j I h fun v u l x y m k f e q=>g _ _ _ _ x y v u Q k f e q)
theorem rQ(e:EO X (unaryOp op) r)(i:PE X a ta):PE X (.UnaryOp op a pos) (KI r ta):=fun d s l H Q I h=>UnaryOp_ (bT (i _ s _ H _ I h) fun v k ⟨x,_,g,f,j⟩=>e _ _ _ _ x v Q g f j)
theorem AN{g:Int->Int->Int} (rule:∀(i j:Int)(t u:Tok)(s:Shared)(Q:Value->Shared->Prop)(E:Value->Shared->Prop),C i j->Q (.int (g i j) s.toks) {s with toks:=s.toks+1}->wpAny (model X.prog X.w) X.A (f (.int i t) (.int j u)) Q E s): hR X f (rI C fun i j=>.int (g i j)):=by rintro d s m H x y v u Q I e k ⟨i,j,rfl,rfl,h,q⟩;obtain⟨t,rfl⟩:=e;obtain⟨l,rfl⟩:=k;exact rule i j t _ s _ _ h ⟨.int _,H,I.tok _,⟨_,rfl⟩,q⟩
theorem AO{g:Int->Int->Int} (rule:∀(i j:Int)(t u:Tok)(s:Shared)(Q:Value->Shared->Prop)(E:Value->Shared->Prop),Q (.int (g i j) s.toks) {s with toks:=s.toks+1}->wpAny (model X.prog X.w) X.A (f (.int i t) (.int j u)) Q E s): hR X f (nN fun i j=>.int (g i j)):=by rintro d s k H x y v u Q I h e ⟨i,j,rfl,rfl,q⟩;obtain⟨t,rfl⟩:=h;obtain⟨l,rfl⟩:=e;exact rule i j t _ s _ _ ⟨.int _,H,I.tok _,⟨_,rfl⟩,q⟩
theorem uU{g:Int->Int->Bool} (rule:∀(i j:Int)(t u:Tok)(s:Shared)(Q:Value->Shared->Prop)(E:Value->Shared->Prop),Q (.bool (g i j)) s->wpAny (model X.prog X.w) X.A (f (.int i t) (.int j u)) Q E s): hR X f (nN fun i j=>.bl (g i j)):=by rintro d s k H x y v u Q I h e ⟨i,j,rfl,rfl,q⟩;obtain⟨t,rfl⟩:=h;obtain⟨l,rfl⟩:=e;exact rule i j t _ s _ _ ⟨.bl _,H,I,rfl,q⟩
def pH(i j:Int):Prop:=0<=j/\j<=1000000/\i.natAbs<2^64
theorem f_:hR X (binaryOp .Add) (nN fun i j=>.int (i+j)):=AO fun _ _ _ _ _ _ _ q=>add_int q
theorem wZ:hR X (binaryOp .Sub) (nN fun i j=>.int (i-j)):=AO fun _ _ _ _ _ _ _ q=>sub_int q
theorem hU:hR X (binaryOp .Mod) (rI (fun _ j=>0<j) fun i j=>.int (i%j)):=AN fun i j _ _ _ _ _ d q=>mod_int' (by lia) (by rwa[Int.fmod_eq_emod_of_nonneg i (by lia)])
theorem vZ:hR X (binaryOp .Pow) (rI pH fun i j=>.int (i^j.toNat)):=AN fun _ _ _ _ _ _ _ d q=>pow_int_small d.1 d.2.1 d.2.2 q
theorem S' : hR X (binaryOp .LShift) (rI pH fun i j => .int (i * 2 ^ j.toNat)) := AN fun _ _ _ _ _ _ _ hc q => lshift_int_small hc.1 hc.2.1 hc.2.2 q
theorem Ta{g:Int->Int} (rule:∀(i:Int)(t:Tok)(s:Shared)(Q:Value->Shared->Prop)(E:Value->Shared->Prop),Q (.int (g i) s.toks) {s with toks:=s.toks+1}->wpAny (model X.prog X.w) X.A (f (.int i t)) Q E s): EO X f (rU fun i=>.int (g i)):=by rintro d s h H x v Q I e ⟨i,rfl,q⟩;obtain⟨t,rfl⟩:=e;exact rule i t s _ _ ⟨.int _,H,I.tok _,⟨_,rfl⟩,q⟩
theorem rR:EO X (unaryOp .USub) (rU fun i=>.int (-i)):=Ta fun _ _ _ _ _ q=>neg_int q
end
def qQ:V->V->Bool |.non,.non=>true|.non,.int _=>true|.int _,.non=>true|.non,.bl _=>true|.bl _,.non=>true|.non,.str _=>true|.str _,.non=>true |.int _,.int _=>true|.bl _,.bl _=>true|.str _,.str _=>true|.rP _,.rP _=>true |.int _,.str _=>true|.str _,.int _=>true|.bl _,.str _=>true|.str _,.bl _=>true |_,_=>false
def ER:R2:=fun x y H Q=>qQ x y=true/\Q (.bl (decide (x=y))) H
def KJ:R2:=fun x y H Q=>qQ x y=true/\Q (.bl (!decide (x=y))) H
theorem KL:decide (V.int i=V.int j)=(i==j):=by grind
theorem KN:decide (V.bl i=V.bl j)=(i==j):=by grind
theorem KO:decide (V.str i=V.str j)=(i==j):=by grind
theorem KQ:decide (V.rP i=V.rP j)=(i.toList==j.toList):=by rw[Bool.eq_iff_iff];simp
section
variable {X : Cx} {a b c : Expr} {ta tb tc : TE} {pos : Pos}
theorem gN(I:Inv X pins σ H s)(q:Q (.bl k) H)(e:k=d):EP X pins σ Q (.bool d) s:=by subst e;exact⟨.bl k,H,I,rfl,q⟩
theorem iK:hR X (compareOp .Eq) ER:=by rintro o s p H x y v u Q I l d ⟨k,q⟩;cases x with
 |non=> cases l;cases y with |non=>cases d;exact PySem.EqNone.eq_none_none (gN I q (by simp)) |bl j=>cases d;exact PySem.EqNone.eq_none_bool (gN I q (by simp)) |int j=>obtain⟨g,rfl⟩:=d;exact PySem.EqNone.eq_none_int (gN I q (by simp)) |str j=>obtain⟨g,rfl⟩:=d;exact PySem.EqNone.eq_none_str (gN I q (by simp)) |_=>exact absurd (show false=true from k) eN
 |bl i=> cases l;cases y with |non=>cases d;exact PySem.EqNone.eq_bool_none (gN I q (by simp)) |bl j=>cases d;exact eq_bool (gN I q KN) |str j=>obtain⟨g,rfl⟩:=d;exact PySem.EqMixed.eq_bool_str (gN I q (by simp)) |_=>exact absurd (show false=true from k) eN
 |int i=> obtain⟨t,rfl⟩:=l;cases y with |non=>cases d;exact PySem.EqNone.eq_int_none (gN I q (by simp)) |int j=>obtain⟨g,rfl⟩:=d;exact eq_int (gN I q KL) |str j=>obtain⟨g,rfl⟩:=d;exact PySem.EqMixed.eq_int_str (gN I q (by simp)) |_=>exact absurd (show false=true from k) eN
 |str i=> obtain⟨t,rfl⟩:=l;cases y with |non=>cases d;exact PySem.EqNone.eq_str_none (gN I q (by simp)) |bl j=>cases d;exact PySem.EqMixed.eq_str_bool (gN I q (by simp)) |int j=>obtain⟨g,rfl⟩:=d;exact PySem.EqMixed.eq_str_int (gN I q (by simp)) |str j=>obtain⟨g,rfl⟩:=d;exact eq_str (gN I q KO) |_=>exact absurd (show false=true from k) eN
 |rP i=> obtain⟨t,rfl⟩:=l;cases y with |rP j=>obtain⟨g,rfl⟩:=d;exact PySem.W.eq_bytes (gN I q KQ) |_=>exact absurd (show false=true from k) eN
 |_=>cases y<;>exact absurd (show false=true from k) eN
theorem ES:hR X (compareOp .NotEq) KJ:=by rintro o s p H x y v u Q I l d ⟨k,q⟩;cases x with
 |non=> cases l;cases y with |non=>cases d;exact PySem.EqNone.ne_none_none (gN I q (by simp)) |bl j=>cases d;exact PySem.EqNone.ne_none_bool (gN I q (by simp)) |int j=>obtain⟨g,rfl⟩:=d;exact PySem.EqNone.ne_none_int (gN I q (by simp)) |str j=>obtain⟨g,rfl⟩:=d;exact PySem.EqNone.ne_none_str (gN I q (by simp)) |_=>exact absurd (show false=true from k) eN
 |bl i=> cases l;cases y with |non=>cases d;exact PySem.EqNone.ne_bool_none (gN I q (by simp)) |bl j=>cases d;exact ne_bool (gN I q (c7 not KN)) |str j=>obtain⟨g,rfl⟩:=d;exact PySem.EqMixed.ne_bool_str (gN I q (by simp)) |_=>exact absurd (show false=true from k) eN
 |int i=> obtain⟨t,rfl⟩:=l;cases y with |non=>cases d;exact PySem.EqNone.ne_int_none (gN I q (by simp)) |int j=>obtain⟨g,rfl⟩:=d;exact ne_int (gN I q (c7 not KL)) |str j=>obtain⟨g,rfl⟩:=d;exact PySem.EqMixed.ne_int_str (gN I q (by simp)) |_=>exact absurd (show false=true from k) eN
 |str i=> obtain⟨t,rfl⟩:=l;cases y with |non=>cases d;exact PySem.EqNone.ne_str_none (gN I q (by simp)) |bl j=>cases d;exact PySem.EqMixed.ne_str_bool (gN I q (by simp)) |int j=>obtain⟨g,rfl⟩:=d;exact PySem.EqMixed.ne_str_int (gN I q (by simp)) |str j=>obtain⟨g,rfl⟩:=d;exact ne_str (gN I q (c7 not KO)) |_=>exact absurd (show false=true from k) eN
 |rP i=> obtain⟨t,rfl⟩:=l;cases y with |rP j=>obtain⟨g,rfl⟩:=d;exact PySem.W.ne_bytes (gN I q (c7 not KQ)) |_=>exact absurd (show false=true from k) eN
 |_=>cases y<;>exact absurd (show false=true from k) eN
theorem CP:hR X (compareOp .Lt) (nN fun i j=>.bl (decide (i<j))):=uU fun _ _ _ _ _ _ _ q=>lt_int q
theorem KR:hR X (compareOp .LtE) (nN fun i j=>.bl (decide (i<=j))):=uU fun _ _ _ _ _ _ _ q=>le_int q
theorem w8:hR X (compareOp .Gt) (nN fun i j=>.bl (decide (j<i))):=uU fun _ _ _ _ _ _ _ q=>gt_int q
theorem ET:hR X (compareOp .GtE) (nN fun i j=>.bl (decide (j<=i))):=uU fun _ _ _ _ _ _ _ q=>ge_int q
theorem KS:hR X (compareOp .Is) (fun x y H Q=>y=.non/\Q (.bl (decide (x=.non))) H):=by rintro d s g H x y v u Q I f e ⟨rfl,q⟩;cases e;refine is_none_gen (gN I q ?_);cases x<;>first |rfl |(obtain⟨t,rfl⟩:=f;rfl)
theorem KU:hR X (compareOp .IsNot) (fun x y H Q=>y=.non/\Q (.bl (!decide (x=.non))) H):=by rintro d s g H x y v u Q I f e ⟨rfl,q⟩;cases e;refine isnot_none_gen (gN I q ?_);cases x<;>first |rfl |(obtain⟨t,rfl⟩:=f;rfl)
def isObj:HO->Bool |.lst _=>true |.ins _ _ _=>true |_=>false
theorem lR(b:Expr)(h:op≠.In:=by decide)(h2:op≠.NotIn:=by decide):behindInMarks op b=false:=by
 have d:(op==CmpOp.In)=false:=by cases op<;>first|rfl|simp_all
 have e:(op==CmpOp.NotIn)=false:=by cases op<;>first|rfl|grind
 cases b<;>simp[behindInMarks,d,e]
theorem EU(g:hR X (compareOp op) r)(j:PE X a ta)(i:PE X b tb)(l:behindInMarks op b=false):PE X (.Compare a [op] [b] pos) (m8 r ta tb):=fun d s m H Q I h=>wpAny_Compare1 (wY j i I h fun v u n x y o f k e q=>g _ _ _ _ x y v u Q f k e q) l
def v7(t:TE):TT:=fun d H Q=>t d H fun x e=>∃k,x=.bl k/\Q k e
theorem mH(j:hR X (compareOp op) r)(m:PE X a ta)(f:PE X b tb)(p:behindInMarks op b=false):PT X (.Compare a [op] [b] pos) (v7 (m8 r ta tb)):=by intro d s E H Q I h;refine wpAny_isTrue_Compare1 (bT (m _ s _ H _ I h) fun v B ⟨x,_,w,q,l⟩=>bT (f _ _ _ _ _ w l) fun u C ⟨y,_,i,g,n⟩=> bT (j _ _ _ _ x y v u _ i q g n) fun c D ⟨z,_,o,A,k,e,t⟩=>?_) p;subst e;cases A;exact kr ⟨_,o,t⟩
theorem AQ:(sizeLine:Nat)<2^63:=by decide
theorem mI(r:Vals [x] us):∃u,us=[u]/\RelV x u:=by cases r with |cons f e=>cases e;simp_all
theorem AR(r:Vals [x,y] us):∃u e,us=[u,e]/\RelV x u/\RelV y e:=by cases r with |cons h f=> cases f with |cons i g=>cases g;grind
theorem EV:m7 X (.builtin "abs") (fun xs H Q=>∃i,xs=[.int i]/\Q (.int (if i<0 then-i else i)) H):=by rintro d s f H xs g Q I r ⟨i,rfl,q⟩;obtain⟨u,rfl,t,rfl⟩:=mI r;exact call_abs_int fun u e=>⟨.int _,H,I.tok _,⟨_,rfl⟩,q⟩
theorem KW(f:X.calm=true):m7 X (.builtin "max") (fun xs H Q=>∃i j,xs=[.int i,.int j]/\Q (.int (if j>i then j else i)) H):=by
 rintro e s n H xs m Q I r ⟨i,j,rfl,q⟩;obtain⟨u,h,rfl,⟨t,rfl⟩,⟨l,rfl⟩⟩:=AR r;refine max_two_ints (I.ok.hd f) fun o g k=>⟨_,H,I.kept k,?_,q⟩;by_cases d:j>i;.rw[ao d,ao d];exact⟨_,rfl⟩
 .rw[ak d,ak d];exact⟨_,rfl⟩
theorem EW(f:X.calm=true):m7 X (.builtin "min") (fun xs H Q=>∃i j,xs=[.int i,.int j]/\Q (.int (if j<i then j else i)) H):=by
 rintro e s n H xs m Q I r ⟨i,j,rfl,q⟩;obtain⟨u,h,rfl,⟨t,rfl⟩,⟨l,rfl⟩⟩:=AR r;refine min_two_ints (I.ok.hd f) fun o g k=>⟨_,H,I.kept k,?_,q⟩;by_cases d:j<i;.rw[ao d,ao d];exact⟨_,rfl⟩
 .rw[ak d,ak d];exact⟨_,rfl⟩
end
structure pK(h:Heap)(x dx C:Addr)(mA:Str->Option Value):Prop where
 obj:h.get? x=some (PySem.W.instObj C dx)ns:h.Ns1 dx mA
 ne:dx≠x
theorem Tb{h:Heap}(n:h.Ns1 d l):∃od,h.get? d=some od/\∀name,PySem.W.lookIn name od=some (l name):=by
  obtain⟨o,j,m,i,k,g,_,c⟩:=n;refine⟨o,i,fun name=>?_⟩;have e:=c name;unfold nsFind findBy at e;rw[<-Array.find?_toList] at e;unfold PySem.W.lookIn;rw[k];dsimp;split;.simp_all
  . have a:j.toList.any (·.refKey)=false:=by rw[List.any_eq_false];intro y f;obtain⟨z,t,b⟩:=g y (Array.mem_toList_iff.mp f);simp[DictEntry.refKey,b]
    simp_all
theorem pK.look(I:pK h x b C c):∃od,PySem.W.InstAt h x (PySem.W.instObj C b) C (some od)/\∀name,PySem.W.lookIn name od=some (c name):= let⟨_,a,d⟩:=Tb I.ns;⟨_,⟨I.obj,rfl,rfl,a⟩,d⟩
section
variable{prog:Program}{w:World}{A:Around}{E:Value->Shared->Prop}{s:Shared}{K:PySem.W.Frag}{x dx C f:Addr}{mA:Str->Option Value}{name:Str}{v:Value}
theorem Tc(X:K.In s.heap)(I:pK s.heap x dx C mA)(d:PySem.W.plainGet K C name=true)(e:PySem.W.hasDictIn K C=true) (c:PySem.W.findIn K (.ref C) name=some none)(g:mA name=some v)(a:PySem.W.handedIn v=true)(h:Q v {s with toks:=s.toks+1}): wpAny (model prog w) A (getAttr (.ref x) name b) Q E s:=let⟨_,J,_⟩:=I.look;PySem.W.get_value X J (pk d).1 (PySem.W.findObj_own e c rfl (by simp_all)) a h
theorem Td(X:K.In s.heap)(I:pK s.heap x dx C mA)(a:PySem.W.plainGet K C name=true) (c:PySem.W.findIn K (.ref C) name=some (some (.ref f)))(b:PySem.W.isFn K (.ref f)=true)(d:mA name=none)(h:Q (.ref f,[.ref x]) s): wpAny (model prog w) A (getMethod (.ref x) name pl) Q E s:=let⟨_,J,_⟩:=I.look;PySem.W.method_fn X J (pk a).1 (pk a).2 c (eW.mp b) (by show(PySem.W.lookIn _ _).map _=some _;simp_all) h
theorem jU(X:K.In s.heap)(I:pK s.heap x dx C mA) (p:PySem.W.findIn K (.ref C) "__setattr__"=some (some (.builtin "object.__setattr__")))(q:PySem.W.plainOver K C=true)(l:PySem.W.takerIn K C name=some none)(o:PySem.W.hasDictIn K C=true) (m:PySem.Within mA ns)(hsz:ns.length<=sizeLine) (h:∀h',pK h' x dx C (fun y=>if y=name then some v else mA y)->Heap.SameBut dx s.heap h'->Q () {s with heap:=h',toks:=s.toks+2}): wpAny (model prog w) A (setAttr (.ref x) name v) Q E s:=by obtain⟨t,J,z⟩:=I.look;refine PySem.W.set_plain X J p (PySem.W.osa_open X J q l fun b=>?_);obtain⟨r,k,g⟩:=oY o;refine ah (au (ah (ah (wpAny_loadPart I.obj (ah (PySem.W.Looks.here (o_ X k) ?_))))));rw[g];refine au (ah (au (ah (wpAny_nsSet1 I.ns fun h' c a=>?_))));obtain⟨u,n,j,e,i,d⟩:=c.count (PySem.Within.cons _ v m);exact ah (wpAny_lookBehind e (by rw[i];exact pastItsLine_dict (bI d (by simp_all))) (au (h _ ⟨(a.2 _ (aR I.ne)).trans I.obj,c,I.ne⟩ a)))
theorem Te(X:K.In s.heap)(c:PySem.W.makesIn K C=true) (hi:PySem.W.findIn K (.ref C) "__init__"=some (some (.ref f)))(d:PySem.W.typeIn K (.ref f)=some (.type "function")) (h:codeAny (model prog w) (A.under (.builtin "type.__call__" ⟨.ref C::vs,b⟩)) (.call (.ref f) ⟨.ref (s.heap.objs.size+1)::vs,b⟩) (PySem.W.InitBack (s.heap.objs.size+1) R) {s with heap:=(s.heap.push PySem.W.emptyDict).push (PySem.W.instObj C s.heap.objs.size)}): codeAny (model prog w) A (.call (.ref C) ⟨vs,b⟩) R s:=PySem.W.make_core (ph X c) (pd X hi) (fun a=>PySem.W.bind_fn X _ d) (.inl rfl) h
theorem Tf {R : Result → Shared → Prop} (X : K.In s.heap) (hm : PySem.W.makesIn K C = true)
    (hi : PySem.W.findIn K (.ref C) "__init__" = some (some (.builtin "object.__init__")))
    (hb : ∀ self, PySem.W.Looks (model prog w) s.heap (bindSpecial (.builtin "object.__init__") self) (.builtin "object.__init__", [self]))
    (h : codeAny (model prog w) (A.under (.builtin "type.__call__" ⟨[.ref C], []⟩)) (.call (.builtin "object.__init__") ⟨[.ref (s.heap.objs.size + 1)], []⟩) (PySem.W.InitBack (s.heap.objs.size + 1) R)
      { s with heap := (s.heap.push PySem.W.emptyDict).push (PySem.W.instObj C s.heap.objs.size) }) :
    codeAny (model prog w) A (.call (.ref C) ⟨[], []⟩) R s := by
  obtain ⟨hh, g, d, t, os⟩ := s
  exact PySem.W.make_core (ph X hm) (pd X hi) hb (.inr ⟨rfl, rfl⟩) h
end
def gd(f:Str)(v:V):List (Str×V)->List (Str×V) |[]=>[(f,v)] |(g,x)::r=>if g=f then(g,v)::r else(g,x)::gd f v r
theorem KY(f g:Str)(v:V):∀fs:List (Str×V),(gd f v fs).lookup g=if g=f then some v else fs.lookup g
  |[]=>by
    show List.lookup g [(f,v)]=_;by_cases h:g=f;.simp_all
    .simp_all |(k,x)::r=>by
    have c:=KY f g v r;rw[show gd f v _=(if k=f then(k,v)::r else(k,x)::gd f v r) from rfl];by_cases b:k=f
    . rw[ao b];by_cases h:g=k;.simp_all
      .simp[List.lookup,(kj.mpr h),ak (fun e:g=f=>h (e.trans b.symm))]
    .grind
theorem EX(f:Str)(v:V):∀fs:List (Str×V),f∈(gd f v fs).map (·.1)/\∀g,g∈fs.map (·.1)->g∈(gd f v fs).map (·.1)
  |[]=>⟨by simp[gd],fun g h=>by simp at h⟩ |(k,x)::r=>by
    obtain⟨d,c⟩:=EX f v r;rw[show gd f v _=(if k=f then(k,v)::r else(k,x)::gd f v r) from rfl];by_cases b:k=f;.subst b;simp
    . rw[ak b];refine⟨?_,fun g h=>?_⟩;.rw[bJ];simp_all
      . rcases aU.mp h with e|e;.grind
        .grind
theorem KZ(f:Str)(v:V):∀fs:List (Str×V),(gd f v fs).length<=fs.length+1
 |[]=>by simp[gd] |(k,x)::r=>by
  have c:=KZ f v r;rw[show gd f v _=(if k=f then(k,v)::r else(k,x)::gd f v r) from rfl];by_cases b:k=f;.rw[ao b,gY,gY];lia
  .rw[ak b,gY,gY];lia
theorem gT.some_of(r:gT (some v) o):∃u,o=some u/\RelV v u:=by cases o with |none=>exact r.elim |some u=>exact⟨u,rfl,r⟩
theorem gT.none_of(r:gT none o):o=none:=by cases o with |none=>rfl |some u=>exact r.elim
theorem Tg(r:RelV v u):PySem.W.handedIn u=true:=by cases v with |non=>cases r;rfl |bl b=>cases r;rfl |int i=>obtain⟨t,e⟩:=r;cases e;rfl |str x=>obtain⟨t,e⟩:=r;cases e;rfl |rP b=>obtain⟨t,e⟩:=r;cases e;rfl |wQ b=>obtain⟨t,e⟩:=r;cases e;rfl |ref a=>cases r;rfl |ty n=>cases r;rfl
section
variable{P:Program}{w:World}{H H':Hp}{h h':Heap}{a C dx:Addr}{fs EG:List (Str×V)}
theorem CQ(c:hL P w H h)(e:H a=some (.ins C dx fs)):∃b,pK h a dx C b/\(∀f,gT (fs.lookup f) (b f))/\PySem.Within b (fs.map (·.1))/\fs.length<=1000/\H dx=some (.own a):=let⟨d,z,g,i,_,n,r,q⟩:=(c a _ e);⟨_,⟨i,n,g⟩,r,q,z,d⟩
end
structure dI(K:PySem.W.Frag)(C:Addr):Prop where
 pg:PySem.W.plainGet K C Str.empty=true
 hd:PySem.W.hasDictIn K C=true
 po:PySem.W.plainOver K C=true
 sa:PySem.W.findIn K (.ref C) "__setattr__"=some (some (.builtin "object.__setattr__"))
theorem dI.get{K:PySem.W.Frag}(c:dI K C)(f:Str):PySem.W.plainGet K C f=true:=c.pg
def aE(K:PySem.W.Frag)(C:Addr)(f:Str):Prop:=PySem.W.findIn K (.ref C) f=some none
theorem aE.v8{K:PySem.W.Frag}(n:aE K C f):PySem.W.takerIn K C f=some none:=by unfold PySem.W.takerIn;rw[n];rfl
structure Meth(K:PySem.W.Frag)(C:Addr)(m:Str)(f:Addr):Prop where
 at_:PySem.W.findIn K (.ref C) m=some (some (.ref f))fn:PySem.W.isFn K (.ref f)=true
 kp:PySem.W.keepIn K (.ref f)=true
section
variable{X:Cx}{pins:List (Addr×Obj)}{σ:St}{H:Hp}{s:Shared}{a C dx:Addr}{fs:List (Str×V)}{f:Str}{v:V}{A:Around}{E:Value->Shared->Prop}
theorem Th(I:Inv X pins σ H s)(e:H a=some (.ins C dx fs))(c:dI X.K C)(n:aE X.K C f)(l:fs.lookup f=some v) (h:∀u s',Inv X pins σ H s'->RelV v u->Q u s'):wpAny (model X.prog X.w) A (getAttr (.ref a) f b) Q E s:=by obtain⟨g,O,r,_,_,_⟩:=CQ I.bD e;obtain⟨u,i,d⟩:=gT.some_of (v:=v) (o:=g f) (by grind);exact Tc I.gM O (c.get f) c.hd n i (Tg d) (h u _ (I.tok _) d)
theorem K1(I:Inv X pins σ H s)(e:H a=some (.ins C dx fs))(c:dI X.K C)(k:Meth X.K C m g)(l:fs.lookup m=none) (h:Q (.ref g,[.ref a]) s):wpAny (model X.prog X.w) A (getMethod (.ref a) m pl) Q E s:=by obtain⟨b,O,r,_,_,_⟩:=CQ I.bD e;have d:b m=none:=gT.none_of (by grind);exact Td I.gM O (c.get m) k.at_ k.fn d h
theorem Ti(I:Inv X pins σ H s)(e:H a=some (.ins C dx fs))(c:dI X.K C)(n:aE X.K C f)(G:fs.length<1000)(B:RelV y u) (h:∀s',Inv X pins σ (upd H a (.ins C dx (gd f y fs))) s'->Q () s'):wpAny (model X.prog X.w) A (setAttr (.ref a) f u) Q E s:=by
  obtain⟨D,O,r,i,_,t⟩:=CQ I.bD e;have m:(fs.map (·.1)).length<=sizeLine:=by rw[aN,dP];lia
  refine jU I.gM O c.sa c.po n.v8 c.hd i m fun p d j=>h _ ?_;have k:∃o,p.get? _=some o:=let⟨o,_,_,x,_⟩:=d.ns;⟨o,x⟩;refine I.write (by rw[e];exact True.intro) (.inr t) (fun b q l z=>(j.2 b l).trans z) k (⟨by rwa[bc O.ne],?_,O.ne,d.obj,_,d.ns,fun g=>?_,fun g w=>?_⟩);.have:=KZ f y fs;lia
  . rw[KY];by_cases q:g=f;.rwa[ao q,ao q]
    simp_all
  . by_cases q:g=f;.rw[q];exact(EX f y _).1
    .refine(EX f y _).2 g (i g fun z=>w ?_);simp_all
theorem Inv.made(I:Inv X pins σ H s):Inv X pins σ (upd (upd H s.heap.objs.size (.own (s.heap.objs.size+1))) (s.heap.objs.size+1) (.ins C s.heap.objs.size [])) {s with heap:=(s.heap.push PySem.W.emptyDict).push (PySem.W.instObj C s.heap.objs.size)}:=by
 have d:(s.heap.push PySem.W.emptyDict).get? _=some _:=b9 _ rfl;have i:((s.heap.push PySem.W.emptyDict).push (PySem.W.instObj C s.heap.objs.size)).get? (s.heap.objs.size+1)=some (PySem.W.instObj C s.heap.objs.size):=by have:=b9 (s.heap.push PySem.W.emptyDict) (o:=PySem.W.instObj C s.heap.objs.size) rfl;simp_all
 have j:(s.heap.push _).Ns _ _:=⟨_,_,_,d,rfl,(fun e g=>absurd g (by simp)),fun _=>rfl⟩;refine(I.laid (o:=.own _) (t':=s.toks) (fun b u q=>aK _ q) (aC _) ⟨_,d⟩).laid (fun b u q=>aK _ q) (l4 (iA _ _)) ?_;have c:s.heap.objs.size≠s.heap.objs.size+1:=aY (eP _);refine⟨by rw[bc c,cb],bR _,c,i,_,(Heap.Ns1.of_empty j).at fun o q=>aK _ q,fun _=>True.intro,fun y h=>absurd rfl h⟩
theorem Tj{f:Str}{s:Shared}(c:attributeBase e f env (eval e env)=eval e env) (h:wpAny (model prog w) A (eval e env) (fun o b=>wpAny (model prog w) A (getAttr o f true) Q E b) E s):wpAny (model prog w) A (eval (.Attribute e f pos) env) Q E s:= Attribute_any_ h (by rw[arm_eval_Attribute,c])
end
def uV(K:PySem.W.Frag)(g:TE)(f:Str):TE:=fun e H Q=>g e H fun x c=>∃a C d b v,x=.ref a/\c a=some (.ins C d b)/\dI K C/\aE K C f/\b.lookup f=some v/\Q v c
def jL(K:PySem.W.Frag)(h g:TE)(f:Str):TS:=fun D b H=>g b H fun y i=>h b i fun x d=>∃a C e c,x=.ref a/\d a=some (.ins C e c)/\dI K C/\aE K C f/\c.length<1000/\ D.nx b (upd d a (.ins C e (gd f y c)))
section
variable{X:Cx}{o e value:Expr}{f:Str}{pos pos' AS:Pos}{ta tv:TE}
theorem gB(k:PE X e ta)(r:attributeBase e f X.env (eval e X.env)=eval e X.env):PE X (.Attribute e f pos) (uV X.K ta f):=by intro b s w H Q I h;refine Tj r (bT (k _ s _ H _ I h) fun u t ⟨x,_,d,p,a,C,_,_,v,g,j,c,n,l,q⟩=>?_);subst g;obtain rfl:u=Value.ref a:=p;exact Th d j c n l fun y z i m=>⟨v,_,i,m,q⟩
theorem pL(k:PE X o ta)(i:PE X value tv)(j:swapsWith value (some (.Attribute o f pos')) pos.line X.env=pure false):PS X (.Assign [.Attribute o f pos'] value pos) (jL X.K ta tv f):=by intro b s B H D I h;refine plainObj_wpAny_Assign_Attribute (bT (i _ s _ H _ I h) fun u A ⟨y,_,z,t,q⟩=>bT (k _ _ _ _ _ z q) fun r G ⟨x,_,g,m,a,C,_,_,p,w,c,n,l,d⟩=>?_) j;subst p;obtain rfl:r=Value.ref a:=m;exact Ti g w c n l t fun E v=>⟨_,_,v,d⟩
end
section
variable{X:Cx}{pins:List (Addr×Obj)}{σ:St}{H:Hp}{s:Shared}{A:Around}{E:Value->Shared->Prop}{Q:Value->Shared->Prop}{c:Value}{b:Bool}
inductive iM(K:PySem.W.Frag)(H:Hp):V->Value->Prop where |non:iM K H .non (.type "NoneType") |bl(x:Bool):iM K H (.bl x) (.type "bool") |int(i:Int):iM K H (.int i) (.type "int") |str(x:Str):iM K H (.str x) (.type "str") |wQ(x:UInt64):iM K H (.wQ x) (.type "float") |lst{a:Addr}{xs:List V}(e:H a=some (.lst xs)):iM K H (.ref a) (.type "list") |jI{a:Addr}{o:Obj}{xs:List V}(e:H a=some (.jI o (.lst xs))):iM K H (.ref a) (.type "list") |tup{a:Addr}{xs:List V}(e:H a=some (.tup xs)):iM K H (.ref a) (.type "tuple") |dK{a:Addr}{cu:List (Key×V)}(e:H a=some (.dK cu)):iM K H (.ref a) (.type "dict") |dT{a:Addr}{cu:List (List Key×V)}(e:H a=some (.dT cu)):iM K H (.ref a) (.type "dict") |ins{a C dx:Addr}{fs:List (Str×V)}(e:H a=some (.ins C dx fs))(cl:dI K C)(ha:PySem.W.findIn K (.ref C) "__class__"=some (some (.builtin "object.__class__"))) (hn:PySem.W.specialIn K (.builtin "object.__class__") "__get__"=some (some (.builtin "getset_descriptor.__get__")))(Tn:PySem.W.takesIn K (.builtin "object.__class__")=some true) (hm:PySem.W.mroIn K C (.type "object")=some true):iM K H (.ref a) (.ref C)
theorem To(I:Inv X pins σ H s)(d:RelV x u)(L:iM X.K H x t)(e:PySem.W.kitOne X.K t c=some b)(h:∀tk,Q (.bool b) {s with toks:=tk}): wpAny (model X.prog X.w) A (call (.builtin "isinstance") [u,c]) Q E s:=by cases L with |non=>cases d;exact eV PySem.W.kitx_none I.gM True.intro e (fun z=>nomatch z) h |bl y=>cases d;exact eV PySem.W.kitx_bool I.gM True.intro e (fun z=>nomatch z) h |int i=>obtain⟨t,q⟩:=d;cases q;exact eV PySem.W.kitx_int I.gM True.intro e (fun z=>nomatch z) h |str y=>obtain⟨t,q⟩:=d;cases q;exact eV PySem.W.kitx_str I.gM True.intro e (fun z=>nomatch z) h |wQ y=>obtain⟨t,q⟩:=d;cases q;exact eV PySem.W.kitx_float I.gM True.intro e (fun z=>nomatch z) h |@lst a k f=> cases d;obtain⟨_,_,n,_,g⟩:=(I.bD a _ f);exact eV PySem.W.kitx_list I.gM ⟨_,g,rfl⟩ e (fun z=>nomatch z) h |@jI a ob k f=> cases(d);obtain⟨_,_,_,n,_,g⟩:=(I.bD a _ f);exact eV PySem.W.kitx_list I.gM ⟨_,g,rfl⟩ e (fun z=>nomatch z) h |@tup a k f=> cases d;obtain⟨_,_,_,p⟩:=(I.bD a _ f);obtain⟨o,g,j,_⟩:=p;exact eV PySem.W.kitx_tuple I.gM ⟨o,g,j⟩ e (fun z=>nomatch z) h |@dK a l f=> cases d;obtain⟨_,_,vs,_,p⟩:=(I.bD a _ f);obtain⟨o,B,R,g,j,_⟩:=p;exact eV PySem.W.kitx_dict I.gM ⟨o,g,j.1⟩ e (fun z=>nomatch z) h |@dT a l f=> cases d;obtain⟨_,_,k,_,o,B,R,g,j,_⟩:=(I.bD a _ f);exact eV PySem.W.kitx_dict I.gM ⟨o,g,j.1⟩ e (fun z=>nomatch z) h |@ins a C dx fs f r D M m G=> cases d;obtain⟨mA,O,_⟩:=CQ I.bD f;obtain⟨od,J,_⟩:=O.look;exact eV (PySem.W.kitx_own (r.get _) r.hd D M m G) I.gM J e (fun z=>nomatch z) h
end
structure cm(k:Nat)(A:Around):Prop where
 hd:A.handled=none
 dp:A.depth+3*k+5<recursionLimit
 un:A.units+16*k+200<cLine
theorem cm.mono(r:cm k A)(h:j<=k):cm j A:=⟨r.hd,by have:=r.dp;lia,by have:=r.un;lia⟩
theorem cm.deeper(r:cm (k+1) A)(env:Env):cm k (A.deeper env):= ⟨r.hd,by have:=r.dp;show A.depth+1+3*k+5<_;lia,by have:=r.un;show A.units+3+16*k+200<_;lia⟩
theorem Tp{A:Around}{us:List Value}{a:List (Str×Value)}:(A.under (.builtin "type.__call__" ⟨.ref C::us,a⟩)).depth=A.depth+1:=by rfl
theorem Tq{A:Around}:(A.under (.builtin "type.__call__" ⟨.ref C::us,a⟩)).units=A.units+1:=rfl
theorem cm.make(r:cm (k+1) A)(C:Addr)(us:List Value)(a:List (Str×Value)):cm k (A.under (.builtin "type.__call__" ⟨.ref C::us,a⟩)):= ⟨r.hd,by have:=r.dp;rw[Tp];lia,by have:=r.un;rw[Tq];lia⟩
theorem cm.depth(r:cm k A):A.depth<recursionLimit:=by have:=r.dp;lia
theorem cm.units(r:cm k A):A.units+64<cLine:=by have:=r.un;lia
def cA:TA:=fun _ H Q=>Q [] H
def eG(f:TE)(e:TA):TA:=fun a H Q=>f a H fun x c=>e a c fun d b=>Q (x::d) b
section
variable{X:Cx}{e:Expr}{es:List Expr}{te:TE}{t:TA}{pos:Pos}
theorem cn:PA X [] cA:=fun _ _ _ _ H Q I h=>p9 ⟨_,H,I,.nil,h⟩
theorem bQ(k:PE X e te)(l:PA X es t)(g:starEach (e::es) X.env=(false,eval e X.env)::starEach es X.env:=by rfl):PA X (e::es) (eG te t):=by intro pos a s o H Q I h;rw[g];exact nC (bT (k _ s _ H _ I h) fun u n ⟨x,_,i,f,j⟩=>bT (l _ _ _ _ _ _ i j) fun p m ⟨_,_,d,c,b⟩=>⟨_,_,d,.cons f c,b⟩)
def sZ(t:TA):TE:=fun c H Q=>t c H fun a b=>a.length<=sizeLine/\∀p,b p=none->Q (.ref p) (upd b p (.tup a))
def uW(t:TA):TE:=fun c H Q=>t c H fun a b=>a.length<=sizeLine/\∀p,b p=none->Q (.ref p) (upd b p (.lst a))
theorem nO(h:PA X es t):PE X (.Tuple es f pos) (sZ t):=by intro a s i H Q I d;refine wpAny_Tuple_spliced (bT (h _ _ s _ H _ I d) fun g j ⟨_,_,c,r,z,q⟩=>⟨by rwa[<-r.length],(⟨.ref _,_,c.laid (fun b u e=>aK _ e) (aC _) ?_,rfl,q _ (c.bD.fresh (aC _))⟩)⟩);exact⟨z,_,r,⟨_,b9 _ rfl,rfl,_,rfl⟩⟩
theorem iN(h:PA X es t):PE X (.List es pos) (uW t):=by intro a s i H Q I d;refine wpAny_List_spliced (bT (h _ _ s _ H _ I d) fun g f ⟨_,_,c,r,z,q⟩=>⟨by rwa[<-r.length],(⟨.ref _,_,c.laid (fun b u e=>aK _ e) (aC _) ?_,rfl,q _ (c.bD.fresh (aC _))⟩)⟩);exact⟨z,_,0,r,b9 _ rfl⟩
end
abbrev Sp:=List V->Hp->VK->XK->Prop
abbrev jC:=List Env->Hp->Shared->XK->Value->Shared->Prop
structure pO(P:Program)(w:World)(K:PySem.W.Frag)(mg:Str->Option Value)(base:Heap)(A:Around)(outer:List Env)(s:Shared)(H:Hp):Prop where
 frames:A.frames=some outer
 mod:Mod K mg base
 bs:∀b o,base.get? b=some o->s.heap.get? b=some o/\H b=none
 uO:base.objs.size<=s.heap.objs.size
 jK:s.heap.FunFrames base outer
 uh:∀b∈k6 outer,H b=none
 bD:hL P w H s.heap
 bare:AllBare s.gens
 tb:qM K H
def CE(a:List Env)(P:Program)(w:World)(H:Hp)(s:Shared)(Q:VK)(u:Value)(s':Shared):Prop:= ∃v b,s'.os=s.os/\AllBare s'.gens/\Un (k6 a) [] H b s.heap s'.heap/\hL P w b s'.heap/\RelV v u/\Q v b
def CR(CX:jC)(a:List Env)(P:Program)(w:World)(H:Hp)(s:Shared)(Q:VK)(E:XK)(r:Result)(s':Shared):Prop:= match r with |.ok (.ret u)=>CE a P w H s Q u s' |.ok _=>False |.error e=>CX a H s E e s'
structure cq(P:Program)(w:World)(K:PySem.W.Frag)(mg:Str->Option Value)(base:Heap)(CX:jC)(k:Nat)(f:Addr)(fd:FuncData)(ps:List Str)(sp:Sp):Prop where
 len:∀vs H Q E,sp vs H Q E->vs.length=ps.length
 run:∀(A:Around)(outer:List Env)(s:Shared)(H:Hp)(args:Args)(us:List Value)(vs:List V)(Q:VK)(E:XK),cm k A->pO P w K mg base A outer s H->BindsTo s fd args (ps.zip us)->Vals vs us->sp vs H Q E-> codeAny (model P w) A (.call (.ref f) args) (CR CX outer P w H s Q E) s
theorem pO.make{K:PySem.W.Frag}(e:pO P w K mg b A a s H)(C:Addr)(us:List Value)(c:List (Str×Value)): pO P w K mg b (A.under (.builtin "type.__call__" ⟨.ref C::us,c⟩)) a s H:=⟨by first|rfl|(simpa[Around.under,Code.envs,Code.isFrame,pushEnvs] using e.frames),e.mod,e.bs,e.uO,e.jK,e.uh,e.bD,e.bare,e.tb⟩
section
variable{X:Cx}{pins:List (Addr×Obj)}{σ:St}{H:Hp}{s s':Shared}
theorem Inv.uX(I:Inv X pins σ H s):pO X.prog X.w X.K X.mg X.base X.A X.stack s H:= ⟨I.ok.frames,I.ok.mod,I.bs,bI I.ok.uO I.sz,I.stack,I.jT,I.bD,I.bare,I.ok.tb.grown I.base.ie⟩
theorem Inv.after(I:Inv X pins σ H s)(h:CE X.stack X.prog X.w H s Q u s'):EP X pins σ Q u s':=by obtain⟨v,j,os,a,f,c,r,q⟩:=h;obtain⟨i,g,d,t,e⟩:=s';obtain rfl:e=s.os:=os;exact⟨v,_,I.call f c a (fun b z=>absurd z (by simp)),r,q⟩
end
def rS(sp:Sp)(mJ:List V)(E:XK)(t:TA):TE:=fun c H Q=>t c H fun a b=>sp (a++mJ) b Q E
def v9(C:Addr)(m:Str)(sp:Sp)(mJ:List V)(E:XK)(g:TE)(t:TA):TE:=fun d H Q=>g d H fun x c=>∃a f b,x=.ref a/\c a=some (.ins C f b)/\b.lookup m=none/\ t d c fun h e=>sp (x::(h++mJ)) e Q E
def EY(C:Addr)(sp:Sp)(mJ:List V)(E:XK)(t:TA):TE:=fun d H Q=>t d H fun c b=>∀x a,b x=none->b a=none->a≠x-> sp (.ref x::(c++mJ)) (upd (upd b a (.own x)) x (.ins C a [])) (fun v e=>v=.non/\Q (.ref x) e) E
def Binds(K:PySem.W.Frag)(fd:FuncData)(ps:List Str)(ds:List Value):Prop:= ∀(s:Shared)(a:List Value),K.In s.heap->(a++ds).length=ps.length->BindsTo s fd ⟨a,[]⟩ (ps.zip (a++ds))
theorem Binds.all{K:PySem.W.Frag}(h:∀us:List Value,us.length=ps.length->bindArgs fd ⟨us,[]⟩=pure (ps.zip us)):Binds K fd ps []:=fun s us _ a=>by rw[dN] at a⊢;exact .of_eq (h _ a)
def nP(CX:jC)(X:Cx)(E:XK):Prop:=∀(a:List (Addr×Obj))(c:St)(H:Hp)(s:Shared)(e:Value)(b:Shared),Inv X a c H s->CX X.stack H s E e b->X.xe e b
section
variable{X:Cx}{CX:jC}{k:Nat}{f C:Addr}{fd:FuncData}{ps:List Str}{sp:Sp}{mJ:List V}{ds:List Value}{E:XK}{x m:Str}{p pos apos:Pos}{e o:Expr}{es:List Expr}{ta:TE}{t:TA}
theorem EZ(F:cq X.prog X.w X.K X.mg X.base CX k f fd ps sp)(j:cm k X.A)(q:Binds X.K fd ps ds)(hd:Vals mJ ds)(n:nP CX X E) (I:Inv X pins σ H s)(r:Vals vs us)(h:sp (vs++mJ) H Q E):wpAny (model X.prog X.w) X.A (call (.ref f) us) (EP X pins σ Q) X.xe s:=by
 have c:=r.append hd;have l:(us++ds).length=ps.length:=by rw[<-c.length];exact F.len _ _ _ _ h
 refine fU (gq (F.run _ _ s H _ _ _ Q E j I.uX (q s _ I.gM l) c h) fun r y a=>?_);cases r with |error e=>exact n _ _ H s e _ I a |ok v=> cases v with |ret u=>exact I.after a |next=>exact False.elim a |brk=>exact False.elim a |cont=>exact False.elim a
theorem K3(F:cq X.prog X.w X.K X.mg X.base CX k f fd ps sp)(n:cm k X.A)(w:Gl X x)(u:X.mg x=some (.ref f))(l:PySem.W.keepIn X.K (.ref f)=true)(g:Binds X.K fd ps ds)(hd:Vals mJ ds)(i:nP CX X E) (j:PA X (e::es) t)(b:(x==("__debug__":Str))=false:=by decide)(v:starEach (e::es) X.env=(false,eval e X.env)::starEach es X.env:=by rfl)(a:(backTo pos (starEach es X.env)).any (·.1)=false:=by rfl): PE X (.Call (.Name x p) (e::es) [] pos) (rS sp mJ E t):=fun c s z H Q I h=>gr (yI I w u (l8 I.ok.mod.vY l (bT (j _ _ s _ H _ I h) fun A y ⟨_,_,d,r,q⟩=>⟨d.gM,EZ F n g hd i d r q⟩) v a) b)
theorem Ts(M:PE X o ta)(c:dI X.K C)(n:Meth X.K C m f)(F:cq X.prog X.w X.K X.mg X.base CX k f fd ps sp)(G:cm k X.A)(w:Binds X.K fd ps ds)(hd:Vals mJ ds)(D:nP CX X E)(y:PA X (e::es) t) (d:starEach (e::es) X.env=(false,eval e X.env)::starEach es X.env:=by rfl)(b:(backTo pos (starEach es X.env)).any (·.1)=false:=by rfl) (B:eval (.Call (.Attribute o m apos) (e::es) [] pos) X.env=(do
 let g<-eval o X.env
 standAt apos.atName let(f,first)<-holding [g] (getMethod g m pl)callWith pos f first (backTo pos (starEach (e::es) X.env)) (backToKw pos (keywordEach [] X.env))):=by rfl): PE X (.Call (.Attribute o m apos) (e::es) [] pos) (v9 C m sp mJ E ta t):=by intro v s T H Q I h;refine PySem.W.methodCall_KW (bT (M _ s _ H _ I h) fun u R ⟨x,_,j,z,a,_,_,J,L,l,q⟩=>?_) B;subst J;obtain rfl:u=Value.ref a:=z;exact K1 j L c n l (l8 I.ok.mod.vY n.kp (bT (y _ _ _ _ _ _ j q) fun O S ⟨N,_,i,r,A⟩=>⟨i.gM,EZ (vs:=.ref a::N) F G w hd D i (.cons rfl r) A⟩) d b)
theorem Tt(A:PE X o ta)(c:dI X.K C)(i:Meth X.K C m f)(F:cq X.prog X.w X.K X.mg X.base CX k f fd ps sp)(w:cm k X.A)(r:Binds X.K fd ps ds)(hd:Vals mJ ds)(j:nP CX X E) (y:eval (.Call (.Attribute o m apos) [] [] pos) X.env=(do
 let g<-eval o X.env
 standAt apos.atName let(f,first)<-holding [g] (getMethod g m pl)callWith pos f first (backTo pos (starEach [] X.env)) (backToKw pos (keywordEach [] X.env))):=by rfl): PE X (.Call (.Attribute o m apos) [] [] pos) (v9 C m sp mJ E ta cA):=by intro d s D H Q I h;refine PySem.W.methodCall_KW (bT (A _ s _ H _ I h) fun u B ⟨x,_,b,n,a,_,_,z,v,l,q⟩=>?_) y;subst z;obtain rfl:u=Value.ref a:=n;exact K1 b v c i l (PySem.W.callWith_K0 b.gM i.kp (EZ (vs:=[.ref a]) F w r hd j b (.cons rfl .nil) q))
structure Mk(K:PySem.W.Frag)(C f:Addr):Prop where
 makes:PySem.W.makesIn K C=true
 init:PySem.W.findIn K (.ref C) "__init__"=some (some (.ref f))fn:PySem.W.isFn K (.ref f)=true
 kp:PySem.W.keepIn K (.ref C)=true
theorem Tu(M:Mk X.K C f)(F:cq X.prog X.w X.K X.mg X.base CX k f fd ps sp)(z:cm (k+1) X.A)(n:Binds X.K fd ps ds)(hd:Vals mJ ds) (y:nP CX X E)(I:Inv X pins σ H s)(r:Vals vs us) (h:∀x c,H x=none->H c=none->c≠x->sp (.ref x::(vs++mJ)) (upd (upd H c (.own x)) x (.ins C c [])) (fun v L=>v=.non/\Q (.ref x) L) E): wpAny (model X.prog X.w) X.A (call (.ref C) us) (EP X pins σ Q) X.xe s:=by
 have l:=h _ _ (I.bD.fresh (gp _)) (I.bD.fresh (aC _)) (aY (eP _));have b:=Inv.made (C:=C) I;have i:Vals (V.ref (s.heap.objs.size+1)::(vs++mJ)) _:=.cons rfl (r.append hd);have G:(Value.ref (s.heap.objs.size+1)::us++ds).length=ps.length:=by have e:=i.length;rw[F.len _ _ _ _ l] at e;grind
 refine fU (Te I.gM M.makes M.init (eW.mp M.fn) (gq (F.run _ _ _ _ _ _ _ _ E (z.make C _ _) (b.uX.make C _ _) (n _ _ b.gM G) i l) fun r O a=>?_));cases r with |error e=>exact y _ _ _ _ e _ b a |ok D=> cases D with |ret u=> obtain⟨v,R,q,w,B,J⟩:=b.after a;subst B;exact⟨w,⟨V.ref _,_,q,rfl,J⟩⟩ |next=>exact False.elim a |brk=>exact False.elim a |cont=>exact False.elim a
theorem Tv(M:Mk X.K C f)(F:cq X.prog X.w X.K X.mg X.base CX k f fd ps sp)(j:cm (k+1) X.A)(v:Gl X x)(l:X.mg x=some (.ref C))(g:Binds X.K fd ps ds)(hd:Vals mJ ds)(n:nP CX X E) (i:PA X (e::es) t)(b:(x==("__debug__":Str))=false:=by decide)(u:starEach (e::es) X.env=(false,eval e X.env)::starEach es X.env:=by rfl)(a:(backTo pos (starEach es X.env)).any (·.1)=false:=by rfl): PE X (.Call (.Name x p) (e::es) [] pos) (EY C sp mJ E t):=fun c s z H Q I h=>gr (yI I v l (l8 I.ok.mod.vY M.kp (bT (i _ _ s _ H _ I h) fun y w ⟨_,_,d,r,q⟩=>⟨d.gM,Tu M F j g hd n d r q⟩) u a) b)
end
def PK(X:Cx)(c:List Keyword)(t:TA):Prop:= ∀(b:Pos)(a:List (Addr×Obj))(s:Shared)(d:St)(H:Hp)(Q:List V->Hp->Prop),Inv X a d H s->t d H Q->wpAny (model X.prog X.w) X.A (evalAll ((backToKw b (keywordEach c X.env)).map (·.2))) (AP X a d Q) X.xe s
section
variable{X:Cx}{CX:jC}{k:Nat}{f C:Addr}{fd:FuncData}{ps ks:List Str}{sp:Sp}{E:XK}{x m:Str}{p pos apos E2:Pos}{e o:Expr}{es:List Expr}{K4:List Keyword}{te ta:TE}{t tk:TA}{nm:Option Str}
theorem Tw:PK X [] cA:=fun _ _ _ _ H Q I h=>wpAny_evalAll_nil ⟨_,H,I,.nil,h⟩
theorem Tx(i:PE X e te)(n:PK X K4 t):PK X (⟨nm,e,E2⟩::K4) (eG te t):=fun pos a s v H Q I h=>wpAny_evalAll_cons (ah (bT (i _ s _ H _ I h) fun u r ⟨x,_,j,g,l⟩=>ah (gv (au (bT (n _ _ _ _ _ _ j l) fun w q ⟨_,_,d,c,b⟩=>⟨_,_,d,.cons g c,b⟩)))))
variable{g:List Value->List Value->List Value}{gV:List V->List V->List V}
end
structure bW(N P:List Str)(sc:Scope):Prop where
 kind:sc.kind=.function
 co:sc.isCoroutine=false
 gen:sc.isGenerator=false
 nd:N.Nodup
 pre:N.take P.length=P
 par:∀x∈P,sc.names.lookup x=some .local\/sc.names.lookup x=some .cell
 w9:∀y∈sc.names,y.2≠.free
theorem K5{kindOf:Str->Option NameKind}:∀{a:List (Str×Value)}{m:Str->Option Value},(∀v,(x,v)∉a)->bindL kindOf a m x=m x
  |[],_,_=>rfl |(n,v)::r,m,h=>by
    unfold bindL;rw[K5 fun w c=>h w (bK _ c)];split
    . have:x≠n:=by grind
      simp_all
    .rfl
theorem K6{kindOf:Str->Option NameKind}:∀{a:List (Str×Value)}{m:Str->Option Value},(∀v,(x,v)∉a)->bindC kindOf a m x=m x
  |[],_,_=>rfl |(n,v)::r,m,h=>by
    unfold bindC;rw[K6 fun w c=>h w (bK _ c)];split;.rfl
    . have:x≠n:=by grind
      simp_all
theorem K7{kindOf:Str->Option NameKind}:∀{P:List Str}{vs:List Value}{i:Nat}{m:Str->Option Value},P.Nodup->P[i]?=some x->vs[i]?=some v->kindOf x=some .local-> bindL kindOf (P.zip vs) m x=some v |[],_,_,_,_,h,_,_=>by simp at h |_::_,[],_,_,_,_,h,_=>by simp at h |p::P,w::vs,0,m,c,d,b,e=>by simp at d b;subst d;subst b;show bindL _ ((p,w)::P.zip _) m p=_;unfold bindL;rw[K5 fun v f=>(iF.mp c).1 (nL f).1,ao e];simp |p::P,w::vs,i+1,m,c,d,b,e=>by show bindL _ ((p,w)::P.zip _) m x=_;exact K7 (i:=i) (iF.mp c).2 (by simp_all) (by simp_all) e
theorem K8{kindOf:Str->Option NameKind}:∀{P:List Str}{vs:List Value}{i:Nat}{m:Str->Option Value},P.Nodup->P[i]?=some x->vs[i]?=some v->kindOf x≠some .local-> bindC kindOf (P.zip vs) m x=some v |[],_,_,_,_,h,_,_=>by simp at h |_::_,[],_,_,_,_,h,_=>by simp at h |p::P,w::vs,0,m,c,e,b,d=>by simp at e b;subst e;subst b;show bindC _ ((p,w)::P.zip _) m p=_;unfold bindC;rw[K6 fun v f=>(iF.mp c).1 (nL f).1,ak d];simp |p::P,w::vs,i+1,m,c,e,b,d=>by show bindC _ ((p,w)::P.zip _) m x=_;exact K8 (i:=i) (iF.mp c).2 (by simp_all) (by simp_all) d
def start(N:List Str)(vs:List V):St:=vs.map some++List.replicate (N.length-vs.length) none
def nQ(CX:jC)(P:Program)(w:World)(K:PySem.W.Frag)(mg:Str->Option Value)(d:Heap)(N:List Str)(b:Str)(scope:Scope)(f:Addr)(g:Value)(A:Around)(a:List Env)(s:Shared)(H:Hp)(E:XK):Cx where prog:=P;w:=w;K:=K;mg:=mg;base:=d;A:=A.deeper (envOfC b scope s.heap.objs.size f g);N:=N;fy:=s;qN:=H;env:=envOfC b scope s.heap.objs.size f g;outer:=a;stack:=envOfC b scope s.heap.objs.size f g::a;ex:=[];calm:=true;fn:=fun _=>true;pn:=[];xe:=fun e h=>wpAny (model P w) (A.deeper (envOfC b scope s.heap.objs.size f g)) (leaving (envOfC b scope s.heap.objs.size f g) e) (fun _ c=>CX a H s E e c) (fun i c=>CX a H s E i c) h
theorem K9{a:Scope}(h:a.names.lookup x=some .cell):∃c,(cellsFrom n a.names []).lookup x=some c:=Option.isSome_iff_exists.mp (oZ _ n [] (.inl h))
theorem Tz{K:PySem.W.Frag}(S:bW N ps scope)(hd:A.handled=none)(d:pO P w K mg l A j s H)(U:vs.length=ps.length)(r:Vals vs us) (x:InCallC s s.heap.objs.size (bindL (envOfC g scope s.heap.objs.size f C).kindOf (ps.zip us) fun _=>none) (cellsFrom (s.heap.objs.size+1) scope.names []) (bindC (envOfC g scope s.heap.objs.size f C).kindOf (ps.zip us) fun _=>none) L): Inv (nQ CX P w K mg l N g scope f C A j s H E) [] (start N vs) H L:=by
  have Q:ps.length<=N.length:=by have:=c7 List.length S.pre;grind
  obtain⟨G,R,rfl,I⟩:=x.done;have n:∀b,b∉(nQ CX P w K mg l N g scope f C A j s H E).ex:=fun b z=>absurd (show b∈[] from z) (by simp);refine⟨⟨d.mod,S.kind,rfl,rfl,aC _,fun y z c G m=>?_,fun y o=>?_,fun y c _ h=>?_,fun _=>hd,Around.frames_deeper d.frames,.inr ⟨rfl,rfl⟩,fun b z=>absurd z (n b),d.bs,d.uO,fun b _ _=>n b,fun b z=>absurd z (n b),d.jK,d.uh,d.tb⟩, rfl,d.bare,Un.kept I,⟨_,x.toInCall.ns,fun i y v G m T=>?_⟩,fun y c h=>⟨_,x.cell y c h⟩,d.bD.fresh (aC _),fun y c h=>?_,fun p t=>absurd (show p∈[] from t) (by simp),d.bD.kept I,?_⟩;.exact name_of_addr x.apart (fT G) (fT m)
  . rcases o with o|o;.exact K9 o
    .exact absurd rfl (S.w9 _ (fT o))
  .exact hX (x.above y c (fT h))
  . have D:i<vs.length:=by
      unfold start at m;by_cases D:i<vs.length;.exact D
      .rw[iC (by simp_all),lI] at m;simp_all
    have M:vs[i]?=some v:=by unfold start at m;rw[fZ (by simpa using D),bY] at m;cases e:vs[i]? with |none=>simp_all |some a=>rw[e] at m;cases m;rfl
    obtain⟨u,J,O⟩:=r.get M;have t:ps[i]?=some y:=by rwa[<-S.pre,List.getElem?_take_of_lt (by lia)]
    have B:ps.Nodup:=by rw[<-S.pre];exact S.nd.sublist (List.take_sublist _ _)
    refine⟨u,O,?_⟩;rcases S.par y (jB t) with k|k;.exact .inl ⟨k,K7 B t J k⟩
    .obtain⟨c,e⟩:=K9 k;refine .inr ⟨.inl k,c,e,?_⟩;have q:=x.cell y c e;rwa[K8 B t J (by show scope.names.lookup y≠_;rw[k];decide)] at q
  .exact d.bD.fresh (hX (x.above y c (fT h)))
  .unfold start;show _=N.length;rw[gX,aN,List.length_replicate];lia
theorem CS{K:PySem.W.Frag}{X kV C Y d ct oc:Value}(lk:K.lookup f=some ⟨oc,od,.func (PySem.W.fnOf name a g j scope X kV C Y an d ct),uY⟩)(L:PySem.W.codeIn K d a=true)(S:bW N ps scope) (z:∀vs H Q E,sp vs H Q E->vs.length=ps.length) (m:∀(A:Around)(c:List Env)(s:Shared)(H:Hp)(vs:List V)(Q:VK)(E:XK),cm k (A.deeper (envOfC a scope s.heap.objs.size f d))->sp vs H Q E-> ∃t,mG (nQ CX P w K mg i N a scope f d A c s H E) j t/\t {nx:=fun _ H'=>Q .non H',rt:=Q} (start N vs) H): cq P w K mg i CX (k+1) f (PySem.W.fnOf name a g j scope X kV C Y an d ct) ps sp:=by
 refine⟨z,fun A c s H args us vs Q E M G hb r B=>?_⟩;have T:=G.mod.vY.keeps fun b o e=>(G.bs b o e).1;have l:∀y∈ps.zip us,scope.names.lookup y.1=some .local\/(scope.names.lookup y.1=some _/\((cellsFrom (s.heap.objs.size+1) _ []).lookup y.1).isSome=true):=fun⟨n,v⟩ hy=>by
  rcases S.par n (nL hy).1 with q|q;.simp_all
  .exact .inr ⟨q,oZ _ _ _ (.inl q)⟩
 refine codeAny_call_function M.depth (T _ _ lk) rfl S.co S.gen rfl (PySem.W.codeRec_of T L) (hb _ _ _ _ (wpAny_newFunctionEnv_cells S.kind l fun env he s1 x=>?_));subst he;refine⟨(G.mod.nolimit.keeps fun b o e=>(G.bs b o e).1).keeps x.toInCall.keep,codeAny_func ?_⟩;obtain⟨t,ht,hq⟩:=m A _ s H _ Q E (M.deeper _) B;have I:Inv (nQ CX P w K _ _ N _ _ f _ A _ s H E) _ _ H _:=Tz S M.hd G (z _ _ _ _ B) r x;refine c8 (ht _ _ _ H _ I hq) (fun fl R p=>?_) fun e R p=>p;have D:∀{h:St}{H':Hp}{v:V}{u:Value},Inv (nQ CX P w K mg i N a scope f d A c s H E) [] h _ R->RelV v u->Q v _->CE _ P w H s Q u _:= fun{h H' v u} J O q=>⟨v,H',J.os,J.bare,J.base,J.bD,O,q⟩;cases fl with |ret u=> obtain⟨v,h,H',J,O,q⟩:=p;exact D J O q |next=> obtain⟨h,H',J,q⟩:=p;exact D (v:=V.non) J rfl q |brk=> obtain⟨_,_,_,q⟩:=p;exact False.elim q |cont=> obtain⟨_,_,_,q⟩:=p;exact False.elim q
section
variable{X:Cx}{x:Str}{p pos:Pos}{e:Expr}{es:List Expr}{t:TA}{id T:String}{r:List V->Hp->VK->Prop}
def qR(r:List V->Hp->VK->Prop)(t:TA):TE:=fun c H Q=>t c H fun a b=>r a b Q
theorem uZ(m:m7 X (.builtin id) r)(n:Gl X x)(q:X.mg x=none)(g:bootBuiltins x=some (.builtin id))(k:PA X (e::es) t)(o:x≠"__name__":=by decide)(b:(x==("__debug__":Str))=false:=by decide) (d:starEach (e::es) X.env=(false,eval e X.env)::starEach es X.env:=by rfl)(a:(backTo pos (starEach es X.env)).any (·.1)=false:=by rfl):PE X (.Call (.Name x p) (e::es) [] pos) (qR r t):=fun c s l H Q I h=>gr (pE I n q g (PyProof.Rows.callWith_builtin1 (bT (k _ _ s l H _ I h) fun u v ⟨_,_,i,f,j⟩=>m _ _ _ _ _ _ Q i f j) d a) o b)
theorem qx(l:m7 X (.type T) r)(m:Gl X x)(o:X.mg x=none)(g:bootBuiltins x=some (.type T))(j:PA X (e::es) t)(n:x≠"__name__":=by decide)(b:(x==("__debug__":Str))=false:=by decide) (d:starEach (e::es) X.env=(false,eval e X.env)::starEach es X.env:=by rfl)(a:(backTo pos (starEach es X.env)).any (·.1)=false:=by rfl):PE X (.Call (.Name x p) (e::es) [] pos) (qR r t):=fun c s u H Q I h=>gr (pE I m o g (eU (bT (j _ _ s _ H _ I h) fun v q ⟨_,_,i,f,k⟩=>l _ _ _ _ _ _ Q i f k) d a) n b)
end
end L2
namespace HT
open PySem PyProof.Rows
section
variable {prog : Program} {w : World} {A : Around} {E : Value → Shared → Prop} {s : Shared}
theorem u4(p:IsTup s.heap t vs.toArray)(o:IsTup s.heap b ws.toArray)(r:vs≠[]) (h1:ws=[]->Q (.ref t) s)(h2:ws≠[]->Q (.ref s.heap.objs.size) {s with heap:=s.heap.push {cls:=.type "tuple",data:=.seq (vs++ws).toArray}}) (hsz:vs.length+ws.length<=sizeLine):wpAny (model prog w) A (binaryOp .Add (.ref t) (.ref b)) Q E s:=by
 obtain⟨⟨i,q,g,v⟩,c,j,n,k⟩:=id p;obtain⟨⟨h,m,data2,l⟩,a,e,u,d⟩:=id o;subst j k e d;by_cases f:ws=[];.exact concat_meets ⟨_,c,rfl⟩ ⟨_,a,rfl⟩ noFill_tuple_add seq_tuple_add oW oS (oR _ _) (tuple_addW1 t b _ _ n _ _ _ _ _ (by simp_all) (by simp[f])) ⟨c,a,h1 f⟩
 .refine concat_meets ⟨_,c,rfl⟩ ⟨_,a,rfl⟩ noFill_tuple_add seq_tuple_add oW oS (oR _ _) (tuple_addW2 t b _ _ n _ _ _ _ _ (by simp_all) (by grind) (by trivial)) ⟨c,a,?_⟩;simp_all
def dn(n d:Nat):Option Int->Nat |none=>d |some v=>if v<0 then(v+(n:Int)).toNat else min v.toNat n
theorem K_(v:Int)(n d:Nat):(if v<0 then max (v+(n:Int)) 0 else min v (n:Int))=((dn n d (some v):Nat):Int):=by show(if v<0 then max _ 0 else min v n)=((if v<0 then(v+n).toNat else min _ n):Nat);grind
theorem TB(lo hi:Option Int)(n:Nat):Builtin.Slice.sliceAdjust lo hi 1 (n:Int)=(((dn n 0 lo:Nat):Int),((dn n n hi:Nat):Int)):=by
 refine Prod.ext ?_ ?_;.cases lo with |none=>rfl |some v=>exact K_ v n 0
 .cases hi with |none=>rfl |some v=>exact K_ v n n
theorem TC(i j:Nat):Builtin.Slice.slicePlaces (i:Int) (j:Int) 1=j-i:=by unfold Builtin.Slice.slicePlaces;lia
theorem K'(p:IsPart v o)(h:Q o s):wpAny (model prog w) A (Builtin.Slice.slicePartIndex v) Q E s:=by cases p with |none=>exact slicePart_none h |int i t=>exact slicePart_int h
theorem La{lo hi:Option Int}{n:Nat}(i:s.heap.IsSliceOf c g d .none)(pl:IsPart g lo)(e:IsPart d hi) (h:Q (((dn n 0 lo:Nat):Int),1,dn n n hi-dn n 0 lo) s):wpAny (model prog w) A (Builtin.Slice.sliceApplied (.ref c) (pure (n:Int))) Q E s:=by obtain⟨os,a,f,b⟩:=id i;refine ah (ah (cj a b rfl (ah (cj a b rfl (ah (cj a b rfl (au (ah (slicePart_none (ah (K' pl (ah (K' e (ah (au ?_)))))))))))))));show wpAny _ _ (match Builtin.Slice.sliceAdjust _ _ 1 _ with|(lo,hi)=>pure (lo,(1:Int),Builtin.Slice.slicePlaces lo hi 1)) _ _ s;rw[TB _ _ n];show wpAny _ _ (pure _) _ _ s;rw[TC];exact au h
theorem TF(xs:Array Value)(i k:Nat):((List.range k).filterMap fun(m:Nat)=>xs[((i:Int)+(m:Int)*1).toNat]?).toArray=((xs.toList.drop i).take k).toArray:=by
 have e:(fun(m:Nat)=>xs[((i:Int)+m*1).toNat]?)=fun m=>xs[i+m]?:=by
  funext m;have:((i:Int)+m*1).toNat=i+m:=by lia
  rw[this]
 have:=pick_run xs i k;have b:((fun x=>xs[x]?)∘fun x=>i+x)=fun m=>xs[i+m]?:=rfl;grind
theorem iO{lo hi:Option Int}(b:IsTup s.heap t items)(g:s.heap.IsSliceOf k i l .none)(pl:IsPart i lo)(j:IsPart l hi) (o:¬(dn items.size 0 lo=0/\dn items.size items.size hi=items.size)) (h:Q (.ref s.heap.objs.size) {s with heap:=s.heap.push {cls:=.type "tuple",data:=.seq ((items.toList.drop (dn items.size 0 lo)).take (dn items.size items.size hi-dn items.size 0 lo)).toArray}}) (hsz:items.size<=sizeLine):wpAny (model prog w) A (getItem (.ref t) (.ref k)) Q E s:=by
 have a:sizeOk (.seq ((items.toList.drop (dn items.size 0 lo)).take (dn items.size items.size hi-dn items.size 0 lo)).toArray):=by show((items.toList.drop _).take _).toArray.size<=sizeLine;rw[dX,lK,nJ,oM];omega
 obtain⟨os,d,e,m⟩:=id g;have f:s.TypeIs (.ref _) _:=⟨_,d,e⟩;unfold getItem;try with_reducible refine dz ?_
 refine ah (wpAny_sequenceKey b.typeIs rfl (ah (h8 b.typeIs je (h_ je b.typeIs entry_tuple_getitem ?_ (args_tuple_getitem _ _)))));show wpAny _ _ (Builtin.Tuple.tupleItemsOf _>>=_) _ _ s;refine ah (tupleItemsOf_ b (ah (ji f (ah (La g pl j ?_)))));have c:¬(((dn items.size 0 lo:Int)==0&&(1:Int)==1&&(dn items.size items.size hi-dn items.size 0 lo)==items.size)=true):=by intro q;rw[jH,jH] at q;have n:=eq_of_beq q.1.1;simp_all
 show wpAny _ _ (if((dn _ 0 _:Int)==0&&1==1&&(dn _ _ _-dn _ 0 _)==items.size)=true then _ else _) _ _ s;rw[ak c,TF];first |exact ah (ko (au ⟨_,rfl,au h⟩) a) |rfl |rfl |rfl
end
end HT
namespace L2
open PySem PySem.Spec PyProof.Rows
abbrev TO:=St->Hp->(Option Int->Hp->Prop)->Prop
def PO(X:Cx)(e:Option Expr)(t:TO):Prop:= ∀(a:List (Addr×Obj))(s:Shared)(b:St)(H:Hp)(Q:Option Int->Hp->Prop),Inv X a b H s->t b H Q-> wpAny (model X.prog X.w) X.A (evalPart e X.env) (fun u d=>∃o c,Inv X a b c d/\IsPart u o/\Q o c) X.xe s
def Lb:TO:=fun _ H Q=>Q none H
def Lc(t:TE):TO:=fun a H Q=>t a H fun x b=>∃i,x=.int i/\Q (some i) b
section
variable{X:Cx}{e:Expr}{te:TE}{lo hi:Option Expr}{tl th:TO}{pos p2:Pos}
theorem mK:PO X none Lb:=fun a s b H Q I h=>au ⟨_,H,I,.none,h⟩
theorem jk(h:PE X e te):PO X (some e) (Lc te):=by intro a s j H Q I b;refine bT (h _ s _ H _ I b) fun u g ⟨x,_,f,d,c⟩=>?_;obtain⟨i,rfl,q⟩:=c;obtain⟨t,rfl⟩:=d;exact⟨_,_,f,.int i t,q⟩
def CT(X:Cx)(r:V->Option Int->Option Int->Hp->VK->Prop):Prop:= ∀(a:List (Addr×Obj))(s:Shared)(f:St)(H:Hp)(x:V)(v d c:Value)(lo hi:Option Int)(b:Addr)(Q:VK),Inv X a f H s->RelV x v->s.heap.IsSliceOf b d c .none->IsPart d lo->IsPart c hi->r x lo hi H Q-> ∃T id,typeLookup (.type T) "__getitem__"=pure (some (.builtin id))/\s.TypeIs v T/\wpAny (model X.prog X.w) X.A (getItem v (.ref b)) (EP X a f Q) X.xe s
def E3(r:V->Option Int->Option Int->Hp->VK->Prop)(te:TE)(tl th:TO):TE:=fun a H Q=>te a H fun x d=>tl a d fun l b=>th a b fun u c=>r x l u c Q
theorem kB(f:CT X r)(D:PE X e te)(z:PO X lo tl)(C:PO X hi th):PE X (.Subscript e (.Slice lo hi none p2) pos) (E3 r te tl th):=by intro c s G H Q I h;refine Subscript_ (bT (D _ s _ H _ I h) fun v J ⟨x,_,j,t,g⟩=>(wpAny_Slice (bT (z _ _ _ _ _ j g) fun y L ⟨l,_,m,i,k⟩=>bT (C _ _ _ _ _ m k) fun p a ⟨u,_,w,n,B⟩=>(au ?_))));have o:Inv X _ _ _ {a with heap:=a.heap.push {cls:=.type "slice",data:=.fields #[y,p,.none]}}:=w.kept fun b M q=>aK _ q;obtain⟨T,id,A,d,E⟩:=f _ _ _ _ x v _ _ l u _ Q o t (Heap.IsSliceOf.new ..) i n B;exact tail_any d A E rfl
def mL(xs:List V)(lo hi:Option Int):List V:=(xs.drop (HT.dn xs.length 0 lo)).take (HT.dn xs.length xs.length hi-HT.dn xs.length 0 lo)
theorem Ld(xs:List V)(lo hi:Option Int):(mL xs lo hi).length<=xs.length:=by unfold mL;rw[lK,nJ];lia
def E4(K:PySem.W.Frag):V->Option Int->Option Int->Hp->VK->Prop:=fun x lo hi H Q=>∃a b,x=.ref a/\hO K H a b/\ ¬(HT.dn b.length 0 lo=0/\HT.dn b.length b.length hi=b.length)/\∀p,H p=none->Q (.ref p) (upd H p (.tup (mL b lo hi)))
theorem TH:CT X (E4 X.K):=by rintro f s t H x v u y lo hi w Q I m l n j ⟨a,i,rfl,h,o,q⟩;cases m;obtain⟨d,r,g,k⟩:=I.tuple h;have c:d.toArray.size=i.length:=r.length.symm;refine⟨_,_,je.lookup,g.typeIs,(HT.iO g l n j (by simp_all) ?_ (by lia))⟩;rw[c];refine⟨.ref _,_,I.laid (fun b p q=>aK _ q) (aC _) ?_,rfl,q _ (I.bD.fresh (aC _))⟩;exact⟨bI (Ld _ _ _) k,_,(r.drop _).take _,IsTup.new _ _⟩
def TJ(K:PySem.W.Frag):R2:=fun x y H Q=>∃a b d c,x=.ref a/\y=.ref b/\hO K H a d/\hO K H b c/\d≠[]/\d.length+c.length<=sizeLine/\ (c=[]->Q (.ref a) H)/\(c≠[]->∀p,H p=none->Q (.ref p) (upd H p (.tup (d++c))))
theorem Vals.jV(r:Vals xs us):us=[]↔xs=[]:=by cases r with |nil=>simp |cons _ _=>simp
theorem TK:hR X (binaryOp .Add) (TJ X.K):=by rintro g s t H x y v u Q I n h ⟨a,b,C,A,rfl,rfl,k,o,i,B,j,l⟩;cases n;cases h;obtain⟨m,d,p,_⟩:=I.tuple k;obtain⟨f,c,p2,_⟩:=I.tuple o;refine HT.u4 p p2 (fun z=>i (d.jV.mp z)) (fun z=>⟨.ref a,H,I,rfl,j (c.jV.mp z)⟩) (fun z=>(⟨.ref _,_,I.laid (fun b r q=>aK _ q) (aC _) ?_,rfl,l (fun w=>z (c.jV.mpr w)) _ (I.bD.fresh (aC _))⟩)) (by rwa[<-d.length,<-c.length]);exact⟨by simp_all,_,d.append c,IsTup.new _ _⟩
end
def iv(n:Nat)(i:Int):Option Nat:=if 0<=i then(if i<n then some i.toNat else none) else if-(n:Int)<=i then some (i+n).toNat else none
def hV{α:Type}(xs:List α)(i:Int):Option α:=(iv xs.length i).bind fun j=>xs[j]?
theorem Le(h:iv n i=some j):seqIndex? i n=some j/\j<n/\-(n:Int)<=i/\i<n:=by
  unfold iv at h;by_cases b:0<=i
  . rw[ao b] at h;by_cases a:i<n;.rw[ao a] at h;have e:=dO h;exact⟨by rw[seqIndex_of b a,e],by lia,by lia,a⟩
    simp_all
  . rw[ak b] at h;by_cases a:-n<=i;.rw[ao a] at h;have e:=dO h;exact⟨by rw[mf (by lia) a,e],by lia,a,by lia⟩
    simp_all
theorem E5(h:hV xs i=some v):∃j,seqIndex? i xs.length=some j/\xs[j]?=some v/\j<xs.length/\-(xs.length:Int)<=i/\i<xs.length:=by unfold hV at h;cases e:iv xs.length i with |none=>simp_all |some j=> obtain⟨a,d,b,c⟩:=Le e;simp_all
theorem mM{xs:List α}{j:Nat}{v:α}(h:xs[j]?=some v):hV xs (j:Int)=some v:=by
 have a:=(b_.mp h).1;have e:iv xs.length j=some j:=by unfold iv;rw[ao (by lia),ao (by lia)];simp
 unfold hV;simp_all
def E6(b:Expr):Prop:=∀o i,subscripted b false o i=operate [o,i] (getItem o i)
def E7(X:Cx)(r:R2):Prop:= ∀(c a:Expr)(b:List (Addr×Obj))(s:Shared)(d:St)(H:Hp)(x y:V)(v u:Value)(Q:VK),Inv X b d H s->RelV x v->RelV y u->r x y H Q-> subscripted a false v u=operate [v,u] (getItem v u)->wpAny (model X.prog X.w) X.A (subscriptTail c a v u) (EP X b d Q) X.xe s
def Lf(X:Cx)(id:String)(r:V->List V->Hp->VK->Prop):Prop:= ∀(a:List (Addr×Obj))(s:Shared)(d:St)(H:Hp)(x:V)(b:List V)(v:Value)(c:List Value)(Q:VK),Inv X a d H s->RelV x v->Vals b c->r x b H Q-> wpAny (model X.prog X.w) X.A (call (.builtin id) (v::c)) (EP X a d Q) X.xe s
section
variable{X:Cx}{a b:Expr}{ta tb:TE}{pos:Pos}
theorem rT{r:R2}(f:E7 X r)(i:PE X a ta)(j:PE X b tb)(g:E6 b):PE X (.Subscript a b pos) (m8 r ta tb):=fun c s n H Q I h=>Subscript_ (wY i j I h fun v u l x y m k e d q=>f a b _ _ _ _ x y v u Q k e d q (g _ _))
def pP(K:PySem.W.Frag):R2:=fun x y H Q=>∃p c i v,x=.ref p/\y=.int i/\fz K H p c/\hV c i=some v/\Q v H
def w_(K:PySem.W.Frag):R2:=fun x y H Q=>∃p c i v,x=.ref p/\y=.int i/\hO K H p c/\hV c i=some v/\Q v H
theorem u5:E7 X (pP X.K):=by
  rintro h g n s T H x y v u Q I A J ⟨p,L,i,z,rfl,rfl,D,E,q⟩ m;cases A;obtain⟨t,rfl⟩:=J;obtain⟨f,r,d,O⟩:=I.list D;obtain⟨j,l,o,R,C,G⟩:=E5 E;obtain⟨w,S,e⟩:=r.get o;have N:=r.length;have M:=AQ;have c:EP X _ _ Q w s:=⟨z,H,I,e,q⟩;by_cases k:0<=i
  . have B:i.toNat=j:=by rw[seqIndex_of k G] at l;simp_all
    exact item_listR d.isList k (by lia) (by simp_all) c m
  . have B:(i+f.toArray.size).toNat=j:=by rw[mf (by lia) C] at l;simp_all
    exact subscriptTail_builtinR d.isList.typeIs slot_list_getitem.lookup (wpAny_getItem_list_neg d.isList (by lia) (by simp_all) (by lia) (by simp_all) ⟨rfl,c⟩) m
theorem E8:E7 X (w_ X.K):=by rintro f e h s O H x y v u Q I m n ⟨p,E,i,z,rfl,rfl,o,C,q⟩ B;cases m;obtain⟨t,rfl⟩:=n;obtain⟨A,r,g,J⟩:=I.tuple o;obtain⟨j,G,k,M,N,D⟩:=E5 C;obtain⟨w,l,d⟩:=r.get k;have L:=AQ;have c:EP X _ _ Q w s:=⟨z,H,I,d,q⟩;exact subscriptTail_builtinR g.typeIs slot_tuple_getitem.lookup (getItem_tuple g (by lia) (by lia) (by rwa[dX,<-r.length]) (by simpa using l) ⟨rfl,c⟩) B
theorem TL(its:List Value)(n j:Nat)(u:Value):Obj.mapSeq (·.setIfInBounds j u) {cls:=.type "list",data:=.seq its.toArray n}={cls:=.type "list",data:=.seq (its.set j u).toArray n}:=by simp[Obj.mapSeq]
theorem Inv.lst{pins:List (Addr×Obj)}{σ:St}{H:Hp}{s:Shared}{p:Addr}{xs:List V}(I:Inv X pins σ H s)(h:H p=some (.lst xs)): ∃(its:List Value) (n:Nat),Vals xs its/\s.heap.get? p=some {cls:=.type "list",data:=.seq its.toArray n}/\xs.length<=sizeLine:=by obtain⟨z,its,n,r,e⟩:=I.bD p _ h;simp_all
theorem Inv.xa{its qS:List Value}(I:Inv X pins σ H s)(h:H p=some (.lst xs)) (i:s.heap.get? p=some {cls:=.type "list",data:=.seq its.toArray n})(c:f {cls:=.type "list",data:=.seq its.toArray n}={cls:=.type "list",data:=.seq qS.toArray g})(r:Vals ys qS)(hz:ys.length<=sizeLine)(t:Nat): Inv X pins σ (upd H p (.lst ys)) {s with heap:=s.heap.update p f,toks:=t}:=by
 have e:(s.heap.update p f).get? p=some {cls:=.type "list",data:=.seq qS.toArray g}:=by rw[jz f i (by rw[c]<;>rfl),c]
 refine I.write (by rw[h];trivial) (.inl rfl) (fun b u d q=>(fO _ _ (aR d)).trans q) ⟨_,e⟩ ?_;exact⟨hz,_,_,r,e⟩
def AU:V->V->V->Hp->(Hp->Prop)->Prop:=fun o i v H Q=>∃p c k j,o=.ref p/\i=.int k/\H p=some (.lst c)/\iv c.length k=some j/\Q (upd H p (.lst (c.set j v)))
theorem yO:wW X AU:=by
  rintro w s G H o i v M L u Q I C x z ⟨p,E,k,j,rfl,rfl,f,A,q⟩;cases C;obtain⟨t,rfl⟩:=x;obtain⟨c,n,r,d,D⟩:=I.lst f;obtain⟨g,N,B,y⟩:=Le A;have m:=r.length;have J:=AQ;have h:Inv X _ _ _ {s with heap:=s.heap.update p _}:= I.xa f d (TL _ n j u) (r.set z j) (by simp_all) _;by_cases l:0<=k
  . have e:k.toNat=j:=by rw[seqIndex_of l y] at g;simp_all
    exact PySem.W.ki_setAt d l (by lia) (by rwa[dX,<-m]) (by rw[e];exact⟨_,h,q⟩)
  . have e:(k+c.toArray.size).toNat=j:=by rw[mf (by lia) B] at g;simp_all
    exact PySem.W.ki_setBack d (by lia) (by rwa[dX,<-m]) (by lia) (by rw[e];exact⟨_,h,q⟩)
theorem TM(lo hi:Option Int)(n:Nat):(sliceBounds lo hi none n).1=((HT.dn n 0 lo:Nat):Int)/\(sliceBounds lo hi none n).2.1=((HT.dn n n hi:Nat):Int)/\(sliceBounds lo hi none n).2.2=1:=by
 refine⟨?_,?_,rfl⟩;.cases lo with |none=>rfl |some i=> simp[sliceBounds,HT.dn];grind
 .cases hi with |none=>rfl |some i=> simp[sliceBounds,HT.dn,show 1>0 by decide];grind
theorem TN(its:List Value)(lo hi:Option Int):slicePick its.toArray lo hi none=((its.drop (HT.dn its.length 0 lo)).take (HT.dn its.length its.length hi-HT.dn its.length 0 lo)).toArray:=by obtain⟨c,e,d⟩:=TM _ _ _;unfold slicePick;rw[c,e,d];simp only[sliceRange_one,pick_run]<;>rfl
def AV(K:PySem.W.Frag):V->Option Int->Option Int->Hp->VK->Prop:=fun x lo d H Q=>∃a c,x=.ref a/\fz K H a c/\∀p,H p=none->Q (.ref p) (upd H p (.lst (mL c lo d)))
theorem lS:CT X (AV X.K):=by rintro d s p H x v u t lo n m Q I k j g l ⟨a,w,rfl,h,q⟩;cases k;obtain⟨f,r,e,i⟩:=I.list h;have c:=r.length;refine⟨_,_,slot_list_getitem.lookup,e.isList.typeIs,(wpAny_getItem_list_slice e.isList j g l .none (by simp) ?_ (by simp_all))⟩;rw[TN,<-c];refine⟨.ref _,_,I.laid (fun b o q=>aK _ q) (aC _) ?_,rfl,q _ (I.bD.fresh (aC _))⟩;exact⟨bI (Ld _ _ _) i,_,0,(r.drop _).take _,b9 _ rfl⟩
def u6:V->Bool |.non=>true |.bl _=>true |.int _=>true |.str _=>true |_=>false
def ui:V->V->Bool |.non,.non=>true |.bl a,.bl b=>a==b |.bl a,.int b=>(if a then 1 else 0)==b |.int a,.bl b=>a==(if b then 1 else 0) |.int a,.int b=>a==b |.str a,.str b=>a==b |_,_=>false
theorem TQ(j:RelV y u)(c:RelV x v)(k:u6 y=true)(i:u6 x=true):SeqAt.EqAt A s u v (ui y x):=by cases y with
 |non=> cases j;cases x with |non=>cases c;exact SeqAt.EqAt.same _ |bl b=>cases c;exact SeqAt.EqAt.none_bool b |int b=>obtain⟨t,rfl⟩:=c;exact SeqAt.EqAt.none_int b t |str b=>obtain⟨t,rfl⟩:=c;exact SeqAt.EqAt.none_str b t |_=>exact absurd (show false=true from i) eN
 |bl a=> cases j;cases x with |non=>cases c;exact SeqAt.EqAt.bool_none a |bl b=>cases c;exact SeqAt.EqAt.bool_bool a b |int b=>obtain⟨t,rfl⟩:=c;exact SeqAt.EqAt.bool_int a b t |str b=>obtain⟨t,rfl⟩:=c;exact SeqAt.EqAt.bool_str a b t |_=>exact absurd (show false=true from i) eN
 |int a=> obtain⟨g,rfl⟩:=j;cases x with |non=>cases c;exact SeqAt.EqAt.int_none a g |bl b=>cases c;exact SeqAt.EqAt.int_bool a g b |int b=>obtain⟨t,rfl⟩:=c;exact SeqAt.EqAt.int_int a g b t |str b=>obtain⟨t,rfl⟩:=c;exact SeqAt.EqAt.int_str a g b t |_=>exact absurd (show false=true from i) eN
 |str a=> obtain⟨g,rfl⟩:=j;cases x with |non=>cases c;exact SeqAt.EqAt.str_none a g |bl b=>cases c;exact SeqAt.EqAt.str_bool a g b |int b=>obtain⟨t,rfl⟩:=c;exact SeqAt.EqAt.str_int a g b t |str b=>obtain⟨t,rfl⟩:=c;exact SeqAt.EqAt.str_str a g b t |_=>exact absurd (show false=true from i) eN
 |_=>exact absurd (show false=true from k) eN
def xb(x:V)(u:Value):Bool:=match u with |.none=>ui .non x |.bool b=>ui (.bl b) x |.int i _=>ui (.int i) x |.str z _=>ui (.str z) x |_=>false
theorem Lg(r:RelV y u)(f:u6 y=true):xb x u=ui y x:=by cases y with |non=>cases r;rfl |bl b=>cases r;rfl |int i=>obtain⟨t,rfl⟩:=r;rfl |str z=>obtain⟨t,rfl⟩:=r;rfl |_=>exact absurd f eN
theorem AW:∀{xs:List V}{us:List Value},Vals xs us->xs.all u6=true->us.any (xb x)=xs.any fun y=>ui y x |_,_,.nil,_=>rfl |y::xs,u::us,.cons r t,f=>by rw[lF,jH] at f;rw[lH,lH,Lg r f.1,AW t f.2]
theorem AX(e:RelV x v)(g:u6 x=true):∀{xs:List V}{us:List Value},Vals xs us->xs.all u6=true->∀u∈us,SeqAt.EqAt A s u v (xb x u)
 |_,_,.nil,_=>fun u d=>by cases d |y::xs,u::us,.cons r t,f=>fun h d=>by
  rw[lF,jH] at f;rcases aU.mp d with rfl|d;.rw[Lg r f.1];exact TQ r e f.1 g
  .exact AX e g t f.2 _ d
def CU(x:V)(xs:List V):Bool:=xs.any fun y=>ui y x
def CV(K:PySem.W.Frag)(d:Bool):R2:=fun x y H Q=>∃p c,y=.ref p/\(fz K H p c\/hO K H p c)/\u6 x=true/\c.all u6=true/\Q (.bl (if d then !CU x c else CU x c)) H
theorem TR:hR X (compareOp .In) (CV X.K false):=by
 rintro i s m H x y v u Q I h j ⟨p,n,rfl,d,g,e,q⟩;cases j;rcases d with d|d;.obtain⟨c,r,f,k⟩:=I.list d;refine SeqAt.in_listAt _ f.isList (fun w l=>AX h g r e w (by simp_all)) ⟨.bl _,H,I,rfl,?_⟩;rwa[show c.toArray.any _=c.any (xb x) by simp,AW r e]
 .obtain⟨c,r,f,k⟩:=I.tuple d;refine SeqAt.in_tupleAt _ f (fun w l=>AX h g r e w (by simp_all)) ⟨.bl _,H,I,rfl,?_⟩;rwa[show c.toArray.any _=c.any (xb x) by simp,AW r e]
theorem TU:hR X (compareOp .NotIn) (CV X.K true):=by
 rintro i s m H x y v u Q I h j ⟨p,n,rfl,d,g,e,q⟩;cases j;rcases d with d|d;.obtain⟨c,r,f,k⟩:=I.list d;refine SeqAt.notIn_listAt _ f.isList (fun w l=>AX h g r e w (by simp_all)) ⟨.bl _,H,I,rfl,?_⟩;rwa[show c.toArray.any _=c.any (xb x) by simp,AW r e]
 .obtain⟨c,r,f,k⟩:=I.tuple d;refine SeqAt.notIn_tupleAt _ f (fun w l=>AX h g r e w (by simp_all)) ⟨.bl _,H,I,rfl,?_⟩;rwa[show c.toArray.any _=c.any (xb x) by simp,AW r e]
theorem fP:m7 X (.builtin "len") (fun xs H Q=>∃p ys,xs=[.ref p]/\(fz X.K H p ys\/hO X.K H p ys)/\Q (.int ys.length) H):=by
 rintro h s m H xs l Q I r ⟨p,ys,rfl,d,q⟩;obtain⟨u,rfl,j⟩:=mI r;cases j;have k:=AQ;rcases d with d|d;.obtain⟨e,f,g,i⟩:=I.list d;have c:=f.length;exact Calls.call_len_list g.isList (by simp<;>lia) ⟨.int _,H,I.tok _,⟨s.toks+1,by simp_all⟩,q⟩
 .obtain⟨e,f,g,i⟩:=I.tuple d;have c:=f.length;exact len_tuple g (by simp<;>lia) ⟨.int _,H,I.tok _,⟨s.toks+1,by simp_all⟩,q⟩
theorem xc:m7 X (.type "list") (fun xs H Q=>∃p ys,xs=[.ref p]/\(fz X.K H p ys\/hO X.K H p ys)/\∀l,H l=none->Q (.ref l) (upd H l (.lst ys))):=by
 rintro y s A H xs B Q I r ⟨p,ys,rfl,h,q⟩;obtain⟨u,rfl,z⟩:=mI r;cases z;have k:∀(c:List _),Vals _ c->ys.length<=sizeLine->∀(f:Heap)(m:Nat),(∀b C,s.heap.get? b=some _->f.get? b=some _)-> f.get? _=some {cls:=.type _,dict:=none,data:=.seq _ m,slots:=#[]}->EP X _ _ Q _ {s with heap:=f}:=fun c d j f m i e=> ⟨.ref _,_,I.laid i (aC _) (show da _ _ _ _ _ (.lst _) from⟨j,_,_,d,e⟩),rfl,q _ (I.bD.fresh (aC _))⟩;rcases h with h|h;.obtain⟨c,d,t,j⟩:=I.list h;have g:=d.length;obtain⟨o,x,w,n,v⟩:=t.isList;exact call_list_seq p (.inl rfl) x w v (fun f m i e=>k _ d j _ _ i e) (by simp<;>lia)
 .obtain⟨c,d,t,j⟩:=I.tuple h;have g:=d.length;obtain⟨o,x,w,n,v⟩:=t;exact call_list_seq p (.inr rfl) x w v (fun f m i e=>k _ d j _ _ i e) (by simp<;>lia)
theorem TV:m7 X (.type "tuple") (fun xs H Q=>∃p ys,xs=[.ref p]/\((fz X.K H p ys/\∀l,H l=none->Q (.ref l) (upd H l (.tup ys)))\/(hO X.K H p ys/\Q (.ref p) H))):=by
 intro n s y H xs x Q I r h;obtain⟨p,ys,rfl,h⟩:=h;obtain⟨u,rfl,v⟩:=mI r;cases v;rcases h with⟨g,q⟩|⟨g,q⟩;.obtain⟨c,d,f,j⟩:=I.list g;have i:=d.length;refine call_tuple_list f.isList (fun m t=>?_) (by simp[dX]<;>omega);have k:Inv X _ _ H {s with heap:=m}:=I.kept t;have w:Inv X _ _ (upd H _ (.tup _)) {s with heap:=m.push _}:= k.laid (fun b o e=>aK _ e) (aC _) (⟨j,c,d,IsTup.new _ _⟩);exact⟨.ref _,_,w,rfl,q _ (k.bD.fresh (aC _))⟩
 .obtain⟨c,d,f,j⟩:=I.tuple g;exact call_tuple_same f ⟨.ref p,H,I,rfl,q⟩
def E9(K:PySem.W.Frag)(T:String)(x:V)(H:Hp):Prop:=match x with |.str _=>T="str" |.int _=>T="int" |.ref p=>(T="list"/\∃d,fz K H p d)\/(T="tuple"/\∃o,K.lookup p=some o/\o.cls=.type "tuple"/\o.dict=none)\/ (T="dict"/\((∃c,H p=some (.dK c))\/∃c,H p=some (.dT c)))\/(T="set"/\∃S n,H p=some (.set S n)) |_=>False
theorem Lh(I:Inv X pins σ H s)(r:RelV x v)(g:E9 X.K T x H): s.TypeIs v T/\∀a,v=.ref a->∃l,s.heap.get? a=some l/\l.dict=none:=by
  cases x with |str z=> obtain⟨t,rfl⟩:=r;cases(g);exact⟨rfl,fun _ e=>nomatch e⟩ |int i=> obtain⟨t,rfl⟩:=r;cases g;exact⟨rfl,fun _ e=>nomatch e⟩ |ref p=>
    cases r;rcases g with⟨rfl,C,B⟩|⟨rfl,o,d,A,j⟩|⟨rfl,d⟩|⟨rfl,S,n,d⟩;.obtain⟨y,_,m,_⟩:=I.list B;refine⟨m.isList.typeIs,fun a e=>?_⟩;cases e;obtain⟨o,n,e,c,j,_⟩:=m;exact⟨o,e,j⟩
    .refine⟨⟨o,I.gM p o d,A⟩,fun a e=>?_⟩;cases e;exact⟨o,I.gM _ o d,j⟩
    . have z:∃o,s.heap.get? p=some o/\o.ExactDict:=by
        rcases d with⟨h,d⟩|⟨h,d⟩;.obtain⟨_,_,_,_,o,_,_,e,f,_⟩:=I.bD p _ d;simp_all
        .obtain⟨_,_,_,_,o,_,_,e,f,_⟩:=I.bD p _ d;exact⟨o,e,f⟩
      obtain⟨o,e,f⟩:=z;refine⟨⟨o,e,f.1⟩,fun a k=>?_⟩;cases k;exact⟨o,e,f.2.1⟩
    .obtain⟨o,_,_,_,e,f,_⟩:=I.bD p _ d;refine⟨⟨o,e,f.1⟩,fun a k=>?_⟩;cases k;exact⟨o,e,f.2.1⟩ |_=>exact False.elim g
def xh(K:PySem.W.Frag)(T:String)(r:V->List V->Hp->VK->Prop)(d:TE):TE:=fun e H Q=>d e H fun x c=>E9 K T x c/\r x [] c Q
def xj(K:PySem.W.Frag)(T:String)(r:V->List V->Hp->VK->Prop)(f:TE)(t:TA):TE:=fun c H Q=>f c H fun x d=>E9 K T x d/\t c d fun e g=>r x e g Q
variable{o e:Expr}{es:List Expr}{to:TE}{t:TA}{name:Str}{apos dB:Pos}{T id:String}{r:V->List V->Hp->VK->Prop}
theorem E_(q:PlainAttrs T)(f:Slot T name id)(g:typeOf (.builtin id)=pure (.type "method_descriptor"))(n:Lf X id r)(m:PE X o to) (c:attributeBase o name X.env (eval o X.env)=eval o X.env:=by rfl)(d:(apos.endLine==dB.line)=true:=by rfl):PE X (.Call (.Attribute o name apos) [] [] dB) (xh X.K T r to):=by intro k s z H Q I h;refine wpAny_Call_method0_late c d (bT (m _ s _ H _ I h) fun v y ⟨x,_,j,i,p,u⟩=>?_);obtain⟨w,l⟩:=Lh j i p;exact⟨T,_,q,f,g,w,l,wO rfl (PySem.evalArgs_none (n _ _ _ _ x _ v _ Q j i .nil u))⟩
theorem xk(u:PlainAttrs T)(g:Slot T name id)(j:typeOf (.builtin id)=pure (.type "method_descriptor"))(z:Lf X id r)(C:PE X o to)(A:PA X (e::es) t) (c:attributeBase o name X.env (eval o X.env)=eval o X.env:=by rfl) (f:((backTo dB (starEach (e::es) X.env)).all (fun x=>!x.1)&&(backToKw dB (keywordEach [] X.env)).all (fun x=>x.1.isSome) &&decide ((e::es).length+([]:List Keyword).length+(if([]:List Keyword).isEmpty then 0 else 1)<30))=true:=by rfl) (d:(apos.endLine==dB.line)=true:=by rfl)(q:starEach (e::es) X.env=(false,eval e X.env)::starEach es X.env:=by rfl)(i:(backTo dB (starEach es X.env)).any (·.1)=false:=by rfl): PE X (.Call (.Attribute o name apos) (e::es) [] dB) (xj X.K T r to t):=by intro n s N H Q I h;refine wpAny_Call_method_late c f d rfl (bT (C _ s _ H _ I h) fun v J ⟨x,_,l,k,B,E⟩=>?_);obtain⟨D,p⟩:=Lh l k B;refine⟨T,_,u,g,j,D,p,?_⟩;have m:=A dB _ _ _ _ _ l E;rw[q] at m⊢;exact wO (by simp_all) (uM (bT m fun M L ⟨_,_,G,w,y⟩=>z _ _ _ _ x _ v _ Q G k w y))
end
def Fb(X:Cx)(id:String)(r:V->List V->Hp->VK->Prop):Prop:= ∀(a:List (Addr×Obj))(s:Shared)(d:St)(H:Hp)(x:V)(b:List V)(v:Value)(c:List Value)(Q:VK),Inv X a d H s->RelV x v->Vals b c->r x b H Q-> wpAny (model X.prog X.w) X.A (call (.builtin id) (v::c)) (EP X a d Q) X.xe s
theorem Vals.one:∀{x:V}{us:List Value},Vals [x] us->∃u,us=[u]/\RelV x u |_,_,.cons r .nil=>⟨_,rfl,r⟩
theorem Vals.zero:∀{us:List Value},Vals [] us->us=[] |_,.nil=>rfl
theorem Vals.dropLast(h:Vals xs us):Vals xs.dropLast us.dropLast:=by induction h with |nil=>exact .nil |cons r t c=> cases t with |nil=>simp_all |cons q d=>exact .cons r c
theorem Vals.reverse(h:Vals xs us):Vals xs.reverse us.reverse:=by induction h with |nil=>exact .nil |cons r t b=>rw[qt,qt];exact Vals.append b (.cons r .nil)
section
variable{X:Cx}{pins:List (Addr×Obj)}{σ:St}{H:Hp}{s:Shared}{l b:Addr}{xs ys zs:List V}
theorem Inv.u9{its qS:List Value}(I:Inv X pins σ H s)(c:H l=some (.lst xs)) (e:s.heap.get? l=some {cls:=.type "list",data:=.seq its.toArray n})(g:f its.toArray=qS.toArray)(d:Vals ys qS)(hz:ys.length<=sizeLine): Inv X pins σ (upd H l (.lst ys)) {s with heap:=s.heap.update l (Obj.mapSeq f),toks:=t'}:=by have q:=PySem.IsL.update e f;rw[g] at q;refine I.write (by rw[c];exact trivial) (.inl rfl) (fun i u a h=>(fO _ _ (aR a)).trans h) ⟨_,q⟩ ?_;exact⟨hz,_,_,d,q⟩
theorem Inv.Fc(I:Inv X pins σ H s)(a:Vals ys its)(hz:ys.length<=sizeLine): Inv X pins σ (upd H s.heap.objs.size (.lst ys)) {s with heap:=s.heap.push {cls:=.type "list",data:=.seq its.toArray},toks:=t'}:= I.laid (fun _ _ q=>aK _ q) (aC _) ⟨hz,_,0,a,b9 _ rfl⟩
theorem Inv.fresh(I:Inv X pins σ H s):H s.heap.objs.size=none:=I.bD.fresh (aC _)
theorem Inv.qT(I:Inv X pins σ H s)(a:H l=some (.lst xs)):xs.length<=sizeLine/\∃(its:List Value) (n:Nat),Vals xs its/\xs.length=its.length/\s.heap.get? l=some {cls:=.type "list",data:=.seq its.toArray n}:=let⟨z,_,n,r,e⟩:=I.bD l _ a;⟨z,_,n,r,r.length,e⟩
theorem Li(h:n<=sizeLine):Builtin.List.listTooLong n=false:=by unfold Builtin.List.listTooLong;simp_all
end
section
variable {X : Cx}
def yP:V->List V->Hp->VK->Prop:=fun x b H Q=>∃l a y,x=.ref l/\b=[y]/\H l=some (.lst a)/\a.length<sizeLine/\Q .non (upd H l (.lst (a++[y])))
theorem yQ:Fb X "list.append" yP:=by rintro a s m H x i v k Q I c d ⟨l,j,y,rfl,rfl,b,o,q⟩;cases c;obtain⟨u,rfl,f⟩:=d.one;obtain⟨z,g,n,r,h,e⟩:=I.qT b;refine call_meets F.slot_list_append ⟨_,e,rfl⟩ F.entry_list_append (F.args_list_append_2 _ _) (PySem.list_append l _ n u (by simp_all)) ⟨e,(⟨.non,_,I.u9 b e (by simp) (r.append (.cons f .nil)) ?_,rfl,q⟩)⟩;rw[gX,sQ];lia
def Lj:V->List V->Hp->VK->Prop:=fun x d H Q=>∃l b c a,x=.ref l/\d=[.ref b]/\H l=some (.lst c)/\H b=some (.lst a)/\c.length+a.length<=sizeLine/\Q .non (upd H l (.lst (c++a)))
theorem Lk:Fb X "list.extend" Lj:=by
 rintro h s G H x E v w Q I i o ⟨l,b,A,B,rfl,rfl,g,m,y,q⟩;cases i;obtain⟨u,rfl,k⟩:=o.one;cases k;obtain⟨z,c,n,r,C,e⟩:=I.qT g;obtain⟨J,a,D,j,p,t⟩:=I.qT m;have f:c.toArray.size+a.toArray.size<=sizeLine:=by rw[dX,dX];lia
 have d:¬(!c.toArray.isEmpty&&Builtin.List.listTooLong (c.toArray.size+a.toArray.size))=true:=by rw[Li f];simp
 refine call_meets F.slot_list_extend ⟨_,e,rfl⟩ F.entry_list_extend (F.args_list_extend_2 _ _) (AutoSeq1.list_extend_list_list_0 l _ n b _ _ d (by lia) (by lia)) ⟨e,t,(⟨.non,_,I.u9 g e (by simp) (r.append j) ?_,rfl,q⟩)⟩;simp_all
def xl:V->List V->Hp->VK->Prop:=fun x b H Q=>∃l a y,x=.ref l/\b=[]/\H l=some (.lst a)/\a[a.length-1]?=some y/\Q y (upd H l (.lst a.dropLast))
theorem Fd:Fb X "list.pop" xl:=by
 rintro f s t H x o v p Q I g h ⟨l,m,y,rfl,rfl,d,i,q⟩;cases g;have b:=h.zero;subst b;obtain⟨z,a,n,r,j,e⟩:=I.qT d;obtain⟨u,w,k⟩:=r.get i;have c:=by show a.toArray[a.length-1]?=some u;rwa[<-wN,<-j]
 refine call_meets F.slot_list_pop ⟨_,e,rfl⟩ F.entry_list_pop (F.args_list_pop_1 _) (MeetsSeq.list_pop_last l _ n u c (by simp_all)) ⟨e,(⟨y,_,I.u9 d e ?_ r.dropLast ?_,k,q⟩)⟩;.simp
 .rw[List.length_dropLast];lia
end
section
variable {κ : Type} [DecidableEq κ]
def gC(cu:List (κ×V))(k:κ):Option V:=(cu.find? fun a=>decide (a.1=k)).map (·.2)
def putK(cu:List (κ×V))(k:κ)(v:V):List (κ×V):= if(cu.any fun a=>decide (a.1=k))=true then cu.map (fun a=>if a.1=k then(a.1,v) else a) else cu++[(k,v)]
theorem Fe{p:κ×V}(e:p.1=k):gC (p::r) k=some p.2:=by simp[gC,e]
theorem Ff{p:κ×V}(e:¬p.1=k):gC (p::r) k=gC r k:=by simp[gC,e]
theorem Ll(k:κ):∀cu:List (κ×V),(cu.any fun b=>decide (b.1=k))=(gC cu k).isSome
 |[]=>rfl |p::r=>by
  rw[lH];by_cases e:p.1=k;.simp[Fe e,eY e,Bool.true_or]
  .rw[Ff e,cV e];exact Ll k r
theorem Lm(cu:List (κ×V))(k:κ)(v:V):(putK cu k v).length<=cu.length+1:=by
 unfold putK;split;.simp
 simp
theorem gT.jl(r:gT o u):o.isSome=u.isSome:=by cases o with
 |none=>cases u with |none=>rfl |some _=>exact r.elim
 |some _=>cases u with |none=>exact r.elim |some _=>rfl
theorem gT.getD(r:gT o u)(a:RelV d d'):RelV (o.getD d) (u.getD d'):=by cases o with
 |none=>cases u with |none=>exact a |some _=>exact r.elim
 |some _=>cases u with |none=>exact r.elim |some _=>exact r
theorem KV.val(r:KV cu vs)(k:κ):gT (gC cu k) (valueAt vs k):=by induction r with |nil=>exact True.intro |@cons p q i a h t l=>
    obtain⟨c,j⟩:=h;by_cases e:p.1=k
    . have b:valueAt (q::a) k=some q.2:=by simp[valueAt,(c.symm.trans e)]
      rwa[Fe e,b]
    . have f:¬q.1=k:=fun z=>e (c.trans z);have b:valueAt (q::a) k=valueAt a k:=by simp[valueAt,f]
      rwa[Ff e,b]
theorem KV.any(r:KV cu vs)(k:κ):(cu.any fun a=>decide (a.1=k))=vs.any fun a=>decide (a.1=k):=by induction r with |nil=>rfl |cons h t c=>rw[lH,lH,c,h.1]
theorem KV.xm(r:KV cu vs)(k:κ)(f:RelV y u): KV (cu.map fun a=>if a.1=k then(a.1,y) else a) (vs.map fun a=>if a.1=k then(a.1,u) else a):=by induction r with |nil=>exact .nil |@cons p q g i h t c=>
 refine .cons ?_ c;by_cases e:p.1=k;.simp_all
 simp_all
theorem KV.put(r:KV cu vs)(k:κ)(a:RelV y u):KV (putK cu k y) (stored vs k u):=by
 unfold putK stored;rw[r.any k];by_cases e:(vs.any fun b=>decide (b.1=k))=true;.rw[ao e,ao e];exact r.xm k a
 .rw[ak e,ak e];exact Paired.snoc r ⟨rfl,a⟩
theorem KV.length{cu:List (κ×V)}(r:KV cu vs):cu.length=vs.length:=Paired.length r
end
theorem CW(r:RelV (kV k) u):(qL P w).is k u=true:=by cases k with |inl i=>obtain⟨t,e⟩:=r;subst e;exact SJ P w i t |inr x=>obtain⟨t,e⟩:=r;subst e;exact SK P w x t
theorem Ln:∀{ks:List Key}{us:List Value},Vals (ks.map kV) us->ItemsAre (qL P w) ks us |[],_,r=>by cases r;exact .nil |k::ks,_,r=>by cases r with |cons h t=>exact .cons (CW h) (Ln t)
abbrev KT(H:Hp):List (List Key×V)->List (List Key×Addr×Value)->Prop:=Paired fun p q=>p.1=q.1/\H q.2.1=some (.tup (p.1.map kV))/\RelV p.2 q.2.2
theorem KT.val(r:KT H cu xs)(k:List Key):gT (gC cu k) ((atKey xs k).map (·.2)):=by induction r with |nil=>exact True.intro |@cons p q i a h t l=>
    obtain⟨c,_,j⟩:=h;by_cases e:p.1=k
    . have b:atKey (q::a) k=some q.2:=by simp[atKey,(c.symm.trans e)]
      rwa[Fe e,b]
    . have f:¬q.1=k:=fun z=>e (c.trans z);have b:atKey (q::a) k=atKey a k:=by simp[atKey,f]
      rwa[Ff e,b]
theorem KT.xm(r:KT H cu xs)(k:List Key)(i:RelV y u): KT H (cu.map fun a=>if a.1=k then(a.1,y) else a) (xs.map (putAt k u)):=by induction r with |nil=>exact .nil |@cons p q g f h t d=>
 refine .cons ?_ d;unfold putAt;by_cases e:p.1=k;.simp_all
 simp_all
theorem KT.put(r:KT H cu xs)(k:List Key)(d:H b=some (.tup (k.map kV)))(a:RelV y u): KT H (putK cu k y) (storedH xs k b u):=by
 have e:(cu.any fun c=>decide (c.1=k))=(atKey xs k).isSome:=by rw[Ll,(r.val k).jl,Option.isSome_map]
 unfold putK storedH;rw[e];by_cases q:(atKey xs k).isSome=true;.rw[ao q,ao q];exact r.xm k a
 .rw[ak q,ak q];exact Paired.snoc r ⟨rfl,d,a⟩
theorem KT.keeps(r:KT H cu xs)(a:∀b ys,H b=some (.tup ys)->H' b=some (.tup ys)):KT H' cu xs:= Paired.wR r fun _ _ z=>⟨z.1,a _ _ z.2.1,z.2.2⟩
section
variable{P:Program}{w:World}{H:Hp}{h:Heap}{a:Addr}
theorem Lo(b:hL P w H h)(e:Rd H a u):da P w H h a u:=e.ok b
theorem AY(b:hL P w H h)(e:Rd H a (.dK cu)):cu.length<=sizeLine/\(a==sysModules)=false/\∃vs,KV cu vs/\h.DictOf (qL P w) a vs:= Lo b e
theorem TX(b:hL P w H h)(e:H a=some (.dK cu)):cu.length<=sizeLine/\(a==sysModules)=false/\∃vs,KV cu vs/\h.DictOf (qL P w) a vs:=AY b (.inl e)
theorem CY(f:hL P w H h)(e:H a=some (.tup (ks.map kV))):(tupleKind (qL P w)).is h ks a:=let⟨_,_,r,o,b,d,n,c⟩:=(f a _ e);⟨o,_,n,b,d,c,by simpa using Ln r⟩
theorem CZ(f:hL P w H h)(e:Rd H a (.dT cu)):cu.length<=sizeLine/\(a==sysModules)=false/\ ∃xs,KT H cu xs/\h.DictOfH (tupleKind (qL P w)) a xs:=by
 obtain⟨z,y,xs,r,o,D,A,k,i,n,s,g⟩:=(Lo f e);refine⟨z,y,_,r,o,_,_,k,i,n,s,fun x b=>?_,g⟩;have c:∀{l:List _}{m:List _},KT H l m->∀x∈m,(tupleKind (qL P w)).is h x.1 x.2.1:=by intro l m q;induction q with |nil=>simp |@cons p q C v B t u=>
  intro x b;rcases aU.mp b with e|b;.exact CY f (by simp_all)
  .exact u x b
 exact c r x b
theorem TY(b:hL P w H h)(e:H a=some (.dT cu)):cu.length<=sizeLine/\(a==sysModules)=false/\ ∃xs,KT H cu xs/\h.DictOfH (tupleKind (qL P w)) a xs:=CZ b (.inl e)
end
def pQ(H:Hp)(a:Addr)(y:V)(r:Option V):Prop:= (∃c k,Rd H a (.dK c)/\y=kV k/\r=gC c k)\/∃c k b,Rd H a (.dT c)/\y=.ref b/\H b=some (.tup (k.map kV))/\r=gC c k
def s_(H:Hp)(a:Addr)(y v:V)(H':Hp):Prop:= (∃c k,H a=some (.dK c)/\y=kV k/\c.length<sizeLine/\H'=upd H a (.dK (putK c k v)))\/ ∃c k b,H a=some (.dT c)/\y=.ref b/\H b=some (.tup (k.map kV))/\c.length<sizeLine/\H'=upd H a (.dT (putK c k v))
theorem pQ.k{k:Key}(e:H a=some (.dK cu)):pQ H a (kV k) (gC cu k):=.inl ⟨_,k,.inl e,rfl,rfl⟩
theorem s_.k{k:Key}(e:H a=some (.dK cu))(b:cu.length<sizeLine):s_ H a (kV k) v (upd H a (.dK (putK cu k v))):=.inl ⟨_,k,e,rfl,b,rfl⟩
section
variable{X:Cx}{pins:List (Addr×Obj)}{σ:St}{H:Hp}{s:Shared}{a:Addr}{y v:V}{u r:Value}{o:Option V}{A:Around}{E:Value->Shared->Prop}
theorem Inv.big(I:Inv X pins σ H s):sysModules<s.heap.objs.size:=fS (by decide) ((I.mod.glob.keeps I.bk).lt)
theorem TZ(p:A.units+1<cLine)(I:Inv X pins σ H s)(g:pQ H a y o)(m:RelV y u)(h:∀s',Inv X pins σ H s'->Q (.bool (!o.isSome)) s'): wpAny (model X.prog X.w) A (compareOp .NotIn u (.ref a)) Q E s:=by
 rcases g with⟨i,k,e,d,l⟩|⟨i,k,b,e,d,n,l⟩;.subst d;obtain⟨z,f,t,c,j⟩:=AY I.bD e;refine wpAny_notIn_of (CW m) f j.mapOf ?_;rw[<-(c.val k).jl,<-l];exact h _ (I.tok _)
 .subst d;cases(m);obtain⟨z,f,w,c,j⟩:=CZ I.bD e;refine wpAny_notIn_heap (pw p) (CY I.bD n) f j ?_;have q:=(c.val k).jl;rw[Option.isSome_map] at q;rw[<-q,<-l];exact h _ (I.tok _)
theorem Lp(I:Inv X pins σ H s)(h:As (H a))(f:Heap.SameBut a s.heap h')(g:∃q,h'.get? a=some q)(c:da X.prog X.w (upd H a d) h' a d): Inv X pins σ (upd H a d) {s with heap:=h',toks:=t'}:= I.write h (.inl rfl) (fun b q e z=>(f.2 b e).trans z) g c
theorem Lq(z:cu.length<=sizeLine)(hd:(a==sysModules)=false)(b:KV cu vs)(dd:h'.DictOf (qL P w) a vs): da P w H' h' a (.dK cu):=⟨z,hd,_,b,dd⟩
theorem T1{Q:Unit->Shared->Prop}(Y:A.units+1<cLine)(I:Inv X pins σ H s)(g:s_ H a y v H')(B:RelV y u)(G:RelV v r)(h:∀s',Inv X pins σ H' s'->Q () s'): wpAny (model X.prog X.w) A (setItem (.ref a) u r) Q E s:=by
  rcases g with⟨d,k,e,n,l,m⟩|⟨d,k,b,e,n,J,l,m⟩
  . subst n m;obtain⟨z,p,T,f,w⟩:=TX I.bD e;have C:T.length<=sizeLine:=by rwa[<-f.length]
    have x:(putK d k v).length<=sizeLine:=by have:=Lm d k v;lia
    refine wpAny_setItem_pairs (CW B) w fun D i t=>h _ ?_;have U:∃q,D.get? a=some q:=let⟨q,_,_,j,_⟩:=i;⟨q,j⟩;exact Lp I (by rw[e];exact True.intro) t U (Lq x p (f.put k G) i)
  . subst n m;cases B;obtain⟨z,p,L,f,w⟩:=TY I.bD e;have C:L.length<=sizeLine:=by rwa[<-Paired.length f]
    have x:(putK d k v).length<=sizeLine:=by have:=Lm d k v;lia
    refine wpAny_setItem_heap (hsz:=C) (pw Y) (CY I.bD J) w fun D i t=>h _ ?_;obtain⟨q,es,ep,j,M,S,O,_,R⟩:=i;refine Lp I (by rw[e];exact True.intro) t ⟨q,j⟩ ⟨x,p,_,(f.put k J G).keeps fun c Z N=>?_,q,_,_,j,M,S,O,R⟩;rwa[bc (SM N e (fun z=>nomatch z))]
end
section
variable{X:Cx}{pins:List (Addr×Obj)}{σ:St}{H:Hp}{s:Shared}{a:Addr}{cu:List (Key×V)}{k:Key}{u:Value}{A:Around}{E:Value->Shared->Prop}
end
def Lr(f e:TE):TE:=fun b H Q=>f b H fun y d=>e b d fun x c=>∃a o,x=.ref a/\pQ c a y o/\Q (.bl (!o.isSome)) c
def Ls(h e d:TE):TS:=fun D b H=>d b H fun v g=>h b g fun x i=>e b i fun y f=>∃a c,x=.ref a/\s_ f a y v c/\D.nx b c
section
variable{X:Cx}{o i e value:Expr}{pos pos' AS:Pos}{td ty tv:TE}
theorem C0(n:X.A.units+1<cLine)(hi:PE X i ty)(p:PE X o td):PC X .NotIn i o (Lr ty td):=by intro b s w H Q I h;refine bT (hi _ s _ H _ I h) fun t v ⟨y,_,m,c,f⟩=>bT (p _ _ _ _ _ m f) fun u r ⟨x,_,j,l,a,_,d,g,q⟩=>?_;subst d;obtain rfl:u=Value.ref a:=l;exact TZ n j g c fun z k=>⟨.bl _,_,k,rfl,q⟩
theorem C1(B:X.A.units+1<cLine)(k:PE X o td)(hi:PE X i ty)(j:PE X value tv)(m:swapsWith value (some (.Subscript o i pos')) pos.line X.env=pure false): PS X (.Assign [.Subscript o i pos'] value pos) (Ls td ty tv):=by intro b s E H D I h;refine wpAny_Assign_Subscript (bT (j _ s _ H _ I h) fun r L ⟨v,_,A,t,l⟩=>bT (k _ _ _ _ _ A l) fun u J ⟨x,_,f,n,c⟩=>bT (hi _ _ _ _ _ f c) fun C M ⟨y,_,q,p,a,_,d,g,z⟩=>?_) m;subst d;obtain rfl:u=Value.ref a:=n;exact T1 B q g p t fun G w=>⟨_,_,w,z⟩
end
theorem T3(h:Heap)(a:sysModules<h.objs.size):da P w H (h.push {cls:=.type "dict",data:=.dict #[]}) h.objs.size (.dK []):= ⟨bR _,kj.mpr (aR (aY a)),_,.nil,Heap.DictOf.new h⟩
def Lu:TE:=fun _ H Q=>∀p,H p=none->Q (.ref p) (upd H p (.dK []))
section
variable {X : Cx} {pos : Pos}
theorem C2:PE X (.Dict [] [] pos) Lu:=fun a s b H Q I h=> wpAny_Dict_empty ⟨.ref _,_,I.laid (fun _ _ q=>aK _ q) (aC _) (T3 _ I.big),rfl,h _ (I.bD.fresh (aC _))⟩
end
structure M2(X:Cx)(o:Expr)(m:Str)(apos:Pos)(e f:Expr)(dB:Pos):Prop where
 base:attributeBase o m X.env (eval o X.env)=eval o X.env
 pT:((backTo dB (starEach [e,f] X.env)).all (fun x=>!x.1)&&(backToKw dB (keywordEach [] X.env)).all (fun x=>x.1.isSome) &&decide (([e,f]:List Expr).length+([]:List Keyword).length+(if([]:List Keyword).isEmpty then 0 else 1)<30))=true
 line:(apos.endLine==dB.line)=true
 trees:backTo dB (starEach [e,f] X.env)=[(false,eval e X.env),(false,eval f X.env)]
def Lv(H:Hp)(a:Addr):Prop:=(∃b,Rd H a (.dK b))\/∃b,Rd H a (.dT b)
theorem T4(I:Inv X pins σ H s)(d:Lv H a): s.TypeIs (.ref a) "dict"/\(∀b,Value.ref a=.ref b->∃f,s.heap.get? b=some f/\f.dict=none)/\(a==sysModules)=false:=by
 rcases d with⟨g,e⟩|⟨g,e⟩;.obtain⟨_,j,l,_,c⟩:=AY I.bD e;refine⟨c.typeIs,fun b q=>?_,j⟩;cases q;obtain⟨f,_,_,h,i,_⟩:=c;exact⟨_,h,i.2.1⟩
 .obtain⟨_,j,k,_,c⟩:=CZ I.bD e;refine⟨c.typeIs,fun b q=>?_,j⟩;cases q;obtain⟨f,_,_,h,i,_⟩:=c;exact⟨_,h,i.2.1⟩
section
variable{X:Cx}{pins:List (Addr×Obj)}{σ:St}{H:Hp}{s:Shared}{a:Addr}{y d:V}{u r:Value}{o:Option V}{A:Around}{E:Value->Shared->Prop}
theorem T5(t:A.units+1<cLine)(I:Inv X pins σ H s)(g:pQ H a y o)(q:RelV y u)(p:RelV d r)(h:∀n s',Inv X pins σ H s'->RelV (o.getD d) n->Q n s'): wpAny (model X.prog X.w) A (call (.builtin "dict.get") [.ref a,u,r]) Q E s:=by
 rcases g with⟨i,k,e,m,l⟩|⟨i,k,b,e,m,v,l⟩;.subst m;obtain⟨z,j,w,c,f⟩:=AY I.bD e;refine call_meetsIn oU f.typeIs PySem.F.entry_dict_get (PySem.F.args_dict_get_3 _ _ _) (meets_dict_get_default _ a (CW q) j r) ⟨_,f.mapOf,h _ _ (I.tok _) ?_⟩;rw[l];exact(c.val k).getD p
 .subst m;cases q;obtain⟨z,j,x,c,f⟩:=CZ I.bD e;refine call_meetsIn oU f.typeIs PySem.F.entry_dict_get (PySem.F.args_dict_get_3 _ _ _) (meetsH_dict_get_default _ a b j r) ⟨pw t,k,_,CY I.bD v,f,h _ _ (I.tok _) ?_⟩;rw[l];exact(c.val k).getD p
end
def Lw(e h g:TE):TE:=fun b H Q=>e b H fun x d=>∃a,x=.ref a/\Lv d a/\h b d fun y f=>g b f fun z c=>∃o,pQ c a y o/\Q (o.getD z) c
section
variable{X:Cx}{o e f:Expr}{apos dB:Pos}{td ty tx:TE}
theorem Ly(G:X.A.units+1<cLine)(k:PE X o td)(C:PE X e ty)(E:PE X f tx)(m:M2 X o "get" apos e f dB):PE X (.Call (.Attribute o "get" apos) [e,f] [] dB) (Lw td ty tx):=by intro c s L H Q I h;refine wpAny_Call_method m.base m.pT m.line PySem.F.plainAttrs_dict oU PySem.F.type_dict_get (bT (k _ s _ H _ I h) fun u J ⟨x,_,i,q,a,w,d,l⟩=>?_);subst w;obtain rfl:u=Value.ref a:=q;obtain⟨p,n,_⟩:=T4 i d;refine⟨p,n,?_⟩;rw[m.trees];exact wO rfl (uM (nC (bT (C _ _ _ _ _ i l) fun O N ⟨y,_,t,v,r⟩=> nC (bT (E _ _ _ _ _ t r) fun S T ⟨z,_,B,j,_,g,D⟩=>p9 (T5 G B g v j fun M R A b=>⟨_,_,A,b,D⟩)))))
end
section
variable{X:Cx}{pins:List (Addr×Obj)}{σ:St}{H:Hp}{s:Shared}{a:Addr}{cu:List (Key×V)}{A:Around}{E:Value->Shared->Prop}
end
section
variable{X:Cx}{pins:List (Addr×Obj)}{σ:St}{H:Hp}{s:Shared}{a:Addr}{y:V}{u:Value}{A:Around}{E:Value->Shared->Prop}
end
end L2
namespace Lz
open PySem PySem.W PySem.Calls PyProof.Rows
theorem T6:∀(ns:List Int)(vs:List Value),WellAll P h vs (ns.map WData.int)->IntsAre vs ns:=by intro ns;induction ns with |nil=> intro vs w;cases w;exact .nil |cons n ns d=> intro vs w;cases w with |cons a b=> cases a;exact .cons _ _ (d _ b)
theorem T7{l:OpenLaw}(w:l.most=some n)(c:l.row.toRowW.claim.pre b=true)(i:WellAll P h g b): ∃a vs ns,g=[Value.ref a]/\b=[WData.list (ns.map WData.int)]/\h.get? a=some {cls:=.type "list",data:=.seq vs.toArray}/\IntsAre vs ns/\ns.length<=n:=by
 have t:l.pre.holds [] _=true:=(pre_splitW c).2;obtain⟨d,r,rfl,q,p⟩:=hasAllW_cons ((pre_splitW c).1);obtain rfl:=hasAllW_nil p;obtain⟨y,rfl,s⟩:=hasW_list q;obtain⟨ns,rfl⟩:=items_int s;have f:ns.length<=n:=by
  have j:(WTm.not (.lt (.lit (.int n)) (.len (.arg 0)))).holds [] {args:=[.list (ns.map .int)]}=true:=by have j:=(holds_andW t).1;simp_all
  have x:=condW_of j rfl;simp_all
 cases i with |cons v u=> cases u;cases v with |list o e=>exact⟨_,_,_,rfl,rfl,o,T6 _ _ e,f⟩
theorem T8(l:OpenLaw)(a:List WData):l.row.toRowW.claim.post a (.bool true) a=true:= postW_of rfl (w_eq_bool rfl w_lit) rfl
theorem nR{l:OpenLaw}{x:World->Heap->Prop}(hn:l.most=some n)(s:d.params.defaults=[]) (call:∀(w:World)(c b:Shared)(mg A:Str->Option Value)(m:Addr)(o:Obj)(D p j:Value)(a:Addr)(vs:List Value)(ns:List Int), Ground q e [] E w c mg A b.heap->x w b.heap-> b.heap.get? m=some o->o.data=.func (docDef d.name d.params d.body d.scope D p j)->b.heap.CodeRec p d.name->mg d.name=some (.ref m)-> b.heap.get? a=some {cls:=.type "list",data:=.seq vs.toArray}->IntsAre vs ns->ns.length<=n->b.gens=#[]-> codeAny (model l.prog w) callerA (.call (.ref m) ⟨[.ref a],[]⟩) (fun r s'=>r=.ok (.ret (.bool true))/\OldK b.heap s'.heap/\s'.os=b.os/\AllBare s'.gens) b): WalkO q e E x l.row.toRowW d [] (fun f vs=>PySem.call f vs):=by intro w c b mg A G Y m o D p j O L T hd u z v N B C as k y V t U;obtain rfl:O=.none:=Dflts.none z s;obtain rfl:L=.none:=Dflts.noKw z;obtain⟨a,vs,ns,rfl,rfl,h,g,i⟩:=T7 hn k t;refine enter_call (gq (call w _ _ _ _ _ o _ _ _ a _ _ G Y T (fd_plain hd) u v h g i N) fun r s' J=>?_);obtain⟨rfl,Q,M,I⟩:=J;exact⟨.inl ⟨_,_,_,rfl,fun _=>rfl,.bool _,T8 l _,fun _=>⟨List.Pairwise.nil,fun _ H=>(nomatch H)⟩⟩,Q,M,I⟩
section
variable{prog:Program}{w:World}{A:Around}{E:Value->Shared->Prop}{s:Shared}{K:Frag}
end
end Lz
namespace L2
open PySem PySem.Spec PyProof.Rows
theorem LA:∀{vs:List Value}{ns:List Int},IntsAre vs ns->Vals (ns.map V.int) vs |_,_,.nil=>.nil |_,_,.cons n t h=>.cons ⟨t,rfl⟩ (LA h)
def iw(s:Stmt)(j:Nat):Stmt:=match s with |.ClassDef _ _ _ a _ _ _ _ _ _ _=>a.getD j (.Pass ⟨0,0,0,0⟩) |_=>.Pass ⟨0,0,0,0⟩
def nU(s:Stmt):Arguments:=match s with |.FunctionDef _ a _ _ _ _ _ _ _ _=>a |_=>{posonlyargs:=[],args:=[],vararg:=none,kwonlyargs:=[],kw_defaults:=[],kwarg:=none,defaults:=[]}
def kR(s:Stmt):List Stmt:=match s with |.FunctionDef _ _ b _ _ _ _ _ _ _=>b |_=>[]
noncomputable def cQ(s:Stmt):Scope:=match s with |.FunctionDef _ _ _ _ _ _ a _ _ _=>a |_=>{kind:=.function,names:=[],isGenerator:=false,isCoroutine:=false}
abbrev jM:jC:=fun _ _ _ _ _ _=>False
abbrev E0:XK:=fun _ _ _=>False
theorem bH:nP jM X E0:=fun _ _ _ _ _ _ _ h=>h.elim
structure jD(K:PySem.W.Frag)(x qual:Str)(st:Stmt)(f:Addr)(fd:FuncData):Prop where
 ex:∃(oc:Value) (od:Option Addr) (kV doc pm:Value) (an:Option Addr) (qy ct:Value) (uY:Array (Option Value)), fd=PySem.W.fnOf x qual (nU st) (kR st) (cQ st) .none kV doc pm an qy ct/\K.lookup f=some ⟨oc,od,.func fd,uY⟩/\PySem.W.codeIn K qy qual=true
 kp:PySem.W.keepIn K (.ref f)=true
section
variable{P:Program}{w:World}{K:PySem.W.Frag}{mg:Str->Option Value}{base:Heap}
theorem jD.ok{st:Stmt}(F:jD K x b st f fd)(S:bW N ps (cQ st))(g:∀vs H Q E,sp vs H Q E->vs.length=ps.length) (c:∀(d:Value)(A:Around)(a:List Env)(s:Shared)(H:Hp)(vs:List V)(Q:VK)(E:XK),cm k (A.deeper (envOfC b (cQ st) s.heap.objs.size f d))->sp vs H Q E-> ∃t,mG (nQ jM P w K mg base N b (cQ st) f d A a s H E).AB (kR st) t/\t {nx:=fun _ H'=>Q .non H',rt:=Q} (start N vs) H):cq P w K mg base jM (k+1) f fd ps sp:=by obtain⟨v,p,kV,l,o,u,d,r,m,rfl,j,i⟩:=F.ex;refine CS j i S g fun A a s H vs Q E n e=>?_;obtain⟨t,h,q⟩:=c _ A _ s H _ Q E n e;exact⟨t,h.AB,q⟩
theorem jD.binds{st:Stmt}(F:jD K x b st f fd) (h:∀(kV a d:Value)(an:Option Addr)(c e:Value)(us:List Value),us.length=ps.length->bindArgs (PySem.W.fnOf x b (nU st) (kR st) (cQ st) .none kV a d an c e) ⟨us,[]⟩=pure (ps.zip us)):Binds K fd ps []:=by obtain⟨l,k,kV,a,d,an,c,e,g,rfl,j,i⟩:=F.ex;exact .all (h _ _ _ _ _ _)
theorem C3{st:Stmt}{kV d e b g:Value}(l:K.lookup f=some ⟨i,od,.func (PySem.W.fnOf x a (nU st) (kR st) (cQ st) .none kV d e an b g),h⟩) (c:PySem.W.codeIn K b a=true)(k:PySem.W.keepIn K (.ref f)=true):jD K x a st f (PySem.W.fnOf x a (nU st) (kR st) (cQ st) .none kV d e an b g):=⟨⟨_,_,_,_,_,_,_,_,_,rfl,l,c⟩,k⟩
end
theorem tf(a:cm k A):A.units+1<cLine:=l5 (Nat.add_le_add_left (by decide) _) a.units
section
variable {X : Cx}
theorem pv(i:Nat)(b:X.N[i]?=some x:=by rfl)(c:Au X.env.scope x:=by first|exact Or.inl rfl|exact Or.inr (Or.inl rfl)|exact Or.inr (Or.inr rfl))(hd:(x==("__debug__":Str))=false:=by decide) (a:(x==("__classdict__":Str))=false:=by decide):PE X (.Name x pos) (bZ i):=S1 b c hd a
end
def ax(H H':Hp):Prop:=∀b o,H b=some o->H' b=some o
theorem ax.refl(H:Hp):ax H H:=fun _ _ h=>h
theorem ax.trans(a:ax H d)(b:ax d e):ax H e:=fun c o h=>b c o (a c o h)
theorem ax.free(e:ax H H')(h:H' l=Option.none):H l=Option.none:=by cases q:H l with |none=>rfl |some o=> rw[e l o q] at h;cases h
theorem ax.seq{K:PySem.W.Frag}(e:ax H H')(h:fz K H a xs):fz K H' a xs:=by
 rcases h with(h|⟨o,h⟩)|h;.exact .inl (.inl (e _ _ h))
 .exact .inl (.inr ⟨o,e _ _ h⟩)
 .exact .inr h
def eI(i:Int):Prop:=i.natAbs<2^8000
theorem log2_lt{n k:Nat}(b:0<k)(h:n<2^k):n.log2<k:=by
 by_cases a:n=0;.simp_all
 .exact(Nat.log2_lt a).mpr h
theorem eI.log(h:eI i):i.natAbs.log2<8000:=log2_lt (by decide) h
theorem eI.bits(h:eI i):Builtin.Int.intBits i<=2^20:=by have a:=h.log;unfold Builtin.Int.intBits;grind
section
variable {X : Cx}
theorem u_:hR X (binaryOp .Mult) (rI (fun i j=>eI i/\eI j) fun i j=>.int (i*j)):=AN fun _ _ _ _ _ _ _ a q=>mul_int q (.of_bits a.1.bits a.2.bits)
theorem nV:hR X (binaryOp .FloorDiv) (rI (fun _ j=>j≠0/\eI j) fun i j=>.int (i.fdiv j)):=AN fun _ _ _ _ _ _ _ a q=> floordiv_int a.1 q (.inl (PyProof.noPylong_of_log2 (fS a.2.log (by decide))))
end
def AZ:V->Option Value |.ty n=>some (.type n) |.ref a=>some (.ref a) |_=>none
section
variable {X : Cx}
theorem T9(h:AZ c=some cv)(r:RelV c u):u=cv:=by cases c with |ty n=>cases h;exact r |ref a=>cases h;exact r |_=>cases h
def LB(K:PySem.W.Frag):List V->Hp->VK->Prop:=fun d H Q=>∃x c a t b,d=[x,c]/\AZ c=some a/\iM K H x t/\PySem.W.kitOne K t a=some b/\Q (.bl b) H
theorem yR:m7 X (.builtin "isinstance") (LB X.K):=by rintro a s j H i k Q I r ⟨x,c,l,t,b,rfl,g,h,f,q⟩;obtain⟨u,v,rfl,e,d⟩:=AR r;cases T9 g d;exact To I e h f fun m=>⟨.bl b,H,I.tok _,rfl,q⟩
end
def Fg(K:PySem.W.Frag)(a:Addr):It:= ⟨fun i H=>∃b x,fz K H a b/\b[i]?=some x,fun i H x c=>∃p y,x=.ref p/\H p=none/\c=upd H p (.tup [.int i,y])/\∀b,fz K H a b->b[i]?=some y,fun i H=>∃b,fz K H a b/\b.length<=i⟩
theorem T_{K:PySem.W.Frag}(a e g:Addr)(M:e≠g): Turn P w K (.Tuple es k pos) (Fg K a) [e,g] e (fun i h=>(∃l,IsEnum h e g i l)/\h.IsListIter g a i) where
  mem:=by simp
  obj:=fun i h st b f=>by
    obtain⟨⟨l,h1⟩,o,h2,c,d⟩:=st;rcases aU.mp f with rfl|f;.exact⟨_,h1,fun v z=>by cases(show Data.fields _=Data.cell v from z)⟩
    . have e':b=g:=by simp_all
      subst e';exact⟨o,h2,fun v z=>by rw[d] at z;cases z⟩
  keep:=fun i h h' st k=>let⟨⟨l,h1⟩,h2⟩:=st;⟨⟨l,k e (by simp) _ h1⟩,h2.at fun o q=>k g (by simp) o q⟩;item:=by
    intro X hP U hK hc i B s σ H E I S st hg;subst hP U hK;obtain⟨xs,x,R,hx⟩:=hg;obtain⟨Y,rv,p,hz⟩:=I.list R;obtain⟨u,hu,ru⟩:=rv.get hx;obtain⟨⟨l,D⟩,y⟩:=st;obtain⟨f0,f1,f2,f3,f4,f5⟩:=S e (by simp);obtain⟨g0,T,g2,g3,g4,g5⟩:=S g (by simp);have J:H s.heap.objs.size=none:=I.bD.fresh (aC _);have eT:e≠s.heap.objs.size:=aY (aM D);have iT:g≠s.heap.objs.size:=let⟨_,z,_⟩:=y;aY (aM z);refine wpAny_pyNext_enum_item D y p.isList (x:=u) (by simpa using hu) M fun h' ho L ht hsz hk=>⟨_,rfl,(wpAny_letOwnedTupleGo_enum ho fun t N O=>?_)⟩;have C:Heap.SameBut e h' t:=O;have Ua:t.get? s.heap.objs.size=some {cls:=.type "tuple",data:=.seq #[.int i s.toks,u]}:=(C.2 _ eT.symm).trans ht;have j:∀b o,b≠e->b≠g->s.heap.get? b=some o->t.get? b=some o:=fun b o z1 z2 q=>(C.2 b z1).trans (hk b o z1 z2 q);have Q:∀b o,H b=some o->b≠e/\b≠g:=fun b o q=>⟨(fun z=>by rw[z,f0] at q;cases q),(fun z=>by rw[z,g0] at q;cases q)⟩;refine⟨.ref s.heap.objs.size,upd H s.heap.objs.size (.tup [.int i,x]),?_,rfl,⟨_,x,rfl,J,rfl,fun Z hy=>by rwa[I.iI hy R]⟩,⟨⟨_,by simpa using N⟩,L.at fun o q=>(C.2 g M.symm).trans q⟩,fun b f=>?_⟩
    . show Inv X B σ (upd H s.heap.objs.size (.tup [.int i,x])) {s with heap:=t,toks:=s.toks+1};refine I.step (h':=t) (g':=s.gens) (d':=s.drawn) (t':=s.toks+1) (ch:=[e,g]) (fun b f=>?_) (fun b o _ _ f q _=>?_) (fun b o _ _ f q _=>⟨o.slots,?_⟩) (fun b o f q n=>?_) (fun b o f q=>⟨o,?_⟩) (fun b Z q=>?_) (fun b o Z q=>?_) (fun b ps q=>⟨#[],?_⟩) (fun m hm=>?_) ?_ I.bare
      . rcases aU.mp f with rfl|f;.exact⟨f3,f1,f4,f5⟩
        . have z:b=g:=by simpa using f
          subst z;exact⟨g3,T,g4,g5⟩
      .exact j b o (fun z=>f (by simp[z])) (fun z=>f (by simp[z])) q
      .exact j b o (fun z=>f (by simp[z])) (fun z=>f (by simp[z])) q
      .rwa[bc (aY (aM q))]
      .exact j b o (fun z=>f (by simp[z])) (fun z=>f (by simp[z])) q
      .rwa[bc (dH q J)]
      .rwa[bc (dH q J)]
      .rw[bc (dH q J),q];simp
      .obtain⟨o,Ub,ep,Uc,r⟩:=hm;exact⟨o,Ub,ep,j _ o (aR f1) (aR T) Uc,r⟩
      . intro b o q;by_cases f:b=s.heap.objs.size;.subst f;rw[cb] at q;cases q;exact⟨by show 2<=sizeLine;decide,[.int i s.toks,u],.cons ⟨_,rfl⟩ (.cons ru .nil),⟨_,Ua,rfl,_,rfl⟩⟩
        . rw[bc f] at q;refine(I.bD b o q).ic (fun c v A G=>?_) (fun c G=>by rwa[bc (dH G J)]) fun c Z G=>by rwa[bc (dH G J)]
          rcases A with rfl|A;.exact j _ v (Q _ _ q).1 (Q _ _ q).2 G
          .exact j _ v (Q _ _ A).1 (Q _ _ A).2 G
    . rcases aU.mp f with rfl|f;.rwa[bc eT]
      . have z:=by simpa using f
        subst z;rwa[bc iT]
  done:=by intro X hP U hK hc i B s σ H E I S st hg;subst hP U hK;obtain⟨xs,R,hx⟩:=hg;obtain⟨Y,rv,p,hz⟩:=I.list R;obtain⟨⟨l,D⟩,y⟩:=st;obtain⟨g0,T,g2,g3,g4,g5⟩:=S g (by simp);have hl:=rv.length;exact wpAny_pyNext_enum_end (I.ok.hd hc) D y p.isList (by simp;lia) fun h' eb=>⟨rfl,I.turned (fun b o f q=>eb b o f q) g0 T g3 g4 g5⟩
  self:=fun _ _ _ _ _ st h=>let⟨⟨_,D⟩,_⟩:=st;mB D h
section
variable {X : Cx}
def Fh(K:PySem.W.Frag)(d:TA):TI:=fun e H R=>d e H fun c b=>∃a,c=[.ref a]/\(∃f,fz K b a f)/\R (Fg K a) b
theorem A0(J:Gl X "enumerate")(z:X.mg "enumerate"=none)(w:PA X [l] y)(E:starEach [l] X.env=[(false,eval l X.env)]:=by rfl): PI X (.Tuple es k M) (.Call (.Name "enumerate" p) [l] [] pos) (Fh X.K y):=by
 intro j s O H R I h;refine Call_ (pE I J z boot_enumerate (eU (bT (w _ _ s _ H _ I h) fun L d ⟨_,_,f,A,o⟩=>?_) E rfl));obtain⟨a,e,⟨N,t⟩,q⟩:=o;subst e;obtain⟨u,rfl,x⟩:=mI A;cases x;obtain⟨r,Q,C,S⟩:=f.list t;refine call_enumerate_list C.isList fun B m i D G=>?_;have v:Inv X _ _ _ {d with heap:=B}:=f.kept G;have g:d.heap.objs.size+1≠d.heap.objs.size:=by lia
 refine mB m ⟨_,_,_,_,_,rfl,v,T_ a _ _ g,⟨⟨_,m⟩,i⟩,fun b n=>?_,q⟩;have c:d.heap.objs.size<=b:=by
  rcases aU.mp n with rfl|n;.lia
  simp_all
 exact f.kA c (f.bD.fresh c)
end
theorem Fi:∀(b:List (Str×NameKind))(f:List (Str×Addr)),(∀y∈b,y.2=.free->∃c,env.cells.lookup y.1=some c)-> ∃cl,(forIn (m:=Sem) b f fun(x:Str×NameKind) (cs:List (Str×Addr))=>if(x.2==NameKind.free)=true then do let c<-cellOf env x.1;pure (ForInStep.yield ((x.1,c)::cs)) else pure (ForInStep.yield cs))=pure cl/\ (∀p∈cl,p∈f\/env.cells.lookup p.1=some p.2)/\(∀p∈f,p∈cl)/\∀y∈b,y.2=.free->∃c,(y.1,c)∈cl
  |[],f,_=>⟨_,rfl,fun p g=>.inl g,fun p g=>g,fun y d=>by cases d⟩ |(n,k)::r,f,h=>by
    by_cases s:k=.free
    . subst s;obtain⟨c,t⟩:=h _ g_ rfl;obtain⟨cl,e,l,j,q⟩:=Fi r ((n,c)::f) fun y d=>h y (bK _ d);refine⟨_,?_,fun p g=>?_,fun p g=>j p (bK _ g),fun y d i=>?_⟩
      . have o:cellOf env n=pure c:=by unfold cellOf;rw[t]
        rw[sN];simp only[o];exact e
      . rcases l p g with z|z
        . rcases aU.mp z with rfl|z;.simp_all
          grind
        .exact .inr z
      . rcases aU.mp d with rfl|d;.exact⟨c,j _ g_⟩
        .exact q y d i
    . obtain⟨cl,e,l,j,q⟩:=Fi r _ fun y d=>h y (bK _ d);refine⟨_,?_,l,j,fun y d i=>?_⟩
      . have u:(k==NameKind.free)=false:=by simpa using s
        rw[sN];simp only[u,if_false];exact e
      . rcases aU.mp d with rfl|d;.exact absurd i s
        .exact q y d i
theorem LC{f:Str->Option Addr}:∀{cl:List (Str×Addr)}{x:Str}{c:Addr},(∀p∈cl,f p.1=some p.2)->(x,c)∈cl->cl.lookup x=some c |[],_,_,_,h=>by cases h |(n,d)::r,x,c,h,b=>by rw[fq];cases e:x==n with |true=> have i:=h _ b;simp_all |false=>
 rcases aU.mp b with z|z;.cases z;simp at e
 .exact LC (fun p g=>h p (bK _ g)) z
theorem LD(h:∀y∈scope.names,y.2=.free->∃c,env.cells.lookup y.1=some c): ∃cl,closureFor scope env=pure cl/\(∀x c,cl.lookup x=some c->env.cells.lookup x=some c)/\∀y∈scope.names,y.2=.free->cl.lookup y.1=env.cells.lookup y.1:=by
 obtain⟨cl,e,k,_,i⟩:=Fi _ [] h;have a:=fun p d=>(k p d).elim (fun z=>by cases z) id;refine⟨_,?_,fun x c z=>a _ (fT z),fun y g j=>?_⟩;.simp only[closureFor];grind
 .obtain⟨c,b⟩:=i y g j;rw[a _ b];exact LC (f:=fun x=>env.cells.lookup x) a b
section
variable{prog:Program}{w:World}{A:Around}{R:Result->Shared->Prop}{s:Shared}
theorem Ud(I:Nat->Shared->Prop) (y:∀n s,I n s->wpAny (model prog w) A (pyNext E) (fun r d=>match r with |none=>R (.ok .next) d |some v=>wpAny (model prog w) A (letOwnedTupleGo a E v) (fun _ b=>wpAny (model prog w) A (assign a env v) (fun _ g=> wpAny (model prog w) A (forIn C true fun c r=>if r=true then do let u<-isTrue c env (eval c env);pure (ForInStep.yield u) else pure (ForInStep.yield r)) (fun u f=> if u=true then wpAny (model prog w) A (eval z env) (fun x i=> wpAny (model prog w) A (call (.builtin "list.append") [B,x]) (fun _ j=>∃m,m<n/\I m j) (fun _ _=>False) i) (fun _ _=>False) f else∃m,m<n/\I m f) (fun _ _=>False) g) (fun _ _=>False) b) (fun _ _=>False) d) (fun _ _=>False) s) (n:Nat)(h:I n s): codeAny (model prog w) A (.compLoop (.ListComp z [⟨a,D,C,0⟩] scope pos) 0 E B env) R s:=by refine codeAny_loop rfl I (fun n s G=>(wpAny_noted ?_)) n h;rw[compTurn_list];refine ah (gv (ah (c8 (y n s G) (fun r d l=>?_) fun _ _ e=>e.elim)));cases r with |none=>exact au l |some v=> refine ah (c8 l (fun _ b o=>(ah (c8 o (fun _ g p=>ah (c8 p (fun u f k=>?_) fun _ _ e=>e.elim)) fun _ _ e=>e.elim))) fun _ _ e=>e.elim);cases u with |false=>exact au ⟨rfl,k⟩ |true=> exact ah (ah (c8 k (fun x i q=>ah (c8 q (fun _ j t=>au (au ⟨rfl,t⟩)) fun _ _ e=>e.elim)) fun _ _ e=>e.elim))
end
def Cx.comp(X:Cx)(scope:Scope)(cl:List (Str×Addr))(C:Addr)(a:List Str)(s:Shared)(H:Hp)(fp:List Addr)(pins:List (Addr×Obj)):Cx:= {X with N:=a,fy:=s,qN:=H,env:=compEnvC scope cl C X.env,outer:=X.stack,stack:=X.stack,ex:=fp,fn:=fun x=>scope.names.lookup x==some .cell,pn:=X.pn++pins,xe:=fun _ _=>False}
def qz(σ:St)(a:List Nat)(n:Nat):St:=a.map (fun i=>(σ[i]?).getD none)++List.replicate n none
def LF:Option TT->TT |none=>fun _ H Q=>Q true H |some t=>t
def LG(D:Addr)(J:It)(g:TG)(r:Option TT)(q:TE)(Q:VK)(k:St)(p:Hp):Prop:= ∃W:Nat->Nat->List V->St->Hp->Prop,(∃m,W 0 m [] k p)/\∀i m c e d,W i m c e d->d D=some (.lst c)/\ ((J.stop i d/\Q (.ref D) d)\/(J.go i d/\∃N:List V->St->Hp->Prop,(∀h f j,N h f j->∃o,o<m/\W (i+1) o h f j)/\ ∀x j,J.AJ i d x j->g x e j fun a s=>LF r a s fun b n=>if b=true then q a n fun y l=>l D=some (.lst c)/\c.length<sizeLine/\N (c++[y]) a (upd l D (.lst (c++[y]))) else N c a n))
def yS(c:TI)(d:List Nat)(n:Nat)(g:TG)(e:Option TT)(f:TE):TE:=fun a H Q=>c a H fun J b=>∀D,b D=none->LG D J g e f Q (qz a d n) (upd b D (.lst []))
structure gD(X:Cx)(scope:Scope)(N':List Str)(ix:List Nat)(n:Nat)(tg elt:Expr)(ifs:List Expr)(g:TG)(tc:Option TT)(te:TE):Prop where
 kind:scope.kind=.function
 xn:∀y∈scope.names,y.2=.free->(y.1,NameKind.cell)∉scope.names
 names:∀y∈scope.names,y.2=.local->scope.names.lookup y.1=some .local
 free:∀y∈scope.names,y.2=.free->X.env.kindOf y.1=some .cell\/X.env.kindOf y.1=some .free
 len:ix.length+n=N'.length
 take:∀(j i:Nat),ix[j]?=some i->∃x,N'[j]?=some x/\X.N[i]?=some x/\scope.names.lookup x=some .free
 tgt:∀(cl:List (Str×Addr))(C:Addr)(s:Shared)(H:Hp)(fp:List Addr)(pins:List (Addr×Obj)),PG (X.comp scope cl C N' s H fp pins) tg g
 elt:∀(cl:List (Str×Addr))(C:Addr)(s:Shared)(H:Hp)(fp:List Addr)(pins:List (Addr×Obj)),PE (X.comp scope cl C N' s H fp pins) elt te
 test:(ifs=[]/\tc=none)\/∃c t,ifs=[c]/\tc=some t/\∀(cl:List (Str×Addr))(C:Addr)(s:Shared)(H:Hp)(fp:List Addr)(pins:List (Addr×Obj)),PT (X.comp scope cl C N' s H fp pins) c t
theorem LH{env:Env}:∀{b:List (Str×NameKind)}{x:Str},b.lookup x=some .free-> (b.map fun(n,k)=>if(k==NameKind.free&&env.scope.kind==.function&&env.kindOf n==some .cell) then(n,NameKind.cell) else(n,k)).lookup x=some .cell\/ (b.map fun(n,k)=>if(k==NameKind.free&&env.scope.kind==.function&&env.kindOf n==some .cell) then(n,NameKind.cell) else(n,k)).lookup x=some .free |[],_,h=>by simp at h |(n,k)::r,x,h=>by have e:=@LH env r x;show List.lookup x ((if(k==NameKind.free&&env.scope.kind==.function&&env.kindOf n==some .cell)=true then(n,NameKind.cell) else(n,k))::_)=_\/List.lookup x ((if(k==NameKind.free&&env.scope.kind==.function&&env.kindOf n==some _)=true then(n,NameKind.cell) else(n,k))::_)=_;cases c:x==n with
 |true=>
  simp[fq,c] at h;cases h;by_cases d:(NameKind.free==NameKind.free&&env.scope.kind==.function&&env.kindOf n==some .cell)=true;.simp_all
  .grind |false=>
  simp[fq,c] at h;by_cases d:(k==NameKind.free&&env.scope.kind==.function&&env.kindOf n==some .cell)=true;.rw[ao d];simp only[fq,c];exact e h
  .rw[ak d];simp only[fq,c];exact e h
theorem LI{env:Env}:∀{a:List (Str×NameKind)}{x:Str}, ((a.map fun(n,k)=>if(k==NameKind.free&&env.scope.kind==.function&&env.kindOf n==some .cell) then(n,NameKind.cell) else(n,k)).lookup x=some .cell\/ (a.map fun(n,k)=>if(k==NameKind.free&&env.scope.kind==.function&&env.kindOf n==some .cell) then(n,NameKind.cell) else(n,k)).lookup x=some .free)->(x,NameKind.free)∈a\/(a.lookup x=some .cell/\(x,NameKind.cell)∈a) |[],_,h=>by simp at h |(n,k)::r,x,h=>by cases f:x==n with
    |true=>
      have e:=by simpa using f
      subst e;by_cases d:(k==NameKind.free&&env.scope.kind==.function&&env.kindOf x==some .cell)=true
      . have i:=by
          have:(k==NameKind.free)=true:=by simp_all
          simpa using this
        subst i;exact .inl g_
      . rw[bJ] at h;have c:(match(x,k) with|(n,k)=>if(k==NameKind.free&&env.scope.kind==.function&&env.kindOf n==some _)=true then(n,NameKind.cell) else(n,k))=(x,k):=ak d;rw[c] at h;simp[fq,beq_self_eq_true] at h;rcases h with h|h;.cases h;(simp)
        .cases h;simp |false=>
      refine((@LI env r x) ?_).imp (bK _) fun z=>⟨by simp[fq,f];exact z.1,bK _ z.2⟩;rw[bJ] at h;by_cases d:(k==NameKind.free&&env.scope.kind==.function&&env.kindOf n==some .cell)=true;.have c:(match(n,k) with|(n,k)=>if(k==NameKind.free&&env.scope.kind==.function&&env.kindOf n==some _)=true then(n,NameKind.cell) else(n,k))=(n,NameKind.cell):=ao d;rw[c] at h;simpa[fq,f] using h
      .have c:(match(n,k) with|(n,k)=>if(k==NameKind.free&&env.scope.kind==.function&&env.kindOf n==some _)=true then(n,NameKind.cell) else(n,k))=(n,k):=ak d;rw[c] at h;simpa[fq,f] using h
theorem Fj:∀(d:List (Str×NameKind))(n:Nat)(b:List (Str×Addr)),(x,NameKind.cell)∈d->(cellsFrom n d b).lookup x=some c->(∀y,b.lookup x=some y->n<=y\/True)->n<=c
  |[],_,_,h,_,_=>by cases h |(y,k)::r,n,b,h,e,_=>by
    unfold cellsFrom at e;by_cases f:(x,NameKind.cell)∈r
    . split at e;.exact Nat.le_of_succ_le (Fj r _ _ f e fun _ _=>.inr trivial)
      .exact Fj r n _ f e fun _ _=>.inr trivial
    . rcases aU.mp h with z|z
      . have o:∀(r:List _)(g:Nat)(b:List _),(x,NameKind.cell)∉r->(cellsFrom g r b).lookup x=b.lookup x:=by intro r;induction r with |nil=>intro _ _ _;rfl |cons p r m=>
            intro g b q;obtain⟨j,s⟩:=p;unfold cellsFrom;split;.rw[m _ _ fun z=>q (bK _ z),fq,show(x==j)=false by simp_all]
            simp_all
        simp_all
      .exact absurd z f
theorem C4:∀(b:List (Str×NameKind))(n:Nat)(c:List (Str×Addr)),(x,NameKind.cell)∉b->(cellsFrom n b c).lookup x=c.lookup x
 |[],_,_,_=>rfl |(y,k)::r,n,c,h=>by
  unfold cellsFrom;split;.rw[C4 r _ _ fun z=>h (bK _ z),fq,show(x==y)=false by simp_all]
  .exact C4 r _ _ fun z=>h (bK _ z)
theorem Fl:∀(g:List (Str×NameKind))(n:Nat)(e:List (Str×Addr)),(∀x c,e.lookup x=some c->c<n)->(∀x y c,e.lookup x=some c->e.lookup y=some c->x=y)-> ∀x y c,(cellsFrom n g e).lookup x=some c->(cellsFrom n g e).lookup y=some c->x=y
  |[],_,_,_,h=>h |(z,k)::r,n,e,i,l=>by
    unfold cellsFrom;split
    . have j:∀x c,((z,n)::e).lookup x=some c->(x=z/\c=n)\/e.lookup x=some c:=fun x c h=>by rw[fq] at h;cases u:x==z with |true=>simp_all |false=>simp_all
      refine Fl r _ _ (fun x c h=>?_) fun x y c q p=>?_
      . rcases j x c h with⟨_,z⟩|z;.rw[z];simp
        .exact kb (i x c z)
      . rcases j x c q with⟨t,o⟩|a<;>rcases j y c p with⟨s,m⟩|b;.grind
        .have:=i y c b;rw[o] at this;exact absurd this (dw _)
        .have:=i x c a;rw[m] at this;exact absurd this (dw _)
        .exact l x y c a b
    .exact Fl r n _ i l
theorem Ue(f:Q (newEnv scope s.heap.objs.size a (cellsFrom (s.heap.objs.size+1) scope.names cl) b none .none (some env) builtinsNs) {s with heap:=pushCells (s.heap.push {cls:=.type "dict",data:=.dict #[]}) scope.names}): wpAny M A (newFunctionEnv scope a cl [] b none .none (some env)) Q E s:=by refine ah (wpAny_alloc (ah (wpAny_layCells _ (fun e d c=>rfl) _ _ _ _ ?_)));rw[iA _];exact ah (au (au f))
section
variable{X:Cx}{scope:Scope}{N':List Str}{ix:List Nat}{n:Nat}{tg elt iter:Expr}{ifs:List Expr}{g:TG}{tc:Option TT}{te:TE}{pos:Pos}
theorem Ug(B:gD X scope N' ix n tg elt ifs g tc te)(I:Inv X pins σ H s) (N:∀b∈fp,jj X pins H b)(T:∀b∈fp,∃o,s.heap.get? b=some o)(t:∀x c,cl.lookup x=some c->X.env.cells.lookup x=some c\/(s.heap.objs.size+1<c/\∃v,h1.IsCell c v))(J:∀y∈scope.names,y.2=.free->cl.lookup y.1=X.env.cells.lookup y.1) (L:∀x y c,cl.lookup x=some c->cl.lookup y=some c->x=y)(M:∀x,scope.names.lookup x=some .cell->∃c,cl.lookup x=some c)(G:∀x c,scope.names.lookup x=some .cell->cl.lookup x=some c->s.heap.objs.size+1<c) (D:∀b o,s.heap.get? b=some o->h1.get? b=some o)(hD:h1.get? s.heap.objs.size=some {cls:=.type "list",data:=.seq #[] 0})(hC:h1.Ns (s.heap.objs.size+1) m): Inv (X.comp scope cl (s.heap.objs.size+1) N' s H fp pins) [] (qz σ ix n) (upd H s.heap.objs.size (.lst [])) {s with heap:=h1,toks:=tk}:=by
  have hn:H s.heap.objs.size=none:=I.bD.fresh (aC _);have lt:∀{b:Addr}{o:Obj},s.heap.get? b=some o->b≠s.heap.objs.size/\b≠s.heap.objs.size+1:=fun e=>⟨aY (aM e),aY (kb (aM e))⟩;have d:∀x c,X.env.cells.lookup x=some c->c<s.heap.objs.size:=fun x c e=>let⟨v,o,k,_⟩:=I.cell x c e;aM k;have E:∀b∈fp,b≠s.heap.objs.size+1:=fun b f=>by grind
  . have A:Un (k6 X.stack) fp H (upd H s.heap.objs.size (.lst [])) s.heap h1:=Un.laid D (aC _) hn;refine⟨⟨I.ok.mod,?_,I.ok.glob,I.ok.blt,gp _,L,fun x hx=>?_,fun x c z e=>hX (fS (eP _) (G x c (by simpa using(show(scope.names.lookup x==some NameKind.cell)=true from z)) e)),I.ok.hd,I.ok.frames,.inl rfl,fun b f=>⟨E b f,fun x c e=>(t x c e).elim (fun z=>(N b f).2.2.2.2.1 x c z) fun z w=>by obtain⟨o,k⟩:=T b f;have:=aM k;rw[<-w] at this;exact dw _ (fS (fS (eP _) z.1) this)⟩, I.bs,bI I.ok.uO I.sz,fun b o e f=>?_,fun b f z=>?_,I.stack,I.jT,I.ok.tb.grown I.base.ie⟩, rfl,I.bare,A,⟨m,hC,fun i x v e1 r e3=>?_⟩,fun x c e=>?_,?_,fun x c e=>?_,fun p Z=>?_,?_,?_⟩;.exact B.kind
    . show∃c,cl.lookup x=some c;rcases LI hx with a|a;case inr=>exact M x a.1
      have z:=J _ a rfl;rw[z];exact I.ok.has x (B.free _ a rfl)
    . obtain⟨_,_,_,f3,_⟩:=N b f;rcases f3 with z|z;.exact I.ok.sS b o e z
      .exact absurd (cP (aM e) (bI I.ok.uO z)) (dw _)
    . rcases aU.mp (I.gx b z) with e|e;.exact(N b f).2.1 e
      .exact(N b f).2.2.1 e
    . have O:i<ix.length:=by
        unfold qz at r;by_cases O:i<ix.length;.exact O
        .rw[iC (by simpa using O),lI] at r;split at r<;>cases r
      obtain⟨j,C⟩:∃j,ix[i]?=some j:=⟨ix[i],by simp⟩;obtain⟨y,y1,y2,y3⟩:=B.take i j C;have Q:x=y:=by have z:N'[i]?=some x:=e1;rw[y1] at z;exact(dO z).symm
      subst Q;have ev:σ[j]?=some (some v):=by unfold qz at r;rw[fZ (by simpa using O),bY,C] at r;have z:(σ[j]?).getD none=some v:=dO r;cases q:σ[j]? with |none=>rw[q] at z;cases z |some w=>rw[q] at z;exact c7 some z
      obtain⟨m0,hn0,hl⟩:=I.loc;have Y:(x,NameKind.free)∈scope.names:=fT y3;have kx:=B.free _ Y rfl;have R:Au X.env.scope x:=kx.elim (fun z=>.inr (.inl z)) fun z=>.inr (.inr z);obtain⟨u,ru,lu⟩:=hl j x v y2 ev R;refine⟨u,ru,.inr ⟨?_,?_⟩⟩;.exact LH y3
      . rcases lu with⟨z,_⟩|⟨_,c,hc,l⟩;.rcases kx with w|w<;>(rw[w] at z;cases z)
        . refine⟨c,?_,?_⟩;.show cl.lookup x=some c;rwa[J _ Y rfl]
          .obtain⟨o,k,S⟩:=l;exact⟨o,D c o k,S⟩
    . rcases t x c e with z|⟨_,z⟩;.obtain⟨v,o,k,S⟩:=I.cell x c z;exact⟨v,o,D c o k,S⟩
      omega
    .show upd H _ _ (s.heap.objs.size+1)=none;rw[bc (Nat.succ_ne_self _)];exact I.bD.fresh (gp _)
    . rcases t x c e with z|⟨z,_⟩;.have:=d x c z;rw[bc (aY this)];exact I.gw x c z
      .rw[bc (eQ (fS (eP _) z))];exact I.bD.fresh (hX (fS (eP _) z))
    . rw[dN] at Z;obtain⟨U,q2,q3,q4,q5⟩:=I.pin p Z;refine⟨D _ _ U,by rwa[bc (lt U).1],(lt U).2,fun z=>?_,q5⟩;rcases aU.mp (I.gx _ z) with e|e;.exact q3 e
      .exact q4 e
    .exact I.bD.laid D (aC _) ⟨bR _,_,0,.nil,hD⟩
    .unfold qz;rw[gX,aN,List.length_replicate];exact B.len
theorem Uh(I:Inv X pins σ H s)(c:∀b∈fp,jj X pins H b) (J:Inv (X.comp scope cl C N' s H fp pins) [] f H' s'):Inv X pins σ H' s':=by obtain⟨h,g,d,t,e⟩:=s';obtain rfl:e=s.os:=J.os;exact I.call J.base J.bD J.bare fun b a=>⟨(c b a).2.2.2.1,(c b a).2.1,(c b a).2.2.2.2.1,(c b a).2.2.2.2.2⟩
theorem LJ{it:Addr}{RR:Value->Addr->Result->Shared->Prop}(B:gD X scope N' ix n tg elt ifs g tc te)(hc:X.calm=true)(I:Inv X pins σ H s)(T:Turn X.prog X.w X.K tg J fp it tn)(st:tn 0 s.heap)(hf:∀b∈fp,jj X pins H b) (uj:∀x c,cl.lookup x=some c->X.env.cells.lookup x=some c)(Ui:∀y∈scope.names,y.2=.free->cl.lookup y.1=X.env.cells.lookup y.1) (body:∀D,H D=none->LG D J g tc te Q (qz σ ix n) (upd H D (.lst []))) (Uj:∀D C H' s' m,Inv X pins σ H' s'->s'.heap.Ns C m->jj X pins H' C->Q (.ref D) H'->RR (.ref D) C (.ok .next) s'): wpAny (model X.prog X.w) X.A (newList []) (fun A O=>wpAny (model X.prog X.w) X.A (newFunctionEnv scope X.env.globals cl [] X.env.qual none .none (some X.env)) (fun A3 xo=> codeAny (model X.prog X.w) X.A (.compStart (.ListComp elt [⟨tg,iter,ifs,0⟩] scope pos) 0 (.ref it) A {A3 with scope:=relabel scope X.env}) (RR A A3.locals) xo) E O) E s:=by
  refine ko (Ue ?_);dsimp only;generalize Fm:s.heap.push {cls:=.type "list",dict:=none,data:=.seq ([]:List Value).toArray}=j;have hC:j.objs.size=s.heap.objs.size+1:=by rw[<-Fm,iA]
  obtain⟨l,U⟩:=xz (cellsFrom (j.objs.size+1) scope.names cl);rw[<-U];obtain⟨f,eh⟩:=xz (pushCells (j.push {cls:=.type "dict",data:=.dict #[]}) scope.names);rw[<-eh];have kp:∀b o,j.get? b=some o->f.get? b=some o:=fun b o e=>by rw[eh];exact pushCells_keeps _ _ b o (aK _ e)
  have Z:f.Ns j.objs.size fun _=>none:=by rw[eh];exact(Heap.Ns.new j (.type "dict")).keeps (pushCells_keeps _ _)
  have below:∀b,b<s.heap.objs.size->b≠j.objs.size:=fun b M=>by lia
  have old:∀b o,s.heap.get? b=some o->f.get? b=some o:=fun b o e=>kp b o (Fm▸aK _ e);have Fo:f.get? s.heap.objs.size=some {cls:=.type "list",data:=.seq #[] 0}:=kp _ _ (Fm▸b9 _ rfl);have Uk:∀x c,cl.lookup x=some c->c<s.heap.objs.size:=fun x c e=>let⟨v,o,ho,_⟩:=I.cell x c (uj x c e);aM ho;have own:∀x c,(x,NameKind.cell)∈scope.names->l.lookup x=some c->s.heap.objs.size+1<c:=fun x c h e=>by rw[U] at e;have:=Fj scope.names _ cl h e fun _ _=>.inr trivial;lia
  have A4:∀x c,l.lookup x=some c->X.env.cells.lookup x=some c\/(s.heap.objs.size+1<c/\∃v,f.IsCell c v):=fun x c e=>by
    by_cases hx:(x,NameKind.cell)∈scope.names
    . refine .inr ⟨own x c hx e,none,?_⟩;have LK:=cellsFrom_ok scope.names (j.push {cls:=.type "dict",data:=.dict #[]}) 0 [] ⟨fun _ _ hm=>(nomatch hm),List.Pairwise.nil⟩ (bR _);have e2:(cellsFrom (j.objs.size+1) scope.names []).lookup x=some c:=by
        have gen:∀(a:List (Str×NameKind))(n:Nat)(A:List (Str×Addr)),(x,NameKind.cell)∈a->(cellsFrom n a A).lookup x=(cellsFrom n a []).lookup x:=by
          have Fp:∀(a:List (Str×NameKind))(n:Nat)(A Y:List (Str×Addr)),(x,NameKind.cell)∈a\/A.lookup x=Y.lookup x->(cellsFrom n a A).lookup x=(cellsFrom n a Y).lookup x:=by intro a;induction a with |nil=>intro n A Y h;exact h.elim (fun z=>by cases z) id |cons p r ih=>
              intro n A Y h;obtain⟨y,k⟩:=p;unfold cellsFrom;split
              . rename_i hk;have Ul:k=.cell:=by simp_all
                subst Ul;refine ih _ _ _ ?_;by_cases exy:x=y;.simp_all
                . rcases h with z|z;.simp_all
                  .exact .inr (by simp only[fq,show(x==y)=false by simp_all];exact z)
              . rename_i hk;refine ih _ _ _ ?_;rcases h with z|z
                . rcases aU.mp z with w|w;.cases w;exact absurd rfl hk
                  .exact .inl w
                .exact .inr z
          exact fun a n A h=>Fp a n A [] (.inl h)
        rwa[<-gen scope.names _ cl hx,<-U]
      rw[iA] at LK;rw[eh];exact(LK.empty x c (fT e2)).1
    .rw[U,C4 _ _ _ hx] at e;exact .inl (uj x c e)
  have Fq:∀y∈scope.names,y.2=.free->l.lookup y.1=X.env.cells.lookup y.1:=fun y hy hf=>by rw[U,C4 _ _ _ (B.xn y hy hf)];exact Ui y hy hf
  have Fs:∀x y c,l.lookup x=some c->l.lookup y=some c->x=y:=by rw[U];exact Fl scope.names _ cl (fun x c e=>cP (Uk x c e) (by rw[hC];lia)) fun x y c e1 e2=>I.ok.inj x y c (uj x c e1) (uj y c e2)
  have pU:∀x,scope.names.lookup x=some .cell->∃c,l.lookup x=some c:=fun x h=>by rw[U];exact Option.isSome_iff_exists.mp (oZ scope.names _ cl (.inl h))
  have Ft:∀x c,scope.names.lookup x=some .cell->l.lookup x=some c->s.heap.objs.size+1<c:=fun x c h e=>own x c (fT h) e;have sT:∀b,b<s.heap.objs.size->(∀x c,X.env.cells.lookup x=some c->c≠b)->∀x c,l.lookup x=some c->c≠b:=fun b M hold x c e z=>by
    rcases A4 x c e with w|⟨w,_⟩;.exact hold x c w z
    .rw[z] at w;exact dw _ (fS (fS (eP _) w) M)
  have Fu:∀b∈fp,∃o,s.heap.get? b=some o:=fun b M=>let⟨o,e,_⟩:=T.obj 0 _ st b M;⟨o,e⟩;have A5:tn 0 f:=T.keep 0 _ _ st fun b _ o e=>old b o e;have Um:H s.heap.objs.size=none:=I.bD.fresh (aC _);obtain⟨W,⟨m0,w0⟩,turn⟩:=body _ Um;have J0:Inv (X.comp scope l j.objs.size N' s H fp pins) [] (qz σ ix n) (upd H s.heap.objs.size (.lst [])) {s with heap:=f}:=by rw[hC] at Z⊢;exact Ug (tk:=s.toks) B I hf Fu A4 Fq Fs pU Ft old Fo Z
  have kA:∀{H':Hp},(∀b∈fp,H' b=none)->∀b∈fp,jj (X.comp scope l j.objs.size N' s H fp pins) [] H' b:=fun hn b M=>by
    obtain⟨f0,f1,f2,f3,f4,f5⟩:=hf b M;obtain⟨o,e⟩:=Fu b M;refine⟨hn b M,below b (aM e),fun z=>?_,.inl M,sT b (aM e) f4,fun p hp=>f5 p ?_⟩
    . rcases aU.mp (I.gx b z) with q|q;.exact f1 q
      .exact f2 q
    .rwa[dN] at hp
  have Uo:∀b∈fp,upd H s.heap.objs.size (.lst []) b=none:=fun b M=>by obtain⟨o,e⟩:=Fu b M;rw[bc (aY (aM e))];exact(hf b M).1
  have loop:∀O:Shared,O={s with heap:=f}-> codeAny (model X.prog X.w) X.A (.compLoop (.ListComp elt [⟨tg,iter,ifs,0⟩] scope pos) 0 (.ref it) (.ref s.heap.objs.size) (compEnvC scope l j.objs.size X.env)) (RR (.ref s.heap.objs.size) j.objs.size) O:=by
    rintro O rfl;refine Ud (fun k s'=>∃i S G L,Inv (X.comp scope l j.objs.size N' s H fp pins) [] G L s'/\tn i s'.heap/\(∀b∈fp,L b=none)/\W i k S G L) ?_ m0 ⟨0,[],_,_,J0,A5,Uo,w0⟩;rintro k s3 ⟨i,S,v_,L,I3,LL,LM,w3⟩;obtain⟨hD3,alt⟩:=turn i k S v_ L w3;rcases alt with⟨stop,q⟩|⟨go,N,hN,step⟩
    . refine bT (T.done (X.comp scope l j.objs.size N' s H fp pins) rfl rfl rfl hc i [] s3 v_ L _ I3 (kA LM) LL stop) fun r s4 ⟨hr,I4⟩=>?_;subst hr;obtain⟨m4,Up,_⟩:=I4.loc;refine Uj _ _ L s4 m4 (Uh I hf I4) Up ⟨I4.free,fun z=>?_,fun z=>?_,.inr (bI I.sz (by omega)),fun x c e z=>?_,fun p hp z=>?_⟩ q;.have lt:=I.lt;rw[<-z,hC] at lt;exact absurd lt (Nat.not_lt.mpr (gp _))
      .exact I.Aw (show s.heap.objs.size<=j.objs.size by omega) z
      .obtain⟨v,o,ho,_⟩:=I.cell x c e;have lt:=aM ho;rw[z,hC] at lt;exact absurd lt (Nat.not_lt.mpr (gp _))
      .have lt:=aM (I.pin p hp).1;rw[z,hC] at lt;exact absurd lt (Nat.not_lt.mpr (gp _))
    . refine bT (T.item (X.comp scope l j.objs.size N' s H fp pins) rfl rfl rfl hc i [] s3 v_ L _ I3 (kA LM) LL go) fun r s4 ⟨u,hr,h4⟩=>?_;subst hr;refine bT h4 fun _ s5 ⟨x,H5,I5,r5,y5,Fv,Uq⟩=>?_;have back:∀{A6:St}{H7:Hp}{s7:Shared}{A7:List V},Inv (X.comp scope l j.objs.size N' s H fp pins) ([]++yN fp s5.heap) A6 H7 s7->N A7 A6 H7-> ∃m,m<k/\∃i S G L,Inv (X.comp scope l j.objs.size N' s H fp pins) [] G L s7/\tn i s7.heap/\(∀b∈fp,L b=none)/\W i m S G L:=fun{A6 H7 s7 A7} I7 n7=>by obtain⟨m',hm,w7⟩:=hN A7 A6 H7 n7;refine⟨m',hm,i+1,A7,A6,H7,I7.gz,T.keep _ _ _ Fv fun b M o e=>(I7.pin (b,o) (eO _ (eO _ (AM M e)))).1,fun b M=>?_,w7⟩;obtain⟨o,e,d⟩:=T.obj _ _ Fv b M;exact(I7.pin (b,o) (eO _ (eO _ (AM M e)))).2.1
      refine bT (B.tgt l j.objs.size s H fp pins _ s5 v_ H5 x u _ (I5.pinned (kA Uq) (T.obj _ _ Fv)) r5 (step x H5 y5)) fun _ s6 ⟨R,H6,I6,q6⟩=>?_;have fin:∀(b:Bool)(s7:Shared),TP (X.comp scope l j.objs.size N' s H fp pins) ([]++yN fp s5.heap) R (fun b H4=>if b=true then te R H4 fun y H5=>H5 s.heap.objs.size=some (.lst S)/\S.length<sizeLine/\N (S++[y]) R (upd H5 s.heap.objs.size (.lst (S++[y]))) else N S R H4) b s7-> if b=true then wpAny (model X.prog X.w) X.A (eval elt (compEnvC scope l j.objs.size X.env)) (fun x xo=> wpAny (model X.prog X.w) X.A (call (.builtin "list.append") [.ref s.heap.objs.size,x]) (fun _ A8=>∃m,m<k/\∃i S G L,Inv (X.comp scope l j.objs.size N' s H fp pins) [] G L A8/\tn i A8.heap/\(∀b∈fp,L b=none)/\W i m S G L) (fun _ _=>False) xo) (fun _ _=>False) s7 else∃m,m<k/\∃i S G L,Inv (X.comp scope l j.objs.size N' s H fp pins) [] G L s7/\tn i s7.heap/\(∀b∈fp,L b=none)/\W i m S G L:=by rintro b s7 ⟨H7,I7,q7⟩;cases b with |false=> rw[ak eN] at q7⊢;exact back I7 q7 |true=> rw[ao rfl] at q7⊢;refine bT (B.elt l j.objs.size s H fp pins _ s7 R H7 _ I7 q7) fun y s8 ⟨yv,H8,I8,r8,Ur,hz,n8⟩=>?_;exact bT (yQ _ s8 R H8 (.ref s.heap.objs.size) [yv] (.ref s.heap.objs.size) [y] (fun _ H9=>N (S++[yv]) R H9) I8 rfl (.cons r8 .nil) ⟨_,S,yv,rfl,rfl,Ur,hz,n8⟩) fun _ s9 ⟨_,H9,I9,_,n9⟩=>back I9 n9
      rcases B.test with⟨e1,e2⟩|⟨c,t,e1,e2,ht⟩;.subst e1;subst e2;exact wpAny_tests_nil (fin true s6 ⟨H6,I6,q6⟩)
      .subst e1;subst e2;exact wpAny_tests_one (bT (ht l j.objs.size s H fp pins _ s6 R H6 _ I6 q6) fun b s7 z=>fin b s7 z)
  exact codeAny_compStart_list (loop _ rfl) (T.self X.A 0 _ _ _ A5 (loop _ rfl))
theorem lU(E:X.calm=true)(hi:PI X tg iter l)(B:gD X scope N' ix n tg elt ifs g tc te)(z:∀x,foldedSetIterable iter X.env x=pure x:=by intro _;rfl): PE X (.ListComp elt [⟨tg,iter,ifs,0⟩] scope pos) (yS l ix n g tc te):=by intro k s σ H Q I h;obtain⟨cl,a,f,i⟩:=LD fun y t S=>I.ok.has _ (B.free y t S);refine wpAny_comprehension_free rfl z a B.kind B.names (bT (hi _ s _ H _ I h) fun v s1 w=>bT w fun R s2 h2=>?_);obtain⟨it,fp,tn,J,H2,rfl,N,T,j,A,c⟩:=h2;refine LJ B E N T j A f i c fun D C H' s' m Z O r q=>⟨m,O,fun h' d=>?_⟩;obtain⟨M,p,U,u,Y,G⟩:=r;exact⟨.ref D,_,Z.turned (fun b o L e=>(d.2 b L).trans e) M p u Y G,rfl,q⟩
theorem Us(hN:X.N.Nodup)(w:X.N[i]?=some y)(p:Loc X.env.scope y)(hc:X.calm=true)(hi:PI X tg iter Y)(B:gD X scope N' ix n tg elt ifs g tc te) (E:swapsWith (.ListComp elt [⟨tg,iter,ifs,0⟩] scope pos) (some (.Name y py)) j.line X.env=pure true)(L:X.fn y=true\/X.env.scope.names.lookup y=some .local:=by first|exact .inl rfl|exact .inr rfl|assumption) (hs:∀x,foldedSetIterable iter X.env x=pure x:=by intro _;rfl): PS X (.Assign [.Name y py] (.ListComp elt [⟨tg,iter,ifs,0⟩] scope pos) j) (iJ (yS Y ix n g tc te) (qP i)):=by
  intro N s σ H D I h;rw[exec_Assign_Name_used _ _ _ _ E];refine ah (gv (ah ?_));obtain⟨cl,c,u,M⟩:=LD fun y p L=>I.ok.has _ (B.free y p L);refine ah (c8 (wpAny_comprehension_free rfl hs c B.kind B.names (bT (hi _ s _ H _ I h) fun v s1 h1=>bT h1 fun S_ s2 h2=>?_)) (fun _ s' hq=>au (au hq)) fun _ _ e=>e);obtain⟨it,fp,tn,J,H2,rfl,I2,T,t,f2,f⟩:=h2;refine LJ B hc I2 T t f2 u M f fun D' C H' s' m I' R hC q=>?_;obtain⟨Z,S,l,O,Q,U⟩:=hC
  have Ip := I'.pinned (fp := [C]) (fun b hb => by have e:b=C:=by simp_all
                                                   subst e;exact⟨Z,S,l,O,Q,U⟩) (fun b hb=>by
    have e:=by simpa using hb
    subst e;obtain⟨o,es,ep,A,r,_⟩:=R;exact⟨o,A,fun v z=>by rw[r] at z;cases z⟩);refine wpAny_assign_Name (CF Ip hN w p (v:=.ref _) rfl (fun s'' d=>?_) L);obtain⟨o,es,ep,A,r,hr⟩:=R;have a:=d.pin _ (eO _ (eO _ (AM (by simp) A)));exact⟨m,⟨o,_,_,a.1,r,hr⟩,fun h' G=>⟨_,_,d.gz.turned (fun b o hb e=>(G.2 b hb).trans e) a.2.1 S O Q U,q⟩⟩
end
section
variable{X:Cx}{scope:Scope}{tg elt:Expr}{ifs:List Expr}{g:TG}{tc:Option TT}{te:TE}
theorem Fw(b:Scope)(u d:List Str)(l:List Nat)(n:Nat)(B:X.env.scope=b)(q:X.N=u)(h:scope.kind=.function)(o:(scope.names.all fun y=>y.2 !=.free||scope.names.all fun z=>!(z.1==y.1)||z.2 !=.cell)=true)(a:∀y∈scope.names,y.2=.local->scope.names.lookup y.1=some .local) (v:(scope.names.all fun y=>y.2 !=.free||(b.names.lookup y.1==some .cell||b.names.lookup y.1==some .free))=true)(r:l.length+n=d.length) (f:((List.range l.length).all fun j=>match d[j]?,u[l.getD j 0]? with|some x,some y=>x==y&&scope.names.lookup x==some .free|_,_=>false)=true) (p:∀(cl:List (Str×Addr))(C:Addr)(s:Shared)(H:Hp)(fp:List Addr)(pins:List (Addr×Obj)),PG (X.comp scope cl C d s H fp pins) tg g) (m:∀(cl:List (Str×Addr))(C:Addr)(s:Shared)(H:Hp)(fp:List Addr)(pins:List (Addr×Obj)),PE (X.comp scope cl C d s H fp pins) elt te) (k:(ifs=[]/\tc=none)\/∃c t,ifs=[c]/\tc=some t/\∀(cl:List (Str×Addr))(C:Addr)(s:Shared)(H:Hp)(fp:List Addr)(pins:List (Addr×Obj)),PT (X.comp scope cl C d s H fp pins) c t): gD X scope d l n tg elt ifs g tc te:= ⟨h,fun y D e L=>by grind,a,fun y D e=>by show X.env.scope.names.lookup _=_\/X.env.scope.names.lookup _=_;grind,r,fun j i e=>by
 obtain⟨J,_⟩:=b_.mp e;have E:l.getD j 0=i:=by rw[du,e];rfl
 have z:=lG.mp f j (iE.mpr J);rw[E] at z;cases w:d[j]? with |none=>simp_all |some x=> cases A:u[i]? with |none=>rw[w,A] at z;cases z |some y=>
  rw[w,A] at z;have I:=by simpa using z
  obtain⟨rfl,G⟩:=I;exact⟨x,rfl,by rwa[q],G⟩,p,m,k⟩
end
structure uk(P:Program)(w:World)(K:PySem.W.Frag)(mg:Str->Option Value)(base:Heap)(CX:jC)(k:Nat)(x:Str)(ps:List Str)(sp:Sp):Prop where ex:∃(f:Addr) (fd:FuncData),cq P w K mg base CX k f fd ps sp/\mg x=some (.ref f)/\PySem.W.keepIn K (.ref f)=true/\Binds K fd ps []
section
variable{X:Cx}{CX:jC}{k:Nat}{x:Str}{ps:List Str}{sp:Sp}{E:XK}{p pos:Pos}{e:Expr}{es:List Expr}{t:TA}
theorem Fx(G:uk X.prog X.w X.K X.mg X.base CX k x ps sp)(g:cm k X.A)(i:Gl X x)(d:nP CX X E) (j:PA X (e::es) t)(a:(x==("__debug__":Str))=false:=by decide)(h:starEach (e::es) X.env=(false,eval e X.env)::starEach es X.env:=by rfl)(b:(backTo pos (starEach es X.env)).any (·.1)=false:=by rfl): PE X (.Call (.Name x p) (e::es) [] pos) (rS sp [] E t):=let⟨f,_,F,m,c,l⟩:=G.ex;K3 F g i m c l .nil d j a h b
end
structure nW(K:PySem.W.Frag)(x:Str)(st:Stmt)(f:Addr)(fd:FuncData):Prop where ns:PySem.W.nsIn K mainGlobals x=some (some (.ref f))fn:jD K x x st f fd
theorem tm{K:PySem.W.Frag}{st:Stmt}{kV d e b g:Value}(a:PySem.W.nsIn K mainGlobals x=some (some (.ref f))) (l:K.lookup f=some ⟨i,od,.func (PySem.W.fnOf x x (nU st) (kR st) (cQ st) .none kV d e an b g),h⟩)(c:PySem.W.codeIn K b x=true)(k:PySem.W.keepIn K (.ref f)=true):∃f fd,nW K x st f fd:= ⟨f,_,a,C3 l c k⟩
theorem nW.has{K:PySem.W.Frag}{st:Stmt}(D:nW K x st f fd)(X:K.In h)(G:h.Ns mainGlobals mg) (c:cq P w K mg a CX k f fd ps sp)(b:Binds K fd ps []):uk P w K mg a CX k x ps sp:=⟨f,_,c,cU X G D.ns,D.fn.kp,b⟩
theorem Ut(c:H b=none)(h:H a=some o):upd H b u a=some o:=(bc (dH h c)).trans h
theorem ax.upd(a:H b=none):ax H (upd H b u):=fun _ _ h=>Ut a h
section
variable{X:Cx}{pos:Pos}
end
theorem bX{K:PySem.W.Frag}(h1:((Value.type S)==(Value.type T))=false)(h2:PySem.W.kitMeta T=true)(h3:(PySem.fastBuiltinMro S).map (·.contains (.type T))=some false):PySem.W.kitOne K (.type S) (.type T)=some false:=by unfold PySem.W.kitOne;rw[h1];show(if PySem.W.kitMeta T=true then PySem.W.subIn K _ _ else none)=some false;rwa[ao h2]
theorem iP {K : PySem.W.Frag} : PySem.W.kitOne K (.type "int") (.type "bool") = some false := bX rfl rfl (by decide +kernel)
structure Tr(h:Heap)(e T:Addr)(cls:Value)(dc:Option Addr)(fl:Value):Prop where
 ex:∃(oe:Obj) (vs:Array Value) (oT:Obj) (ts:Array Value),h.get? e=some oe/\oe.cls=cls/\oe.dict=dc/\oe.data=.fields vs/\vs[1]?=some (.ref T)/\h.get? T=some oT/\oT.data=.fields ts/\ts[3]?=some fl
 ne:T≠e
structure kC(B:Heap)(l:List Env)(e:Addr)(cls:Value)(dc:Option Addr)(fl:Value)(h:Heap):Prop where
 stays:B.StaysIn h
 out:B.get? e=none
 va:h.FunFrames B l
 tr:∃T,B.get? T=none/\Tr h e T cls dc fl
theorem Obj.kD(o:Obj)(f):(o.mapFields f).dict=o.dict:=by obtain⟨c,d,a,b⟩:=o;cases a<;>rfl
theorem yT{h:Heap}(e:h.get? a=some o)(hd:o.data=.fields vs)(c:h.get? b=some u)(d:∀ws,u.data≠.fields ws):b≠a:=by intro z;simp_all
section
variable{M:Model}{A:Around}{E:Value->Shared->Prop}{s:Shared}{B:Heap}{env:Env}{outer l:List Env}{L e:Addr}{cls:Value}{dc:Option Addr}{Q:Unit->Shared->Prop}
theorem Fy(u:A.frames=some (env::outer))(k:s.heap.FunFrames B (env::outer))(U:env.frame=some L)(C:s.heap.get? e=some y)(hd:y.data=.fields vs)(hsz:1<vs.size) (n:B.StaysIn s.heap)(p:B.get? e=none)(h:∀h',kC B (env::outer) e y.cls y.dict (rawInt L) h'->s.heap.UpToSlots h'->Q () {s with heap:=h'}): wpAny M A (do let a<-frameOf env;let pl<-entryPlaceOf L Y;let b<-EntryCells.newEntry N a .none (rawInt L) .none pl;setField (.ref e) 1 b) Q E s:=by
  have r:e∉(env::outer).filterMap _:=fun w=>by obtain⟨_,o,Z,m⟩:=k.mem w;simp_all
  refine ah (wpAny_frameOf_fun u k U fun f c=>ah (wpAny_entryPlaceOf fun pl D=>?_));have H:=(c.2.1 e r).trans C;have j:B.StaysIn _:=fun b o q=>(c.2.1 b fun w=>by rw[(k.mem w).1] at q;cases q).trans (n b o q);refine ah (ko ?_ (D.sizeOk5 _ _ _ _ _));generalize v:({cls:=.type _,dict:=none,data:=.fields _}:Obj)=G;have O:∃x,G.data=.fields x/\x[3]?=some (rawInt L):=by subst v;simp
  have t:=let⟨_,d,_⟩:=O;l7 d;have R:(f.push G).get? e=some _:=aK _ H;refine kq R hd hsz (h _ ?_ ?_)
  . have i:=eQ (aM H);have J:∀b o,b≠e->f.get? b=some o->((f.push G).update e (Obj.mapFields (·.setIfInBounds 1 (Value.ref f.objs.size)))).get? b=some o:=fun b o g q=>by rw[fO _ _ (aR g)];exact aK _ q
    have I:=kf hd (·.setIfInBounds 1 (Value.ref f.objs.size));refine⟨fun b o q=>J b o (fun z=>by simp_all) (j b o q),p,k.of_keeps fun b o g m=>?_,_,j.fresh,⟨?_,i⟩⟩;.obtain⟨S,q⟩:=c.2.2 b o g;exact⟨_,J b _ (yT C hd g m) q,rfl⟩
    .obtain⟨x,X,T⟩:=O;refine⟨_,_,_,_,jz _ R (l7 I),Obj.cls_mapFields _ _,Obj.kD _ _,I,by simp_all,?_,X,T⟩;rw[fO _ _ (aR i)];exact b9 _ t
  .intro b o g m;obtain⟨S,q⟩:=c.2.2 b o g;refine⟨S,?_⟩;rw[fO _ _ (aR (yT C hd g m))];exact aK _ q
theorem Fz(F:kC B l e cls dc fl s.heap)(h:∀h',kC B l e cls dc .none h'->s.heap.UpToSlots h'->Q () {s with heap:=h'}):wpAny M A (setFlight (.ref e) none) Q E s:=by
 obtain⟨T,m,⟨w,x,y,v,j,t,i,r,p,f,a,u⟩,k⟩:=F.tr;have n:=(uK.mp u).1;have c:∀b o,b≠T->s.heap.get? b=some o->(s.heap.update T (Obj.mapFields (·.setIfInBounds 3 Value.none))).get? b=some o:=fun b o d q=>by rwa[fO _ _ (aR d)]
 exact ah (cj j r p (kq f a n (h _ ⟨fun b o q=>c b o (fun z=>by rw[z,m] at q;cases q) (F.stays b o q),F.out,F.va.of_keeps fun b o d g=>⟨o,c b o (yT f a d g) d,rfl⟩,T,m,⟨⟨_,_,_,_,c e _ (aR k) j,t,i,r,p,jz _ f (l7 (kf a _)),kf a _,by simp[n]⟩,k⟩⟩ fun b o d g=>⟨_,c b o (yT f a d g) d⟩)))
theorem Uu(d:A.frames=some (env::outer))(g:env.frame=some L)(a:B.StaysIn h)(m:h.FunFrames B (env::outer))(c:Heap.MadeExcOf h s.heap e cls i) (k:∀h',kC B (env::outer) e cls none (rawInt L) h'->s.heap.UpToSlots h'->Q () {s with heap:=h'}):wpAny M A (noteFrame (.ref e) env) Q E s:=by
 obtain⟨t,f,_,_⟩:=c.there;have j:B.get? e=none:=by cases q:B.get? e with |none=>rfl |some o=>have z:=a e o q;rw[c.new] at z;cases z
 unfold noteFrame;simp[g];exact ah (cj f rfl rfl (Fy d (m.of_keeps fun b o n _=>⟨o,c.keeps b o n,rfl⟩) g f rfl (by simp) (fun b o q=>c.keeps b o (a b o q)) j k))
theorem Uv(h:A.frames=some (env::outer))(p:env.frame=some L)(F:kC B (env::outer) e cls dc .none s.heap) (k:∀h',kC B (env::outer) e cls dc (rawInt L) h'->s.heap.UpToSlots h'->Q () {s with heap:=h'}):wpAny M A (noteFrame (.ref e) env) Q E s:=by
 obtain⟨T,v,⟨D,G,C,H,r,u,i,m,j,g,c,n⟩,x⟩:=F.tr;have w:=(uK.mp n).1;have a:∀b o,b≠T->s.heap.get? b=some o->(s.heap.update T (Obj.mapFields (·.setIfInBounds 3 Value.none))).get? b=some o:=fun b o d q=>by rwa[fO _ _ (aR d)]
 subst u;subst i;unfold noteFrame;simp[p];refine ah (cj r m j (ah (cj g c n (ah (kq g c w (Fy h (F.va.of_keeps fun b o d f=>⟨o,a b o (yT g c d f) d,rfl⟩) p (a e _ (aR x) r) m (uK.mp j).1 (fun b o q=>a b o (fun z=>by rw[z,v] at q;cases q) (F.stays b o q)) F.out fun h' y t=>?_))))));exact k _ y fun b o d f=>t b o (a b o (yT g c d f) d) f
theorem kC.pop(F:kC B (env::outer) e cls dc fl h):kC B outer e cls dc fl h:=⟨F.stays,F.out,F.va.2.2,F.tr⟩
end
structure Uw(P:Program)(w:World)(outer:List Env)(H:Hp)(s:Shared)(e:Addr)(cls:Value)(dc:Option Addr)(H':Hp)(s':Shared):Prop where
 os:s'.os=s.os
 bare:AllBare s'.gens
 un:Un (k6 outer) [] H H' s.heap s'.heap
 lay:∃B,kC B outer e cls dc .none s'.heap/\hL P w H' B/\∀b o,s.heap.get? b=some o->b∉k6 outer->∃o',B.get? b=some o'/\(H b=none->o'=o)
def qU(P:Program)(w:World):jC:=fun a H s E e f=>∃(d C:Addr) (b:Option Addr) (c:Hp),e=.ref d/\Uw P w a H s d (.ref C) b c f/\E (.ref C) b c
theorem hL.none_of(x:hL P w H B)(n:B.get? a=none):H a=none:=by cases q:H a with |none=>rfl |some o=> have b:=(x a o q);cases o with |lst i=>obtain⟨_,_,_,_,e⟩:=b;simp_all |tup i=>obtain⟨_,_,_,o,e,_⟩:=b;simp_all |dK c=>obtain⟨_,_,_,_,o,_,_,e,_⟩:=b;simp_all |dT c=>obtain⟨_,_,_,_,o,_,_,e,_⟩:=b;simp_all |set S J=>obtain⟨o,_,_,_,e,_⟩:=b;simp_all |ins C G r=>obtain⟨_,_,_,e,_⟩:=b;simp_all |own y=>obtain⟨_,e⟩:=b;simp_all |xd r=>obtain⟨_,⟨_,_,_,e,_⟩,_⟩:=b;simp_all |lP lo z=>obtain⟨_,_,_,e⟩:=b;simp_all |jI A u=>obtain⟨e,_⟩:=b;simp_all |pC v=>obtain⟨_,_,_,_,_,_,_,e,_⟩:=b;simp_all |met f y=>have e:B.get? a=some _:=b;simp_all |ext t=>obtain⟨_,⟨_,e⟩,_⟩:=b;simp_all
theorem FA{h0 h1 h2 h3 B:Heap}(U:Un fs [] k t h0 h1)(V:Un fr [] t y h1 h2)(A:h0.objs.size<=L)(sub:∀b∈fr,b∈L::fs)(m:∀b∈fs,b∈fr)(p:∀b∈fs,k b=none) (j:∀b∈fs,∀o,h2.get? b=some o->∀vs,o.data≠.fields vs)(D:h2.UpToSlots h3)(st:B.StaysIn h3)(r:∀b o,h1.get? b=some o->b∉fr->∃f,B.get? b=some f/\(t b=none->f=o)): Un fs [] k y h0 h3/\∀b o,h0.get? b=some o->b∉fs->∃f,B.get? b=some f/\(k b=none->f=o):=by
  have s:∀b o,h0.get? b=some o->b∉fs->b∉fr:=fun b o e a x=>by
    rcases aU.mp (sub b x) with z|z;.exact absurd (cP (aM e) A) (by simp_all)
    .grind
  have c:∀b o,h0.get? b=some o->b∉fs->∃f,B.get? b=some f/\(k b=none->f=o):=fun b o e a=>by obtain⟨w,g⟩:=U.there b o e (by simp);obtain⟨H,h,z⟩:=r b _ g (s b o e a);refine⟨_,h,fun n=>?_⟩;have i:=U.keep b o e n a (by simp);rw[g] at i;cases i;exact z (U.free b o e n (by simp))
  have d:∀b o,h0.get? b=some o->b∈fs->∃v,h3.get? b=some {o with slots:=v}:=fun b o e a=>by have n:=p b a;obtain⟨N,g⟩:=U.slot b o e n a (by simp);obtain⟨J,h⟩:=V.slot b _ g (U.free b o e n (by simp)) (m b a) (by simp);obtain⟨G,C⟩:=D b _ h (j b a _ h);exact⟨_,C⟩
  refine⟨⟨fun b o e n a _=>?_,fun b o e n a _=>d b o e a,fun b o e n _=>?_,fun b o e _=>?_,fun b E e=>V.kv b _ (U.kv b _ e),fun b o u e=>V.jJ b o u (U.jJ b o u e),fun b I e=>?_⟩,c⟩;.obtain⟨f,l,z⟩:=c b o e a;rw[z n] at l;exact st b o l
  .obtain⟨w,g⟩:=U.there b o e (by simp);exact V.free b _ g (U.free b o e n (by simp)) (by simp)
  . by_cases a:b∈fs;.obtain⟨v,q⟩:=d b o e a;exact⟨_,q⟩
    .obtain⟨f,l,_⟩:=c b o e a;exact⟨_,st b _ l⟩
  .obtain⟨O,g⟩:=U.ie b _ e;obtain⟨M,h⟩:=V.ie b _ g;exact⟨_,by rw[h,Array.append_assoc]⟩
section
variable{P:Program}{w:World}{K:PySem.W.Frag}{mg:Str->Option Value}{base:Heap}{N:List Str}{qual:Str}{scope:Scope}{f:Addr}{cd:Value}{A:Around}{outer:List Env}{s0:Shared}{H0:Hp}{E:XK}
abbrev kE(P:Program)(w:World)(K:PySem.W.Frag)(mg:Str->Option Value)(base:Heap)(N:List Str)(qual:Str)(scope:Scope)(f:Addr)(cd:Value)(A:Around)(outer:List Env)(s0:Shared)(H0:Hp)(E:XK):Cx:=nQ (qU P w) P w K mg base N qual scope f cd A outer s0 H0 E
theorem Ux(I:Inv (kE P w K mg base N qual scope f cd A outer s0 H0 E) pins σ H s)(r:Heap.MadeExcOf s.heap s'.heap ea (.ref C) m) (os:s'.os=s.os)(j:AllBare s'.gens)(q:E (.ref C) none H):(kE P w K mg base N qual scope f cd A outer s0 H0 E).xe (.ref ea) s':=by have l:∀i∈(kE P w K mg base N qual scope f cd A outer s0 H0 E).stack,∀a,i.frame=some a->a∈k6 _:=fun i y a x=>lN.mpr ⟨_,y,x⟩;have d:=I.stack;refine ah (Uu I.ok.frames rfl (fun b o e=>pj _ e) (PySem.W.funFrames_hide d l) r fun G B up1=>(Fz B fun J p k=>?_));have c:∀b o,s.heap.get? b=some o->b∉k6 (kE P w K mg base N qual scope f cd A outer s0 H0 E).stack->(PySem.W.hideAll _ _).get? b=some o:=fun b o e g=>o5 _ e g;obtain⟨u,h⟩:=FA I.base Un.refl I.ok.above I.gx (fun b g=>bK _ g) I.ok.uh (fun b g o e=>by obtain⟨_,D,t,L⟩:=d.mem (bK _ g);simp_all) ((Heap.UpToSlots.of_keeps r.keeps).trans (up1.trans k)) p.stays (fun b o e g=>⟨o,c b o e g,fun _=>rfl⟩);refine⟨_,C,_,H,rfl,⟨os.trans I.os,j,u,_,p.pop,?_,h⟩,q⟩;intro a o e;refine(I.bD a o e).ic (fun b v g q=>c b v q fun z=>?_) (fun _ q=>q) fun _ _ q=>q;have n:=I.jT b z;simp_all
theorem Uy(I:Inv (kE P w K mg base N qual scope f cd A outer s0 H0 E) pins σ H s)(h:qU P w (kE P w K mg base N qual scope f cd A outer s0 H0 E).stack H s E e s'): (kE P w K mg base N qual scope f cd A outer s0 H0 E).xe e s':=by obtain⟨x,C,n,p,rfl,F,q⟩:=h;obtain⟨B,k,d,c⟩:=F.lay;refine ah (Uv I.ok.frames rfl k fun v m up1=>(Fz m fun y j g=>?_));obtain⟨u,a⟩:=FA I.base F.un I.ok.above I.gx (fun b i=>bK _ i) I.ok.uh (fun b i o e=>by obtain⟨_,t,l,r⟩:=k.va.mem (bK _ i);simp_all) (up1.trans g) j.stays c;exact⟨_,C,_,_,rfl,⟨F.os.trans I.os,F.bare,u,B,j.pop,d,a⟩,q⟩
end
theorem Uz{K:PySem.W.Frag}(X:K.In h)(q:PySem.W.excIn K C d newId=true): ∃bm N nm e bs hdct sn sub ab col dd k0 k1 k2 k3 k5 mN,h.get? C=some (excClassObj nm e C N bs bm hdct sn sub ab col dd k0 k1 k2 k3 k5 newId)/\h.Ns N mN/\mN "__init__"=none/\OwnTail h d bm:=by
  unfold PySem.W.excIn at q;split at q
  . rename_i dd f g l;split at q;.rename_i s bm k0 k1 k2 k3 n k5 k m;simp[eW] at q;obtain⟨⟨⟨⟨⟨rfl,rfl⟩,a⟩,o⟩,b⟩,c⟩:=q;obtain⟨nm,bs,p,t,e,r,sn,sub,ab,col,i⟩:=f;subst k a;obtain⟨j⟩:=g;subst m;exact⟨_,_,_,_,_,_,_,_,_,_,_,_,_,_,_,_,_,X _ _ l,.of_isNs (o9 X b),PySem.W.nsMap_none_of_in X b c,PySem.W.tail_of_in X o⟩
    simp_all
  simp_all
def Made(X:Cx)(E:St->XK):Prop:=∀(a:List (Addr×Obj))(e:St)(H:Hp)(s c:Shared)(d C:Addr)(b:List Value),Inv X a e H s->Heap.MadeExcOf s.heap c.heap d (.ref C) b->c.os=s.os->AllBare c.gens->E e (.ref C) none H->X.xe (.ref d) c
def FC(CX:jC)(X:Cx)(E:St->XK):Prop:=∀(a:List (Addr×Obj))(c:St)(H:Hp)(s:Shared)(e:Value)(b:Shared),Inv X a c H s->CX X.stack H s (E c) e b->X.xe e b
def LN(C:Addr)(E:St->XK)(t:TA):TS:=fun _ a H=>t a H fun b c=>b.length<=sizeLine/\E a (.ref C) none c
section
variable{X:Cx}{x:Str}{np dB pos:Pos}{ig:Expr}{rest:List Expr}{C:Addr}{m9 wa:List Value}{newId Bn B wb wc gE:String}{E:St->XK}{t:TA}
theorem A9(hc:X.calm=true)(S:Gl X x)(d:X.mg x=some (.ref C))(u:PySem.W.excIn X.K C m9 newId=true)(G:ExcBaseFacts Bn newId wc wa)(c:m9.contains (.type Bn)=true)(o:ExcBaseFacts B wb gE m9)(hE:Made X E) (r:PA X (ig::rest) t)(n:starEach (ig::rest) X.env=(false,eval ig X.env)::starEach rest X.env:=by rfl)(b:(backTo dB (starEach rest X.env)).any (·.1)=false:=by rfl)(i:(x==("__debug__":Str))=false:=by decide): PS X (.Raise (some (.Call (.Name x np) (ig::rest) [] dB)) none pos) (LN C E t):=by intro m s σ H D I h;obtain⟨tl,N,U,y,bs,a,M,e,Z,g,Q,w,v,J,R,L,mN,Y,p,f,T⟩:=Uz I.ok.mod.vY u;refine wpAny_Raise_call_subU (nm:=U) (q:=y) (N:=N) (bs:=bs) (hdct:=a) (sn:=M) (sub:=e) (ab:=Z) (col:=g) (dd:=Q) (k0:=w) (k1:=v) (k2:=J) (k3:=R) (k5:=L) G c o (T.hasType o.hasBase) (I.ok.hd hc) (by rw[n];show(false||(backTo _ _).any _)=false;simp_all) f (yI I S d ⟨rfl,?_⟩ i);have l:=r dB _ s _ H _ I h;rw[n] at l⊢;refine uM (bT l fun us s1 ⟨_,_,j,O,z,q⟩=>?_);have k:=j.bk;exact⟨rfl,by rwa[<-O.length],k _ _ Y,p.keeps k,T.keeps k,fun h' ea A=>hE _ _ _ _ _ _ C _ j A rfl j.bare q⟩
end
def FD(sp:Sp)(E:St->XK)(t:TA):TE:=fun a H Q=>t a H fun b c=>sp b c Q (E a)
section
variable{X:Cx}{CX:jC}{k:Nat}{x:Str}{ps:List Str}{sp:Sp}{E:St->XK}{p pos:Pos}{e:Expr}{es:List Expr}{t:TA}
theorem UA(G:uk X.prog X.w X.K X.mg X.base CX k x ps sp)(D:cm k X.A)(N:Gl X x)(M:FC CX X E) (w:PA X (e::es) t)(i:(x==("__debug__":Str))=false:=by decide)(A:starEach (e::es) X.env=(false,eval e X.env)::starEach es X.env:=by rfl)(d:(backTo pos (starEach es X.env)).any (·.1)=false:=by rfl): PE X (.Call (.Name x p) (e::es) [] pos) (FD sp E t):=by
 obtain⟨f,O,F,C,L,o⟩:=G.ex;intro n s y H Q I h;refine gr (yI I N C (l8 I.ok.mod.vY L (bT (w _ _ s _ H _ I h) fun c m ⟨_,Z,a,r,q⟩=>⟨a.gM,?_⟩) A d) i);have U:c.length=ps.length:=by rw[<-r.length];exact F.len _ _ _ _ q
 have v:BindsTo m O ⟨c,[]⟩ (ps.zip c):=by have z:=o _ c a.gM (by simp_all);simp_all
 refine fU (gq (F.run X.A _ m _ _ _ _ Q _ D a.uX v r q) fun R T b=>?_);cases R with |error S=>exact M _ y _ _ _ _ a b |ok B=> cases B with |ret u=>exact a.after b |next=>exact False.elim b |brk=>exact False.elim b |cont=>exact False.elim b
end
def FE(C:Addr)(b:Option Addr)(ea:Addr):HO:=.ext fun h=>∃a,h.get? ea=some a/\a.cls=.ref C/\a.dict=b/\∃c,a.data=.fields c
theorem Inv.wd(I:Inv X pins σ H s)(A:H ea=none)(h0:X.fy.heap.get? ea=none)(h:ea≠X.env.locals)(l:∀x c,X.env.cells.lookup x=some c->c≠ea) (f:∀p∈X.pn++pins,p.1≠ea)(d:da X.prog X.w (upd H ea o) s.heap ea o):Inv X pins σ (upd H ea o) s:=by
  have a:∀{b:Addr}{u:HO},H b=some u->b≠ea:=fun q z=>by simp_all
  refine⟨I.ok,I.os,I.bare,⟨I.base.keep,I.base.slot,fun b r q n g=>?_,I.base.there,fun b i q=>?_,fun b r u q=>?_,fun b B q=>?_⟩,I.loc,I.cell,?_,fun x c q=>?_,fun p q=>?_,fun b u q=>?_,I.len⟩;.rw[bc (fun z=>by rw[z,h0] at q;cases q)];exact I.base.free b _ q n g
  .have z:=I.base.kv b _ q;rwa[bc (a z)]
  .have z:=I.base.jJ b _ u q;rwa[bc (a z)]
  .obtain⟨m,z⟩:=I.base.ie b _ q;exact⟨m,by rwa[bc (a z)]⟩
  .rw[bc (aR h)];exact I.free
  .rw[bc (l x c q)];exact I.gw x c q
  .obtain⟨t,y,k,w,j⟩:=I.pin p q;exact⟨t,by rwa[bc (f p q)],k,w,j⟩
  . by_cases e:b=ea;.subst e;rw[cb] at q;grind
    .rw[bc e] at q;exact(I.bD b u q).ic (fun c v _ z=>z) (fun c z=>by rwa[bc (a z)]) fun c i z=>by rwa[bc (a z)]
section
variable{P:Program}{w:World}{X:Cx}{x n:Str}{np FF pos:Pos}{body:List Stmt}{FG:Stmt}{A_:List Stmt}{D':Addr}{tb:(St->XK)->TS}{th:TS}{i:Nat}
end
structure gF(K:PySem.W.Frag)(C:Addr):Prop where
 ga:PySem.W.findIn K (.ref C) "__getattribute__"=some (some (.builtin "BaseException.__getattribute__"))gn:PySem.W.findIn K (.ref C) "__getattr__"=some none
 hd:PySem.W.hasDictIn K C=true
 ha:PySem.W.findIn K (.ref C) "__class__"=some (some (.builtin "object.__class__"))hn:PySem.W.specialIn K (.builtin "object.__class__") "__get__"=some (some (.builtin "getset_descriptor.__get__"))Tn:PySem.W.takesIn K (.builtin "object.__class__")=some true
 hm:PySem.W.mroIn K C (.type "object")=some true
 hb:PySem.W.mroIn K C (.type "BaseException")=some true
section
variable{X:Cx}
end
section
variable{P:Program}{w:World}{K:PySem.W.Frag}{mg:Str->Option Value}{base:Heap}{N:List Str}{qual:Str}{scope:Scope}{f:Addr}{cd:Value}{A:Around}{outer:List Env}{s0:Shared}{H0:Hp}{E:XK}
theorem A':Made (kE P w K mg base N qual scope f cd A outer s0 H0 E) (fun _=>E):=fun _ _ _ _ _ _ _ _ I b os a q=>Ux I b os a q
theorem yU:FC (qU P w) (kE P w K mg base N qual scope f cd A outer s0 H0 E) (fun _=>E):=fun _ _ _ _ _ _ I h=>Uy I h
theorem we:nP (qU P w) X E0:=fun _ _ _ _ _ _ _ h=>by obtain⟨_,_,_,_,_,_,z⟩:=h;grind
theorem jD.C5{x qual:Str}{st:Stmt}{f:Addr}{N ps:List Str}(F:jD K x qual st f fd)(S:bW N ps (cQ st))(c:∀vs H Q E,sp vs H Q E->vs.length=ps.length) (b:∀(a:Value)(A:Around)(outer:List Env)(s:Shared)(H:Hp)(vs:List V)(Q:VK)(E:XK),cm k (A.deeper (envOfC qual (cQ st) s.heap.objs.size f a))->sp vs H Q E-> ∃t,mG (kE P w K mg base N qual (cQ st) f a A outer s H E) (kR st) t/\t {nx:=fun _ H'=>Q .non H',rt:=Q} (start N vs) H):cq P w K mg base (qU P w) (k+1) f fd ps sp:=by obtain⟨p,n,kV,h,l,m,a,o,j,rfl,g,d⟩:=F.ex;exact CS g d S c fun A outer s H vs Q E i e=>b _ A _ s H _ Q E i e
end
end L2
namespace PM
open PySem L2
inductive D where |non|bl(b:Bool)|int(i:Int)|str(x:Str)|tup(l:List D)|lst(l:List D)|dc(ks:List Key)(l:List D)|cB(l:List Int)|exc(c:Nat)|fd(ks:List Key)(l:List D)|obj(c:Nat)(ks:List Str)(l:List D)
structure Kx where
 f:W.Frag
 ca:Nat->Addr
 an:Nat->Str
def XA(K:Kx)(F:Hp)(c:Nat)(a:Option Addr):Prop:=if c<16 then a=none else∃b,a=some b/\F b=some (.xd [(K.an c,.int (((c/16:Nat):Int)-1))])
section
variable (K : Kx)
mutual
def Rep (F : Hp) : D -> V -> Prop
 | .non, v => v = .non
 | .bl b, v => v = .bl b
 | .int i, v => v = .int i
 | .str x, v => v = .str x
 | .cB l, v => ∃ a, v = .ref a /\ fz K.f F a (l.map V.int)
 | .exc c, v => ∃ a h, v = .ref a /\ F a = some (FE (K.ca c) h a) /\ XA K F c h
 | .tup l, v => ∃ a g, v = .ref a /\ F a = some (.tup g) /\ aD F l g
 | .fd j l, v => ∃ a o f, v = .ref a /\ F a = some (.jI o (.dK f)) /\ f.map (·.1) = j /\ aD F l (f.map (·.2))
 | .obj c j l, v => ∃ a m k, v = .ref a /\ F a = some (.ins (K.ca c) m k) /\ k.map (·.1) = j /\ aD F l (k.map (·.2))
 | .lst l, v => ∃ a g, v = .ref a /\ F a = some (.lst g) /\ aD F l g
 | .dc j l, v => ∃ a f, v = .ref a /\ F a = some (.dK f) /\ f.map (·.1) = j /\ aD F l (f.map (·.2))
def aD (F : Hp) : List D -> List V -> Prop
 | [], g => g = []
 | d :: l, g => ∃ v r, g = v :: r /\ Rep F d v /\ aD F l r
end
end
def cN{α:Type}(p:Prop)(a b:α):α:=@ite α p (Classical.propDecidable p) a b
@[simp] theorem fi(h:p):cN p a b=a:=ao h
theorem LO(h:¬p):cN p a b=b:=ak h
structure Xc where c:Nat
inductive R(α:Type) where |no|ok(a:α)|ex(x:Xc)
namespace R
noncomputable def bind{α b:Type}:R α->(α->R b)->R b |.no,_=>.no |.ok a,f=>f a |.ex x,_=>.ex x
@[simp] theorem aq(a:α)(f:α->R b):(R.ok a).bind f=f a:=rfl
@[simp] theorem zAt {α β : Type} (f : α → R β) : (R.no : R α).bind f = .no := rfl
@[simp] theorem zAU {α β : Type} (x : Xc) (f : α → R β) : (R.ex x : R α).bind f = .ex x := rfl
end R
inductive Tr where |d(x:D)|l(ts:List Tr)|t(ts:List Tr)
mutual
def ng : Tr -> D
 | .d x => x
 | .l b => .lst (gf b)
 | .t b => .tup (gf b)
def gf : List Tr -> List D
 | [] => []
 | t :: b => ng t :: gf b
end
inductive Sl where |no|v(d:D)|o(d:D)|l(d:D)|p(T:Tr)
abbrev En:=List Sl
inductive O where |no|nx(δ:En)|rt(d:D)|ro(d:D)|bk(δ:En)|ct(δ:En)|ex(δ:En)(x:Xc)
structure Ext(F H F' H':Hp):Prop where
 ff:ax F F'
 hh:ax H H'
 fh:ax F' H'
 nw:∀p o,F p=none->H p=some o->F' p=none
theorem Ext.refl(s:ax F H):Ext F H F H:=⟨.refl _,.refl _,s,fun _ _ h _=>h⟩
theorem Ext.trans(a:Ext F H e g)(b:Ext e g h f):Ext F H h f:= ⟨a.ff.trans b.ff,a.hh.trans b.hh,b.fh,fun p o d c=>b.nw p o (a.nw p o d c) (a.hh p o c)⟩
theorem Ext.new(s:ax F H)(h:H p=none):Ext F H (upd F p o) (upd H p o):=by
  refine⟨ax.upd (s.free h),ax.upd h,fun b u q=>?_,fun q u c a=>?_⟩
  . by_cases e:b=p;.subst e;rwa[cb] at q⊢
    .rw[bc e] at q⊢;exact s _ _ q
  .rwa[bc (dH a h)]
theorem Ext.dY(s:ax F H)(h:H p=none):Ext F H F (upd H p o):=by refine⟨.refl _,ax.upd h,s.trans (ax.upd h),fun q u a b=>a⟩
theorem ax.rd(e:ax H H')(h:Rd H a u):Rd H' a u:=h.elim (fun h=>.inl (e _ _ h)) fun⟨o,h⟩=>.inr ⟨o,e _ _ h⟩
theorem ax.qV(e:ax H H')(h:H a=some u):Rd H' a u:=.inl (e _ _ h)
section
variable{K:Kx}{F F' H H':Hp}
theorem XA.mono(h:XA K F c a)(e:ax F F'):XA K F' c a:=by
 unfold XA at h⊢;split;.simp_all
 .rename_i d;rw[ak d] at h;obtain⟨g,f,b⟩:=h;exact⟨_,f,e _ _ b⟩
mutual
theorem Rep.mono (e : ax F F') : ∀ (d : D) {v : V}, Rep K F d v -> Rep K F' d v
 | .non, v, h => by simpa [Rep] using h
 | .bl b, v, h => by simpa [Rep] using h
 | .int b, v, h => by simpa [Rep] using h
 | .str b, v, h => by simpa [Rep] using h
 | .exc c, v, h => let ⟨a, _, f, g, i⟩ := h;⟨a, _, f, e _ _ g, i.mono e⟩
 | .fd _ l, v, h => let ⟨a, o, _, f, g, j, i⟩ := h;⟨a, o, _, f, e _ _ g, j, aD.mono e l i⟩
 | .obj c _ l, v, h => let ⟨a, o, _, f, g, j, i⟩ := h;⟨a, o, _, f, e _ _ g, j, aD.mono e l i⟩
 | .cB l, v, h => let ⟨a, f, g⟩ := h;⟨a, f, e.seq g⟩
 | .tup l, v, h => let ⟨a, _, f, g, i⟩ := h;⟨a, _, f, e _ _ g, aD.mono e l i⟩
 | .lst l, v, h => let ⟨a, _, f, g, i⟩ := h;⟨a, _, f, e _ _ g, aD.mono e l i⟩
 | .dc _ l, v, h => let ⟨a, _, f, g, j, i⟩ := h;⟨a, _, f, e _ _ g, j, aD.mono e l i⟩
theorem aD.mono (e : ax F F') : ∀ (l : List D) {k : List V}, aD K F l k -> aD K F' l k
 | [], k, h => by simpa only [aD] using h
 | d :: l, k, h => by
  simp only [aD] at h ⊢
  obtain ⟨v, r, f, g, i⟩ := h
  exact ⟨v, r, f, Rep.mono e d g, aD.mono e l i⟩
end
theorem aD.length:∀{l:List D}{vs:List V},aD K F l vs->vs.length=l.length |[],vs,h=>by simp[aD] at h;simp_all |d::l,vs,h=>by obtain⟨v,r,rfl,_,a⟩:=h;simp[aD.length a]
theorem aD.get:∀{l:List D}{vs:List V}{i:Nat}{d:D},aD K F l vs->l[i]?=some d->∃v,vs[i]?=some v/\Rep K F d v |[],vs,i,d,h,e=>by simp at e |x::l,vs,0,d,h,e=>by obtain⟨v,r,rfl,b,a⟩:=h;simp_all |x::l,vs,i+1,d,h,e=>by obtain⟨v,r,rfl,b,a⟩:=h;obtain⟨u,f,c⟩:=aD.get a (i:=i) (d:=d) (by simp_all);simp_all
theorem aD.nil:aD K F [] []:=rfl
theorem aD.cons{d:D}{l:List D}{v:V}{vs:List V}(h1:Rep K F d v)(h2:aD K F l vs):aD K F (d::l) (v::vs):=by simp[aD];grind
theorem aD.append:∀{l:List D}{vs:List V}{b:List D}{a:List V},aD K F l vs->aD K F b a->aD K F (l++b) (vs++a) |[],vs,b,a,h,c=>by simp[aD] at h;simp_all |d::l,vs,b,a,h,c=>by obtain⟨v,r,rfl,f,e⟩:=h;exact .cons f (aD.append e c)
theorem aD.drop:∀{l:List D}{vs:List V}(n:Nat),aD K F l vs->aD K F (l.drop n) (vs.drop n) |l,vs,0,h=>h |[],vs,n+1,h=>by subst h;rfl |d::l,vs,n+1,h=>by obtain⟨v,r,rfl,b,a⟩:=h;exact aD.drop n a
theorem aD.take:∀{l:List D}{vs:List V}(n:Nat),aD K F l vs->aD K F (l.take n) (vs.take n) |l,vs,0,h=>rfl |[],vs,n+1,h=>by subst h;rfl |d::l,vs,n+1,h=>by obtain⟨v,r,rfl,a,b⟩:=h;exact .cons a (aD.take n b)
theorem aD.set:∀{l:List D}{vs:List V}{d:D}{v:V}(i:Nat),aD K F l vs->Rep K F d v->aD K F (l.set i d) (vs.set i v) |[],vs,d,v,i,h,_=>by subst h;rfl |x::l,vs,d,v,0,h,a=>by obtain⟨u,r,rfl,c,b⟩:=h;exact .cons a b |x::l,vs,d,v,i+1,h,a=>by obtain⟨u,r,rfl,c,b⟩:=h;exact .cons c (aD.set i b a)
theorem aD.ints{ns:List Int}:aD K F (ns.map .int) (ns.map .int):=by induction ns with |nil=>rfl |cons a l d=>exact .cons rfl d
end
section
variable (K : Kx)
def Top(F H:Hp):D->V->Prop |.lst l,v=>∃a g,v=.ref a/\Rd H a (.lst g)/\aD K F l g |.dc f l,v=>∃a b,v=.ref a/\H a=some (.dK b)/\b.map (·.1)=f/\aD K F l (b.map (·.2)) |.obj c f l,v=>∃a h e,v=.ref a/\H a=some (.ins (K.ca c) h e)/\e.map (·.1)=f/\aD K F l (e.map (·.2)) |d,v=>Rep K F d v
def Own(F H:Hp):D->Addr->Prop |.lst l,a=>∃f,H a=some (.lst f)/\aD K F l f |.dc e l,a=>∃b,H a=some (.dK b)/\b.map (·.1)=e/\aD K F l (b.map (·.2)) |.obj c e l,a=>∃g d,H a=some (.ins (K.ca c) g d)/\d.map (·.1)=e/\aD K F l (d.map (·.2)) |_,_=>False
mutual
def de (F H : Hp) : Tr -> V -> List Addr -> Prop
 | .d x, v, e => e = [] /\ Rep K F x v
 | .l f, v, e => ∃ a c h, v = .ref a /\ e = a :: h /\ H a = some (.lst c) /\ aW F H f c h
 | .t f, v, e => ∃ a c, v = .ref a /\ F a = some (.tup c) /\ aW F H f c e
def aW (F H : Hp) : List Tr -> List V -> List Addr -> Prop
 | [], c, e => c = [] /\ e = []
 | t :: f, c, e => ∃ v r j g, c = v :: r /\ e = j ++ g /\ de F H t v j /\ aW F H f r g
end
structure Tab(F H:Hp)(a:Addr)(bs:List Addr)(T:Tr):Prop where ok:de K F H T (.ref a) (a::bs)nd:(a::bs).Nodup
def vb(c F H:Hp):Option Sl->Option (Option V)->Prop |some (.v d),s=>∃u,s=some (some u)/\Rep K F d u |some (.o d),s=>∃a,s=some (some (.ref a))/\c a=none/\F a=none/\Own K F H d a |some (.l d),s=>∃a,s=some (some (.ref a))/\c a=none/\F a=none/\Own K F H d a |some (.p T),s=>∃a e,s=some (some (.ref a))/\Tab K F H a e T/\∀b∈a::e,c b=none/\F b=none |_,_=>True
end
def Sl.own:Option Sl->Bool |some (.o _)=>true |some (.l _)=>true |some (.p _)=>true |_=>false
structure aw(K:Kx)(Λ:List (Nat×Addr×HO))(F0 H0 F H:Hp)(σ:St)(δ:En):Prop where
 ext:Ext F0 H0 F H
 len:σ.length=δ.length
 slot:∀i:Nat,vb K H0 F H δ[i]? σ[i]?dist:∀(i j:Nat)(a:Addr),i≠j->Sl.own δ[i]?=true->Sl.own δ[j]?=true->σ[i]?=some (some (.ref a))->σ[j]?=some (some (.ref a))->False
 eZ:∀x∈Λ,(∃d,δ[x.1]?=some (.l d))/\σ[x.1]?=some (some (.ref x.2.1))/\H x.2.1=some x.2.2tabs:∀(i:Nat)(T:Tr),δ[i]?=some (.p T)->∃a bs,σ[i]?=some (some (.ref a))/\Tab K F H a bs T/\(∀b∈a::bs,H0 b=none/\F b=none)/\(∀(j:Nat)(b:Addr),j≠i->Sl.own δ[j]?=true->σ[j]?=some (some (.ref b))->b∉a::bs)/\∀(j:Nat)(T':Tr),j≠i->δ[j]?=some (.p T')->∃a' mO,σ[j]?=some (some (.ref a'))/\Tab K F H a' mO T'/\∀b∈a'::mO,b∉a::bs
section
variable{K:Kx}{Λ:List (Nat×Addr×HO)}{F0 H0 F H F' H' F1 H1:Hp}{σ:St}{δ:En}
theorem Own.mono(g:ax F F')(f:ax H H'):∀{d:D}{a:Addr},Own K F H d a->Own K F' H' d a |.lst l,a,h=>let⟨_,e,b⟩:=h;⟨_,f _ _ e,b.mono g⟩ |.dc _ l,a,h=>let⟨_,e,i,b⟩:=h;⟨_,f _ _ e,i,b.mono g⟩ |.non,_,h=>h.elim |.bl _,_,h=>h.elim |.int _,_,h=>h.elim |.str _,_,h=>h.elim |.tup _,_,h=>h.elim |.cB _,_,h=>h.elim |.exc _,_,h=>h.elim |.fd _ _,_,h=>h.elim |.obj c _ l,a,h=>let⟨_,_,e,i,b⟩:=h;⟨_,_,f _ _ e,i,b.mono g⟩
theorem Own.obj:∀{d:D}{a:Addr},Own K F H d a->∃o,H a=some o |.lst l,a,h=>let⟨_,b,_⟩:=h;⟨_,b⟩ |.dc _ l,a,h=>let⟨_,b,_⟩:=h;⟨_,b⟩ |.non,_,h=>h.elim |.bl _,_,h=>h.elim |.int _,_,h=>h.elim |.str _,_,h=>h.elim |.tup _,_,h=>h.elim |.cB _,_,h=>h.elim |.exc _,_,h=>h.elim |.fd _ _,_,h=>h.elim |.obj c _ l,a,h=>let⟨_,_,b,_⟩:=h;⟨_,b⟩
theorem Own.at(e:H' a=H a):∀{d:D},Own K F H d a->Own K F H' d a |.lst l,h=>let⟨_,b,f⟩:=h;⟨_,e.trans b,f⟩ |.dc _ l,h=>let⟨_,b,g,f⟩:=h;⟨_,e.trans b,g,f⟩ |.non,h=>h.elim |.bl _,h=>h.elim |.int _,h=>h.elim |.str _,h=>h.elim |.tup _,h=>h.elim |.cB _,h=>h.elim |.exc _,h=>h.elim |.fd _ _,h=>h.elim |.obj c _ l,h=>let⟨_,_,b,g,f⟩:=h;⟨_,_,e.trans b,g,f⟩
theorem Rep.top(s:ax F H):∀{d:D}{v:V},Rep K F d v->Top K F H d v |.lst l,v,h=>let⟨a,_,b,f,e⟩:=h;⟨a,_,b,PM.ax.qV s f,e⟩ |.dc _ l,v,h=>let⟨a,_,b,f,e⟩:=h;⟨a,_,b,s _ _ f,e⟩ |.non,_,h=>h |.bl _,_,h=>h |.int _,_,h=>h |.str _,_,h=>h |.tup _,_,h=>h |.cB _,_,h=>h |.exc _,_,h=>h |.fd _ _,_,h=>h |.obj c _ l,v,h=>let⟨a,_,_,b,f,e⟩:=h;⟨a,_,_,b,s _ _ f,e⟩
theorem Own.top:∀{d:D}{a:Addr},Own K F H d a->Top K F H d (.ref a) |.lst l,a,h=>let⟨_,b,e⟩:=h;⟨a,_,rfl,.inl b,e⟩ |.dc _ l,a,h=>let⟨_,b,e⟩:=h;⟨a,_,rfl,b,e⟩ |.non,_,h=>h.elim |.bl _,_,h=>h.elim |.int _,_,h=>h.elim |.str _,_,h=>h.elim |.tup _,_,h=>h.elim |.cB _,_,h=>h.elim |.exc _,_,h=>h.elim |.fd _ _,_,h=>h.elim |.obj c _ l,a,h=>let⟨_,_,b,e⟩:=h;⟨a,_,_,rfl,b,e⟩
theorem Top.mono(b:ax F F')(i:ax H H'):∀{d:D}{v:V},Top K F H d v->Top K F' H' d v |.lst l,v,h=>let⟨a,_,e,f,g⟩:=h;⟨a,_,e,PM.ax.rd i f,g.mono b⟩ |.dc _ l,v,h=>let⟨a,_,e,f,j,g⟩:=h;⟨a,_,e,i _ _ f,j,g.mono b⟩ |.non,_,h=>h |.bl _,_,h=>h |.int _,_,h=>h |.str _,_,h=>h |.tup l,v,h=>Rep.mono b _ h |.cB l,v,h=>Rep.mono b _ h |.exc l,v,h=>Rep.mono b _ h |.fd _ l,v,h=>Rep.mono b _ h |.obj c _ l,v,h=>let⟨a,_,_,e,f,j,g⟩:=h;⟨a,_,_,e,i _ _ f,j,g.mono b⟩
theorem Own.freeze(x:Ext F H F' H')(h0:F' p=none)(h1:H p=none)(o:Own K F' H' d p):∃g,Ext F H g H'/\ax F' g/\Rep K g d (.ref p):=by
  obtain⟨u,i⟩:=o.obj;have h:ax _ (upd _ p u):=ax.upd h0;refine⟨_,⟨x.ff.trans h,x.hh,fun b w q=>?_,fun q w a f=>?_⟩,h,?_⟩
  . by_cases e:b=p;.subst e;rw[cb] at q;simp_all
    .rw[bc e] at q;exact x.fh _ _ q
  .rw[bc (dH f h1)];exact x.nw q w a f
  .cases d with |lst l=> obtain⟨k,a,f⟩:=o;rw[i] at a;cases a;exact⟨p,_,rfl,cb,f.mono h⟩ |dc n l=> obtain⟨k,a,f,j⟩:=o;rw[i] at a;cases a;exact⟨p,_,rfl,cb,f,j.mono h⟩ |obj c n l=> obtain⟨t,k,a,f,j⟩:=o;rw[i] at a;cases a;exact⟨p,_,_,rfl,cb,f,j.mono h⟩ |_=>exact o.elim
mutual
theorem de.mono (e : ax F F') (b : ax H H') : ∀ (T : Tr) {v : V} {fp : List Addr}, de K F H T v fp -> de K F' H' T v fp
 | .d x, v, fp, h => ⟨h.1, Rep.mono e x h.2⟩
 | .l _, v, fp, h => let ⟨a, _, _, f, k, c, g⟩ := h;⟨a, _, _, f, k, b _ _ c, aW.mono e b _ g⟩
 | .t _, v, fp, h => let ⟨a, _, f, c, g⟩ := h;⟨a, _, f, e _ _ c, aW.mono e b _ g⟩
theorem aW.mono (e : ax F F') (b : ax H H') : ∀ (j : List Tr) {i : List V} {fp : List Addr}, aW K F H j i fp -> aW K F' H' j i fp
 | [], i, fp, h => by simpa only [aW] using h
 | t :: j, i, fp, h => by
  simp only [aW] at h ⊢
  obtain ⟨v, r, n, m, f, k, c, g⟩ := h
  exact ⟨v, r, n, m, f, k, de.mono e b t c, aW.mono e b j g⟩
end
mutual
theorem de.obj : ∀ (T : Tr) {v : V} {fp : List Addr}, de K F H T v fp -> ∀ b ∈ fp, ∃ o, H b = some o
 | .d x, v, fp, h, b, c => by
  simp [de] at h
  simp_all
 | .l _, v, fp, h, b, c => by
  obtain ⟨a, g, n, m, i, k, f⟩ := h
  rw [i] at c
  rcases aU.mp c with e | c
  . simp_all
  . exact aW.obj _ f b c
 | .t _, v, fp, h, b, c => let ⟨a, _, _, _, f⟩ := h;aW.obj _ f b c
theorem aW.obj : ∀ (j : List Tr) {g : List V} {fp : List Addr}, aW K F H j g fp -> ∀ b ∈ fp, ∃ o, H b = some o
 | [], g, fp, h, b, c => by
  simp only [aW] at h
  rw [h.2] at c; cases c
 | t :: j, g, fp, h, b, c => by
  simp only [aW] at h
  obtain ⟨v, r, p, q, m, i, k, f⟩ := h
  rw [i] at c
  rcases cO.mp c with c | c
  . exact de.obj t k b c
  . exact aW.obj j f b c
end
mutual
theorem de.at' : ∀ (T : Tr) {v : V} {fp : List Addr}, de K F H T v fp -> (∀ b ∈ fp, H' b = H b) -> de K F H' T v fp
 | .d x, v, fp, h, _ => by simpa [de] using h
 | .l _, v, fp, h, e => by
  obtain ⟨a, g, p, c, m, j, i⟩ := h
  subst m
  exact ⟨a, _, _, c, rfl, (e a (by simp)).trans j, aW.at' _ i fun b f => e b (bK _ f)⟩
 | .t _, v, fp, h, e => let ⟨a, _, c, j, i⟩ := h;⟨a, _, c, j, aW.at' _ i e⟩
theorem aW.at' : ∀ (k : List Tr) {g : List V} {fp : List Addr}, aW K F H k g fp -> (∀ b ∈ fp, H' b = H b) -> aW K F H' k g fp
 | [], g, fp, h, _ => by simpa only [aW] using h
 | t :: k, g, fp, h, e => by
  simp only [aW] at h ⊢
  obtain ⟨v, r, n, o, c, m, j, i⟩ := h
  subst m
  exact ⟨v, r, n, o, c, rfl, de.at' t j fun b f => e b (lL _ f), aW.at' k i fun b f => e b (eO _ f)⟩
end
theorem Tab.mono(b:ax F F')(e:ax H H')(t:Tab K F H a bs T):Tab K F' H' a bs T:=⟨de.mono b e T t.ok,t.nd⟩
theorem Tab.obj(t:Tab K F H a bs T):∀b∈a::bs,∃o,H b=some o:=de.obj T t.ok
theorem Tab.at'(t:Tab K F H a bs T)(e:∀b∈a::bs,H' b=H b):Tab K F H' a bs T:=⟨de.at' T t.ok e,t.nd⟩
theorem vb.mono(e:Ext F H F' H'):∀{x:Option Sl}{s:Option (Option V)},vb K H0 F H x s->vb K H0 F' H' x s |some (.v d),s,h=>let⟨u,f,c⟩:=h;⟨u,f,Rep.mono e.ff d c⟩ |some (.o d),s,h=>let⟨a,f,c,g,j⟩:=h;let⟨o,i⟩:=j.obj;⟨a,f,c,e.nw a o g i,j.mono e.ff e.hh⟩ |some (.l d),s,h=>let⟨a,f,c,g,j⟩:=h;let⟨o,i⟩:=j.obj;⟨a,f,c,e.nw a o g i,j.mono e.ff e.hh⟩ |some (.p T),s,h=>let⟨a,_,f,c,g⟩:=h;⟨a,_,f,c.mono e.ff e.hh,fun b k=>let⟨o,i⟩:=c.obj b k;⟨(g b k).1,e.nw b o (g b k).2 i⟩⟩ |some .no,_,_=>trivial |none,_,_=>trivial
mutual
theorem LP : ∀ (T : Tr) {v : V} {f f' : List Addr}, de K F H T v f -> de K F H T v f' -> f = f'
 | .d x, v, f, f', c, g => by
  simp [de] at c g
  simp_all
 | .l _, v, f, f', c, g => by
  obtain ⟨a, h, C, rfl, rfl, p, j⟩ := c
  obtain ⟨q, o, u, e, rfl, k, i⟩ := g
  cases e
  rw [p] at k
  cases k
  rw [FH _ j i]
 | .t _, v, f, f', c, g => by
  obtain ⟨a, h, rfl, p, j⟩ := c
  obtain ⟨q, o, e, k, i⟩ := g
  cases e
  rw [p] at k
  cases k
  exact FH _ j i
theorem FH : ∀ (m : List Tr) {h : List V} {f f' : List Addr}, aW K F H m h f -> aW K F H m h f' -> f = f'
 | [], h, f, f', c, g => by
  simp only [aW] at c g
  rw [c.2, g.2]
 | t :: m, h, f, f', c, g => by
  simp only [aW] at c g
  obtain ⟨v, r, A, G, rfl, rfl, j, i⟩ := c
  obtain ⟨y, B, E, z, e, rfl, w, s⟩ := g
  cases e
  rw [LP t j w, FH m i s]
end
theorem C6(t:Tab K F H a bs T)(t':Tab K F H a mO T):bs=mO:=(List.cons.inj (LP T t.ok t'.ok)).2
theorem aw.tab(I:aw K Λ F0 H0 F H σ δ)(e:δ[i]?=some (.p T)):∃a bs,σ[i]?=some (some (.ref a))/\Tab K F H a bs T/\(∀b∈a::bs,H0 b=none/\F b=none)/\(∀(j:Nat)(b:Addr),j≠i->Sl.own δ[j]?=true->σ[j]?=some (some (.ref b))->b∉a::bs)/\∀(j:Nat)(d:Tr),j≠i->δ[j]?=some (.p d)->∃c mO,σ[j]?=some (some (.ref c))/\Tab K F H c mO d/\∀b∈c::mO,b∉a::bs:=I.tabs i T e
theorem aw.fV{d:En}{c:St}(I:aw K Λ F0 H0 F H σ δ)(h1:∀(i:Nat)(T:Tr),d[i]?=some (.p T)->δ[i]?=some (.p T)/\c[i]?=σ[i]?) (h2:∀(i:Nat)(a:Addr)(bs:List Addr)(T:Tr),δ[i]?=some (.p T)->σ[i]?=some (some (.ref a))->Tab K F H a bs T->(∀b∈a::bs,H0 b=none/\F b=none)->(∀(j:Nat)(b:Addr),j≠i->Sl.own δ[j]?=true->σ[j]?=some (some (.ref b))->b∉a::bs)->Tab K F' H' a bs T/\∀b∈a::bs,F' b=none) (h3:∀(i j:Nat)(T:Tr)(a b:Addr)(bs:List Addr),δ[i]?=some (.p T)->σ[i]?=some (some (.ref a))->Tab K F H a bs T->j≠i->Sl.own d[j]?=true->c[j]?=some (some (.ref b))->(Sl.own δ[j]?=true/\σ[j]?=some (some (.ref b)))\/b∉a::bs): ∀(i:Nat)(T:Tr),d[i]?=some (.p T)->∃a bs,c[i]?=some (some (.ref a))/\Tab K F' H' a bs T/\(∀b∈a::bs,H0 b=none/\F' b=none)/\(∀(j:Nat)(b:Addr),j≠i->Sl.own d[j]?=true->c[j]?=some (some (.ref b))->b∉a::bs)/\∀(j:Nat)(q:Tr),j≠i->d[j]?=some (.p q)->∃h mO,c[j]?=some (some (.ref h))/\Tab K F' H' h mO q/\∀b∈h::mO,b∉a::bs:=by
  intro i T Q;obtain⟨n,N⟩:=h1 i T Q;obtain⟨a,bs,m,v,s,u,E⟩:=I.tab n;obtain⟨f,l⟩:=h2 i a _ T n m v s u;refine⟨a,_,N.trans m,f,fun b e=>⟨(s b e).1,l b e⟩,fun j b g y B e=>?_,fun j q g L=>?_⟩
  . rcases h3 i j T a b _ n m v g y B with⟨w,z⟩|o;.exact u j b g w z e
    .exact o e
  .obtain⟨r,C⟩:=h1 j _ L;obtain⟨h,mO,k,t,G⟩:=E j _ g r;obtain⟨S,J,f,l,x,A,_⟩:=I.tab r;rw[k] at f;cases f;have M:=C6 l t;subst M;exact⟨_,_,C.trans k,(h2 j _ _ _ r k t x A).1,G⟩
theorem LQ(e:Ext F H F' H')(t:Tab K F H a bs T)(f:∀b∈a::bs,H0 b=none/\F b=none):Tab K F' H' a bs T/\∀b∈a::bs,F' b=none:= ⟨t.mono e.ff e.hh,fun b c=>let⟨o,d⟩:=t.obj b c;e.nw b o (f b c).2 d⟩
theorem aw.grow(I:aw K Λ F0 H0 F H σ δ)(e:Ext F H F' H'):aw K Λ F0 H0 F' H' σ δ:= ⟨I.ext.trans e,I.len,fun i=>(I.slot i).mono e,I.dist,fun x k=>let⟨d,c,l⟩:=I.eZ x k;⟨d,c,e.hh _ _ l⟩,I.fV (fun i T h=>⟨h,rfl⟩) (fun i a n T _ _ t f _=>LQ e t f) fun i j T a b n _ _ _ _ g m=>.inl ⟨g,m⟩⟩
theorem aw.same(I:aw K Λ F0 H0 F H σ δ):ax F H:=I.ext.fh
theorem Ext.base(a:Ext F0 H0 F1 H1)(b:Ext F1 H0 F' H'):Ext F0 H0 F' H':= ⟨a.ff.trans b.ff,b.hh,b.fh,fun p o d c=>b.nw p o (a.nw p o d c) c⟩
theorem aw.up(I:aw K Λ F0 H0 F H σ δ):aw K Λ F H0 F H σ δ:= ⟨⟨.refl _,I.ext.hh,I.ext.fh,fun p o a b=>a⟩,I.len,I.slot,I.dist,I.eZ,I.tabs⟩
theorem aw.down(a:Ext F0 H0 F1 H1)(I:aw K Λ F1 H0 F H σ δ):aw K Λ F0 H0 F H σ δ:= ⟨a.base I.ext,I.len,I.slot,I.dist,I.eZ,I.tabs⟩
theorem aw.put(I:aw K Λ F0 H0 F H σ δ)(A:∃x,δ[i]?=some x/\∀d,x≠.l d)(r:Rep K F d v):aw K Λ F0 H0 F H (σ.set i (some v)) (δ.set i (.v d)):=by
  obtain⟨x,z,J⟩:=A;have o:=(b_.mp z).1;have p:i<σ.length:=by rwa[I.len]
  refine⟨I.ext,by simp[I.len],fun j=>?_,fun j k a q c m g w=>?_,fun y L=>?_,I.fV (fun k C h=>by
      by_cases e:i=k;.simp_all
      .rw[aI e] at h;exact⟨h,aI e⟩) (fun _ _ _ _ _ _ t f _=>⟨t,fun b B=>(f b B).2⟩) fun k j C a b Q _ _ _ _ s N=>.inl (by
      by_cases e:i=j;.subst e;rw[a_ o] at s;cases s
      .simp_all)⟩
  . by_cases e:i=j;.subst e;rw[a_ o,a_ p];exact⟨v,rfl,r⟩
    .rw[aI e,aI e];exact I.slot j
  . have u:∀k,Sl.own (δ.set i (.v d))[k]?=true->i≠k:=by rintro k h rfl;rw[a_ o] at h;cases h
    have G:=u j c;have E:=u k m;rw[aI G] at c g;rw[aI E] at m w;exact I.dist j k a q c m g w
  . obtain⟨⟨M,c⟩,m,g⟩:=I.eZ y L;have n:i≠y.1:=by intro e;rw[<-e,z] at c;exact J _ (dO c)
    exact⟨⟨M,by simp_all⟩,by rwa[aI n],g⟩
theorem aw.FI(I:aw K Λ F0 H0 F H σ δ)(Y:∃x,δ[i]?=some x/\∀d,x≠.l d)(e:Ext F H F' H')(h0:F' p=none)(h1:H p=none)(o:Own K F' H' d p): aw K Λ F0 H0 F' H' (σ.set i (some (.ref p))) (δ.set i (.o d)):=by
  obtain⟨x,M,X⟩:=Y;have hi:=(b_.mp M).1;have c:i<σ.length:=by rwa[I.len]
  have fresh:∀k,Sl.own δ[k]?=true->σ[k]?≠some (some (V.ref p)):=fun k w e=>by have z:=I.slot k;cases q:δ[k]? with |none=>rw[q] at w;cases w |some y=> rw[q] at w z;cases y with |no=>cases w |v d=>cases w |o d=> obtain⟨a,s,_,_,G⟩:=z;rw[e] at s;obtain⟨u,C⟩:=G.obj;simp_all |l d=> obtain⟨a,s,_,_,G⟩:=z;obtain⟨u,C⟩:=G.obj;simp_all |p Q=> obtain⟨a,U,s,z2,_⟩:=z;rw[e] at s;cases s;obtain⟨u,C⟩:=z2.obj p (by simp);simp_all
  have J:=I.grow e;refine⟨J.ext,by simp[I.len],fun j=>?_,fun j k a A m B g r=>?_,fun y Z=>?_,I.fV (fun k Q h=>by
      by_cases e:i=k;.simp_all
      .simp_all) (fun k a U T _ _ t f _=>LQ e t f) fun k j Q a b U _ _ t _ N E=>by
      by_cases e:i=j;.subst e;rw[a_ c] at E;cases E;refine .inr fun hb=>?_;obtain⟨u,C⟩:=t.obj p hb;rw[h1] at C;cases C
      .rw[aI e] at N E;exact .inl ⟨N,E⟩⟩
  . by_cases e:i=j;.subst e;rw[a_ hi,a_ c];exact⟨p,rfl,I.ext.hh.free h1,h0,o⟩
    .rw[aI e,aI e];exact J.slot j
  . by_cases L:i=j;.subst L;rw[a_ c] at g;cases g;rw[aI A] at B r;exact fresh k B r
    . by_cases S:i=k;.subst S;rw[a_ c] at r;cases r;rw[aI L] at m g;exact fresh j m g
      .rw[aI L] at m g;rw[aI S] at B r;exact I.dist j k a A m B g r
  . obtain⟨⟨d',m⟩,B,g⟩:=J.eZ y Z;have n:i≠y.1:=by intro e;rw[<-e,M] at m;exact X _ (dO m)
    exact⟨⟨_,by rwa[aI n]⟩,by rwa[aI n],g⟩
theorem aw.chg(I:aw K Λ F0 H0 F H σ δ)(c:δ[i]?=some (.o d))(B:σ[i]?=some (some (.ref a)))(o:Own K F (upd H a u) d' a): aw K Λ F0 H0 F (upd H a u) σ (δ.set i (.o d')):=by
  have X:=(b_.mp c).1;have z:=I.slot i;rw[c] at z;obtain⟨a',Q,Y,N,z4⟩:=z;rw[B] at Q;cases Q;have g:∀(k:Nat)(b:Addr),i≠k->Sl.own _=true->σ[k]?=some (some _)->b≠a:=fun k b hk h1 h2 e=>by subst e;exact I.dist i k b hk (by rw[c];rfl) h1 B h2
  refine⟨⟨I.ext.ff,fun b w q=>?_,fun b w q=>?_,I.ext.nw⟩,by simp[I.len],fun j=>?_,fun j k b G m A g3 g4=>?_,fun y hy=>?_,I.fV (fun k U h=>by
      by_cases e:i=k;.subst e;rw[a_ X] at h;cases h
      .rw[aI e] at h;simp_all) (fun k r Z T m A t f dj=>by
      have e:i≠k:=fun e=>by simp_all
      exact⟨t.at' fun b s=>bc fun J=>dj i a e (by rw[c];rfl) B (J▸s),fun b s=>(f b s).2⟩) fun k j U r b Z _ _ _ _ S hs=>.inl (by
      by_cases e:i=j;.subst e;exact⟨by rw[c];rfl,hs⟩
      .rw[aI e] at S;exact⟨S,hs⟩)⟩;.rw[bc (dH q Y)];exact I.ext.hh b w q
  .rw[bc (dH q N)];exact I.ext.fh b w q
  . by_cases e:i=j;.subst e;rw[a_ X];exact⟨a,B,Y,N,o⟩
    .rw[aI e];have w:=I.slot j;cases q:δ[j]? with |none=>trivial |some y=> rw[q] at w;cases y with |no=>trivial |v d=>exact w |o d=> obtain⟨b,x,L,E,C⟩:=w;exact⟨b,x,L,E,C.at (bc (g j b e (by rw[q];rfl) x))⟩ |l d=> obtain⟨b,x,L,E,C⟩:=w;exact⟨b,x,L,E,C.at (bc (g j b e (by rw[q];rfl) x))⟩ |p U=> obtain⟨r,Z,t1,t2,t3,t4,t5⟩:=I.tab q;exact⟨r,_,t1,t2.at' fun b s=>bc fun J=>t4 i a e (by rw[c];rfl) B (J▸s),t3⟩
  . have M:∀k:Nat,Sl.own (δ.set i (.o d'))[k]?=true->Sl.own δ[k]?=true:=by
      intro k h;by_cases e:i=k;.subst e;rw[c];rfl
      .rwa[aI e] at h
    exact I.dist j k b G (M j m) (M k A) g3 g4
  . obtain⟨⟨d2,m⟩,A,g3⟩:=I.eZ y hy;have n:i≠y.1:=by intro e;rw[<-e,c] at m;cases m
    exact⟨⟨_,by rwa[aI n]⟩,A,by rwa[bc (g _ _ n (by rw[m];rfl) A)]⟩
theorem aw.jI{i:Nat}{d:D}(I:aw K Λ F0 H0 F H σ δ)(A:δ[i]?=some (.o d)):∃F',ax F F'/\aw K Λ F0 H0 F' H σ (δ.set i (.v d)):=by
  have Q:i<δ.length:=(b_.mp A).1;have z:=I.slot i;rw[A] at z;obtain⟨a,M,z2,z3,E⟩:=z;obtain⟨u,S⟩:=E.obj;have m:ax F (upd F a u):=ax.upd z3;have sl:∀j:Nat,i≠j->Sl.own δ[j]?=true->σ[j]?≠some (some (V.ref a)):=fun j hj h e=>I.dist i j a hj (by rw[A];rfl) h M e;refine⟨upd F a u,m,⟨I.ext.ff.trans m,I.ext.hh,fun b w q=>?_,fun p o h1 g=>?_⟩,by simp[I.len],fun j=>?_,fun j k b Z J N X g4=>?_,fun y hy=>?_,I.fV (fun k ll h=>by
      by_cases e:i=k;.subst e;rw[a_ Q] at h;cases h
      .simp_all) (fun k r bs T J N t f dj=>by
      have e:i≠k:=fun e=>by simp_all
      exact⟨t.mono m (.refl _),fun b x=>by rw[bc (show b≠a from fun B=>dj i a e (by rw[A];rfl) M (B▸x))];exact(f b x).2⟩) fun k j ll r b bs _ _ _ _ ho m=>.inl (by
      by_cases e:i=j;.subst e;rw[a_ Q] at ho;cases ho
      .simp_all)⟩
  . by_cases e:b=a;.subst e;rw[cb] at q;cases q;exact S
    .rw[bc e] at q;exact I.ext.fh _ _ q
  .rw[bc (dH g z2)];exact I.ext.nw p o h1 g
  . by_cases e:i=j;.subst e;rw[a_ Q];refine⟨.ref a,M,?_⟩;cases d with |lst l=> obtain⟨G,g,C⟩:=E;rw[S] at g;cases g;exact⟨a,G,rfl,cb,C.mono m⟩ |dc ks l=> obtain⟨G,g,C,Y⟩:=E;rw[S] at g;cases g;exact⟨a,G,rfl,cb,C,Y.mono m⟩ |obj c ks l=> obtain⟨dx,G,g,C,Y⟩:=E;rw[S] at g;cases g;exact⟨a,dx,G,rfl,cb,C,Y.mono m⟩ |_=>exact E.elim
    .rw[aI e];have w:=I.slot j;cases q:δ[j]? with |none=>trivial |some y=> rw[q] at w;cases y with |no=>trivial |v d=>obtain⟨v,s,L⟩:=w;exact⟨v,s,Rep.mono m d L⟩ |o d=> obtain⟨b,s,L,w3,U⟩:=w;exact⟨b,s,L,by rwa[bc (show b≠a from fun B=>sl j e (by rw[q];rfl) (by grind))],U.mono m (.refl _)⟩ |p ll=> obtain⟨r,bs,t1,t2,t3,t4,t5⟩:=I.tab q;exact⟨r,_,t1,t2.mono m (.refl _),fun b x=>⟨(t3 b x).1,by rw[bc (show b≠a from fun B=>t4 i a e (by rw[A];rfl) M (B▸x))];exact(t3 b x).2⟩⟩ |l d=> obtain⟨b,s,L,w3,U⟩:=w;exact⟨b,s,L,by rwa[bc (fun B=>sl j e (by rw[q];rfl) (by rw[s,B]))],U.mono m (.refl _)⟩
  . have ow:∀k:Nat,Sl.own (δ.set i (.v d))[k]?=true->Sl.own δ[k]?=true:=by
      intro k h;by_cases e:i=k;.subst e;rw[a_ Q] at h;cases h
      .rwa[aI e] at h
    exact I.dist j k b Z (ow j J) (ow k N) X g4
  . obtain⟨⟨d2,J⟩,N,X⟩:=I.eZ y hy;have n:i≠y.1:=by intro e;rw[<-e,A] at J;cases J
    exact⟨⟨_,by rwa[aI n]⟩,N,X⟩
end
abbrev cX:=Xc->Hp->Hp->Value->Option Addr->Prop
def eJ{α:Type}(E:St->XK)(XO:cX)(σ:St)(F H:Hp)(P:α->Hp->Hp->Prop):R α->Prop |.no=>False |.ok a=>∀d b,Ext F H d b->P a d b |.ex x=>∀C c d b,Ext F H d b->XO x d b C c->E σ C c b
section
variable{E:St->XK}{XO:cX}{σ:St}{F H F1 H1:Hp}{α β:Type}{P P':α->Hp->Hp->Prop}
theorem eJ.mono(e:Ext F H F1 H1):∀{r:R α},eJ E XO σ F H P r->eJ E XO σ F1 H1 P r |.no,h=>h |.ok _,h=>fun d c a=>h _ _ (e.trans a) |.ex _,h=>fun C b d c a x=>h C _ _ _ (e.trans a) x
theorem eJ.imp(i:∀a F1 H1,Ext F H F1 H1->P a F1 H1->P' a F1 H1):∀{r:R α},eJ E XO σ F H P r->eJ E XO σ F H P' r |.no,h=>h |.ok _,h=>fun c d b=>i _ _ _ b (h _ _ b) |.ex _,h=>h
theorem eJ.bind{P:β->Hp->Hp->Prop}:∀{r:R α},eJ E XO σ F H P (r.bind f)->eJ E XO σ F H (fun a F1 H1=>eJ E XO σ F1 H1 P (f a)) r |.no,h=>h |.ok _,h=>fun c d b=>eJ.mono b h |.ex _,h=>h
end
inductive um(T:D->V->Prop):List D->List V->Prop where |nil:um T [] [] |cons{d:D}{v:V}{ds:List D}{vs:List V}:T d v->um T ds vs->um T (d::ds) (v::vs)
section
variable(K:Kx)(XO:cX)(E:St->XK)
def SE(t:TE)(m:En->R D):Prop:=∀e g h F H a b Q,aw K e g h F H a b->eJ E XO a F H (fun d f c=>∀v,Rep K f d v->Q v c) (m b)->t a H Q
def lV(t:TE)(m:En->R D):Prop:=∀h g e F H a c Q,aw K h g e F H a c->eJ E XO a F H (fun d f b=>∀v,Top K f b d v->Q v b) (m c)->t a H Q
def iQ(t:TE)(m:En->R D):Prop:=∀h g f F H a c Q,aw K h g f F H a c->eJ E XO a F H (fun d e b=>∀p,e p=none->H p=none->Own K e b d p->Q (.ref p) b) (m c)->t a H Q
def ST(t:TT)(m:En->R Bool):Prop:=∀g e d F H a c Q,aw K g e d F H a c->eJ E XO a F H (fun b _ f=>Q b f) (m c)->t a H Q
def SA(t:TA)(m:En->R (List D)):Prop:=∀e g i F H a c Q,aw K e g i F H a c->eJ E XO a F H (fun h f d=>∀b,aD K f h b->Q b d) (m c)->t a H Q
def uo(t:TA)(m:En->R (List D)):Prop:=∀i g h F H a c Q,aw K i g h F H a c->eJ E XO a F H (fun e f b=>∀d,um (Top K f b) e d->Q d b) (m c)->t a H Q
end
section
variable{K:Kx}{XO:cX}{E:St->XK}{t ta tb te:TE}{m ma mb me:En->R D}
theorem SE.r(h:SE K XO E t m):lV K XO E t m:=fun g i f F H b c Q I a=>h _ _ _ F H _ _ Q I (a.imp fun d k j e p v r=>p v (r.top e.fh))
theorem iQ.e(h:iQ K XO E t m):SE K XO E t m:=fun i k v F H w j Q I a=>h _ _ _ F H _ _ Q I (by cases q:m _ with |no=>rwa[q] at a |ex x=>rwa[q] at a |ok d=> rw[q] at a;intro s n e p f c o;obtain⟨g,b,l,r⟩:=o.freeze e f c;exact a _ _ b _ r)
def ag(i:Nat)(δ:En):R D:=match δ[i]? with|some (.v d)=>.ok d|_=>.no
def aj(i:Nat)(δ:En):R D:=match δ[i]? with|some (.v d)=>.ok d|some (.o d)=>.ok d|some (.l d)=>.ok d|_=>.no
theorem aA:SE K XO E (bZ i) (ag i):=by
 intro h e j F H f g Q I a;unfold ag at a;have z:=I.slot i;split at a;.rename_i d q;rw[q] at z;obtain⟨u,b,c⟩:=z;exact⟨u,b,a F H (.refl I.same) u c⟩
 .exact a.elim
theorem ay:lV K XO E (bZ i) (aj i):=by
 intro h e j F H f g Q I a;unfold aj at a;have z:=I.slot i;split at a;.rename_i d q;rw[q] at z;obtain⟨u,b,c⟩:=z;exact⟨u,b,a F H (.refl I.same) u (c.top I.same)⟩
 .rename_i d q;rw[q] at z;obtain⟨u,b,_,_,c⟩:=z;exact⟨_,b,a F H (.refl I.same) _ c.top⟩
 .rename_i d q;rw[q] at z;obtain⟨u,b,_,_,c⟩:=z;exact⟨_,b,a F H (.refl I.same) _ c.top⟩
 .exact a.elim
def mC(d:D)(_:En):R D:=.ok d
theorem aL:SE K XO E (tC (.int i)) (mC (.int i)):=fun f b d F H e c Q I a=>a F H (.refl I.same) _ rfl
theorem pV:SE K XO E (tC (.bl i)) (mC (.bl i)):=fun f b d F H e c Q I a=>a F H (.refl I.same) _ rfl
theorem wg:SE K XO E (tC .non) (mC .non):=fun f b d F H e c Q I a=>a F H (.refl I.same) _ rfl
theorem Ba:SE K XO E (tC (.str i)) (mC (.str i)):=fun f b d F H e c Q I a=>a F H (.refl I.same) _ rfl
def R.of{α:Type}:Option α->R α |some a=>.ok a |none=>.no
@[simp] theorem R.aF(a:α):R.of (some a)=.ok a:=rfl
@[simp] theorem R.of_none:R.of (none:Option α)=.no:=rfl
def m2(f:D->D->Option D)(ma mb:En->R D)(δ:En):R D:=(ma δ).bind fun x=>(mb δ).bind fun y=>R.of (f x y)
def m1(f:D->Option D)(ma:En->R D)(δ:En):R D:=(ma δ).bind fun x=>R.of (f x)
@[simp] theorem fk{ma mb:En->R D}:m2 f ma mb δ=(ma δ).bind fun x=>(mb δ).bind fun y=>R.of (f x y):=rfl
@[simp] theorem vd{ma:En->R D}:m1 f ma δ=(ma δ).bind fun x=>R.of (f x):=rfl
variable(K) in
def SR(r:R2)(f:D->D->Option D):Prop:=∀F H x y b a d Q,ax F H->Top K F H b x->Top K F H a y->f b a=some d->(∀v e c,Ext F H e c->Rep K e d v->Q v c)->r x y H Q
variable(K) in
def LR(r:R2)(f:D->D->Option D):Prop:=∀F H x y e c d Q,ax F H->Top K F H e x->Top K F H c y->f e c=some d->(∀p a b,Ext F H a b->a p=none->H p=none->Own K a b d p->Q (.ref p) b)->r x y H Q
theorem aG(j:SR K r f)(l:lV K XO E ta ma)(i:lV K XO E tb mb):SE K XO E (m8 r ta tb) (m2 f ma mb):=by intro o G B F H z s Q I a;refine l _ _ _ F H _ _ _ I (a.bind.imp fun A p w h g x k=>(i _ _ _ _ _ _ _ _ (I.grow h) (g.bind.imp fun J M L c b y n=>?_)));cases q:f _ _ with |none=>rw[q] at b;exact b.elim |some d=> rw[q] at b;exact j _ _ x y _ _ d Q c.fh (k.mono c.ff c.hh) n q fun v C u e r=>b _ _ e v r
theorem nh(j:LR K r f)(n:lV K XO E ta ma)(i:lV K XO E tb mb):iQ K XO E (m8 r ta tb) (m2 f ma mb):=by intro v M G F H J w Q I a;refine n _ _ _ F H _ _ _ I (a.bind.imp fun C B A g h x l=>(i _ _ _ _ _ _ _ _ (I.grow g) (h.bind.imp fun N T S c b y k=>?_)));cases q:f _ _ with |none=>rw[q] at b;exact b.elim |some d=> rw[q] at b;exact j _ _ x y _ _ d Q c.fh (l.mono c.ff c.hh) k q fun p L z e s u o=>b _ _ e p s (g.hh.free (c.hh.free u)) o
variable(K) in
def SU(r:V->Hp->VK->Prop)(f:D->Option D):Prop:=∀F H x b d Q,ax F H->Top K F H b x->f b=some d->(∀v a c,Ext F H a c->Rep K a d v->Q v c)->r x H Q
theorem rV(c:SU K r f)(h:lV K XO E ta ma):SE K XO E (KI r ta) (m1 f ma):=by intro w l p F H u j Q I a;refine h _ _ _ F H _ _ _ I (a.bind.imp fun s o n g b x i=>?_);cases q:f _ with |none=>rw[q] at b;exact b.elim |some d=> rw[q] at b;exact c _ _ x _ d Q g.fh i q fun v k y e r=>b _ _ e v r
def af(_:En):R (List D):=.ok []
def ai(ma:En->R D)(a:En->R (List D))(δ:En):R (List D):=(ma δ).bind fun x=>(a δ).bind fun l=>.ok (x::l)
theorem cg:SA K XO E cA af:=fun f b d F H e c Q I a=>a F H (.refl I.same) _ .nil
theorem cz(d:SE K XO E ta ma)(e:SA K XO E g k):SA K XO E (eG ta g) (ai ma k):=by intro p q o F H r n Q I a;refine d _ _ _ F H _ _ _ I (a.bind.imp fun l z w f i x j=>(e _ _ _ _ _ _ _ _ (I.grow f) (i.bind.imp fun s v u b h y c=>?_)));exact h _ _ (.refl b.fh) _ (.cons (Rep.mono b.ff _ j) c)
theorem ve:uo K XO E cA af:=fun f b d F H e c Q I a=>a F H (.refl I.same) _ .nil
theorem uq(d:lV K XO E ta ma)(e:uo K XO E g k):uo K XO E (eG ta g) (ai ma k):=by intro p q o F H r n Q I a;refine d _ _ _ F H _ _ _ I (a.bind.imp fun l z w f i x j=>(e _ _ _ _ _ _ _ _ (I.grow f) (i.bind.imp fun s v u b h y c=>?_)));exact h _ _ (.refl b.fh) _ (.cons (j.mono b.ff b.hh) c)
def cf(ml:En->R (List D))(δ:En):R D:=(ml δ).bind fun l=>cN (l.length<=sizeLine) (.ok (.tup l)) .no
def bC(ml:En->R (List D))(δ:En):R D:=(ml δ).bind fun l=>cN (l.length<=sizeLine) (.ok (.lst l)) .no
theorem pX(h:SA K XO E e ml):SE K XO E (sZ e) (cf ml):=by
 intro g i k F H o f Q I a;refine h _ _ _ F H _ _ _ I (a.bind.imp fun q n l c b j r=>?_);unfold cN at b;split at b;.exact⟨by rwa[r.length],fun p d=>b _ _ (.new c.fh d) _ ⟨p,_,rfl,cb,r.mono (ax.upd (c.fh.free d))⟩⟩
 .exact b.elim
theorem jm(h:SA K XO E e ml):iQ K XO E (uW e) (bC ml):=by
 intro g i k F H o f Q I a;refine h _ _ _ F H _ _ _ I (a.bind.imp fun q n l c b j r=>?_);unfold cN at b;split at b;.refine⟨by rwa[r.length],fun p d=>b _ _ (.dY c.fh d) _ (c.fh.free d) (c.hh.free d) ⟨_,cb,r⟩⟩
 .exact b.elim
theorem iR:iQ K XO E Lu (mC (.dc [] [])):=fun f g d F H e c Q I a p b=>a F _ (.dY I.same b) p (I.same.free b) b ⟨_,cb,rfl,rfl⟩
def FJ:D->Option Bool |.bl b=>some b |_=>none
def bf(me:En->R D)(δ:En):R Bool:=(me δ).bind fun d=>R.of (FJ d)
theorem dU(h:SE K XO E te me):ST K XO E (v7 te) (bf me):=by intro i k g F H o f Q I a;refine h _ _ _ F H _ _ _ I (a.bind.imp fun d n l e c v r=>?_);cases d with |bl b=>exact⟨b,r,c _ _ (.refl e.fh)⟩ |_=>exact c.elim
theorem kF(h:SE K XO E te me):ST K XO E (tB te) (bf me):=dU h
variable{tA uQ:TT}{nA nB:En->R Bool}
def k_(nA nB:En->R Bool)(δ:En):R Bool:=(nA δ).bind fun b=>if b=true then nB δ else .ok false
def oC(nA nB:En->R Bool)(δ:En):R Bool:=(nA δ).bind fun b=>if b=true then .ok true else nB δ
def jn(nA:En->R Bool)(δ:En):R Bool:=(nA δ).bind fun b=>.ok (!b)
theorem FK(h:ST K XO E tA nA)(h':ST K XO E uQ nB):ST K XO E (uR tA uQ) (k_ nA nB):=by intro g i f F H l e Q I a;refine h _ _ _ F H _ _ _ I (a.bind.imp fun b k j c d=>?_);cases b with |true=>exact h' _ _ _ _ _ _ _ _ (I.grow c) d |false=>exact d _ _ (.refl c.fh)
theorem yV(h:ST K XO E tA nA)(h':ST K XO E uQ nB):ST K XO E (Kn tA uQ) (oC nA nB):=by intro g i f F H l e Q I a;refine h _ _ _ F H _ _ _ I (a.bind.imp fun b k j c d=>?_);cases b with |false=>exact h' _ _ _ _ _ _ _ _ (I.grow c) d |true=>exact d _ _ (.refl c.fh)
theorem yW(h:ST K XO E tA nA):ST K XO E (Az tA) (jn nA):=fun g i f F H l e Q I a=>h _ _ _ F H _ _ _ I (a.bind.imp fun b k j c d=>d _ _ (.refl c.fh))
def yX(ma mb:En->R D)(δ:En):R D:=(ma δ).bind fun d=>(R.of (FJ d)).bind fun b=>if b=true then mb δ else .ok (.bl false)
theorem FN(h:SE K XO E ta ma)(h':SE K XO E tb mb):SE K XO E (Ko ta tb) (yX ma mb):=by intro i k g F H o f Q I a;refine h _ _ _ F H _ _ _ I (a.bind.imp fun d n l e c v r=>?_);cases d with
 |bl b=> refine⟨b,r,?_⟩;cases b with |true=>exact h' _ _ _ _ _ _ _ _ (I.grow e) c |false=>exact c _ _ (.refl e.fh) _ rfl
 |_=>exact c.elim
def FO(n:En->R Bool)(ma mb:En->R D)(δ:En):R D:=(n δ).bind fun b=>if b=true then ma δ else mb δ
theorem UB(h:ST K XO E tA nA)(e:SE K XO E ta ma)(f:SE K XO E tb mb):SE K XO E (Kr tA ta tb) (FO nA ma mb):=by intro o i l F H n g Q I a;refine h _ _ _ F H _ _ _ I (a.bind.imp fun b k j d c=>?_);cases b with |true=>exact e _ _ _ _ _ _ _ _ (I.grow d) c |false=>exact f _ _ _ _ _ _ _ _ (I.grow d) c
def qA(K:Kx)(XO:cX)(f:List D->R D):Sp:=fun b H Q E=>∃F a,ax F H/\aD K F a b/\eJ (fun _=>E) XO [] F H (fun d e c=>∀v,Rep K e d v->Q v c) (f a)
def oE(f:List D->R D)(ml:En->R (List D))(δ:En):R D:=(ml δ).bind f
def R.i1{α:Type}:R α->R α |.ex _=>.no |r=>r
@[simp] theorem R.bA(a:α):(R.ok a).i1=.ok a:=rfl
def bw(f:List D->R D)(ml:En->R (List D))(δ:En):R D:=(ml δ).bind fun l=>(f l).i1
theorem eJ.any{E c:St->XK}(h:eJ E XO σ F H P r.i1):eJ c XO b F H P r:=by cases r with |no=>exact h |ok a=>exact h |ex x=>exact h.elim
theorem yY(h:SA K XO E e ml):SE K XO E (FD (qA K XO f) E e) (oE f ml):=by intro k l i F H u g Q I a;refine h _ _ _ F H _ _ _ I (a.bind.imp fun o s p c b n r=>⟨_,_,c.fh,r,?_⟩);cases q:f _ with |no=>rwa[q] at b |ok d=>rwa[q] at b |ex x=>rwa[q] at b
theorem gG(h:SA K XO E d ml):SE K XO E (rS (qA K XO f) [] k d) (bw f ml):=by intro i j n F H q e Q I a;refine h _ _ _ F H _ _ _ I (a.bind.imp fun g p o b c l r=>⟨_,_,b.fh,by simp_all,c.any⟩)
variable(K) in
def SG(g:TG)(b:D->En->Option En):Prop:=∀i j e F H f h d v c Q,aw K i j e F H f h->Rep K F d v->b d h=some c->(∀a,aw K i j e F H a c->Q a H)->g v f H Q
variable(K) in
def C7(g:yM)(b:List D->En->Option En):Prop:=∀i j e F H f h d v c Q,aw K i j e F H f h->aD K F d v->b d h=some c->(∀a,aw K i j e F H a c->Q a H)->g v f H Q
def aQ(i:Nat)(d:D)(δ:En):Option En:=match δ[i]? with|none=>none|some (.l _)=>none|some _=>some (δ.set i (.v d))
def dC(i:Nat)(d:D)(δ:En):Option En:=match δ[i]? with|some .no=>some (δ.set i (.v d))|_=>none
def eL(l:List D)(δ:En):Option En:=match l with|[]=>some δ|_=>none
def fA(b:D->En->Option En)(c:List D->En->Option En)(l:List D)(δ:En):Option En:=match l with|d::r=>(b d δ).bind (c r)|[]=>none
def dZ(n:Nat)(c:List D->En->Option En)(d:D)(δ:En):Option En:=match d with|.tup l=>if l.length=n then c l δ else none|_=>none
theorem b8:SG K (qP i) (aQ i):=by
 intro l h g F H k f d v c Q I r e q;unfold aQ at e;split at e;.cases e
 .cases e
 .rename_i x b a;cases e;exact q _ (I.put ⟨x,a,fun j z=>b _ (by rw[z])⟩ r)
theorem i7:SG K (qP i) (dC i):=by
 intro j c f F H g h d v b Q I r e q;unfold dC at e;split at e;.rename_i a;cases e;exact q _ (I.put ⟨_,a,fun k z=>by cases z⟩ r)
 simp_all
theorem tu:C7 K AG eL:=by intro j f h F H i g d v c Q I r e q;cases d with |nil=>cases e;exact⟨r,q _ I⟩ |cons x l=>cases e
theorem kS(A:SG K g b)(f:C7 K h c):C7 K (Kt g h) (fA b c):=by intro J B C F H G i d v y Q I r e q;cases d with |nil=>cases e |cons x l=> obtain⟨u,w,rfl,n,k⟩:=r;change(b x _).bind _=some _ at e;cases z:b x i with |none=>simp_all |some s=> rw[z] at e;exact⟨u,w,rfl,A _ _ _ F H _ _ x u _ _ I n z fun j o=>f _ _ _ F H _ _ l w _ Q o k e q⟩
theorem tw(f:C7 K h c):SG K (AH K.f n h) (dZ n c):=by intro w p o F H u k d v j Q I r e q;cases d with
 |tup l=>
  obtain⟨a,s,rfl,g,b⟩:=r;simp only[dZ] at e;split at e;.exact⟨a,_,rfl,.inl (.inl (I.same _ _ g)),by rwa[b.length],f _ _ _ F H _ _ l _ _ Q I b e q⟩
  simp_all |_=>cases e
def mP(δ a:En):Prop:=δ.length=a.length/\∀i:Nat,δ[i]?=some .no\/δ[i]?=a[i]?
theorem mP.refl(δ:En):mP δ δ:=⟨rfl,fun _=>.inr rfl⟩
theorem mP.trans(h:mP a b)(h':mP b c):mP a c:=⟨h.1.trans h'.1,fun i=>by
  rcases h.2 i with z|z;.simp_all
  . rcases h'.2 i with y|y;.grind
    grind⟩
def BW(b:D->En->Option En):Prop:=∀d c a,b d c=some a->mP c a
def C8(b:List D->En->Option En):Prop:=∀d c a,b d c=some a->mP c a
theorem i9:BW (dC i):=by
  intro d b a e;unfold dC at e;split at e
  . cases e;refine⟨by simp,fun j=>?_⟩;by_cases h:i=j;.simp_all
    simp_all
  simp_all
theorem FP:C8 eL:=by intro d f b e;cases d with |nil=>cases e;exact .refl _ |cons x l=>cases e
theorem yZ(h:BW b)(h':C8 c):C8 (fA b c):=by intro d f i e;cases d with |nil=>cases e |cons x l=> change(b x _).bind _=some _ at e;cases z:b x f with |none=>simp_all |some g=>rw[z] at e;exact(h _ _ _ z).trans (h' _ _ _ e)
theorem FQ(h:C8 c):BW (dZ n c):=by intro d f a e;cases d with
 |tup l=>
  simp only[dZ] at e;split at e;.exact h _ _ _ e
  simp_all |_=>cases e
variable(K) in
def mQ(J:It)(P:Hp->Hp->Prop)(ds:List D):Prop:=∀b a,P b a->∀i:Nat,(∀d,ds[i]?=some d->J.go i a/\∀x e,J.AJ i a x e->∃c,Ext b a c e/\Rep K c d x)/\(ds[i]?=none->J.stop i a)
variable(K XO E) in
def SI(d:TI)(m:En->R (List D)):Prop:=∀e f k F H a b R,aw K e f k F H a b->eJ E XO a F H (fun i h g=>∀J,mQ K J (fun c j=>ax h c/\ax c j) i->R J g) (m b)->d a H R
variable(K XO E) in
def xq(g:TI)(m:En->R (List D)):Prop:=∀e f i F H a c R,aw K e f i F H a c->eJ E XO a F H (fun d h b=>∀J,mQ K J (fun k j=>Ext h b k j) d->R J b) (m c)->g a H R
theorem SI.c{m:En->R (List D)}(h:SI K XO E wi m):xq K XO E wi m:=fun g i f F H l d R I a=>h _ _ _ F H _ _ R I (a.imp fun o k j e p J b=>p J fun q n x=>b _ _ ⟨x.ff,x.fh⟩)
def vf:D->Option (List D) |.lst l=>some l |.cB l=>some (l.map .int) |_=>none
def Bb:D->Option (List D) |.tup l=>some l |_=>none
def cK(ml:En->R D)(δ:En):R (List D):=(ml δ).bind fun d=>R.of (vf d)
def Bc(ml:En->R D)(a:En):R (List D):=(ml a).bind fun d=>R.of (Bb d)
theorem y4(r:aD K k ds vs)(h:∀c b,P c b->ax k c/\ax c b/\fz K.f b a vs):mQ K (EM K.f a) P ds:=by
 intro c b p i;obtain⟨f,j,q⟩:=h _ _ p;refine⟨fun d l=>?_,fun n=>?_⟩;.obtain⟨v,e,g⟩:=r.get l;refine⟨⟨_,v,q,e⟩,fun x o y=>?_⟩;obtain⟨rfl,y⟩:=y;have z:=y _ q;rw[e] at z;cases z;exact⟨_,.refl j,Rep.mono f _ g⟩
 .exact⟨_,q,by rw[r.length];simp_all⟩
theorem tD(h:SE K XO E te me):SI K XO E (CO K.f te) (cK me):=by intro w u q F H s n R I a;refine h _ _ _ F H _ _ _ I (a.bind.imp fun d p o c e v r=>?_);cases d with |lst l=> obtain⟨a,y,rfl,b,i⟩:=r;exact⟨a,rfl,⟨_,.inl (PM.ax.qV c.fh b)⟩,e _ _ (.refl c.fh) _ (y4 i fun k j x=>⟨x.1,x.2,.inl (PM.ax.rd x.2 (PM.ax.qV x.1 b))⟩)⟩ |cB l=> obtain⟨a,rfl,b⟩:=r;exact⟨a,rfl,⟨_,c.fh.seq b⟩,e _ _ (.refl c.fh) _ (y4 .ints fun k j x=>⟨x.1,x.2,x.2.seq (x.1.seq b)⟩)⟩ |_=>exact e.elim
theorem vg(h:lV K XO E te me):xq K XO E (CO K.f te) (cK me):=by intro w u q F H s n R I a;refine h _ _ _ F H _ _ _ I (a.bind.imp fun d p o c e v r=>?_);cases d with |lst l=> obtain⟨a,y,rfl,b,i⟩:=r;exact⟨a,rfl,⟨_,.inl b⟩,e _ _ (.refl c.fh) _ (y4 i fun k j x=>⟨x.ff,x.fh,.inl (PM.ax.rd x.hh b)⟩)⟩ |cB l=> obtain⟨a,rfl,b⟩:=r;exact⟨a,rfl,⟨_,c.fh.seq b⟩,e _ _ (.refl c.fh) _ (y4 .ints fun k j x=>⟨x.ff,x.fh,x.fh.seq (x.ff.seq b)⟩)⟩ |_=>exact e.elim
theorem UC(h:SE K XO E te me):SI K XO E (AL K.f te) (Bc me):=by
 intro B C w F H s j R I a;refine h _ _ _ F H _ j _ I (a.bind.imp fun d p M e c v r=>?_)
 cases d with |tup l=>
  obtain⟨a,G,rfl,f,g⟩:=r;refine⟨a,rfl,⟨_,.inl (.inl (e.fh _ _ f))⟩,c _ _ (.refl e.fh) _ fun N L x i=>?_⟩;have q:hO K.f _ a _:=.inl (.inl (x.2 _ _ (x.1 _ _ f)));refine⟨fun d n=>?_,fun A=>?_⟩;.obtain⟨v,b,o⟩:=g.get n;refine⟨⟨_,v,q,b⟩,fun J u y=>?_⟩;obtain⟨rfl,y⟩:=y;have z:=y _ q;rw[b] at z;cases z;exact⟨_,.refl x.2,Rep.mono x.1 _ o⟩
  .exact⟨_,q,by rw[g.length];simp_all⟩ |_=>exact c.elim
def vh(lo:Int)(n:Nat):List D:=(List.range n).map fun(k:Nat)=>D.int (lo+(k:Int))
theorem LS(h:∀b c,P b c->ax b c):mQ K (AK lo n) P (vh lo n):=by
  intro b c p i;unfold vh;rw[bY];have g:(List.range n)[i]?=if i<n then some i else none:=by grind
  rw[g];refine⟨fun d f=>?_,fun e=>?_⟩
  . by_cases a:i<n;.rw[ao a] at f;cases f;refine⟨a,fun x j y=>?_⟩;obtain⟨rfl,rfl⟩:=y;exact⟨_,.refl (h _ _ p),rfl⟩
    grind
  . by_cases a:i<n;.rw[ao a] at e;cases e
    .exact Nat.le_of_not_lt a
def lP(l:List D):Option (List D):=match l with |[.int j]=>cN (-(2^62)<=j/\j<2^62) (some (vh 0 j.toNat)) none |[.int i,.int j]=>cN (-(2^62)<=i/\i<2^62/\-(2^62)<=j/\j<2^62) (some (vh i (j-i).toNat)) none |_=>none
def bS(ml:En->R (List D))(δ:En):R (List D):=(ml δ).bind fun l=>R.of (lP l)
theorem aD.one(r:aD K F [d] vs):∃v,vs=[v]/\Rep K F d v:=by simp[aD] at r;simp_all
theorem aD.two(r:aD K F [d,e] vs):∃v u,vs=[v,u]/\Rep K F d v/\Rep K F e u:=by simp[aD] at r;grind
theorem lg(g:∀δ l,ml δ=.ok l->l.length=1)(h:SA K XO E n ml):SI K XO E (KG n) (bS ml):=by intro w y q F H p δ R I a;unfold bS at a;cases c:ml _ with |no=>rw[c] at a;exact a.elim |ex x=>refine h _ _ _ F H _ _ _ I ?_;rwa[c] at a⊢ |ok l=> refine h _ _ _ F H _ _ _ I ?_;rw[c] at a⊢;intro o u f A r;match l,(g _ l c) with
 |[d],_=>
  obtain⟨v,rfl,i⟩:=r.one;have b:=eJ.mono f a
  cases d with |int j=>
   subst i;change eJ E _ _ _ _ _ (PM.R.of (cN _ _ _)) at b;by_cases e:-(2^62)<=j/\j<2^62;.rw[fi e] at b;exact⟨j,rfl,e.1,e.2,b _ _ (.refl f.fh) _ (LS fun G B x=>x.2)⟩
   .rw[LO e] at b;exact b.elim |_=>exact b.elim
theorem UD(n:∀δ l,ml δ=.ok l->l.length=2)(h:SA K XO E q ml):SI K XO E (KH q) (bS ml):=by intro B C y F H s δ R I a;unfold bS at a;cases c:ml _ with |no=>rw[c] at a;exact a.elim |ex x=>refine h _ _ _ F H _ _ _ I ?_;rwa[c] at a⊢ |ok l=> refine h _ _ _ F H _ _ _ I ?_;rw[c] at a⊢;intro A z g J r;match l,(n _ l c) with |[d,o],_=> obtain⟨v,u,rfl,p,k⟩:=r.two;have b:=eJ.mono g a;cases d with
 |int i=> cases o with |int j=>
  subst p k;change eJ E _ _ _ _ _ (PM.R.of (cN _ _ _)) at b;by_cases f:-(2^62)<=i/\i<2^62/\-(2^62)<=j/\j<2^62;.rw[fi f] at b;exact⟨i,j,rfl,f,b _ _ (.refl g.fh) _ (LS fun N L x=>x.2)⟩
  .rw[LO f] at b;exact b.elim |_=>exact b.elim
 |_=>exact b.elim
theorem fB{ma:En->R D}:∀δ l,ai ma af δ=.ok l->l.length=1:=by intro δ l h;unfold ai af at h;cases e:ma _ with |ok d=>rw[e] at h;cases h;rfl |no=>simp_all |ex x=>simp_all
theorem FR{ma mb:En->R D}:∀δ l,ai ma (ai mb af) δ=.ok l->l.length=2:=by intro δ l h;unfold ai af at h;cases e:ma _ with
 |ok d=> rw[e] at h;cases a:mb _ with |ok d=>rw[a] at h;cases h;rfl |no=>simp_all |ex x=>rw[a] at h;cases h
 |no=>simp_all |ex x=>simp_all
def rX(l:List D):List D:=l.mapIdx fun i d=>.tup [.int i,d]
theorem LU(r:aD K o ds vs)(h:∀b c,P b c->ax o b/\ax b c/\fz K.f c a vs):mQ K (Fg K.f a) P (rX ds):=by
 intro b c p i;obtain⟨l,g,q⟩:=h _ _ p;unfold rX;rw[List.getElem?_mapIdx];refine⟨fun d f=>?_,fun w=>?_⟩;.cases e:ds[i]? with |none=>simp_all |some x=> rw[e] at f;cases f;obtain⟨v,k,n⟩:=r.get e;refine⟨⟨_,v,q,k⟩,fun u A y=>?_⟩;obtain⟨s,B,rfl,j,rfl,y⟩:=y;have z:=y _ q;rw[k] at z;cases z;exact⟨_,.new g j,⟨_,_,rfl,cb,.cons rfl (.cons (Rep.mono (l.trans (ax.upd (g.free j))) _ n) .nil)⟩⟩
 .cases e:ds[i]? with |none=>exact⟨_,q,by rw[r.length];simp_all⟩ |some x=>simp_all
def qW:D->Option (List D) |.lst l=>some l |_=>none
def vi:List D->Option (List D) |[d]=>(qW d).map rX |_=>none
def rY(ml:En->R (List D))(δ:En):R (List D):=(ml δ).bind fun l=>R.of (vi l)
theorem LV(h:vi l=some r):∃x,l=[.lst x]/\r=rX x:=by cases l with |nil=>cases h |cons d t=> cases t with |cons _ _=>cases h |nil=> cases d with |lst x=>cases h;simp |_=>cases h
theorem C9(h:SA K XO E e ml):SI K XO E (Fh K.f e) (rY ml):=by intro k y s F H u n R I a;refine h _ _ _ F H _ _ _ I (a.bind.imp fun j p o c b g r=>?_);cases q:vi _ with |none=>rw[q] at b;exact b.elim |some z=> obtain⟨l,rfl,rfl⟩:=LV q;obtain⟨v,rfl,f⟩:=aD.one r;obtain⟨a,g,rfl,d,i⟩:=f;exact⟨a,rfl,⟨_,.inl (PM.ax.qV c.fh d)⟩,b _ _ (.refl c.fh) _ (LU i fun A w x=>⟨x.1,x.2,.inl (PM.ax.rd x.2 (PM.ax.qV x.1 d))⟩)⟩
theorem UE(h:uo K XO E e ml):xq K XO E (Fh K.f e) (rY ml):=by intro k s y F H u n R I a;refine h _ _ _ F H _ _ _ I (a.bind.imp fun w p o g b i r=>?_);cases q:vi _ with |none=>rw[q] at b;exact b.elim |some z=> obtain⟨l,rfl,rfl⟩:=LV q;cases r with |cons r f=> cases f;obtain⟨a,i,rfl,c,j⟩:=r;exact⟨a,rfl,⟨_,.inl c⟩,b _ _ (.refl g.fh) _ (LU j fun A v x=>⟨x.ff,x.fh,.inl (PM.ax.rd x.hh c)⟩)⟩
end
section
variable(K:Kx)(XO:cX)(E:St->XK)
def cR(g:List (Nat×Addr×HO))(F0 b:Hp)(f:Ends):O->Prop |.no=>False |.nx c=>∀a F H,aw K g F0 b F H a c->f.nx a H |.bk c=>∀a F H,aw K g F0 b F H a c->f.bk a H |.ct c=>∀a F H,aw K g F0 b F H a c->f.ct a H |.rt d=>∀v F H,Ext F0 b F H->Rep K F d v->f.rt v H |.ro d=>∀p F H,Ext F0 b F H->F p=none->b p=none->Own K F H d p->f.rt (.ref p) H |.ex c x=>∀a F H C e,aw K g F0 b F H a c->XO x F H C e->E a C e H
def SS(t:TS)(m:En->O):Prop:=∀f a c F H d b e,aw K f a c F H d b->cR K XO E f a c e (m b)->t e d H
end
noncomputable def R.ij{α:Type}(r:R α)(δ:En)(f:α->O):O:=match r with|.no=>.no|.ok a=>f a|.ex x=>.ex δ x
@[simp] theorem R.gH(a:α)(δ:En)(f:α->O):(R.ok a).ij δ f=f a:=rfl
@[simp] theorem R.FT {α : Type} (δ : En) (f : α → O) : (R.no : R α).ij δ f = .no := rfl
@[simp] theorem R.FU(x:Xc)(δ:En)(f:α->O):(R.ex x:R α).ij δ f=.ex δ x:=rfl
section
variable{K:Kx}{XO:cX}{E:St->XK}{ta tb te:TE}{ma mb me:En->R D}{t u:TS}{m n:En->O}{Λ:List (Nat×Addr×HO)}{F0 H0 F H F1 H1:Hp}{σ:St}{δ:En}{Dn:Ends}
theorem cR.of(I:aw K Λ F0 H0 F H σ δ)(a:cR K XO E Λ F0 H0 Dn (r.ij δ f)):eJ E XO σ F H (fun a _ _=>cR K XO E Λ F0 H0 Dn (f a)) r:=by cases r with |no=>exact a |ok b=>exact fun _ _ _=>a |ex x=>exact fun C c g j e h=>a _ _ _ C _ (I.grow e) h
theorem cR.up(e:Ext F0 H0 F1 H1):∀{o:O},cR K XO E Λ F0 H0 Dn o->cR K XO E Λ F1 H0 Dn o |.no,h=>h |.nx _,h=>fun σ F H I=>h _ F H (I.down e) |.bk _,h=>fun σ F H I=>h _ F H (I.down e) |.ct _,h=>fun σ F H I=>h _ F H (I.down e) |.rt _,h=>fun v F H x=>h v F H (e.base x) |.ro _,h=>fun p F H x=>h p F H (e.base x) |.ex _ _,h=>fun σ F H C d I=>h _ F H C d (I.down e)
def dq(δ:En):O:=.nx δ
def av(m n:En->O)(δ:En):O:=match m δ with|.nx a=>n a|r=>r
theorem fJ:SS K XO E Ks dq:=fun Λ F0 H0 F H σ δ Dn I a=>a _ F H I
theorem bE(h:SS K XO E t m)(h':SS K XO E u n):SS K XO E (nM t u) (av m n):=by intro Λ F0 H0 F H σ δ Dn I a;refine h _ _ _ F H _ _ _ I ?_;unfold av at a;cases q:m _ with |no=>rwa[q] at a |nx b=>rw[q] at a;exact fun c l r e=>h' _ _ _ _ _ _ _ _ e a |rt d=>rwa[q] at a |ro d=>rwa[q] at a |bk b=>rwa[q] at a |ct b=>rwa[q] at a |ex b x=>rwa[q] at a
def aH(me:En->R D)(δ:En):O:=(me δ).ij δ .rt
theorem dD(h:SE K XO E te me):SS K XO E (pG te) (aH me):=fun Λ F0 H0 F H σ δ Dn I a=>h _ _ _ F H _ _ _ I ((cR.of I a).imp fun d F1 H1 e p v r=>p v _ _ (I.ext.trans e) r)
def ft(me:En->R D)(δ:En):O:=(me δ).ij δ .ro
theorem jW(h:iQ K XO E te me):SS K XO E (pG te) (ft me):=fun Λ F0 H0 F H σ δ Dn I a=>h _ _ _ F H _ _ _ I ((cR.of I a).imp fun d F1 H1 e p v b c o=>p v _ _ (I.ext.trans e) b (I.ext.hh.free c) o)
def C_(i:Nat)(δ:En):O:=match δ[i]? with|some (.o d)=>.ro d|_=>.no
theorem LW:SS K XO E (pG (bZ i)) (C_ i):=by
 intro Λ F0 H0 F H σ δ Dn I a;unfold C_ at a;split at a;.rename_i d q;have z:=I.slot i;rw[q] at z;obtain⟨p,c,b,f,e⟩:=z;exact⟨_,c,a p F H I.ext f b e⟩
 .exact a.elim
def bj(n:En->R Bool)(m m':En->O)(δ:En):O:=(n δ).ij δ fun b=>if b=true then m δ else m' δ
theorem fu(h:ST K XO E f c)(d:SS K XO E t m)(g:SS K XO E u n):SS K XO E (uS f t u) (bj c m n):=by intro Λ F0 H0 F H σ δ Dn I a;refine h _ _ _ F H _ _ _ I ((cR.of I a).imp fun b F1 H1 e p=>?_);cases b with |true=>exact d _ _ _ _ _ _ _ _ (I.grow e) p |false=>exact g _ _ _ _ _ _ _ _ (I.grow e) p
def O.of:Option En->O |some δ=>.nx δ |none=>.no
@[simp] theorem O.aF (δ : En) : O.of (some δ) = .nx δ := rfl
@[simp] theorem O.of_none:O.of none=.no:=rfl
def az(me:En->R D)(b:D->En->Option En)(δ:En):O:=(me δ).ij δ fun d=>O.of (b d δ)
theorem dQ(h:SE K XO E te me)(j:SG K g b):SS K XO E (iJ te g) (az me b):=by intro Λ F0 H0 F H σ δ Dn I a;refine h _ _ _ F H _ _ _ I ((cR.of I a).imp fun d F1 H1 e p v r=>?_);cases q:b d _ with |none=>rw[q] at p;exact p.elim |some c=>rw[q] at p;exact j _ _ _ _ _ _ _ d v _ _ (I.grow e) r q fun i f=>p _ _ _ f
def cZ(i:Nat)(d:D)(δ:En):Option En:=match δ[i]? with|none=>none|some (.l _)=>none|some _=>some (δ.set i (.o d))
theorem qB(h:iQ K XO E te me):SS K XO E (iJ te (qP i)) (az me (cZ i)):=by
 intro Λ F0 H0 F H σ δ Dn I a;refine h _ _ _ F H _ _ _ I ((cR.of I a).imp fun d F1 H1 e p v g c o=>?_);unfold cZ at p;split at p;.exact p.elim
 .exact p.elim
 .rename_i x f b;exact p _ _ _ (I.FI ⟨x,b,fun j z=>f _ (by rw[z])⟩ e g c o)
def qX(i:Nat)(m:En->O)(δ:En):O:=match δ[i]? with|some (.o d)=>m (δ.set i (.v d))|some (.v _)=>m δ|_=>.no
theorem LX(h:SS K XO E t m):SS K XO E t (qX i m):=by
 intro Λ F0 H0 F H σ δ Dn I a;unfold qX at a;split at a;.rename_i d q;obtain⟨c,_,b⟩:=I.jI q;exact h _ _ _ _ H _ _ _ b a
 .exact h _ _ _ F H _ _ _ I a
 .exact a.elim
def iS(b:D->En->Option En)(m:En->O):List D->En->O |[],δ=>.nx δ |d::l,δ=>match b d δ with |none=>.no |some e=>match m e with |.nx a=>iS b m l a |.ct a=>iS b m l a |.bk a=>.nx a |r=>r
def c9(mi:En->R (List D))(b:D->En->Option En)(m:En->O)(δ:En):O:=(mi δ).ij δ fun l=>iS b m l δ
theorem FV(v:mQ K J P ds)(Q:∀σ δ F H,aw K Λ F0 H0 F H σ δ->P F H)(U:SG K g b)(C:SS K XO E t m)(I:aw K Λ F0 H0 F H σ δ) (a:cR K XO E Λ F0 H0 Dn (iS b m ds δ)):∃W:Nat->Nat->St->Hp->Prop,(∃k,W 0 k σ H)/\∀i k σ H,W i k σ H-> (J.stop i H/\Dn.nx σ H)\/(J.go i H/\∃N:St->Hp->Prop,(∀c H',N c H'->∃s,s<k/\W (i+1) s c H')/\∀x H',J.AJ i H x H'->g x σ H' fun p T=>t {Dn with nx:=N,ct:=N,bk:=Dn.nx} p T):=by
  let W:=fun i k σ H=>∃F δ,aw K Λ F0 H0 F H σ δ/\k=ds.length-i/\i<=ds.length/\cR K XO E Λ F0 H0 Dn (iS b m (ds.drop i) δ);refine⟨W,⟨_,F,_,I,rfl,bR _,a⟩,?_⟩;rintro i k σ H ⟨F,δ,I,rfl,hi,a⟩;have j:=Q _ _ F H I;by_cases f:i<ds.length;.obtain⟨A,X⟩:=(v F H j i).1 ds[i] (by simp);refine .inr ⟨A,W _ (ds.length-(i+1)),fun c H' w=>⟨_,by omega,w⟩,fun x H' y=>?_⟩;obtain⟨F3,M,r⟩:=X x _ y;rw[(nG f)] at a;unfold iS at a;cases q:b _ _ with |none=>rw[q] at a;exact a.elim |some z=> rw[q] at a;refine U _ _ _ _ _ _ _ _ x _ _ (I.grow M) r q fun B S=>C _ _ _ _ _ _ _ _ S ?_;cases h:m _ with |no=>simp[h] at a;exact a |nx l=>simp[h] at a;exact fun c G H' o=>⟨_,_,o,rfl,f,a⟩ |ct l=>simp[h] at a;exact fun c G H' o=>⟨_,_,o,rfl,f,a⟩ |bk l=>simp[h] at a;exact a |rt d=>simp[h] at a;exact a |ro d=>simp[h] at a;exact a |ex L x=>simp[h] at a;exact a
  . have e:i=ds.length:=by lia
    subst e;rw[qi] at a;exact .inl ⟨(v F H j _).2 (by simp),a _ F H I⟩
theorem jo(hi:SI K XO E d mi)(f:SG K g b)(i:SS K XO E t m):SS K XO E (sY d g t) (c9 mi b m):=by intro Λ F0 H0 F H σ δ Dn I a;refine hi _ _ _ F H _ _ _ I ((cR.of I a).imp fun j F1 H1 e p J h=>?_);have c:=I.grow e;exact FV h (fun σ δ F H I=>⟨I.ext.ff,I.ext.fh⟩) f i c.up (p.up c.ext)
noncomputable def xr(i:Nat):O->O |.nx δ=>(match δ[i]? with|some (.l d)=>.nx (δ.set i (.o d))|_=>.no) |.bk δ=>.no |.ct δ=>.no |.ex δ x=>(match δ[i]? with|some (.l d)=>.ex (δ.set i (.o d)) x|_=>.no) |r=>r
def C'(i:Nat)(b:D->En->Option En)(m:En->O)(δ:En):O:=match δ[i]? with |some (.o (.lst l))=>xr i (iS b m l (δ.set i (.l (.lst l)))) |some (.v (.lst l))=>iS b m l δ |_=>.no
theorem aw.lend(I:aw K Λ F0 H0 F H σ δ)(c:δ[i]?=some (.o (.lst l))):∃a vs,σ[i]?=some (some (.ref a))/\H a=some (.lst vs)/\aD K F l vs/\aw K ((i,a,.lst vs)::Λ) F0 H0 F H σ (δ.set i (.l (.lst l))):=by
  have g:=(b_.mp c).1;have z:=I.slot i;rw[c] at z;obtain⟨a,d,M,N,J⟩:=z;obtain⟨vs,s,B⟩:=J;refine⟨a,vs,d,s,B,I.ext,by simp[I.len],fun j=>?_,fun j k b w x v q C=>?_,fun y p=>?_,I.fV (fun k Q h=>by
      by_cases e:i=k;.subst e;rw[a_ g] at h;cases h
      .simp_all) (fun _ _ _ _ _ _ t f _=>⟨t,fun b L=>(f b L).2⟩) fun k j Q r b T _ _ _ _ S G=>.inl (by
      by_cases e:i=j;.subst e;exact⟨by rw[c];rfl,G⟩
      simp_all)⟩
  . by_cases e:i=j;.subst e;rw[a_ g];exact⟨a,d,M,N,_,s,B⟩
    .rw[aI e];exact I.slot j
  . have A:∀k:Nat,Sl.own (δ.set i (.l (.lst l)))[k]?=true->Sl.own δ[k]?=true:=by
      intro k h;by_cases e:i=k;.subst e;rw[c];rfl
      .rw[aI e] at h;exact h
    exact I.dist j k b w (A j x) (A k v) q C
  . rcases aU.mp p with rfl|p;.exact⟨⟨_,a_ g⟩,d,s⟩
    . obtain⟨⟨U,x⟩,v,q⟩:=I.eZ y p;have n:i≠y.1:=by intro e;simp_all
      exact⟨⟨_,by rw[aI n];exact x⟩,v,q⟩
theorem aw.back(A:∀y∈Λ,y.1≠i)(I:aw K ((i,x)::Λ) F0 H0 F H σ δ)(a:δ[i]?=some (.l d)):aw K Λ F0 H0 F H σ (δ.set i (.o d)):=by
  have w:=(b_.mp a).1;refine⟨I.ext,by simp[I.len],fun j=>?_,fun j k b p q g c G=>?_,fun y v=>?_,I.fV (fun k C h=>by
      by_cases e:i=k;.subst e;rw[a_ w] at h;cases h
      .simp_all) (fun _ _ _ _ _ _ t f _=>⟨t,fun b L=>(f b L).2⟩) fun k j C r b N _ _ _ _ B J=>.inl (by
      by_cases e:i=j;.subst e;exact⟨by rw[a];rfl,J⟩
      .rw[aI e] at B;grind)⟩
  . by_cases e:i=j;.subst e;rw[a_ w];have z:=I.slot i;rw[a] at z;exact z
    .rw[aI e];exact I.slot j
  . have s:∀k:Nat,Sl.own (δ.set i (.o d))[k]?=true->Sl.own δ[k]?=true:=by
      intro k h;by_cases e:i=k;.subst e;rw[a];rfl
      .rw[aI e] at h;exact h
    exact I.dist j k b p (s j q) (s k g) c G
  .obtain⟨⟨M,q⟩,g,c⟩:=I.eZ y (bK _ v);exact⟨⟨_,by rw[aI (aR (A y v))];exact q⟩,g,c⟩
theorem cR.xr(b:∀y∈Λ,y.1≠i):∀{o:O},cR K XO E Λ F0 H0 Dn (PM.xr i o)->cR K XO E ((i,x)::Λ) F0 H0 Dn o |.no,h=>h |.nx _,h=>fun σ F H I=>by obtain⟨⟨d,a⟩,_⟩:=I.eZ _ g_;simp[PM.xr,a] at h;exact h _ F H (I.back b a) |.bk _,h=>h.elim |.ct _,h=>h.elim |.rt _,h=>h |.ro _,h=>h |.ex _ x,h=>fun σ F H C c I q=>by obtain⟨⟨d,a⟩,_⟩:=I.eZ _ g_;simp[PM.xr,a] at h;exact h _ F H C _ (I.back b a) q
theorem UG(o:SG K g b)(j:SS K XO E t m):SS K XO E (sY (CO K.f (bZ i)) g t) (C' i b m):=by
  intro Λ F0 H0 F H σ δ Dn I a;unfold C' at a;split at a
  . rename_i l q;obtain⟨p,v,d,c,h,k⟩:=I.lend q;refine⟨_,d,p,rfl,⟨_,.inl (.inl c)⟩,?_⟩;have w:∀y∈Λ,y.1≠i:=fun y A e=>by obtain⟨⟨C,J⟩,_⟩:=I.eZ y A;simp_all
    exact FV (y4 h fun r s x=>x) (fun σ δ B G f=>⟨f.ext.ff,f.ext.fh,.inl (.inl (f.eZ _ g_).2.2)⟩) o j k.up ((a.xr w).up k.ext)
  .rename_i l q;have z:=I.slot i;rw[q] at z;obtain⟨u,d,c⟩:=z;obtain⟨p,v,rfl,c,h⟩:=c;refine⟨_,d,p,rfl,⟨_,.inl (PM.ax.qV I.same c)⟩,FV (y4 h fun r s (x:ax F _/\ax _ _)=>⟨x.1,x.2,.inl (PM.ax.rd x.2 (PM.ax.qV x.1 c))⟩) (fun σ δ F H I=>⟨I.ext.ff,I.ext.fh⟩) o j I.up (a.up I.ext)⟩
  .exact a.elim
def jX(c:En->R Bool)(m:En->O):Nat->En->O |0,_=>.no |n+1,δ=>(c δ).ij δ fun b=>if b=true then(match m δ with|.nx a=>jX c m n a|.ct a=>jX c m n a|.bk a=>.nx a|r=>r) else .nx δ
open Classical in
def wh(c:En->R Bool)(m:En->O)(δ:En):O:=if h:∃n,jX c m n δ≠.no then jX c m (choose h) δ else .no
theorem FW(r:ST K XO E y o)(v:SS K XO E t m):SS K XO E (Kz y t) (wh o m):=by
 intro Λ F0 H0 F H σ δ Dn I a;unfold wh at a;split at a;.refine⟨fun k σ H=>∃F δ,aw K _ _ _ F H σ δ/\cR K _ E _ _ _ _ (jX _ m k δ),⟨_,F,_,I,a⟩,?_⟩;rintro k σ H ⟨F,δ,I,a⟩;cases k with |zero=>exact a.elim |succ k=> refine r _ _ _ F H _ _ _ I ((cR.of I a).imp fun b F1 H1 e p=>?_);cases b with |false=>exact p _ _ _ (I.grow e) |true=> refine⟨_,fun f j w=>⟨k,eP _,w⟩,v _ _ _ _ _ _ _ _ (I.grow e) ?_⟩;cases c:m _ with |no=>simp[c] at p;exact p |nx g=>simp[c] at p;exact fun f q j h=>⟨_,_,h,p⟩ |ct g=>simp[c] at p;exact fun f q j h=>⟨_,_,h,p⟩ |bk g=>simp[c] at p;exact p |rt d=>simp[c] at p;exact p |ro d=>simp[c] at p;exact p |ex s x=>simp[c] at p;exact p
 .exact a.elim
end
def qC:D->Option Key |.int i=>some (.inl i) |.str x=>some (.inr x) |_=>none
def gI(ks:List Key)(l:List D)(k:Key):Option D:=match ks,l with |a::r,d::t=>if a=k then some d else gI r t k |_,_=>none
def putL(ks:List Key)(l:List D)(k:Key)(x:D):List D:=match ks,l with |a::r,d::t=>(if a=k then x else d)::putL r t k x |_,t=>t
def putD(ks:List Key)(l:List D)(k:Key)(x:D):D:=if ks.any (fun a=>decide (a=k))=true then .dc ks (putL ks l k x) else .dc (ks++[k]) (l++[x])
def Dc(ks:List Key)(l:List D)(k:Key):List D:=match ks,l with |a::r,d::t=>if a=k then Dc r t k else d::Dc r t k |_,t=>t
def FX(ks:List Key)(l:List D)(k:Key):D:=.dc (ks.filter fun a=>decide (a≠k)) (Dc ks l k)
section
variable{K:Kx}{F H:Hp}
theorem FY(h:qC d=some k)(r:Rep K F d v):v=kV k:=by cases d with |int i=>cases h;exact r |str i=>cases h;exact r |_=>cases h
theorem LY:∀{cu:List (Key×V)}{ks:List Key}{l:List D},cu.map (·.1)=ks->aD K F l (cu.map (·.2))-> (∀d,gI ks l k=some d->∃v,gC cu k=some v/\Rep K F d v)/\(gI ks l k=none->gC cu k=none) |[],ks,l,c,g=>by subst c;refine⟨fun d h=>?_,fun _=>rfl⟩;simp[gI] at h |(a,v)::cu,ks,l,c,g=>by subst c;cases l with |nil=>simp[aD] at g |cons d t=>
      obtain⟨o,r,e,m,n⟩:=g;cases e;have q:=LY (k:=k) rfl n;simp[gI];by_cases f:a=k;.rw[ao f];refine⟨fun p e=>?_,fun e=>by cases e⟩;cases e;exact⟨v,by simp[gC,f],m⟩
      . have e:gC ((a,v)::cu) k=gC cu k:=by simp[gC,f]
        simp_all
theorem LZ(m:Rep K F x u):∀{cu:List (Key×V)}{ks:List Key}{l:List D},cu.map (·.1)=ks->aD K F l (cu.map (·.2))-> aD K F (putL ks l k x) ((cu.map (fun g=>if g.1=k then(g.1,u) else g)).map (·.2))
 |[],ks,l,h,f=>by subst h;cases l with |nil=>rfl |cons d t=>simp[aD] at f
 |(a,v)::cu,ks,l,h,f=>by subst h;cases l with |nil=>simp[aD] at f |cons d t=>
  obtain⟨p,r,e,n,j⟩:=f;cases e;refine .cons ?_ (LZ m rfl j);by_cases o:a=k;.simp_all
  simp_all
theorem UH(b:Rep K F x u)(h1:cu.map (·.1)=ks)(h2:aD K F l (cu.map (·.2))):Own K F (upd H a (.dK (putK cu k u))) (putD ks l k x) a:=by
 have e:ks.any (fun a=>decide (a=k))=cu.any (fun c=>decide (c.1=k)):=by rw[<-h1,List.any_map];rfl
 unfold putD putK;rw[e];split;.refine⟨_,cb,?_,LZ b h1 h2⟩;rw[<-h1,cM];refine iD fun c _=>?_;grind
 .exact⟨_,cb,by rw[gZ,h1];rfl,by rw[gZ];exact h2.append (.cons b .nil)⟩
end
section
variable{K:Kx}{XO:cX}{E:St->XK}{ta tb te ty td:TE}{ma mb me my md:En->R D}{t u:TS}{m n:En->O}{Λ:List (Nat×Addr×HO)}{F0 H0 F H F1 H1:Hp}{σ:St}{δ:En}{Dn:Ends}
theorem aw.own{i:Nat}(I:aw K Λ F0 H0 F H σ δ)(b:δ[i]?=some (.o d)):∃a,σ[i]?=some (some (.ref a))/\Own K F H d a:=by have z:=I.slot i;rw[b] at z;obtain⟨a,g,c,f,e⟩:=z;simp_all
def qD(i:Nat)(me:En->R D)(δ:En):O:=match δ[i]? with |some (.o (.lst l))=>(me δ).ij δ fun d=>cN (l.length<sizeLine) (.nx (δ.set i (.o (.lst (l++[d]))))) .no |_=>.no
theorem y6(h:SE K XO E te me):SS K XO E (sV (xj K.f "list" yP (bZ i) (eG te cA))) (qD i me):=by
  intro Λ F0 H0 F H σ δ Dn I a;unfold qD at a;split at a
  . rename_i l q;obtain⟨p,f,j,g,b⟩:=I.own q;refine⟨_,f,.inl ⟨rfl,_,.inl (.inl g)⟩,(h _ _ _ F H _ _ _ I ((cR.of I a).imp fun d F1 H1 e c v r=>?_))⟩;unfold cN at c;split at c;.exact⟨p,_,v,rfl,rfl,e.hh _ _ g,by rwa[b.length],c _ _ _ ((I.grow e).chg q f ⟨_,cb,(b.mono e.ff).append (.cons r .nil)⟩)⟩
    .exact c.elim
  .exact a.elim
def zA3(i:Nat)(mi me:En->R D)(δ:En):O:=match δ[i]? with
 |some (.o (.lst l))=>(me δ).ij δ fun d=>(mi δ).ij δ fun k=>match k with |.int k=>(match iv l.length k with|some j=>.nx (δ.set i (.o (.lst (l.set j d))))|none=>.no) |_=>.no
 |_=>.no
def y7(f:Int->Int->Int)(i:Nat)(mi me:En->R D)(δ:En):O:=match δ[i]? with |some (.o (.lst l))=>(mi δ).ij δ fun k=>(match k with |.int k=>(match iv l.length k with |some j=>(match l[j]? with |some (.int x)=>(me δ).ij δ fun y=>(match y with|.int y=>.nx (δ.set i (.o (.lst (l.set j (.int (f x y))))))|_=>.no) |_=>.no) |none=>.no) |_=>.no) |_=>.no
theorem L0(hi:SE K XO E J mi)(h:SE K XO E te me):SS K XO E (Kv (bZ i) J te (pP K.f) (CM f) AU) (y7 f i mi me):=by
 intro Λ F0 H0 F H σ δ Dn I a;unfold y7 at a;split at a;.rename_i l q;obtain⟨p,B,S,L,g⟩:=I.own q;refine⟨_,B,(hi _ _ _ F H _ _ _ I ((cR.of I a).imp fun k F1 H1 e c v r=>?_))⟩;cases k with
  |int k=> subst r;dsimp at c;cases z:iv l.length k with |none=>rw[z] at c;exact c.elim |some j=> rw[z] at c;dsimp at c;cases s:l[j]? with |none=>rw[s] at c;exact c.elim |some d=> rw[s] at c;cases d with
   |int x=> obtain⟨w,N,Q⟩:=g.get s;subst Q;have C:=e.hh _ _ L;refine⟨p,_,k,_,rfl,rfl,.inl (.inl C),by unfold hV;rw[g.length,z];exact N,(h _ _ _ _ H1 _ _ _ (I.grow e) ((cR.of (I.grow e) c).imp fun y M T o A U G=>?_))⟩;cases y with |int y=> subst G;exact⟨x,y,rfl,rfl,p,_,k,j,rfl,rfl,o.hh _ _ C,by rwa[g.length],A _ M _ (((I.grow e).grow o).chg q B ⟨_,cb,((g.mono e.ff).mono o.ff).set j rfl⟩)⟩ |_=>exact A.elim
   |_=>exact c.elim
  |_=>exact c.elim
 .exact a.elim
def rZ(i:Nat)(mk me:En->R D)(δ:En):O:=match δ[i]? with
 |some (.o (.dc a l))=>(me δ).ij δ fun d=>(mk δ).ij δ fun k=>match qC k with |some k=>cN (a.length<sizeLine) (.nx (δ.set i (.o (putD a l k d)))) .no |none=>.no
 |_=>.no
theorem Dd(o:SE K XO E tk mk)(h:SE K XO E te me):SS K XO E (Ls (bZ i) tk te) (rZ i mk me):=by
 intro Λ F0 H0 F H σ δ Dn I a;unfold rZ at a;split at a;.rename_i y l q;obtain⟨p,g,B,w,j,x⟩:=I.own q;refine h _ _ _ F H _ _ _ I ((cR.of I a).imp fun d F1 H1 e c v r=>⟨_,g,(o _ _ _ _ _ _ _ _ (I.grow e) ((cR.of (I.grow e) c).imp fun k G C f b A s=>?_))⟩);cases z:qC k with |none=>rw[z] at b;exact b.elim |some k=>
  rw[z] at b;dsimp at b;unfold cN at b;split at b;.cases FY z s;exact⟨p,_,rfl,s_.k (f.hh _ _ (e.hh _ _ w)) (by grind),b _ _ _ (((I.grow e).grow f).chg q g (UH (Rep.mono f.ff _ r) j ((x.mono e.ff).mono f.ff)))⟩
  .exact b.elim
 .exact a.elim
def L1(i:Nat)(mk:En->R D)(δ:En):O:=match δ[i]? with
 |some (.o (.dc a l))=>(mk δ).ij δ fun k=>match qC k with |some k=>(match gI a l k with|some _=>.nx (δ.set i (.o (FX a l k)))|none=>.no) |none=>.no
 |_=>.no
def vj(f:Int->Int->Int)(i:Nat)(me:En->R D)(δ:En):O:=match δ[i]? with |some (.v (.int x))=>(me δ).ij δ fun y=>(match y with|.int y=>.nx (δ.set i (.v (.int (f x y))))|_=>.no) |_=>.no
theorem UI(h:SE K XO E te me):SS K XO E (wX i te (CM f)) (vj f i me):=by
 intro Λ F0 H0 F H σ δ Dn I a;unfold vj at a;split at a;.rename_i x q;have z:=I.slot i;rw[q] at z;obtain⟨u,j,b⟩:=z;subst b;refine⟨_,j,h _ _ _ F H _ _ _ I ((cR.of I a).imp fun y F1 H1 e c v r=>?_)⟩;cases y with |int y=> subst r;exact⟨x,y,rfl,rfl,c _ _ _ ((I.grow e).put ⟨_,q,fun d z=>by cases z⟩ rfl)⟩ |_=>exact c.elim
 .exact a.elim
def dIn(k d:D):Option D:=match qC k,d with|some k,.dc a l=>some (.bl (gI a l k).isSome)|_,_=>none
def ur(k d:D):Option D:=match qC k,d with|some k,.dc a l=>some (.bl (!(gI a l k).isSome))|_,_=>none
theorem L3(h:Top K F H (.dc ks l) x):∃p o,x=.ref p/\pQ H p (kV k) o/\(∀d,gI ks l k=some d->∃v,o=some v/\Rep K F d v)/\(gI ks l k=none->o=none):=by obtain⟨a,b,rfl,c,f,e⟩:=h;exact⟨a,_,rfl,.k c,LY f e⟩
theorem Df(f:SE K XO E ty my)(hd:lV K XO E td md):SE K XO E (Lr ty td) (m2 ur my md):=by intro Λ F0 H0 F H σ δ Q I a;refine f _ _ _ F H _ _ _ I (a.bind.imp fun G F1 H1 i c y s=>(hd _ _ _ _ _ _ _ _ (I.grow i) (c.bind.imp fun e J C h b x j=>?_)));unfold ur at b;cases z:qC _ with |none=>rw[z] at b;exact b.elim |some k=> rw[z] at b;cases e with
 |dc B l=> obtain⟨p,o,rfl,g,w,A⟩:=L3 j;cases FY z s;refine⟨p,o,rfl,g,b _ _ (.refl h.fh) _ ?_⟩;cases q:gI _ l k with |none=>rw[A q];rfl |some d=>obtain⟨v,rfl,_⟩:=w d q;rfl
 |_=>exact b.elim
def i2(f:Int->Int->D)(x y:D):Option D:=match x,y with|.int i,.int j=>some (f i j)|_,_=>none
def xt(C:Int->Int->Prop)(f:Int->Int->D)(x y:D):Option D:=match x,y with|.int i,.int j=>cN (C i j) (some (f i j)) none|_,_=>none
theorem y8(h:∀i j F,Rep K F (f i j) (g i j)):SR K (nN g) (i2 f):=by intro F H x y c k d Q s l b e q;cases c with
 |int i=> cases k with |int j=> cases e;exact⟨i,j,l,b,q _ F H (.refl s) (h i j F)⟩ |_=>cases e
 |_=>cases e
theorem Be(h:∀i j F,Rep K F (f i j) (g i j)):SR K (rI C g) (xt C f):=by intro F H x y c k d Q s l o e q;cases c with
 |int i=> cases k with
  |int j=>
   simp[xt] at e;unfold cN at e;split at e;.rename_i b;cases e;exact⟨i,j,l,o,b,q _ F H (.refl s) (h i j F)⟩
   simp_all |_=>cases e
 |_=>cases e
def bO:D->D->Option D:=i2 fun i j=>.int (i+j)
def jN:D->D->Option D:=i2 fun i j=>.int (i-j)
def iU:D->D->Option D:=xt (fun i j=>eI i/\eI j) fun i j=>.int (i*j)
def oDiv:D->D->Option D:=xt (fun _ j=>j≠0/\eI j) fun i j=>.int (i.fdiv j)
def oMod:D->D->Option D:=xt (fun _ j=>0<j) fun i j=>.int (i%j)
def gg:D->D->Option D:=xt pH fun i j=>.int (i^j.toNat)
def oLt:D->D->Option D:=i2 fun i j=>.bl (decide (i<j))
def oLe:D->D->Option D:=i2 fun i j=>.bl (decide (i<=j))
def qY:D->D->Option D:=i2 fun i j=>.bl (decide (j<i))
def y9:D->D->Option D:=i2 fun i j=>.bl (decide (j<=i))
theorem gb:SR K (nN fun i j=>.int (i+j)) bO:=y8 fun _ _ _=>rfl
theorem xu:SR K (nN fun i j=>.int (i-j)) jN:=y8 fun _ _ _=>rfl
theorem vm:SR K (rI (fun i j=>eI i/\eI j) fun i j=>.int (i*j)) iU:=Be fun _ _ _=>rfl
theorem nX:SR K (rI (fun _ j=>j≠0/\eI j) fun i j=>.int (i.fdiv j)) oDiv:=Be fun _ _ _=>rfl
theorem hW:SR K (rI (fun _ j=>0<j) fun i j=>.int (i%j)) oMod:=Be fun _ _ _=>rfl
theorem wj:SR K (rI pH fun i j=>.int (i^j.toNat)) gg:=Be fun _ _ _=>rfl
theorem Dg:SR K (nN fun i j=>.bl (decide (i<j))) oLt:=y8 fun _ _ _=>rfl
theorem L4:SR K (nN fun i j=>.bl (decide (i<=j))) oLe:=y8 fun _ _ _=>rfl
theorem xv:SR K (nN fun i j=>.bl (decide (j<i))) qY:=y8 fun _ _ _=>rfl
theorem L5:SR K (nN fun i j=>.bl (decide (j<=i))) y9:=y8 fun _ _ _=>rfl
def gh:D->Option D |.int i=>some (.int (-i)) |_=>none
theorem r0:SU K (rU fun i=>.int (-i)) gh:=by intro F H x c d Q s b e q;cases c with |int i=>cases e;exact⟨i,b,q _ F H (.refl s) rfl⟩ |_=>cases e
def fl:D->Option V |.non=>some .non |.bl b=>some (.bl b) |.int i=>some (.int i) |.str x=>some (.str x) |_=>none
theorem Dh(h:fl d=some v)(r:Top K F H d x):x=v:=by cases d with |non=>cases h;simpa[Top,Rep] using r |bl _=>cases h;simpa[Top,Rep] using r |int _=>cases h;simpa[Top,Rep] using r |str _=>cases h;simpa[Top,Rep] using r |_=>cases h
def oEq(x y:D):Option D:=match fl x,fl y with|some a,some b=>if qQ a b=true then some (.bl (decide (a=b))) else none|_,_=>none
def wk(x y:D):Option D:=match fl x,fl y with|some a,some b=>if qQ a b=true then some (.bl (!decide (a=b))) else none|_,_=>none
theorem i_:SR K ER oEq:=by
  intro F H x y j k d Q s f i e q;unfold oEq at e;split at e
  . rename_i a b g c;split at e;.rename_i h;cases e;cases Dh g f;cases Dh c i;exact⟨h,q _ F H (.refl s) rfl⟩
    simp_all
  simp_all
theorem FZ:SR K KJ wk:=by
  intro F H x y j k d Q s f i e q;unfold wk at e;split at e
  . rename_i a b g c;split at e;.rename_i h;cases e;cases Dh g f;cases Dh c i;exact⟨h,q _ F H (.refl s) rfl⟩
    simp_all
  simp_all
def Di:D->Bool |.non=>true |_=>false
theorem L6(r:Top K F H d x):decide (x=.non)=Di d:=by cases d with |non=>subst r;rfl |bl _=>subst r;rfl |int _=>subst r;rfl |str _=>subst r;rfl |tup _=>obtain⟨a,_,rfl,_⟩:=r;rfl |lst _=>obtain⟨a,_,rfl,_⟩:=r;rfl |dc _ _=>obtain⟨a,_,rfl,_⟩:=r;rfl |cB _=>obtain⟨a,rfl,_⟩:=r;rfl |exc _=>obtain⟨a,_,rfl,_⟩:=r;rfl |fd _ _=>obtain⟨a,_,_,rfl,_⟩:=r;rfl |obj _ _ _=>obtain⟨a,_,_,rfl,_⟩:=r;rfl
def y_(x y:D):Option D:=match y with|.non=>some (.bl (Di x))|_=>none
def F7(x y:D):Option D:=match y with|.non=>some (.bl (!Di x))|_=>none
theorem L7:SR K (fun x y H Q=>y=.non/\Q (.bl (decide (x=.non))) H) y_:=by intro F H x y g a d Q s c b e q;cases a with |non=>cases e;exact⟨b,q _ F H (.refl s) (by simp[Rep];rw[L6 c])⟩ |_=>cases e
theorem UJ:SR K (fun x y H Q=>y=.non/\Q (.bl (!decide (x=.non))) H) F7:=by intro F H x y g a d Q s c b e q;cases a with |non=>cases e;exact⟨b,q _ F H (.refl s) (by simp[Rep];rw[L6 c])⟩ |_=>cases e
def aO(x y:D):Option D:=match x,y with|.lst l,.int i=>hV l i|.cB l,.int i=>(hV l i).map .int|_,_=>none
def e_(x y:D):Option D:=match x,y with|.tup l,.int i=>hV l i|_,_=>none
theorem F8(r:aD K F l vs)(h:hV l i=some d):∃v,hV vs i=some v/\Rep K F d v:=by unfold hV at h⊢;rw[r.length];cases q:iv _ i with |none=>simp_all |some j=>rw[q] at h;exact r.get h
theorem eM:SR K (pP K.f) aO:=by intro F H x y p k d Q s h o e q;cases p with
 |lst l=> cases k with |int i=> obtain⟨a,B,rfl,b,A⟩:=h;obtain⟨v,c,g⟩:=F8 A e;exact⟨a,_,i,v,rfl,o,.inl b,c,q _ F H (.refl s) g⟩ |_=>cases e
 |cB l=> cases k with
  |int i=> obtain⟨a,rfl,b⟩:=h;simp only[aO] at e;cases z:hV l i with |none=>simp_all |some n=> rw[z] at e;cases e;obtain⟨v,c,g⟩:=F8 (l:=l.map _) (i:=i) (d:=.int n) .ints (by unfold hV at z⊢;cases q:iv l.length i with |none=>rw[q] at z;cases z |some j=> simp_all);exact⟨a,_,i,v,rfl,o,s.seq b,c,q _ F H (.refl s) g⟩
  |_=>cases e
 |_=>cases e
theorem qZ:SR K (w_ K.f) e_:=by intro F H x y c k d Q s p o e q;cases c with
 |tup l=> cases k with |int i=> obtain⟨a,w,rfl,j,r⟩:=p;obtain⟨v,b,h⟩:=F8 r e;exact⟨a,_,i,v,rfl,o,.inl (.inl (s _ _ j)),b,q _ F H (.refl s) h⟩ |_=>cases e
 |_=>cases e
end
section
variable{K:Kx}{XO:cX}{E:St->XK}{ta tb te ty td:TE}{ma mb me my md:En->R D}{t u:TS}{m n:En->O}{Λ:List (Nat×Addr×HO)}{F0 H0 F H F1 H1:Hp}{σ:St}{δ:En}{Dn:Ends}
abbrev EN:St->XK:=fun _ _ _ _=>False
def nY:Sl->Sl |.o d=>.l d |.p _=>.no |s=>s
def c3(δ:En)(a:List Nat)(n:Nat):En:=a.map (fun i=>nY (δ[i]?.getD .no))++List.replicate n .no
def oF(f:D->R (Option D)):List D->R (List D) |[]=>.ok [] |d::l=>(f d).bind fun o=>(oF f l).bind fun r=>.ok (o.toList++r)
def jE(b:D->En->Option En)(e:Option (En->R Bool))(me:En->R D)(δ:En)(d:D):R (Option D):=match b d δ with |none=>.no |some a=>(match e with |none=>(me a).i1.bind fun x=>.ok (some x) |some c=>(c a).i1.bind fun k=>if k=true then(me a).i1.bind fun x=>.ok (some x) else .ok none)
def i'(mi:En->R (List D))(d:List Nat)(n:Nat)(b:D->En->Option En)(c:Option (En->R Bool))(me:En->R D)(δ:En):R D:= (mi δ).bind fun a=>cN (a.length<=sizeLine) ((oF (jE b c me (c3 δ d n)) a).i1.bind fun l=>.ok (.lst l)) .no
theorem F9{n:Nat}(I:aw K Λ F0 H0 F H σ δ)(T:b.Nodup): ∃f,aw K f F0 H0 F H (qz σ b n) (c3 δ b n)/\(∀i:Nat,Sl.own (c3 δ b n)[i]?=true->∃x∈f,x.1=i)/\∀x∈f,∃o,H x.2.1=some o:=by
  have J:∀j:Nat,j<b.length->(c3 δ b n)[j]?=some (nY (δ[b.getD j 0]?.getD .no)):=fun j c=>by unfold c3;rw[fZ (by simpa using c),bY,b7 c];simp[du,b7 c]
  have Z:∀j:Nat,j<b.length->(qz σ b n)[j]?=some ((σ[b.getD j 0]?).getD none):=fun j c=>by unfold qz;rw[fZ (by simpa using c),bY,b7 c];simp[du,b7 c]
  have Y:∀j:Nat,¬j<b.length->(c3 δ b n)[j]?=some .no\/(c3 δ b n)[j]?=none:=fun j c=>by
    unfold c3;rw[iC (by simpa using c),lI];split;.simp
    simp_all
  have r:∀j:Nat,Sl.own (c3 δ b n)[j]?=true->j<b.length/\∃d a o,δ[b.getD j 0]?=some d/\Sl.own (some d)=true/\(c3 δ b n)[j]?=some (nY d)/\(∃e,nY d=.l e)/\σ[b.getD j 0]?=some (some (.ref a))/\(qz σ b n)[j]?=some (some (.ref a))/\H a=some o/\H0 a=none/\F a=none:=fun j h=>by
    by_cases c:j<b.length;.refine⟨c,?_⟩;rw[J j c] at h;have z:=I.slot (b.getD j 0);cases q:δ[b.getD j 0]? with |none=>rw[q] at h;cases h |some s=> rw[q] at h z;cases s with |no=>cases h |v d=>cases h |o d=> obtain⟨a,g,k,S,Q⟩:=z;obtain⟨o,N⟩:=Q.obj;exact⟨_,a,o,rfl,rfl,by rw[J j c,q];rfl,⟨d,rfl⟩,g,by rw[Z j c,g];rfl,N,k,S⟩ |l d=> obtain⟨a,g,k,S,Q⟩:=z;obtain⟨o,N⟩:=Q.obj;exact⟨_,a,o,rfl,rfl,by simp_all,⟨d,rfl⟩,g,by rw[Z j c,g];rfl,N,k,S⟩ |p y=>cases h
    .rcases Y j c with z|z<;>(rw[z] at h;cases h)
  let f:List (Nat×Addr×HO):=(List.range b.length).filterMap fun(j:Nat)=>match(qz σ b n)[j]? with |some (some (V.ref a))=>if Sl.own (c3 δ b n)[j]?=true then(H a).map fun o=>(j,a,o) else none |_=>none;have C:∀x∈f,(qz σ b n)[x.1]?=some (some (.ref x.2.1))/\Sl.own (c3 δ b n)[x.1]?=true/\H x.2.1=some x.2.2:=fun x B=>by
    obtain⟨j,_,h⟩:=lN.mp B;split at h
    . rename_i a q;split at h;.rename_i ow;cases X:H a with |none=>rw[X] at h;cases h |some o=>rw[X] at h;cases h;exact⟨q,ow,X⟩
      .cases h
    .cases h
  have w:∀(j:Nat)(y:Tr),(c3 δ b n)[j]?≠some (.p y):=fun j y h=>by
    by_cases c:j<b.length;.rw[J j c] at h;cases q:δ[b.getD j 0]? with |none=>rw[q] at h;cases h |some s=>rw[q] at h;cases s<;>cases h
    .rcases Y j c with z|z<;>(rw[z] at h;cases h)
  refine⟨f,⟨I.ext,?_,fun j=>?_,fun i j a M h1 h2 h3 G=>?_,fun x B=>?_,fun j y h=>absurd h (w j y)⟩,fun j h=>?_,fun x B=>⟨_,(C x B).2.2⟩⟩;.unfold qz c3;simp
  . by_cases c:j<b.length;.rw[J j c,Z j c];have z:=I.slot (b.getD j 0);cases q:δ[b.getD j 0]? with |none=>trivial |some s=> rw[q] at z;cases s with |no=>trivial |v d=>obtain⟨u,g,k⟩:=z;exact⟨u,by rw[g];rfl,k⟩ |o d=>obtain⟨a,g,k⟩:=z;exact⟨a,by rw[g];rfl,k⟩ |l d=>obtain⟨a,g,k⟩:=z;exact⟨a,by rw[g];rfl,k⟩ |p y=>trivial
    .rcases Y j c with z|z<;>(rw[z];trivial)
  .obtain⟨A,d1,L,o1,i2,i3,i4,i5,i6,U,i8⟩:=r i h1;obtain⟨j1,d2,a2,o2,j2,j3,j4,j5,j6,j7,j8⟩:=r j h2;rw[U] at h3;cases h3;rw[j7] at G;cases G;refine I.dist (b.getD i 0) (b.getD j 0) a (fun e=>M ?_) (by rwa[i2]) (by rwa[j2]) i6 j6;rw[du,du,b7 A,b7 j1] at e;exact((sO A T).mp (by rw[b7 A,b7 j1];exact c7 some e))
  .obtain⟨m1,m2,m3⟩:=C x B;obtain⟨_,d,_,_,_,_,G,⟨e,h5⟩,_⟩:=r x.1 m2;exact⟨⟨e,by rw[G,h5]⟩,m1,m3⟩
  .obtain⟨A,d1,L,o1,i2,i3,i4,i5,i6,U,i8,_⟩:=r j h;refine⟨(j,L,o1),lN.mpr ⟨j,iE.mpr A,?_⟩,rfl⟩;rw[U];show(if Sl.own (c3 δ b n)[j]?=true then(H L).map fun o=>(j,L,o) else none)=_;rw[ao h,i8];rfl
theorem aw.side(I:aw K Λ F0 H0 F H σ δ)(C:∀i:Nat,Sl.own δ[i]?=true->∃x∈Λ,x.1=i)(G:∀x∈Λ,x.2.1≠p)(h0:H0 p=none)(h1:F p=none):aw K Λ F0 H0 F (upd H p w) σ δ:=by
 have B:∀(i:Nat)(a:Addr),Sl.own _=true->σ[i]?=some (some (.ref a))->a≠p:=fun i a h M=>by obtain⟨x,g,e⟩:=C i h;have z:=(I.eZ x g).2.1;grind
 have f:∀(j:Nat)(y:Tr),δ[j]?≠some (.p y):=fun j y h=>by obtain⟨x,g,e⟩:=C j (by rw[h];rfl);obtain⟨d,L⟩:=(I.eZ x g).1;grind
 refine⟨⟨I.ext.ff,fun b o q=>?_,fun b o q=>?_,I.ext.nw⟩,I.len,fun i=>?_,I.dist,fun x g=>?_,fun j y h=>absurd h (f j _)⟩;.rw[bc (dH q h0)];exact I.ext.hh b o q
 .rw[bc (dH q h1)];exact I.ext.fh b o q
 .have z:=I.slot i;cases q:δ[i]? with |none=>trivial |some s=> rw[q] at z;cases s with |no=>trivial |v d=>exact z |o d=>obtain⟨a,c,k,r,A⟩:=z;exact⟨a,c,k,r,A.at (bc (B i a (by rw[q];rfl) c))⟩ |l d=>obtain⟨a,c,k,r,A⟩:=z;exact⟨a,c,k,r,A.at (bc (B i a (by rw[q];rfl) c))⟩ |p y=>grind
 .obtain⟨c,k,r⟩:=I.eZ x g;exact⟨c,k,by rwa[bc (G x g)]⟩
theorem aw.qF(w:mP δ c)(v:∀x∈Λ,∃d,δ[x.1]?=some (.l d))(I:aw K Λ F0 H0 F H σ c):aw K Λ F0 H0 F H σ δ:=by
  refine⟨I.ext,I.len.trans w.1.symm,fun i=>?_,fun i j a e q B y C=>?_,fun x o=>⟨v x o,(I.eZ x o).2⟩,I.fV (fun k s h=>⟨(w.2 k).elim (fun z=>by simp_all) fun z=>by grind,rfl⟩) (fun _ _ _ _ _ _ t f _=>⟨t,fun b G=>(f b G).2⟩) fun k j s r b J _ _ _ _ p A=>.inl ⟨(w.2 j).elim (fun z=>by rw[z] at p;cases p) fun z=>by rwa[<-z],A⟩⟩
  . rcases w.2 i with z|z;.rw[z];trivial
    .rw[z];exact I.slot i
  . have g:∀k,Sl.own δ[k]?=true->Sl.own c[k]?=true:=fun k h=>by
      rcases w.2 k with z|z;.rw[z] at h;cases h
      .rwa[<-z]
    exact I.dist i j a e (g i q) (g j B) y C
theorem UK(h:(oF f (d::l)).i1=.ok r):∃o a,f d=.ok o/\(oF f l).i1=.ok a/\r=o.toList++a:=by unfold oF at h;cases q:f d with |no=>rw[q] at h;cases h |ex x=>rw[q] at h;cases h |ok o=> rw[q] at h;cases b:oF f l with |no=>rw[b] at h;cases h |ex x=>rw[b] at h;cases h |ok a=>rw[b] at h;cases h;simp
theorem bA{r:R α}{a:α}(h:r.i1=.ok a):r=.ok a:=by cases r with |no=>cases h |ok b=>simp_all |ex x=>cases h
theorem kT{n:Nat}(hi:xq K XO E wi mi)(Bf:M.Nodup)(hg:SG K g b)(hw:BW b)(hc:(tc=none/\nc=none)\/∃c k,tc=some c/\nc=some k/\ST K XO EN c k)(he:SE K XO EN te me):iQ K XO E (yS wi M n g tc te) (i' mi M n b nc me):=by
  intro Λ F0 H0 F H σ δ Q I a;refine hi Λ F0 H0 F H σ δ _ I (a.bind.imp fun B F1 H1 e1 X J hJ p hp=>?_);unfold cN at X;split at X;case isFalse=>exact X.elim
  have I1:=I.grow e1;obtain⟨f,Ic,pU,q9⟩:=F9 (n:=n) I1 Bf;cases qg:(oF (jE b nc me (c3 δ M n)) B).i1 with |no=>rw[qg] at X;exact X.elim |ex x=>cases q2:oF (jE b nc me (c3 δ M n)) B<;>(rw[q2] at qg;cases qg) |ok l=>
  rw[qg] at X;have C:∀x∈f,∃d,(c3 δ M n)[x.1]?=some (.l d):=fun x hx=>(Ic.eZ x hx).1;have Bg:∀x∈f,x.2.1≠p:=fun x hx e=>by obtain⟨o,ho⟩:=q9 x hx;simp_all
  have p0:H0 p=none:=I1.ext.hh.free hp;have f1:F1 p=none:=e1.fh.free hp;refine⟨fun i k A F_ H2=>∃U Z l2,aw K f F0 H0 U H2 F_ (c3 δ M n)/\Ext F1 H1 U H2/\H2 p=some (.lst A)/\U p=none/\aD K U Z A/\(oF (jE b nc me (c3 δ M n)) (B.drop i)).i1=.ok l2/\l=Z++l2/\k=B.length-i/\i<=B.length/\A.length<=i, ⟨_,F1,[],l,?_,.dY e1.fh hp,cb,f1,.nil,qg,rfl,rfl,bR _,aC _⟩,?_⟩;.exact Ic.grow (.dY e1.fh hp)
  rintro i k A F_ H2 ⟨U,Z,l2,I2,x2,hD,hF,r,qd,rfl,rfl,Ga,Bh⟩;refine⟨hD,?_⟩;by_cases q_:i<B.length;.have e:B.drop i=B[i]::B.drop (i+1):=nG q_;rw[e] at qd;obtain⟨o,l3,s,q3,rfl⟩:=UK qd;obtain⟨h1,h2⟩:=(hJ U H2 x2 i).1 B[i] (by simp);refine .inr ⟨h1,fun S tE L=>∃G h,aw K f F0 H0 G L tE (c3 δ M n)/\Ext F1 H1 G L/\L p=some (.lst S)/\G p=none/\aD K G h S/\Z++(o.toList++l3)=h++l3/\S.length<=i+1, fun S tE L ⟨G,h,w1,w2,w3,w4,w5,w6,w7⟩=>⟨_,by omega,G,h,l3,w1,w2,w3,w4,w5,q3,w6,rfl,q_,w7⟩,fun x L y=>?_⟩;obtain⟨F3,e3,rx⟩:=h2 x L y;have L8:∀{F5 T:Hp},Ext U H2 F5 T->T p=some (.lst A)/\F5 p=none:=fun z=>⟨z.hh _ _ hD,z.nw p _ hF hD⟩;unfold jE at s;cases qb:b B[i] (c3 δ M n) with |none=>rw[qb] at s;cases s |some j=>
      rw[qb] at s;have L9:=hw _ _ _ qb;refine hg f F0 H0 F3 L F_ _ _ x j _ (I2.grow e3) rx qb fun N I3=>?_;have fin:∀F4 H4,Ext F3 L F4 H4->(me j).i1.bind (fun x=>R.ok (some x))=.ok o->te N H4 fun y T=>T p=some (.lst A)/\A.length<sizeLine/\ ∃G h,aw K f F0 H0 G (upd T p (.lst (A++[y]))) N (c3 δ M n)/\Ext F1 H1 G (upd T p (.lst (A++[y])))/\upd T p (.lst (A++[y])) p=some (.lst (A++[y]))/\G p=none/\aD K G h (A++[y])/\Z++(o.toList++l3)=h++l3/\(A++[y]).length<=i+1:=by intro F4 H4 Y qe;cases qm:me j with |no=>rw[qm] at qe;cases qe |ex x=>rw[qm] at qe;cases qe |ok d=> rw[qm] at qe;cases qe;refine he f F0 H0 F4 H4 N j _ (I3.grow Y) ?_;rw[qm];intro F5 T e5 v rv;have z:=e3.trans (Y.trans e5);obtain⟨z1,z2⟩:=L8 z;refine⟨z1,by lia,F5,Z++[d],(((I3.grow Y).grow e5).qF L9 C).side pU Bg p0 z2,?_,cb,z2,(r.mono z.ff).append (.cons rv .nil),by simp,by simpa using Bh⟩;have w:=x2.trans z;exact⟨w.ff,fun c o q=>by rw[bc (dH q hp)];exact w.hh c o q,fun c o q=>by rw[bc (dH q z2)];exact w.fh c o q,w.nw⟩
      rcases hc with⟨rfl,rfl⟩|⟨c,kc,rfl,rfl,UL⟩;.have z:=fin F3 L (.refl e3.fh) s;exact z
      .simp only at s;refine UL f F0 H0 F3 L N j _ I3 ?_;cases qk:kc j with |no=>rw[qk] at s;cases s |ex x=>rw[qk] at s;cases s |ok bb=> rw[qk] at s;intro F4 H4 Y;cases bb with |true=>exact fin F4 H4 Y s |false=>
            rw[ak eN];have eo:o=none:=by cases s;rfl
            subst eo;have z:=e3.trans Y;obtain⟨z1,z2⟩:=L8 z;exact⟨F4,Z,(I3.grow Y).qF L9 C,x2.trans z,z1,z2,r.mono z.ff,rfl,by lia⟩
  . have e:i=B.length:=by lia
    subst e;rw[qi] at qd;cases qd;refine .inl ⟨(hJ U H2 x2 _).2 (by simp),X _ _ x2 p hF (e1.hh.free hp) ⟨_,hD,?_⟩⟩;rwa[dN]
def mR(n:Nat)(ds:List D):En:=ds.map .v++List.replicate n .no
def bF(np nv:Nat)(m:En->O)(ds:List D):R D:=if ds.length=np then(match m (mR nv ds) with|.rt d=>.ok d|.nx _=>.ok .non|.ex _ x=>.ex x|_=>.no) else .no
theorem Gb(s:ax F H)(r:aD K F ds vs)(h:N.length=np+nv)(k:ds.length=np):aw K [] F H F H (L2.start N vs) (mR nv ds):=by
  have e:=r.length;unfold L2.start mR;have f:N.length-vs.length=nv:=by lia
  rw[f];refine⟨.refl s,by simp[e],fun i=>?_,fun i j a _ b _ _ _=>?_,fun x g=>(by cases g),fun i l b=>by
    by_cases c:i<ds.length;.rw[fZ (by simp_all),bY,b7 c] at b;cases b
    .rw[iC (by simpa using c),lI] at b;simp_all⟩
  . by_cases c:i<ds.length;.rw[fZ (by simp_all),fZ (by simp_all),bY,bY,b7 c];obtain⟨v,b,d⟩:=r.get (b7 _);rw[b];exact⟨v,rfl,d⟩
    .rw[iC (by simp_all),lI];split<;>trivial
  . by_cases c:i<ds.length;.rw[fZ (by simpa using c),bY,b7 c] at b;cases b
    .rw[iC (by simpa using c),lI] at b;split at b<;>cases b
theorem Bi{E:XK}(h:SS K XO (fun _=>E) t m)(g:N.length=np+nv)(sp:qA K XO (bF np nv m) vs H Q E):t {nx:=fun _ H'=>Q .non H',rt:=Q} (L2.start N vs) H:=by
 obtain⟨F,i,s,r,a⟩:=sp;unfold bF at a;split at a;.rename_i f;refine h _ F H F H _ _ _ (Gb s r g f) ?_;cases q:m _ with |no=>rwa[q] at a |nx δ=>rw[q] at a;exact fun σ b H' I=>a _ _ I.ext _ rfl |rt d=>rw[q] at a;exact fun v b H' e r=>a _ _ e v r |ro d=>rw[q] at a;exact a.elim |bk δ=>rw[q] at a;exact a.elim |ct δ=>rw[q] at a;exact a.elim |ex δ x=>rw[q] at a;exact fun σ b H' C c I w=>a C _ _ _ I.ext w
 .exact a.elim
def eE(np nv:Nat)(m:En->O)(ds:List D):R D:=if ds.length=np then(match m (mR nv ds) with|.ro d=>.ok d|.ex _ x=>.ex x|_=>.no) else .no
def vo(K:Kx)(XO:cX)(f:List D->R D):Sp:=fun e H Q E=>∃F b,ax F H/\aD K F b e/\eJ (fun _=>E) XO [] F H (fun d c a=>∀p,c p=none->H p=none->Own K c a d p->Q (.ref p) a) (f b)
theorem L_{E:XK}(h:SS K XO (fun _=>E) t m)(g:N.length=np+nv)(sp:vo K XO (eE np nv m) vs H Q E):t {nx:=fun _ H'=>Q .non H',rt:=Q} (L2.start N vs) H:=by
 obtain⟨F,l,s,r,a⟩:=sp;unfold eE at a;split at a;.rename_i j;refine h _ F H F H _ _ _ (Gb s r g j) ?_;cases q:m _ with |no=>rwa[q] at a |nx δ=>rw[q] at a;exact a.elim |rt d=>rw[q] at a;exact a.elim |ro d=>rw[q] at a;exact fun p b H' e c i o=>a _ _ e p c i o |bk δ=>rw[q] at a;exact a.elim |ct δ=>rw[q] at a;exact a.elim |ex δ x=>rw[q] at a;exact fun σ b H' C f I w=>a C _ _ _ I.ext w
 .exact a.elim
theorem Ma{E:XK}(sp:vo K XO (eE np nv m) vs H Q E):vs.length=np:=by
 obtain⟨F,b,s,r,a⟩:=sp;unfold eE at a;split at a;.rwa[r.length]
 .exact a.elim
theorem Dj{E:XK}(sp:qA K XO (bF np nv m) vs H Q E):vs.length=np:=by
 obtain⟨F,b,s,r,a⟩:=sp;unfold bF at a;split at a;.rwa[r.length]
 .exact a.elim
theorem UM{E:XK}(c:f [.cB ns]=.ok (.bl true))(h:fz K.f H a (ns.map V.int))(q:∀H',Q (.bl true) H'):qA K XO f [.ref a] H Q E:=by
  refine⟨fun b=>if b=a then H b else none,[.cB ns],fun b o e=>?_,.cons ?_ .nil,?_⟩;.simp_all
  . refine⟨a,rfl,?_⟩;rcases h with(h|⟨o,h⟩)|h;.exact .inl (.inl (by simp_all))
    .exact .inl (.inr ⟨o,by simp_all⟩)
    .exact .inr h
  .rw[c];intro d H' _ v r;simp[Rep] at r;simp_all
theorem rf(h:SA K XO E g ml):iQ K XO E (rS (vo K XO f) [] k g) (bw f ml):=fun Λ F0 H0 F H σ δ Q I a=>h _ _ _ F H _ _ _ I (a.bind.imp fun e F1 H1 b c s r=>⟨_,e,b.fh,by simp_all,eJ.imp (fun d w v l p q j i o=>p q j (b.hh.free i) o) (eJ.any c)⟩)
mutual
def nZ : D -> Bool
 | .tup l => rh l
 | .lst _ => false
 | .dc _ _ => false
 | .cB _ => false
 | .exc _ => false
 | .fd _ _ => false
 | .obj _ _ _ => false
 | _ => true
def rh : List D -> Bool
 | [] => true
 | d :: l => nZ d && rh l
end
variable(K) in
def wm(F H:Hp)(d:D)(v:V):Prop:=Rep K F d v\/(∃a,v=.ref a/\Own K F H d a)\/∃T b,d=ng T/\de K F H T v b
variable(K XO E) in
def xw(t:TA)(m:En->R (List D)):Prop:=∀Λ F0 H0 F H σ δ Q,aw K Λ F0 H0 F H σ δ->eJ E XO σ F H (fun c d b=>∀a,um (wm K d b) c a->Q a b) (m δ)->t σ H Q
theorem wm.mono{F H f H':Hp}(e:Ext F H f H'):wm K F H d v->wm K f H' d v |.inl h=>.inl (Rep.mono e.ff _ h) |.inr (.inl ⟨a,b,c⟩)=>.inr (.inl ⟨a,b,c.mono e.ff e.hh⟩) |.inr (.inr ⟨T,_,b,c⟩)=>.inr (.inr ⟨T,_,b,de.mono e.ff e.hh T c⟩)
theorem xy:xw K XO E cA af:=fun Λ F0 H0 F H σ δ Q I a=>a F H (.refl I.same) _ .nil
theorem tF(j:SE K XO E ta ma)(g:xw K XO E e k):xw K XO E (eG ta e) (ai ma k):=by intro Λ F0 H0 F H σ δ Q I a;refine j _ _ _ F H _ _ _ I (a.bind.imp fun l F1 H1 d h x f=>(g _ _ _ _ _ _ _ _ (I.grow d) (h.bind.imp fun p o q b i y c=>?_)));exact i _ _ (.refl b.fh) _ (.cons (.inl (Rep.mono b.ff _ f)) c)
theorem Mb(x:xw K XO E B j):xw K XO E (eG (bZ i) B) (ai (aj i) j):=by
 intro Λ F0 H0 F H σ δ Q I a;have c:∀d v,aj i _=.ok d->σ[i]?=some _->wm K F H d v->eG (bZ i) _ _ H Q:=fun d v A r b=>by unfold ai at a;rw[A] at a;refine⟨v,r,x _ _ _ F H _ _ _ I (eJ.imp (fun G M J h k y w=>?_) (eJ.bind a))⟩;exact k _ _ (.refl h.fh) _ (.cons (b.mono h) w)
 have z:=I.slot i;unfold ai at a
 cases q:δ[i]? with |none=>
  have e:aj i δ=.no:=by unfold aj;rw[q]
  rw[e] at a;exact a.elim |some s=>
  rw[q] at z;cases s with |no=>
   have e:aj i δ=.no:=by unfold aj;rw[q]
   rw[e] at a;exact a.elim |v d=>obtain⟨u,f,g⟩:=z;exact c d u (by unfold aj;rw[q]) f (.inl g) |o d=>obtain⟨u,f,_,_,g⟩:=z;exact c d _ (by unfold aj;rw[q]) f (.inr (.inl ⟨u,rfl,g⟩)) |l d=>obtain⟨u,f,_,_,g⟩:=z;exact c d _ (by unfold aj;rw[q]) f (.inr (.inl ⟨u,rfl,g⟩)) |p L=>
   have e:aj i δ=.no:=by unfold aj;rw[q]
   rw[e] at a;exact a.elim
def ik(F H:Hp):Hp:=fun b=>match F b with |some o=>some o |none=>match H b with |some (.lst c)=>some (.lst c) |some (.dK a)=>some (.dK a) |some (.jI o u)=>some (.jI o u) |some (.ins C e d)=>some (.ins C e d) |_=>none
theorem xA{F H:Hp}:ax F (ik F H):=fun b o h=>by unfold ik;rw[h]
theorem Mc{F H:Hp}(s:ax F H):ax (ik F H) H:=fun b o h=>by unfold ik at h;cases q:F b with |some u=>rw[q] at h;cases h;exact s _ _ q |none=> lia
theorem UN(s:ax F H)(h:H a=some (.lst vs)):ik F H a=some (.lst vs):=by unfold ik;cases q:F a with |some u=>rwa[s _ _ q] at h |none=>simp_all
mutual
theorem Md (s : ax F H) : ∀ (T : Tr) {v : V} {fp : List Addr}, de K F H T v fp -> Rep K (ik F H) (ng T) v
 | .d x, v, fp, h => Rep.mono xA x h.2
 | .l _, v, fp, h => by
  obtain ⟨a, c, o, rfl, j, f, g⟩ := h
  exact ⟨a, _, rfl, UN s f, Gd s _ g⟩
 | .t _, v, fp, h => by
  obtain ⟨a, c, rfl, f, g⟩ := h
  exact ⟨a, _, rfl, xA _ _ f, Gd s _ g⟩
theorem Gd (s : ax F H) : ∀ (i : List Tr) {c : List V} {fp : List Addr}, aW K F H i c fp -> aD K (ik F H) (gf i) c
 | [], c, fp, h => by
  simp only [aW] at h
  rw [h.1]
  simp only [gf]
  exact .nil
 | t :: i, c, fp, h => by
  simp only [aW] at h
  obtain ⟨v, r, p, k, rfl, j, f, g⟩ := h
  simp only [gf]
  exact .cons (Md s t f) (Gd s i g)
end
theorem UO{F H:Hp}(s:ax F H):∀{d:D}{v:V},wm K F H d v->Rep K (ik F H) d v:=by
 intro d v h;rcases h with h|⟨a,rfl,h⟩|⟨T,r,rfl,h⟩;.exact Rep.mono xA _ h
 .cases d with
  |lst l=> obtain⟨g,e,b⟩:=h;refine⟨a,_,rfl,?_,b.mono xA⟩;unfold ik;cases q:F a with |some u=>rwa[s _ _ q] at e |none=>simp_all
  |dc p l=> obtain⟨g,e,f,b⟩:=h;refine⟨a,_,rfl,?_,f,b.mono xA⟩;unfold ik;cases q:F a with |some u=>rwa[s _ _ q] at e |none=>simp_all
  |obj c p l=> obtain⟨j,g,e,f,b⟩:=h;refine⟨a,j,_,rfl,?_,f,b.mono xA⟩;unfold ik;cases q:F a with |some u=>rwa[s _ _ q] at e |none=>simp_all
  |_=>exact h.elim
 .exact Md s T h
theorem Ge{F H:Hp}(s:ax F H):∀{ds:List D}{vs:List V},um (wm K F H) ds vs->aD K (ik F H) ds vs |_,_,.nil=>.nil |_,_,.cons h t=>.cons (UO s h) (Ge s t)
open Classical in
def cL(F H a:Hp):Hp:=fun b=>if F b=none/\H b≠none then none else a b
theorem Gf{F H f H':Hp}(e:Ext (ik F H) H f H')(h:f a=some o)(h1:∀vs,o≠.lst vs)(h2:∀cu,o≠.dK cu)(h3:∀q u,o≠.jI q u)(g:∀C d fs,o≠.ins C d fs):cL F H f a=some o:=by
 unfold cL;split;.rename_i l;exfalso;cases c:H a with |none=>simp_all |some u=>
  have b:ik F H a=match H a with|some (.lst vs)=>some (.lst vs)|some (.dK cu)=>some (.dK cu)|some (.jI o u)=>some (.jI o u)|some (.ins C d fs)=>some (.ins C d fs)|_=>none:=by unfold ik;rw[l.1]
  cases u with |lst vs=>rw[c] at b;have z:=e.ff a _ b;grind |dK vs=>rw[c] at b;have z:=e.ff a _ b;rw[h] at z;simp_all |jI q w=>rw[c] at b;have z:=e.ff a _ b;rw[h] at z;cases z;exact h3 q w rfl |ins C d fs=>rw[c] at b;have z:=e.ff a _ b;rw[h] at z;cases z;exact g C _ _ rfl |_=>rw[c] at b;have z:=e.nw a _ b c;rw[h] at z;cases z
 .exact h
mutual
theorem Dk {F H f H' : Hp} (e : Ext (ik F H) H f H') : ∀ (d : D) {v : V}, nZ d = true -> Rep K f d v -> Rep K (cL F H f) d v
 | .non, v, _, h => h
 | .bl _, v, _, h => h
 | .int _, v, _, h => h
 | .str _, v, _, h => h
 | .lst _, v, c, h => by cases c
 | .dc _ _, v, c, h => by cases c
 | .cB _, v, c, h => by cases c
 | .exc _, v, c, h => by cases c
 | .fd _ _, v, c, h => by cases c
 | .obj _ _ _, v, c, h => by cases c
 | .tup l, v, c, h => let ⟨a, _, j, o, k⟩ := h;⟨a, _, j, Gf e o (fun _ z => by cases z) (fun _ z => by cases z) (fun _ _ z => by cases z) (fun _ _ _ z => by cases z), Gg e l c k⟩
theorem Gg {F H f H' : Hp} (e : Ext (ik F H) H f H') : ∀ (l : List D) {i : List V}, rh l = true -> aD K f l i -> aD K (cL F H f) l i
 | [], i, _, h => by simp only [aD] at h ⊢; exact h
 | d :: l, i, c, h => by
  simp only [rh, jH] at c
  simp only [aD] at h ⊢
  obtain ⟨v, r, j, o, k⟩ := h
  exact ⟨v, r, j, Dk e d c.1 o, Gg e l c.2 k⟩
end
theorem Gh{F H a H':Hp}(e:Ext (ik F H) H a H'):Ext F H (cL F H a) H':=by
  refine⟨fun b o h=>?_,e.hh,fun b o h=>?_,fun p o c f=>?_⟩;.unfold cL;rw[ak (fun d=>by simp_all)];exact e.ff b o (xA b o h)
  . unfold cL at h;split at h;.cases h
    .exact e.fh b o h
  .unfold cL;rw[ao ⟨c,by simp_all⟩]
def Dl(f:List D->R D)(ml:En->R (List D))(δ:En):R D:=(ml δ).bind fun l=>(f l).i1.bind fun d=>if nZ d=true then .ok d else .no
theorem UP(h:xw K XO E j ml):SE K XO E (rS (qA K XO f) [] o j) (Dl f ml):=by intro Λ F0 H0 F H σ δ Q I a;refine h _ _ _ F H _ _ _ I (a.bind.imp fun l F1 H1 c b s r=>⟨_,_,Mc c.fh,by rw[dN];exact Ge c.fh r,?_⟩);cases q:f _ with |no=>rwa[q] at b |ex x=>rw[q] at b;exact b.elim |ok d=>
 rw[q] at b;intro z w e v g;simp[R.bA] at b;split at b;.rename_i i;exact b _ _ (Gh e) v (Dk e d i g)
 .exact b.elim
variable(K) in
def SC(r:List V->Hp->VK->Prop)(f:List D->Option D):Prop:=∀F H e b d Q,ax F H->um (Top K F H) b e->f b=some d->(∀v c a,Ext F H c a->Rep K c d v->Q v a)->r e H Q
variable(K) in
def Me(r:List V->Hp->VK->Prop)(f:List D->Option D):Prop:=∀F H e c d Q,ax F H->um (Top K F H) c e->f c=some d->(∀p b a,Ext F H b a->b p=none->H p=none->Own K b a d p->Q (.ref p) a)->r e H Q
def aT(f:List D->Option D)(ml:En->R (List D))(δ:En):R D:=(ml δ).bind fun l=>R.of (f l)
theorem dJ(j:SC K r f)(h:uo K XO E i ml):SE K XO E (qR r i) (aT f ml):=by intro Λ F0 H0 F H σ δ Q I a;refine h _ _ _ F H _ _ _ I (a.bind.imp fun k F1 H1 c b o g=>?_);cases q:f _ with |none=>rw[q] at b;exact b.elim |some d=>rw[q] at b;exact j _ _ _ _ d Q c.fh g q fun v l p e r=>b _ _ e v r
theorem xB(j:Me K r f)(h:uo K XO E k ml):iQ K XO E (qR r k) (aT f ml):=by intro Λ F0 H0 F H σ δ Q I a;refine h _ _ _ F H _ _ _ I (a.bind.imp fun s F1 H1 c b v i=>?_);cases q:f _ with |none=>rw[q] at b;exact b.elim |some d=>rw[q] at b;exact j _ _ _ _ d Q c.fh i q fun p w x e l g o=>b _ _ e p l (c.hh.free g) o
def aJ:List D->Option D |[.lst l]=>some (.int l.length) |[.cB l]=>some (.int l.length) |[.tup l]=>some (.int l.length) |_=>none
theorem fW:SC K (fun xs H Q=>∃p ys,xs=[.ref p]/\(fz K.f H p ys\/hO K.f H p ys)/\Q (.int ys.length) H) aJ:=by
 intro F H i h d Q s r e q;unfold aJ at e;split at e;.cases e;cases r with |cons r c=> cases c;obtain⟨a,xs,rfl,f,g⟩:=r;exact⟨a,_,rfl,.inl (.inl f),q _ F H (.refl s) (by simp[Rep];rw[g.length])⟩
 .cases e;cases r with |cons r c=> cases c;obtain⟨a,rfl,f⟩:=r;exact⟨a,_,rfl,.inl (s.seq f),q _ F H (.refl s) (by simp only[Rep];simp)⟩
 .cases e;cases r with |cons r c=> cases c;obtain⟨a,xs,rfl,f,g⟩:=r;exact⟨a,_,rfl,.inr (.inl (.inl (s _ _ f))),q _ F H (.refl s) (by simp[Rep];rw[g.length])⟩
 simp_all
def n_:List D->Option D |[.int i]=>some (.int (if i<0 then-i else i)) |_=>none
theorem Gi:SC K (fun xs H Q=>∃i,xs=[.int i]/\Q (.int (if i<0 then-i else i)) H) n_:=by
 intro F H c f d Q s r e q;unfold n_ at e;split at e;.rename_i i;cases e;cases r with |cons r b=> cases b;subst r;exact⟨i,rfl,q _ F H (.refl s) rfl⟩
 simp_all
def ni:List D->Option D |[.lst l]=>some (.lst l) |[.tup l]=>some (.lst l) |_=>none
theorem xC:Me K (fun xs H Q=>∃p ys,xs=[.ref p]/\(fz K.f H p ys\/hO K.f H p ys)/\∀l,H l=none->Q (.ref l) (upd H l (.lst ys))) ni:=by
 intro F H i j d Q s r e q;unfold ni at e;split at e;.cases e;cases r with |cons r f=> cases f;obtain⟨a,xs,rfl,g,h⟩:=r;exact⟨a,_,rfl,.inl (.inl g),fun p b=>q _ F _ (.dY s b) (s.free b) b ⟨_,cb,h⟩⟩
 .cases e;cases r with |cons r f=> cases f;obtain⟨a,xs,rfl,g,h⟩:=r;exact⟨a,_,rfl,.inr (.inl (.inl (s _ _ g))),fun p b=>q _ F _ (.dY s b) (s.free b) b ⟨_,cb,h⟩⟩
 simp_all
def Mf:D->Option Int |.int i=>some i |_=>none
def cC(_:En):R (Option Int):=.ok none
def dV(me:En->R D)(δ:En):R (Option Int):=(me δ).bind fun d=>(R.of (Mf d)).bind fun i=>.ok (some i)
variable(K XO E) in
def SO(t:TO)(m:En->R (Option Int)):Prop:=∀Λ F0 H0 F H σ δ Q,aw K Λ F0 H0 F H σ δ->eJ E XO σ F H (fun o _ a=>Q o a) (m δ)->t σ H Q
theorem mS:SO K XO E Lb cC:=fun Λ F0 H0 F H σ δ Q I a=>a F H (.refl I.same)
theorem jq(h:SE K XO E te me):SO K XO E (Lc te) (dV me):=by intro Λ F0 H0 F H σ δ Q I a;refine h _ _ _ F H _ _ _ I (a.bind.imp fun d F1 H1 e b v r=>?_);cases d with |int i=>exact⟨i,r,b _ _ (.refl e.fh)⟩ |_=>exact b.elim
def cutD(xs:List D)(lo hi:Option Int):List D:=(xs.drop (HT.dn xs.length 0 lo)).take (HT.dn xs.length xs.length hi-HT.dn xs.length 0 lo)
def gj(me:En->R D)(ml mh:En->R (Option Int))(δ:En):R D:=(me δ).bind fun d=>(ml δ).bind fun b=>(mh δ).bind fun a=>(R.of (vf d)).bind fun l=>.ok (.lst (cutD l b a))
theorem lW(h:lV K XO E te me)(z:SO K XO E w ml)(y:SO K XO E x mh):iQ K XO E (E3 (AV K.f) te w x) (gj me ml mh):=by intro Λ F0 H0 F H σ δ Q I a;refine h _ _ _ F H _ _ _ I (a.bind.imp fun d F1 H1 f k v r=>?_);refine z _ _ _ _ _ _ _ _ (I.grow f) (k.bind.imp fun C N L e s=>(y _ _ _ _ _ _ _ _ ((I.grow f).grow e) (s.bind.imp fun J G B b i=>?_)));cases d with |lst l=> obtain⟨p,M,rfl,g,j⟩:=r;refine⟨p,_,rfl,.inl (PM.ax.rd b.hh (PM.ax.rd e.hh g)),fun q c=>i _ _ (.dY b.fh c) q (b.fh.free c) (f.hh.free (e.hh.free (b.hh.free c))) ⟨_,cb,?_⟩⟩;unfold cutD mL;rw[<-j.length];exact(((j.mono e.ff).mono b.ff).drop _).take _ |cB l=> obtain⟨p,rfl,g⟩:=r;refine⟨p,_,rfl,b.hh.seq (e.hh.seq (f.fh.seq g)),fun q c=>i _ _ (.dY b.fh c) q (b.fh.free c) (f.hh.free (e.hh.free (b.hh.free c))) ⟨_,cb,?_⟩⟩;unfold cutD mL;rw[aN,aN];exact(aD.ints.drop _).take _ |_=>exact i.elim
end
def cW(x y:D):Option D:=match x,y with|.lst l,.lst r=>cN (l.length+r.length<=sizeLine) (some (.lst (l++r))) none|_,_=>none
def ja:Nat->D->Bool |_,.non=>true |_,.int _=>true |n+1,.tup l=>l.all (ja n) |n+1,.lst l=>l.all (ja n) |_,_=>false
open Classical in
def mT(x y:D):Option D:=cN (ja 8 x=true/\ja 8 y=true) (some (.bl (decide (x=y)))) none
open Classical in
def jO(x y:D):Option D:=cN (ja 8 x=true/\ja 8 y=true) (some (.bl (!decide (x=y)))) none
def pY:String->D->Bool |"int",.int _=>true |"int",.bl _=>true |"bool",.bl _=>true |"list",.lst _=>true |"tuple",.tup _=>true |"str",.str _=>true |_,_=>false
def y':D->Bool |.cB _=>false |.exc _=>false |.fd _ _=>false |.obj _ _ _=>false |_=>true
def jP(c:String)(d:D):Option D:=match d with|.cB _=>none|.exc _=>none|.fd _ _=>none|.obj _ _ _=>none|d=>some (.bl (pY c d))
noncomputable def dE:List D->Option (List Int) |[]=>some [] |.int i::l=>(dE l).map (i::.) |_=>none
theorem r6(ns:List Int):dE (ns.map .int)=some ns:=by induction ns with |nil=>rfl |cons a l c=>simp[dE,c]
theorem uu(h:dE l=some ns):l=ns.map .int:=by induction l generalizing ns with |nil=>cases h;rfl |cons d l e=> cases d with
 |int i=> simp[dE] at h;cases q:dE l with |none=>simp_all |some m=>grind
 |_=>cases h
def fX:List D->Option D |[.lst l]=>(dE l).map fun a=>.int a.sum |_=>none
def dM:List Int->Int->Int |[],m=>m |a::l,m=>dM l (if a>m then a else m)
def vp(l:List D)(d:D):Option D:=match l with |[.lst []]=>some d |[.lst (.int a::l)]=>(dE l).map fun b=>.int (dM b a) |_=>none
def xD(ml:En->R (List D))(md:En->R D)(δ:En):R D:=(ml δ).bind fun l=>(md δ).bind fun d=>R.of (vp l d)
def ri:List D->Option (List D) |[.lst l]=>some l.reverse |_=>none
def rj(ml:En->R (List D))(δ:En):R (List D):=(ml δ).bind fun l=>R.of (ri l)
theorem Dp(h:jX c m n δ=o)(p:o≠.no):wh c m δ=o:=by
 have a:∀k n δ,jX c m n δ≠.no->jX c m (n+k) δ=jX c m n δ:=by intro k n;induction n with |zero=>intro δ h;exact absurd rfl h |succ n j=>
  intro δ h;have e:n+1+k=(n+k)+1:=by lia
  rw[e];unfold jX at h⊢;cases q:c _ with |no=>rfl |ex x=>rfl |ok b=> rw[q] at h;cases b with |false=>rfl |true=> cases i:m _<;>simp[i] at h⊢<;>exact j _ h
 have d:∃n,jX c m n _≠.no:=⟨n,by rwa[h]⟩;unfold wh;rw[dif_pos d];rw[<-(a n _ _ (Classical.choose_spec d)),Nat.add_comm,(a (Classical.choose _) n _ (by simp_all)),h]
theorem UQ{α:Type}(env:α->En)(go:α->Bool)(d:α->α)(P:α->Prop)(p:α->Nat)(v:∀a,P a->c (env a)=.ok (go a))(x:∀a,P a->go a=true->m (env a)=.nx (env (d a))/\P (d a)/\p (d a)<p a) (a:α)(h:P a):∃b,P b/\go b=false/\wh c m (env a)=.nx (env b)/\∃k,b=Nat.repeat d k a:=by
 have r:∀n a,P a->p a<n->∃b,P b/\go b=false/\jX c m n (env a)=.nx (env b)/\∃k,b=Nat.repeat d k a:=by intro n;induction n with |zero=>lia |succ n o=> intro a i y;cases g:go a with |false=>exact⟨a,i,g,by unfold jX;rw[v a i,g];rfl,0,rfl⟩ |true=>
  obtain⟨w,t,u⟩:=x a i g;obtain⟨b,l,j,q,k,s⟩:=o _ t (by lia);refine⟨b,l,j,?_,k+1,?_⟩;.unfold jX;simp_all
  .rw[s];clear s q j l b u t w y i o;induction k with |zero=>rfl |succ k o=>show d _=d _;rw[o]
 obtain⟨b,l,j,q,k⟩:=r _ a h (eP _);exact⟨b,l,j,Dp q (by simp),k⟩
theorem Gj{b:Type}(enc:b->D)(g:b->Option D):∀(l:List b),(∀x∈l,f (enc x)=.ok (g x))->oF f (l.map enc)=.ok (l.filterMap g) |[],_=>rfl |x::l,h=>by rw[bJ];unfold oF;rw[Gj _ g l fun y c=>h y (bK _ c)];cases q:g x with |none=>simp_all |some d=>simp_all
theorem small(h:n<=100000):n<=sizeLine:=bI h (by decide)
theorem Mg(h:n<=100000):n<sizeLine:=l5 h (by decide)
theorem c_(n:Nat)(h:i.natAbs<=n)(h2:n<2^8000:=by decide+kernel):eI i:=l5 h h2
@[simp] theorem wo(i j:Int):bO (.int i) (.int j)=some (.int (i+j)):=rfl
@[simp] theorem Dq(i j:Int):jN (.int i) (.int j)=some (.int (i-j)):=rfl
theorem xE(h:eI i)(h':eI j):iU (.int i) (.int j)=some (.int (i*j)):=fi ⟨h,h'⟩
theorem UR(h:j≠0)(h':eI j):oDiv (.int i) (.int j)=some (.int (i.fdiv j)):=fi ⟨h,h'⟩
theorem mU(h:0<j)(h':eI j):oDiv (.int i) (.int j)=some (.int (i/j)):=by rw[UR (by omega) h',Int.fdiv_eq_ediv_of_nonneg _ (by omega)]
theorem iy(h:0<j):oMod (.int i) (.int j)=some (.int (i%j)):=fi h
theorem Bj(h:pH i j):gg (.int i) (.int j)=some (.int (i^j.toNat)):=fi h
@[simp] theorem zA1(i j:Int):oLt (.int i) (.int j)=some (.bl (decide (i<j))):=rfl
@[simp] theorem zA7 (i j : Int) : oLe (.int i) (.int j) = some (.bl (decide (i ≤ j))) := rfl
@[simp] theorem Mh(i j:Int):qY (.int i) (.int j)=some (.bl (decide (j<i))):=rfl
@[simp] theorem US(i j:Int):y9 (.int i) (.int j)=some (.bl (decide (j<=i))):=rfl
@[simp] theorem za(i:Int):gh (.int i)=some (.int (-i)):=rfl
@[simp] theorem xF(i j:Int):oEq (.int i) (.int j)=some (.bl (decide (i=j))):=by simp[oEq,fl,qQ]
@[simp] theorem zA6(i j:Int):wk (.int i) (.int j)=some (.bl (!decide (i=j))):=by simp[wk,fl,qQ]
@[simp] theorem zA2 (d : D) : y_ d .non = some (.bl (Di d)) := rfl
@[simp] theorem uv(b:Bool):FJ (.bl b)=some b:=rfl
@[simp] theorem zA5(l:List D):vf (.lst l)=some l:=rfl
@[simp] theorem zA0 (l : List D) : Bb (.tup l) = some l := rfl
@[simp] theorem xG(i:Int):Mf (.int i)=some i:=rfl
@[simp] theorem zAX(l:List D):aJ [.lst l]=some (.int l.length):=rfl
@[simp] theorem zAY (l : List D) : aJ [.tup l] = some (.int l.length) := rfl
@[simp] theorem zAL (l : List D) : ni [.lst l] = some (.lst l) := rfl
@[simp] theorem zAJ (a b : D) : e_ (.tup [a, b]) (.int 0) = some a := rfl
@[simp] theorem zAE (a b : D) : e_ (.tup [a, b]) (.int 1) = some b := rfl
theorem mM{l:List α}{k:Nat}{d:α}(h:l[k]?=some d):hV l (k:Int)=some d:=by have a:=(b_.mp h).1;unfold hV iv;rwa[ao (by omega),ao (by omega)]
theorem Gk{k:Nat}(h:l[k]?=some d):aO (.lst l) (.int (k:Int))=some d:=mM h
theorem xH(h0:0<=i)(h:l[i.toNat]?=some d):aO (.lst l) (.int i)=some d:=by
 have e:i=i.toNat:=by lia
 rw[e];exact Gk h
theorem Bk(h0:0<=n)(h:n<=100000):lP [.int n]=some (vh 0 n.toNat):=by show cN _ _ _=_;rw[fi (by lia)]
theorem Gm(h0:-100000<=a/\a<=100000)(h:-100000<=b/\b<=100000):lP [.int a,.int b]=some (vh a (b-a).toNat):=by show cN _ _ _=_;rw[fi (by lia)]
theorem Mi(n:Nat):vh 0 n=(List.range n).map fun(k:Nat)=>D.int (k:Int):=by unfold vh;simp
theorem Bl(l:List D):rX l=(l.zipIdx).map fun p=>D.tup [.int (p.2:Int),p.1]:=by unfold rX;rw[List.mapIdx_eq_zipIdx_map]
@[simp] theorem zA4 (a b : α) : ([a, b].length ≤ sizeLine) = True := by simp [sizeLine]
def sv:Option D->Sl |none=>.no |some d=>.v d
theorem kG(h:δ[i]?=some (sv o)):aQ i d δ=some (δ.set i (.v d)):=by unfold aQ;rw[h];cases o<;>rfl
theorem UT(h:δ[i]?=some (sv o)):cZ i d δ=some (δ.set i (.o d)):=by unfold cZ;rw[h];cases o<;>rfl
@[simp] theorem zAK:sv none=.no:=rfl
@[simp] theorem zAR (d : D) : sv (some d) = .v d := rfl
def dk(L:List Int):D:=.dc (L.map .inl) (L.map fun _=>.bl true)
theorem Mj(L:List Int)(t:Int):gI (L.map .inl) (L.map fun _=>.bl true) (.inl t)=if t∈L then some (.bl true) else none:=by induction L with |nil=>rfl |cons a l d=>
 simp[gI];by_cases h:a=t;.simp_all
 .grind
theorem UU(L:List Int)(t:Int):putL (L.map .inl) (L.map fun _=>.bl true) (.inl t) (.bl true)=L.map fun _=>.bl true:=by induction L with |nil=>rfl |cons a l c=>simp[putL,c]
theorem UW(L:List Int)(t:Int):putD (L.map .inl) (L.map fun _=>.bl true) (.inl t) (.bl true)=dk (if t∈L then L else L++[t]):=by
 unfold putD;by_cases h:t∈L;.rw[ao (by simp_all),ao h,UU];rfl
 .rw[ak (by simp_all),ak h];simp[dk]
theorem UX(L:List Int)(t:Int):FX (L.map .inl) (L.map fun _=>.bl true) (.inl t)=dk (L.filter fun a=>decide (a≠t)):=by
 unfold FX dk;congr 1;.induction L with |nil=>rfl |cons a l c=>
  simp only[bJ,List.filter_cons];by_cases h:a=t;.subst h;simpa using c
  .have f:¬(Sum.inl a:Key)=Sum.inl t:=fun e=>h (Sum.inl.inj e);simp only[h,f,ne_eq,not_false_eq_true,decide_true,if_true,bJ,c]
 .induction L with |nil=>rfl |cons a l c=>
  simp only[bJ,Dc,List.filter_cons];by_cases h:a=t;.subst h;simpa using c
  .have f:¬(Sum.inl a:Key)=Sum.inl t:=fun e=>h (Sum.inl.inj e);rw[ak f,c];simp[h]
@[simp] theorem zzX(L:List Int)(t:Int):ur (.int t) (dk L)=some (.bl (!decide (t∈L))):=by simp[ur,qC,dk,Mj];grind
theorem UY(h:δ[i]?=some (.o (dk L)))(h1:mk δ=.ok (.int t))(h2:me δ=.ok (.bl true))(a:L.length<=100000): rZ i mk me δ=.nx (δ.set i (.o (dk (if t∈L then L else L++[t])))):=by unfold rZ;rw[h];simp only[dk,h2,h1,R.gH,qC];rw[fi (by rw[aN];exact Mg a),UW];rfl
theorem zAo(h:δ[i]?=some (.o (dk L)))(h1:mk δ=.ok (.int t))(b:t∈L): L1 i mk δ=.nx (δ.set i (.o (dk (L.filter fun a=>decide (a≠t))))):=by unfold L1;rw[h];simp only[dk,h1,R.gH,qC,Mj,ao b];rw[UX];rfl
def iL(l:List Int):D:=.lst (l.map .int)
theorem Bm{α:Type}(enc:α->D)(p:α->Bool)(l:List α)(h:∀x∈l,f (enc x)=.ok (if p x=true then some (enc x) else none)):oF f (l.map enc)=.ok ((l.filter p).map enc):=by rw[Gj _ _ l h];induction l with |nil=>rfl |cons a l e=>
 by_cases d:p a=true;.simp_all
 simp_all
theorem qG{α:Type}(enc:α->D)(g:α->D)(l:List α)(h:∀x∈l,f (enc x)=.ok (some (g x))):oF f (l.map enc)=.ok (l.map g):=by rw[Gj _ _ l h,List.filterMap_eq_map']
theorem lh(h1:mi δ=.ok l)(d:l.length<=100000) (h2:oF (jE b a me (c3 δ c n)) l=.ok r):i' mi c n b a me δ=.ok (.lst r):=by unfold i';rw[h1,R.aq,fi (small d),h2];rfl
theorem kU(h:mi δ=.ok l):c9 mi b m δ=iS b m l δ:=by unfold c9;simp_all
theorem gO(h:m (mR nv ds)=.rt d)(a:ds.length=np:=by rfl):bF np nv m ds=.ok d:=by unfold bF;simp_all
theorem Ml(h:m (mR nv ds)=.nx δ)(a:ds.length=np:=by rfl):bF np nv m ds=.ok .non:=by unfold bF;simp_all
theorem oa(h:m (mR nv ds)=.ro d)(a:ds.length=np:=by rfl):eE np nv m ds=.ok d:=by unfold eE;simp_all
theorem bB(h:m δ=.nx a):av m n δ=n a:=by unfold av;rw[h]
theorem ew(h:me δ=.ok d)(h2:b d δ=some a):az me b δ=.nx a:=by unfold az;simp_all
theorem tG(h:n δ=.ok true):bj n m m' δ=m δ:=by unfold bj;simp_all
theorem kH(h:n δ=.ok false):bj n m m' δ=m' δ:=by unfold bj;simp_all
theorem kW{g:Type}(enc:g->D)(P:List g->En->Prop)(a:List g) (step:∀pre x post δ,a=pre++x::post->P pre δ->∃c oG,b (enc x) δ=some c/\(m c=.nx oG\/m c=.ct oG)/\P (pre++[x]) oG)(δ:En)(h:P [] δ):∃oG,iS b m (a.map enc) δ=.nx oG/\P a oG:=by
 have f:∀(post pre:List _)(δ:En),a=pre++post->P pre δ->∃oG,iS b m (post.map enc) δ=.nx oG/\P a oG:=by intro post;induction post with |nil=>intro pre δ e h;exact⟨_,rfl,by simp_all⟩ |cons x post n=> intro pre δ e h;obtain⟨c,oG,p,d,l⟩:=step _ x _ _ e h;obtain⟨k,q,j⟩:=n _ _ (by rw[e];simp) l;refine⟨_,?_,j⟩;rw[bJ];unfold iS;rw[p];rcases d with d|d<;>(simp[d];exact q)
 exact f _ _ _ rfl h
@[simp] theorem zAI(l:List Int):aJ [iL l]=some (.int l.length):=by simp[iL]
@[simp] theorem zAZ (l : List Int) : vf (iL l) = some (l.map .int) := rfl
theorem Gn{α:Type}{l:List α}{pre post:List (α×Nat)}{x:α×Nat}(h:l.zipIdx=pre++x::post):x.2=pre.length/\l[x.2]?=some x.1/\∀q∈pre,q.2<x.2:=by
 have b:∀(k:Nat)(y:α×Nat),(pre++x::post)[k]?=some y->l[k]?=some y.1/\y.2=k:=by intro k y c;rw[<-h,List.getElem?_zipIdx] at c;cases e:l[k]? with |none=>simp_all |some a=>grind
 obtain⟨i,d⟩:=b pre.length x (by simp);refine⟨d,by simp_all,fun q f=>?_⟩;obtain⟨k,c,e⟩:=nI f;obtain⟨_,g⟩:=b k q (by rw[fZ c,b7 c,e]);lia
theorem UZ{l:List D}(h:k<=l.length):cutD l none (some (k:Int))=l.take k:=by
 unfold cutD;have e:HT.dn l.length l.length (some k)=k:=by show(if k<0 then((k:Int)+l.length).toNat else min _ _)=k;grind
 rw[e];rfl
theorem Mm{l:List D}(h:k<=l.length):cutD l (some (k:Int)) none=l.drop k:=by
 unfold cutD;have e:HT.dn l.length 0 (some k)=k:=by show(if k<0 then((k:Int)+l.length).toNat else min _ _)=k;grind
 rw[e];show(l.drop k).take (l.length-k)=_;rw[oN (by simp)]
theorem U0(l:List Int)(lo hi:Option Int):∃cs:List Int,cutD (l.map .int) lo hi=cs.map .int/\cs.length<=l.length:=by refine⟨(l.drop (HT.dn l.length 0 lo)).take (HT.dn l.length l.length hi-HT.dn l.length 0 lo),?_,by rw[lK,nJ];lia⟩;unfold cutD;simp
theorem Mn(h:l.length+r.length<=100000):cW (.lst l) (.lst r)=some (.lst (l++r)):=by show cN _ _ _=_;rw[fi (small h)]
end PM
namespace PM
open PySem L2 PyProof.Rows
section
variable{K:Kx}{ca:Nat->Addr}{an:Nat->Str}{XO:cX}{E:L2.St->XK}{ta tb te:TE}{ma mb me:En->R D}{X:Cx}
def Mo:R2:=fun x y H Q=>∃l b c a,x=.ref l/\y=.ref b/\Rd H l (.lst c)/\Rd H b (.lst a)/\c.length+a.length<=sizeLine/\∀p,H p=none->Q (.ref p) (upd H p (.lst (c++a)))
theorem nj:hR X (binaryOp .Add) Mo:=by
 rintro f s t H x y v u Q I o g ⟨l,b,p,G,rfl,rfl,m,h,A,q⟩;cases o;cases g;obtain⟨z,c,n,r,e⟩:=m.ok I.bD;obtain⟨B,a,C,d,k⟩:=h.ok I.bD;have w:=r.length;have j:=d.length;refine PySem.P.add_list e k ?_ (by rw[dX,dX];lia);have i:c.toArray++a.toArray=(c++a).toArray:=by simp
 rw[i];exact⟨.ref _,_,I.Fc (r.append d) (by rw[gX];lia),rfl,q _ I.fresh⟩
theorem nq:LR K Mo cW:=by intro F H x y i j d Q s m k e q;cases i with
 |lst l=> cases j with
  |lst r=>
   simp[cW] at e;unfold cN at e;split at e;.cases e;obtain⟨a,u,rfl,n,h⟩:=m;obtain⟨b,t,rfl,o,g⟩:=k;exact⟨a,b,_,_,rfl,rfl,n,o,by rwa[h.length,g.length],fun p c=>q p F _ (.dY s c) (s.free c) c ⟨_,cb,h.append g⟩⟩
   simp_all |_=>cases e
 |_=>cases e
theorem tH:∀{ns:List Int}{xs:List V},aD K F (ns.map .int) xs->xs=ns.map V.int |[],xs,h=>by simpa[aD] using h |n::ns,xs,h=>by obtain⟨v,r,rfl,rfl,b⟩:=h;rw[tH b];rfl
def Bo:List V->Hp->VK->Prop:=fun b H Q=>∃(p:Addr) (a:List Int),b=[.ref p]/\Rd H p (.lst (a.map V.int))/\Q (.int a.sum) H
theorem U1(h:fX ds=some d):∃ns:List Int,ds=[.lst (ns.map .int)]/\d=.int ns.sum:=by
 unfold fX at h;split at h;.rename_i l;cases z:dE l with |none=>simp_all |some ns=>rw[z] at h;cases h;exact⟨_,by rw[uu z],rfl⟩
 simp_all
theorem xI:SC K Bo fX:=by intro F H l i d Q s r e q;obtain⟨k,rfl,rfl⟩:=U1 e;cases r with |cons r g=> cases g;obtain⟨a,j,rfl,f,h⟩:=r;have c:=tH h;subst c;exact⟨a,_,rfl,f,q _ F H (.refl s) rfl⟩
theorem xJ(o:X.calm=true):m7 X (.builtin "sum") Bo:=by
 rintro g s J H L M Q I r ⟨p,b,rfl,m,q⟩;obtain⟨u,rfl,G⟩:=mI r;cases G;obtain⟨z,d,n,j,e⟩:=m.ok I.bD;obtain⟨c,rfl,w⟩:∃c:List _,d=(b.zip c).map (fun p=>Value.int p.1 p.2)/\c.length=b.length:=by clear e m q z;induction b generalizing d with |nil=>cases j;simp |cons a l v=> cases j with |cons h t=> obtain⟨i,rfl⟩:=h;obtain⟨c,rfl,B⟩:=v _ t;exact⟨i::c,rfl,by simp[B]⟩
 have y:((b.zip c).map (fun p=>Value.int p.1 p.2)).toArray=intItems (b.zip c).toArray:=by simp[intItems]
 rw[y] at e;refine sum_intListG (I.ok.hd o) ⟨_,e,rfl,n,rfl⟩ fun S i N C=>?_;have x:preSum (numAt (b.zip c).toArray) (b.zip c).toArray.size=b.sum:=by rw[preSum_eq,oN (by simp)];have:(b.zip c).map _=b:=sR (by lia);rw[this]
 rw[x];exact⟨.int _,H,I.kept C,⟨_,rfl⟩,q⟩
theorem U2 {K : W.Frag} {S T : String} (h2 : PySem.W.kitMeta T = true) (h3 : (PySem.fastBuiltinMro S).map (·.contains (.type T)) = some true) : PySem.W.kitOne K (.type S) (.type T) = some true := by
  unfold PySem.W.kitOne
  split
  · rfl
  · show (if PySem.W.kitMeta T = true then PySem.W.subIn K _ _ else none) = some _
    rw [ao h2]
    exact h3
def Bp:D->String |.non=>"NoneType" |.bl _=>"bool" |.int _=>"int" |.str _=>"str" |.tup _=>"tuple" |.lst _=>"list" |.dc _ _=>"dict" |.cB _=>"list" |.exc _=>"object" |.fd _ _=>"object" |.obj _ _ _=>"object"
theorem U3 {K : W.Frag} : PySem.W.kitOne K (.type "NoneType") (.type "int") = some false := L2.bX rfl rfl rfl
theorem iP {K : W.Frag} : PySem.W.kitOne K (.type "bool") (.type "int") = some true := U2 rfl (rfl)
theorem U4 {K : W.Frag} : PySem.W.kitOne K (.type "str") (.type "int") = some false := L2.bX rfl (by decide +kernel) (by decide +kernel)
theorem U5 {K : W.Frag} : PySem.W.kitOne K (.type "tuple") (.type "int") = some false := L2.bX rfl (by decide +kernel) (by decide +kernel)
theorem U6 {K : W.Frag} : PySem.W.kitOne K (.type "list") (.type "int") = some false := L2.bX rfl rfl rfl
theorem U7 {K : W.Frag} : PySem.W.kitOne K (.type "dict") (.type "int") = some false := L2.bX rfl (by decide +kernel) (by decide +kernel)
theorem U8 {K : W.Frag} : PySem.W.kitOne K (.type "NoneType") (.type "bool") = some false := L2.bX rfl rfl rfl
theorem U9 {K : W.Frag} : PySem.W.kitOne K (.type "int") (.type "bool") = some false := L2.bX rfl rfl rfl
theorem U_ {K : W.Frag} : PySem.W.kitOne K (.type "str") (.type "bool") = some false := L2.bX rfl rfl rfl
theorem U' {K : W.Frag} : PySem.W.kitOne K (.type "tuple") (.type "bool") = some false := L2.bX rfl (by decide +kernel) rfl
theorem Va {K : W.Frag} : PySem.W.kitOne K (.type "list") (.type "bool") = some false := L2.bX rfl (by decide +kernel) (by decide +kernel)
theorem Vb {K : W.Frag} : PySem.W.kitOne K (.type "dict") (.type "bool") = some false := L2.bX rfl rfl rfl
theorem Vc{K:W.Frag}:PySem.W.kitOne K (.type "NoneType") (.type "list")=some false:=L2.bX rfl rfl rfl
theorem Vd{K:W.Frag}:PySem.W.kitOne K (.type "bool") (.type "list")=some false:=L2.bX rfl (by decide+kernel) (by decide+kernel)
theorem Ve{K:W.Frag}:PySem.W.kitOne K (.type "int") (.type "list")=some false:=L2.bX rfl (by decide+kernel) (by decide+kernel)
theorem Vf{K:W.Frag}:PySem.W.kitOne K (.type "str") (.type "list")=some false:=L2.bX rfl (by decide+kernel) (by decide+kernel)
theorem Vg{K:W.Frag}:PySem.W.kitOne K (.type "tuple") (.type "list")=some false:=L2.bX rfl (by decide+kernel) (by decide+kernel)
theorem Vh{K:W.Frag}:PySem.W.kitOne K (.type "dict") (.type "list")=some false:=L2.bX rfl (by decide+kernel) (by decide+kernel)
theorem Vi{K:W.Frag}:PySem.W.kitOne K (.type "NoneType") (.type "tuple")=some false:=L2.bX (rfl) rfl rfl
theorem Vj{K:W.Frag}:PySem.W.kitOne K (.type "bool") (.type "tuple")=some false:=L2.bX rfl (by decide+kernel) (by decide+kernel)
theorem Vk{K:W.Frag}:PySem.W.kitOne K (.type "int") (.type "tuple")=some false:=L2.bX rfl (by decide+kernel) (by decide+kernel)
theorem Vl{K:W.Frag}:PySem.W.kitOne K (.type "str") (.type "tuple")=some false:=L2.bX rfl (by decide+kernel) (by decide+kernel)
theorem Vm{K:W.Frag}:PySem.W.kitOne K (.type "list") (.type "tuple")=some false:=L2.bX (by rfl) (by decide+kernel) (rfl)
theorem Vn{K:W.Frag}:PySem.W.kitOne K (.type "dict") (.type "tuple")=some false:=L2.bX (by rfl) (by decide+kernel) (by rfl)
theorem Vo {K : W.Frag} (d : D) (h : y' d = true) : PySem.W.kitOne K (.type (Bp d)) (.type "int") = some (pY "int" d) := by
  cases d with
  | non => exact U3
  | bl b => exact iP
  | int b => rfl
  | str b => exact U4
  | tup b => exact U5
  | lst b => exact U6
  | dc b b' => exact U7
  | cB b => cases h
  | exc b => cases h
  | fd b b' => cases h
  | obj b b' Vp => cases h
theorem Mp {K : W.Frag} (d : D) (h : y' d = true) : PySem.W.kitOne K (.type (Bp d)) (.type "bool") = some (pY "bool" d) := by
  cases d with
  | non => exact U8
  | bl b => rfl
  | int b => exact U9
  | str b => exact U_
  | tup b => exact U'
  | lst b => exact Va
  | dc b b' => exact Vb
  | cB b => cases h
  | exc b => cases h
  | fd b b' => cases h
  | obj b b' Vp => cases h
theorem Vq{K:W.Frag}(d:D)(h:y' d=true):PySem.W.kitOne K (.type (Bp d)) (.type "list")=some (pY "list" d):=by cases d with |non=>exact Vc |bl b=>exact Vd |int b=>exact Ve |str b=>exact Vf |tup b=>exact Vg |lst b=>rfl |dc b a=>exact Vh |cB b=>cases h |exc b=>cases h |fd b a=>cases h |obj b a g=>cases h
theorem Mq{K:W.Frag}(d:D)(h:y' d=true):PySem.W.kitOne K (.type (Bp d)) (.type "tuple")=some (pY "tuple" d):=by cases d with |non=>exact Vi |bl b=>exact Vj |int b=>exact Vk |str b=>exact Vl |tup b=>rfl |lst b=>exact Vm |dc b a=>exact Vn |cB b=>cases h |exc b=>cases h |fd b a=>cases h |obj b a g=>cases h
theorem zb(M:∀d,y' d=true->PySem.W.kitOne K.f (.type (Bp d)) (.type c)=some (pY c d))(U:lV K XO E ta ma):SE K XO E (qR (LB K.f) (eG ta (eG (tC (.ty c)) cA))) (m1 (jP c) ma):=by
 intro Λ F0 Z F H u δ Q I a;refine U _ _ _ F H _ _ _ I (a.bind.imp fun d G C n g x f=>?_);by_cases e:y' d=true;case neg=> cases d with |cB _=>exact g.elim |exc _=>exact g.elim |fd _ _=>exact g.elim |obj _ _ _=>exact g.elim |_=>exact absurd rfl e
 have t:eJ E XO u G C (fun d L w=>∀v,Rep K L d v->Q v w) (.ok (.bl (pY c d))):=by cases d with |cB l=>cases e |exc l=>cases e |fd _ _=>cases e |obj _ _ _=>cases e |_=>exact g
 suffices h:iM _ _ x _ from⟨x,_,_,_,_,rfl,rfl,h,M d e,(t _ _ (.refl n.fh) _ rfl)⟩
 cases d with |non=>subst f;exact .non |bl b=>subst f;exact .bl _ |int b=>subst f;exact .int _ |str b=>subst f;exact .str _ |tup l=> obtain⟨p,S,rfl,m,r⟩:=f;exact .tup (n.fh _ _ m) |lst l=>
  obtain⟨p,S,rfl,m,r⟩:=f;rcases m with h|⟨o,h⟩;.exact .lst h
  .exact .jI h |dc ks l=>obtain⟨p,y,rfl,m,r⟩:=f;exact .dK m |cB l=>cases e |exc l=>cases e |fd _ _=>cases e |obj _ _ _=>cases e
def toPy:Nat->D->PyData |_,.non=>.none |_,.int i=>.int i |n+1,.tup l=>.tuple (l.map (toPy n)) |n+1,.lst l=>.list (l.map (toPy n)) |_,_=>.none
theorem Dr:∀(n:Nat)(d:D),ja n d=true->(toPy n d).canLay0=true/\(toPy n d).depth<=n:=by intro n;induction n with
 |zero=> intro d h;cases d with |non=>exact⟨rfl,aC _⟩ |int i=>exact⟨rfl,aC _⟩ |_=>cases h
 |succ n t=>
  have b:∀l:List D,l.all (ja n)=true->PyData.canLayAll0 (l.map (toPy n))=true/\PyData.depthAll (l.map (toPy n))<=n:=by intro l;induction l with |nil=>intro _;exact⟨rfl,bR _⟩ |cons a l f=>
   intro h;rw[lF,jH] at h;obtain⟨c,o⟩:=t a h.1;obtain⟨s,u⟩:=f h.2;refine⟨?_,?_⟩;.simp[PyData.canLayAll0,c,s]
   .simp[PyData.depthAll];lia
  intro d h;cases d with |non=>exact⟨rfl,bR _⟩ |int i=>exact⟨rfl,bR _⟩ |tup l=>obtain⟨c,o⟩:=b l h;exact⟨by simpa[toPy,PyData.canLay0] using c,by simp[toPy,PyData.depth];omega⟩ |lst l=>obtain⟨c,o⟩:=b l h;exact⟨by simpa[toPy,PyData.canLay0] using c,by simp[toPy,PyData.depth];omega⟩ |_=>cases h
open Classical in
theorem Mr:∀(n:Nat)(d d':D),ja n d=true->ja n d'=true->PyData.eqv (toPy n d) (toPy n d')=decide (d=d'):=by intro n;induction n with
 |zero=> intro d d' h c;cases d with
  |non=>cases d'<;>first|(simp[toPy,PyData.eqv];done)|cases c
  |int i=> cases d' with |int j=>simp[toPy,PyData.eqv];grind |_=>first|(simp[toPy,PyData.eqv])|cases c
  |_=>cases h
 |succ n u=>
  have k:∀l e:List D,l.all (ja n)=true->e.all (ja n)=true->PyData.eqvAll (l.map (toPy n)) (e.map (toPy n))=decide (l=e):=by intro l;induction l with |nil=>intro e _ _;cases e<;>simp[PyData.eqvAll] |cons a l r=> intro e h c;cases e with |nil=>rfl |cons b e=> rw[lF,jH] at h c;simp only[bJ,PyData.eqvAll,u a b h.1 c.1,r _ h.2 c.2];by_cases w:a=b<;>by_cases v:l=e<;>simp
  intro d d' h c;cases d with
  |non=>cases d'<;>first|(simp[toPy,PyData.eqv];done)|cases c
  |int i=> cases d' with |int j=>simp[toPy,PyData.eqv];grind |_=>first|(simp[toPy,PyData.eqv])|cases c
  |tup l=> cases d' with |tup e=>simp only[toPy,PyData.eqv,k l _ h c];simp |_=>first|(simp[toPy,PyData.eqv])|cases c
  |lst l=> cases d' with |lst e=>simp only[toPy,PyData.eqv,k l _ h c];simp |_=>first|(simp[toPy,PyData.eqv])|cases c
  |_=>cases h
theorem Ms(I:Inv X pins σ H s)(M:ax F H):∀(n:Nat)(d:D)(v:V)(u:Value),ja n d=true->Rep ⟨X.K,ca,an⟩ F d v->RelV v u->∃f,Reads s.heap u (toPy n d) f:=by intro n;induction n with
 |zero=> intro d v u h r b;cases d with |non=>subst r;cases b;exact⟨_,.none⟩ |int i=>subst r;obtain⟨t,rfl⟩:=b;exact⟨_,.int i t⟩ |_=>cases h
 |succ n U=>
  have p:∀(l:List D)(g:List V)(w:List _),l.all (ja n)=true->aD ⟨X.K,ca,an⟩ F l g->Vals g w->∃f,ReadsAll s.heap w (l.map (toPy n)) f:=by intro l;induction l with |nil=>intro g w _ r b;subst r;cases b;exact⟨_,.nil⟩ |cons a l A=> intro g w h r b;rw[lF,jH] at h;obtain⟨v,r',rfl,T,Q⟩:=r;cases b with |cons b x=> obtain⟨f,m⟩:=U a v _ h.1 T b;obtain⟨bs,q⟩:=A _ _ h.2 Q x;exact⟨_,.cons m q⟩
  intro d v u h r b;cases d with |non=>subst r;cases b;exact⟨_,.none⟩ |int i=>subst r;obtain⟨t,rfl⟩:=b;exact⟨_,.int i t⟩ |tup l=> obtain⟨a,g,rfl,m,q⟩:=r;cases b;obtain⟨G,C,⟨o,e,c,k,B⟩,_⟩:=I.tuple (.inl (.inl (M _ _ m)));obtain⟨f,Z⟩:=p l _ _ h q C;exact⟨_,.tuple e c B (by omega)⟩ |lst l=> obtain⟨a,g,rfl,m,q⟩:=r;cases b;obtain⟨G,C,⟨o,k,e,c,_,B⟩,_⟩:=I.list (.inl (PM.ax.qV M m));obtain⟨f,Z⟩:=p l _ _ h q C;exact⟨_,.list e c B (by omega)⟩ |_=>cases h
theorem Vr(I:Inv X pins σ H s)(m:ax F H)(n:Nat):∀(l:List D)(vs:List V)(us:List Value),l.all (ja n)=true->aD ⟨X.K,ca,an⟩ F l vs->Vals vs us->∃f,ReadsAll s.heap us (l.map (toPy n)) f:=by intro l;induction l with |nil=>intro vs us _ r c;subst r;cases c;exact⟨_,.nil⟩ |cons a l e=> intro vs us h r c;rw[lF,jH] at h;obtain⟨v,p,rfl,g,j⟩:=r;cases c with |cons c d=> obtain⟨f,i⟩:=Ms I m n a v _ h.1 g c;obtain⟨q,k⟩:=e _ _ h.2 j d;exact⟨_,.cons i k⟩
theorem Dt(I:Inv X pins σ H s)(i:ax F H)(h:ja n d=true)(r:Top ⟨X.K,ca,an⟩ F H d v)(b:RelV v u):∃g,Reads s.heap u (toPy n d) g:=by cases d with
 |lst l=> cases n with |zero=>cases h |succ n=> obtain⟨a,C,rfl,z,m⟩:=r;cases b;obtain⟨p,w,⟨o,k,e,c,_,A⟩,_⟩:=I.list (.inl z);obtain⟨g,B⟩:=Vr I i n l _ _ h m w;exact⟨_,.list e c A (by simpa using B)⟩
 |dc y l=>cases n<;>cases h |obj c y l=>cases n<;>cases h |_=>exact Ms (ca:=ca) (an:=an) I i n _ v u h r b
open Classical in
def vr(K:Kx)(c:Bool):R2:=fun x y H Q=>∃(F:Hp) (b a:D),ax F H/\Top K F H b x/\Top K F H a y/\ja 8 b=true/\ja 8 a=true/\Q (.bl (if c=true then !decide (b=a) else decide (b=a))) H
theorem Mt(o:X.A.units+64<cLine):hR X (compareOp .Eq) (vr ⟨X.K,ca,an⟩ false):=by rintro d s r H x y v u Q I g e ⟨F,l,p,c,i,f,b,a,q⟩;obtain⟨n,h⟩:=Dt I c b i g;obtain⟨m,j⟩:=Dt I c a f e;obtain⟨k,t⟩:=Dr 8 _ b;obtain⟨m1,m2⟩:=Dr 8 _ a;refine SeqAt.compareEq_reads h j k m1 (by lia) ?_;rw[Mr 8 _ _ b a];exact⟨.bl _,H,I,rfl,q⟩
theorem Gp(o:X.A.units+64<cLine):hR X (compareOp .NotEq) (vr ⟨X.K,ca,an⟩ true):=by rintro d s r H x y v u Q I g e ⟨F,l,p,c,i,f,b,a,q⟩;obtain⟨n,h⟩:=Dt I c b i g;obtain⟨m,j⟩:=Dt I c a f e;obtain⟨k,t⟩:=Dr 8 _ b;obtain⟨m1,m2⟩:=Dr 8 _ a;refine SeqAt.compareNe_reads h j k m1 (by omega) ?_;rw[Mr 8 _ _ b a];exact⟨.bl _,H,I,rfl,q⟩
theorem Mu:SR K (vr K false) mT:=by
 intro F H x y f c d Q s a b e q;unfold mT cN at e;split at e;.rename_i h;cases e;exact⟨F,_,_,s,a,b,h.1,h.2,q _ F H (.refl s) rfl⟩
 .cases e
theorem Gq:SR K (vr K true) jO:=by
 intro F H x y f c d Q s a b e q;unfold jO cN at e;split at e;.rename_i h;cases e;exact⟨F,_,_,s,a,b,h.1,h.2,q _ F H (.refl s) rfl⟩
 simp_all
end
end PM
namespace L2
open PySem PySem.Spec PyProof.Rows
def Gr(K:PySem.W.Frag)(a:Addr)(n:Nat):It:= ⟨fun i H=>i<n/\∃b,fz K H a b/\b.length=n,fun i H x c=>c=H/\∀b,fz K H a b->b[n-1-i]?=some x,fun i _=>n<=i⟩
theorem Vs{P:Program}{K:PySem.W.Frag}(a g:Addr)(n:Nat):Turn P w K tg (Gr K a n) [g] g (fun i h=>i<=n/\h.IsRevIter g a ((n:Int)-1-i)) where
 mem:=by simp
 obj:=fun i h st b j=>by
  have e:b=g:=by simp_all
  subst e;obtain⟨_,o,e,c,d⟩:=st;exact⟨o,e,fun v z=>by rw[d] at z;cases z⟩
 keep:=fun i h m st k=>⟨st.1,st.2.at fun o e=>k g (by simp) o e⟩;item:=by
  intro X Q L O N i l s Z H E I q st D;subst Q L O;obtain⟨hi,M,R,hn⟩:=D;obtain⟨its,U,p,hz⟩:=I.list R;have T:M[n-1-i]?=some (M[n-1-i]'(by omega)):=b7 _;obtain⟨u,hu,ru⟩:=U.get T;obtain⟨B,G,f2,t,C,r⟩:=q g (by simp);have J:(n:Int)-1-i=(n-1-i:Nat):=by lia
  have f:=st.2;rw[J] at f;refine wpAny_pyNext_rev_item f p.isList (x:=u) (by simpa using hu) fun m A Y=>?_;have S:Inv X _ _ H {s with heap:=m}:=I.turned (fun b o j e=>(Y.2 b j).trans e) B G t C r;have y:m.IsRevIter g a (n-1-(i+1)):=by
   have e1:n-1-((i+1):Int)=n-1-i-1:=by lia
   simp_all
  obtain⟨o,e,c,d⟩:=id A;exact⟨u,rfl,CN e c d rfl ⟨_,H,S,ru,⟨rfl,fun ys hy=>by rwa[I.iI hy R]⟩,⟨hi,y⟩,fun b j=>(q b j).1⟩⟩
 done:=by
  intro X Q L O N i l s Z H E I q st D;obtain⟨B,G,f2,t,C,r⟩:=q g (by simp);have f:=st.2;have J:(n:Int)-1-i=-1:=by have:n<=i:=D;lia
  rw[J] at f;exact wpAny_pyNext_rev_end (I.ok.hd N) f fun m eb=>⟨rfl,I.turned (fun b o j e=>eb b o j e) B G t C r⟩
 self:=fun _ _ _ _ _ st h=>pz st.2 h
def Vt(scope a:Scope):Scope:={scope with names:=scope.names.map fun(n,k)=>if(k==.free&&a.kind==.function&&a.names.lookup n==some .cell) then(n,.cell) else(n,k)}
section
variable{X:Cx}
def xK(K:PySem.W.Frag)(f:TA):TI:=fun e H R=>f e H fun d c=>∃a b,d=[.ref a]/\fz K c a b/\R (Gr K a b.length) c
theorem Mv(z:Gl X "reversed")(v:X.mg "reversed"=none)(r:PA X [l] n)(k:starEach [l] X.env=[(false,eval l X.env)]:=by rfl): PI X D (.Call (.Name "reversed" p) [l] [] pos) (xK X.K n):=by
 intro f s G H R I h;refine Call_ (pE I z v boot_reversed (eU (bT (r _ _ s _ H _ I h) fun A g ⟨_,_,c,x,j⟩=>?_) k rfl));obtain⟨a,i,e,w,q⟩:=j;subst e;obtain⟨u,rfl,t⟩:=mI x;cases t;obtain⟨d,m,y,C⟩:=c.list w;have E:=m.length;refine call_reversed_list y.isList ?_;have st:(g.heap.push (revObj a _)).IsRevIter _ a (i.length-1-(0:Nat)):=⟨_,b9 _ rfl,rfl,by
  have e:((i.length:Int)-1-(0:Nat))=d.toArray.size-1:=by simp_all
  rw[e];rfl⟩;refine pz st (⟨_,_,_,_,_,rfl,c.kept fun b o e=>aK _ e,Vs a _ _,⟨bR _,st⟩,fun b B=>?_,q⟩);have e:b=g.heap.objs.size:=by simp_all
 subst e;exact c.kA (aC _) (c.bD.fresh (aC _))
end
end L2
namespace PM
open PySem L2
section
variable{K:Kx}{XO:cX}{E:L2.St->XK}
theorem Mw(r:aD K m ds vs)(h:∀c b,P c b->ax m c/\ax c b/\fz K.f b a vs):mQ K (Gr K.f a vs.length) P ds.reverse:=by
  intro c b p i;obtain⟨g,k,q⟩:=h _ _ p;have l:=r.length;refine⟨fun d e=>?_,fun o=>?_⟩
  . have j:i<ds.length:=by have:=(b_.mp e).1;simp_all
    rw[List.getElem?_reverse j] at e;obtain⟨v,s,n⟩:=r.get e;refine⟨⟨by lia,_,q,rfl⟩,fun x t y=>?_⟩;obtain⟨rfl,y⟩:=y;have z:=y _ q;rw[l,s] at z;cases z;exact⟨_,.refl k,Rep.mono g _ n⟩
  .have:=f9.mp o;rw[ka] at this;show vs.length<=i;lia
theorem Mx(h:ri l=some r):∃x,l=[.lst x]/\r=x.reverse:=by
 unfold ri at h;split at h;.simp_all
 simp_all
theorem Vu(h:SA K XO E e ml):SI K XO E (xK K.f e) (rj ml):=by intro k u p F H s m R I a;refine h _ _ _ F H _ _ _ I (a.bind.imp fun j o n c b g r=>?_);cases q:ri _ with |none=>rw[q] at b;exact b.elim |some z=> obtain⟨l,rfl,rfl⟩:=Mx q;obtain⟨v,rfl,f⟩:=aD.one r;obtain⟨a,g,rfl,d,i⟩:=f;exact⟨a,_,rfl,.inl (PM.ax.qV c.fh d),b _ _ (.refl c.fh) _ (Mw i fun w t x=>⟨x.1,x.2,.inl (PM.ax.rd x.2 (PM.ax.qV x.1 d))⟩)⟩
theorem Vv(h:uo K XO E e ml):xq K XO E (xK K.f e) (rj ml):=by intro k p v F H s m R I a;refine h _ _ _ F H _ _ _ I (a.bind.imp fun u o n g b i r=>?_);cases q:ri _ with |none=>rw[q] at b;exact b.elim |some z=> obtain⟨l,rfl,rfl⟩:=Mx q;cases r with |cons r f=> cases f;obtain⟨a,i,rfl,c,j⟩:=r;exact⟨a,_,rfl,.inl c,b _ _ (.refl g.fh) _ (Mw j fun w t x=>⟨x.ff,x.fh,.inl (PM.ax.rd x.hh c)⟩)⟩
end
def jr(K:Kx):cX:=fun x F _ C a=>C=.ref (K.ca x.c)/\XA K F x.c a
def xM(c:Nat)(ml:En->R (List D))(δ:En):O:=(ml δ).ij δ fun l=>cN (l.length<=sizeLine) (.ex δ ⟨c⟩) .no
section
variable{K:Kx}{E:L2.St->XK}{ta:TE}{ma:En->R D}{t u:TS}{m n:En->O}{Λ:List (Nat×Addr×HO)}{F0 H0 F H:Hp}{σ:L2.St}{δ:En}
theorem Bq(b:C=K.ca c)(d:c<16)(h:SA K (jr K) E f ml):SS K (jr K) E (LN C E f) (xM c ml):=by
 intro Λ F0 H0 F H σ δ j I a;refine h _ _ _ F H _ _ _ I ((cR.of I a).imp fun l g k e p i r=>?_);unfold cN at p;split at p;.exact⟨by rwa[r.length],p _ _ _ _ _ (I.grow e) ⟨by rw[b],by unfold XA;simp_all⟩⟩
 .exact p.elim
end
end PM
namespace L2
open PySem PySem.Spec PyProof.Rows
section
variable{P:Program}{w:World}{B:Around}{Z:Result->Shared->Prop}{J S:Addr}{fp wr:List Addr}{n:Nat}{Pv:Nat->Value->Prop}{Sn:Nat->Heap->Prop}
theorem Vw:(toString "max"++toString ".loop":String)="max.loop":=rfl
theorem Vx (W : Walks P w B.in1 J fp wr n Pv Sn) (bt : Nat → Nat → Bool) (cmp : CmpOf P w B.in1 .Gt Pv bt) (nS : S ∉ fp) (df : Value) : ∀ (r i : Nat) (s : Shared) (best : Value) (c : Nat), i + 1 + r = n → Sn (i + 1) s.heap → Pv (argBest bt i) best →
    s.heap.get? S = some { cls := .type "list", dict := none, data := .seq #[best, best] c, slots := #[] } →
    (∀ v h' tk, Pv (argBest bt (n - 1)) v → (∀ b o, b ∉ wr → b ≠ S → s.heap.get? b = some o → h'.get? b = some o) → Z (.ok (.ret v)) { s with heap := h', toks := tk }) →
    codeAny (model P w) B (.builtin "max.loop" ⟨[.ref J, .none, .ref S], [("default", df)]⟩) Z s := by
  have nw : S ∉ wr := fun z => nS (W.sub _ z)
  intro r
  induction r with
  | zero =>
    intro i s best c hr st pb atS fin
    have ei : i + 1 = n := hr
    refine jg F.entry_max_loop ((sC lB (A := B) _).symm ▸ ?_)
    refine ah (eD atS rfl (ah (ku (W.done s _ _ (ei ▸ st) fun h1 tk kp => (ah (mE (kp S _ nw atS) rfl (ah (gu (au (fin best _ tk ?_ fun b o g1 g2 e => ?_))))))))))
    · rwa [← ei]
    · exact (fO _ _ (aR g2)).trans (kp b o g1 e)
  | succ r ih =>
    intro i s best c hr st pb atS fin
    have lt : i + 1 < n := by lia
    refine jg F.entry_max_loop ((sC lB (A := B) _).symm ▸ (ah (eD atS rfl (ah (ku (W.item (i + 1) s _ _ lt st fun v h1 tk pv A5 kp => ?_))))))
    have xN := kp S _ nw atS
    refine ah (au (ah (ku (dz (ah (cmp (i + 1) (argBest bt i) v best _ _ _ pv pb (ah (dz (kr (ah (gu (au ?_))))))))))))
    cases hb : bt (i + 1) (argBest bt i) with
    | true =>
      refine ah (mE xN rfl (ah (gu ?_)))
      refine au ⟨km lB _, ih (i + 1) _ v _ (by lia) (W.frame _ _ _ A5 fun b g o e => (fO _ _ (fun z : S = b => nS (z ▸ g))).trans e) ?_ (jz _ xN rfl) fun v2 h2 Gs p2 k2 => ?_⟩
      · simp [argBest, hb]; exact pv
      · exact fin v2 h2 Gs p2 fun b o g1 g2 e => k2 b o g1 g2 ((fO _ _ (aR g2)).trans (kp b o g1 e))
    | false =>
      refine ah (gu ?_)
      refine au ⟨km lB _, ih (i + 1) _ best c (by lia) A5 ?_ xN fun v2 h2 Gs p2 k2 => ?_⟩
      · simp [argBest, hb, uL]; exact pb
      · exact fin v2 h2 Gs p2 fun b o g1 g2 e => k2 b o g1 g2 (kp b o g1 e)
theorem Vy(W:Walks P w B.in1 J fp wr n Pv Sn)(t:Nat->Nat->Bool)(j:CmpOf P w B.in1 .Gt Pv t)(h:S∉fp)(r:Value)(st:Sn 0 s.heap)(atS:s.heap.get? S=some {cls:=.type "list",dict:=none,data:=.seq #[] c,slots:=#[]}) (f0:n=0->∀h' tk,(∀b o,b∉wr->b≠S->s.heap.get? b=some o->h'.get? b=some o)->Z (.ok (.ret r)) {s with heap:=h',toks:=tk}) (i:0<n->∀v h' tk,Pv (argBest t (n-1)) v->(∀b o,b∉wr->b≠S->s.heap.get? b=some o->h'.get? b=some o)->Z (.ok (.ret v)) {s with heap:=h',toks:=tk}): codeAny (model P w) B (.builtin "max.loop" ⟨[.ref J,.none,.ref S],[("default",r)]⟩) Z s:=by
  have C:S∉wr:=fun z=>h (W.sub _ z);refine jg F.entry_max_loop ((sC lB (A:=B) _).symm▸(ah (eD atS rfl ?_)));by_cases m:n=0;.exact ah (ku (W.done s _ _ (m▸st) fun q tk d=>(ah (ib (au (f0 m q tk fun b o f _ e=>d b o f e))))))
  . have l:0<n:=by lia
    refine ah (ku (W.item 0 s _ _ l st fun v q tk pv k d=>?_));have a:=d S _ C atS;refine ah (au (ah (mE a rfl ?_)));rw[Vw];refine au ⟨rfl,Vx W _ j h _ (n-1) 0 _ v _ (by omega) (W.frame _ _ _ k fun b g o e=>(fO _ _ (fun z:S=b=>h (z▸g))).trans e) pv (jz _ a rfl) fun E D x y u=>?_⟩;exact i l _ _ _ y fun b o f p e=>u b o f p ((fO _ _ (aR p)).trans (d b o f e))
end
section
variable{P:Program}{w:World}{B:Around}{E:Value->Shared->Prop}{s:Shared}{Q:Value->Shared->Prop}{l:Addr}{xs:Array (Int×Tok)}{df:Value}
theorem Vz(a b:Value):argsOk "max" ⟨[a],[("default",b)]⟩:=by kernel_rfl
theorem VA(y:B.handled=none)(C:s.heap.IsList l (intItems xs))(f0:xs.size=0->∀h' tk,(∀b o,s.heap.get? b=some o->h'.get? b=some o)->Q df {s with heap:=h',toks:=tk}) (m:0<xs.size->∀v h' tk,(intItems xs)[argBest (fun i j=>decide (numAt xs i>numAt xs j)) (xs.size-1)]?=some v->(∀b o,s.heap.get? b=some o->h'.get? b=some o)->Q v {s with heap:=h',toks:=tk}): wpAny (model P w) B (call (.builtin "max") [.ref l] [("default",df)]) Q E s:=by
  have a:wpAny (model P w) B.in1 (Builtin.«max» ⟨[.ref l],[("default",df)]⟩) (fun r d=>match r with |.done f=>(match(Except.ok f:Result) with|.ok (.ret v)=>Q v d|.ok _=>False|.error e=>E e d) |.again p=>p.quiet=true/\codeAny (model P w) B p (fun r d=>match r with|.ok (.ret v)=>Q v d|.ok _=>False|.error e=>E e d) d) E s:=by
    refine ah (wpAny_of_eq (show Builtin.Builtins.bindParams "max" ["key","default"] 0 ⟨[],[("default",df)]⟩=pure [none,some df] from rfl) (ah (au (ah (iter_intList C fun I e st c G=>?_)))));subst e;refine ah (ko ?_);have n:∀b∈[s.heap.objs.size,l],b≠(s.heap.push {cls:=.type "list_iterator",data:=.fields #[.ref l,.int 0 0]}).objs.size:=fun b D z=>absurd (c b D) (by simp_all);have W:=Walks.list (prog:=P) (w:=w) (A:=B.in1) y s.heap.objs.size l G (intItems xs);refine au ⟨km lB _,Vy W _ (CmpOf.ints_gt (numAt xs) (fun _ _=>intItems_at)) (fun z=>n _ z rfl) df (W.frame _ _ _ st fun b _ o e=>aK _ e) (b9 _ rfl) (fun x h' tk kp=>?_) fun u v h' tk pv kp=>?_⟩
    . refine f0 (by simpa[intItems] using x) h' tk fun b o e=>?_;have g:=aK {cls:=.type "list_iterator",data:=.fields #[.ref l,.int 0 0]} e
      exact kp b o (fun z => by have:b=s.heap.objs.size:=by simp_all
                                exact dw _ (this▸aM e)) (aY (aM g)) (aK _ g)
    . refine m (by simpa[intItems] using u) v h' tk (by simpa[intItems] using pv) fun b o e=>?_;have g:=aK {cls:=.type "list_iterator",data:=.fields #[.ref l,.int 0 0]} e
      exact kp b o (fun z => by have:b=s.heap.objs.size:=by simp_all
                                exact dw _ (this▸aM e)) (aY (aM g)) (aK _ g)
  refine fU (l9 F.plain_max F.entry_max ?_);simp only[checkBuiltinCall];cases H:Manifest.signature? _ with |none=>exact au a |some q=> have t:=Vz (.ref l) df;simp[argsOk,H] at t;show wpAny _ _ (Bind.checkArgs _ q _) _ _ s;rw[t];exact au a
end
def Mz(f:TA)(g:TE):TE:=fun c H Q=>f c H fun h i=>(eG g cA) c i fun e d=>∃(y:V) (a:Addr) (b:List Int),e=[y]/\h=[.ref a]/\Rd d a (.lst (b.map V.int))/\Q (match b with|[]=>y|n::l=>.int (PM.dM l n)) d
theorem jY:∀(l:List Int)(m:Int),m<=PM.dM l m/\(∀a∈l,a<=PM.dM l m)/\(PM.dM l m=m\/PM.dM l m∈l)
  |[],m=>⟨lE _,fun _ h=>(by cases h),.inl rfl⟩ |a::l,m=>by
    obtain⟨i,g,d⟩:=jY l (if a>m then a else m);unfold PM.dM;have e:(if a>m then a else m)=a/\a>m\/(if a>m then a else m)=m/\¬a>m:=by lia
    refine⟨by lia,fun b f=>?_,?_⟩
    . rcases aU.mp f with rfl|f;.lia
      simp_all
    . rcases d with d|d
      . rcases e with⟨e,_⟩|⟨e,_⟩;.exact .inr (by simp_all)
        grind
      .exact .inr (bK _ d)
section
variable{X:Cx}
theorem MA(Y:X.calm=true)(U:Gl X "max")(o:X.mg "max"=none)(A:PA X [e] ta)(hd:PE X d td) (he:backTo pos (starEach [e] X.env)=(false,eval e X.env)::backTo pos (starEach [] X.env):=by rfl)(D:(backTo pos (starEach [e] X.env)).any (·.1)=false:=by rfl):PE X (.Call (.Name "max" p) [e] [⟨some "default",d,kp⟩] pos) (Mz ta td):=by
 intro k s S H Q I h;refine gr (pE I U o boot_max ?_);refine callWith_kw (bT (A pos k s S H _ I h) fun us s1 ⟨vs,H1,I1,r1,q1⟩=>(bT (Tx hd Tw pos k s1 S H1 _ I1 q1) fun ws s2 ⟨zs,N,x,rz,y,a,c,e1,e2,R,q⟩=>?_)) he D;subst e1 e2;obtain⟨u,rfl,rx⟩:=mI r1;cases rx;obtain⟨df,rfl,ry⟩:=mI rz;obtain⟨z,r,n,O,C⟩:=R.ok x.bD;obtain⟨b,rfl,htl⟩:∃b:List Tok,r=(c.zip b).map (fun p=>Value.int p.1 p.2)/\b.length=c.length:=by clear C R q z;induction c generalizing r with |nil=>cases O;simp |cons a l ih=> cases O with |cons h t=> obtain⟨w,rfl⟩:=h;obtain⟨b,rfl,hl⟩:=ih _ t;exact⟨w::b,rfl,by simp[hl]⟩
 have Z:((c.zip b).map (fun p=>Value.int p.1 p.2)).toArray=intItems (c.zip b).toArray:=by simp[intItems]
 rw[Z] at C;have M:∀j,numAt (c.zip b).toArray j=c.getD j 0:=fun j=>by rw[numAt_eq];have:(c.zip b).map (·.1)=c:=sR (by lia);rw[this]
 have J:(c.zip b).toArray.size=c.length:=by simp_all
 refine VA (x.ok.hd Y) ⟨_,C,rfl,n,rfl⟩ (fun L h' w G=>?_) fun hp v h' w hv G=>?_;.rw[J] at L;have:c=[]:=lJ.mp L;subst this;exact⟨y,N,x.kept (t':=w) G,ry,q⟩
 .cases c with |nil=>simp_all |cons m l=>
  obtain⟨t,rfl⟩:=intItems_at hv;refine⟨.int (PM.dM l m),N,x.kept (t':=w) G,⟨t,?_⟩,q⟩;congr 1;obtain⟨g1,g2⟩:=argBest_gt (numAt ((m::l).zip b).toArray) (((m::l).zip b).toArray.size-1);obtain⟨k1,k2,k3⟩:=jY l m;have lb:∀a∈m::l,a<=numAt ((m::l).zip b).toArray (argBest (fun i j=>decide (numAt ((m::l).zip b).toArray i>numAt ((m::l).zip b).toArray j)) (((m::l).zip b).toArray.size-1)):=fun a A=>by obtain⟨j,E,ej⟩:=nI A;have:=g2 j (by grind);rwa[M j,du,b7 E,ej] at this
  have T:numAt ((m::l).zip b).toArray (argBest (fun i j=>decide (numAt ((m::l).zip b).toArray i>numAt ((m::l).zip b).toArray j)) (((m::l).zip b).toArray.size-1))<=PM.dM l m:=by
   generalize argBest _ _=j at g1;rw[M j];have E:j<(m::l).length:=by lia
   have o:(m::l).getD j 0∈m::l:=by rw[du,b7 E];simp
   rcases aU.mp o with z|z;.rwa[z]
   .exact k2 _ z
  have o:=k3.elim (fun z=>by rw[z];exact g_) fun z=>bK _ z;exact sE T (lb _ o)
end
end L2
namespace PM
open PySem L2
section
variable{K:Kx}{XO:cX}{E:L2.St->XK}{td te:TE}{md me:En->R D}
theorem VB(h:vp ds d=some r):∃ns:List Int,ds=[.lst (ns.map .int)]/\r=match ns with|[]=>d|n::l=>.int (dM l n):=by
 unfold vp at h;split at h;.simp_all
 .rename_i a l;cases z:dE l with |none=>simp_all |some ns=>rw[z] at h;cases h;exact⟨a::ns,by rw[uu z];rfl,rfl⟩
 simp_all
theorem MB(o:uo K XO E k ml)(hd:SE K XO E td md):SE K XO E (Mz k td) (xD ml md):=by intro w A N F H x v Q I a;refine o _ _ _ F H _ _ _ I (a.bind.imp fun L C B g h G r=>(hd _ _ _ _ _ _ _ _ (I.grow g) (h.bind.imp fun d S M e c y i=>?_)));cases q:vp _ d with |none=>rw[q] at c;exact c.elim |some z=> rw[q] at c;obtain⟨s,rfl,rfl⟩:=VB q;cases r with |cons r t=> cases t;obtain⟨p,J,rfl,m,u⟩:=r;have j:=tH u;subst j;refine⟨y,p,_,rfl,rfl,PM.ax.rd e.hh m,c _ _ (.refl e.fh) _ ?_⟩;cases s with |nil=>exact i |cons n l=>rfl
end
end PM
namespace L2
open PySem PySem.Spec PyProof.Rows
section
variable{X:Cx}
theorem MC(h1:attributeBase o m X.env (eval o X.env)=eval o X.env:=by rfl) (h2:((backTo a (starEach [e,f] X.env)).all (fun x=>!x.1)&&(backToKw a (keywordEach [] X.env)).all (fun x=>x.1.isSome)&&decide (([e,f]:List Expr).length+([]:List Keyword).length+(if([]:List Keyword).isEmpty then 0 else 1)<30))=true:=by rfl) (h3:(b.endLine==a.line)=true:=by rfl)(c:backTo a (starEach [e,f] X.env)=[(false,eval e X.env),(false,eval f X.env)]:=by rfl):M2 X o m b e f a:=⟨h1,h2,h3,c⟩
end
end L2
namespace PM
open PySem L2
section
variable{K:Kx}{XO:cX}{E:L2.St->XK}{td ty tx:TE}{md my mx:En->R D}
def xO:D->D->Option D:=xt pH fun i j=>.int (i*2^j.toNat)
theorem VC : SR K (rI pH fun i j => .int (i * 2 ^ j.toNat)) xO := Be fun _ _ _ => by simp only [Rep]
def Br(x y:D):Option D:=match x,y with|.int i,.lst l=>(dE l).map fun a=>.bl (decide (i∈a))|.int i,.tup l=>(dE l).map fun a=>.bl (decide (i∈a))|_,_=>none
def zc(x y:D):Option D:=match x,y with|.int i,.lst l=>(dE l).map fun a=>.bl (!decide (i∈a))|.int i,.tup l=>(dE l).map fun a=>.bl (!decide (i∈a))|_,_=>none
theorem Du{ns:List Int}:CU (.int i) (ns.map V.int)=decide (i∈ns):=by
  rw[Bool.eq_iff_iff];unfold CU;simp[List.any_eq_true];constructor
  . rintro⟨a,c,b⟩;have:=by simpa[ui] using b
    simp_all
  .intro h;exact⟨i,h,by simp[ui]⟩
theorem Dv{ns:List Int}:(ns.map V.int).all u6=true:=by rw[qf,lG];intro x _;rfl
theorem VD:SR K (CV K.f false) Br:=by intro F H x y j m d Q s p h e q;cases j with
 |int i=> subst p;cases m with
  |lst l=> obtain⟨a,o,rfl,g,c⟩:=h;simp only[Br] at e;cases z:dE l with |none=>simp_all |some t=> rw[z] at e;cases e;have b:=uu z;subst b;have f:=tH c;subst f;exact⟨a,_,rfl,.inl (.inl g),rfl,Dv,q _ F H (.refl s) (by rw[Du];rfl)⟩
  |tup l=> obtain⟨a,o,rfl,g,c⟩:=h;simp only[Br] at e;cases z:dE l with |none=>rw[z] at e;cases e |some t=> rw[z] at e;cases e;have b:=uu z;subst b;have f:=tH c;subst f;exact⟨a,_,rfl,.inr (.inl (.inl (s _ _ g))),rfl,Dv,q _ F H (.refl s) (by rw[Du];rfl)⟩
  |_=>cases e
 |_=>cases e
theorem VE:SR K (CV K.f true) zc:=by intro F H x y j m d Q s p h e q;cases j with
 |int i=> subst p;cases m with
  |lst l=> obtain⟨a,o,rfl,g,c⟩:=h;simp only[zc] at e;cases z:dE l with |none=>simp_all |some t=> rw[z] at e;cases e;have b:=uu z;subst b;have f:=tH c;subst f;exact⟨a,_,rfl,.inl (.inl g),rfl,Dv,q _ F H (.refl s) (by rw[Du];rfl)⟩
  |tup l=> obtain⟨a,o,rfl,g,c⟩:=h;simp only[zc] at e;cases z:dE l with |none=>simp_all |some t=> rw[z] at e;cases e;have b:=uu z;subst b;have f:=tH c;subst f;exact⟨a,_,rfl,.inr (.inl (.inl (s _ _ g))),rfl,Dv,q _ F H (.refl s) (by rw[Du];rfl)⟩
  |_=>cases e
 |_=>cases e
def VF:D->Option (List Key×List D) |.dc a l=>some (a,l) |_=>none
def Bs(md my mx:En->R D)(δ:En):R D:=(md δ).bind fun d=>(R.of (VF d)).bind fun p=>(my δ).bind fun k=>(mx δ).bind fun x=>R.of ((qC k).map fun k=>(gI p.1 p.2 k).getD x)
theorem MD(hd:lV K XO E td md)(t:SE K XO E ty my)(A:SE K XO E tx mx):SE K XO E (Lw td ty tx) (Bs md my mx):=by intro S F0 T F H σ Y Q I a;refine hd _ _ _ F H _ _ _ I (a.bind.imp fun d N X i e x j=>?_);cases d with
 |dc ks l=> have h:=j;obtain⟨p,m,rfl,L,_⟩:=h;refine⟨p,rfl,.inl ⟨_,.inl L⟩,?_⟩;change eJ E _ _ _ _ _ ((my _).bind _) at e;refine t _ _ _ _ _ _ _ _ (I.grow i) (e.bind.imp fun k F2 H2 f s y G=>(A _ _ _ _ _ _ _ _ ((I.grow i).grow f) (s.bind.imp fun Z F3 H3 c b z n=>?_)));cases q:qC k with |none=>rw[q] at b;exact b.elim |some u=> rw[q] at b;obtain⟨p',o,J,g,M,C⟩:=L3 ((j.mono f.ff f.hh).mono c.ff c.hh);cases J;cases FY q G;refine⟨o,g,b _ _ (.refl c.fh) _ ?_⟩;cases w:gI _ l _ with |none=>rw[C w];simpa[w,Option.getD_none] using n |some U=>obtain⟨v,rfl,r⟩:=M _ w;simpa[w] using r
 |_=>exact e.elim
end
end PM
namespace L2
open PySem PySem.Spec PyProof.Rows
section
variable{X:Cx}
def Gu(c:TA):TE:=fun d H Q=>c d H fun b a=>∃j:Int,b=[.int j]/\∀r,a r=none->Q (.ref r) (upd a r (.lP 0 j))
theorem ME(l:Gl X "range")(f:X.mg "range"=none)(m:PA X [a] g)(k:starEach [a] X.env=[(false,eval a X.env)]:=by rfl):PE X (.Call (.Name "range" p) [a] [] pos) (Gu g):=by intro c s v H Q I h;refine Call_ (pE I l f boot_range (eU (bT (m _ _ s _ H _ I h) fun r w ⟨_,_,d,n,i⟩=>?_) k rfl));obtain⟨j,e,q⟩:=i;subst e;obtain⟨u,rfl,t,rfl⟩:=mI n;refine call_range_1 ⟨.ref _,_,?_,rfl,q _ (d.bD.fresh (aC _))⟩;exact d.laid (fun b o e=>aK _ e) (aC _) ⟨_,_,_,b9 _ rfl⟩
def MF:List V->Hp->VK->Prop:=fun a H Q=>∃(r:Addr) (j:Int),a=[.ref r]/\H r=some (.lP 0 j)/\(0<=j/\j<=100000)/\∀l,H l=none->Q (.ref l) (upd H l (.lst ((List.range j.toNat).map fun k:Nat=>.int (k:Int))))
theorem VG(E:X.calm=true):m7 X (.type "list") MF:=by
 rintro h s L H R S Q I r ⟨Z,j,rfl,w,hj,q⟩;obtain⟨u,rfl,D⟩:=mI r;cases D;obtain⟨J,M,T,e⟩:=I.bD _ _ w;have C:Builtin.Range.rangeSize 0 j 1=j.toNat:=by rw[l'];lia
 refine call_list_range (I.ok.hd E) e (small_one (by decide) (by decide) (by lia) (by omega)) C (by lia) fun N U x c' A Y a=>(⟨.ref _,_,?_,rfl,q _ (I.bD.fresh (aC _))⟩);obtain⟨O,B⟩:=a;refine I.laid A (aC _) ⟨by rw[aN,qo];exact bI (show j.toNat<=100000 by lia) (by decide),_,_,?_,by omega⟩;have c:∀(n:Nat)(l:List _)(o:Nat),l.length=n->(∀k v,l[k]?=some v->∃t,v=Value.int (o+k:Nat) t)->Vals ((List.range' o n).map fun k:Nat=>V.int k) l:=by intro n;induction n with |zero=>intro l o b _;rw[lJ.mp b];exact .nil |succ n z=> intro l o b p;cases l with |nil=>simp at b |cons v l=> obtain⟨t,rfl⟩:=p 0 v rfl;refine .cons ⟨t,rfl⟩ (z l _ (by simpa using b) fun k v d=>?_);obtain⟨G,f⟩:=p (k+1) v (by simpa using d);exact⟨_,by rw[f];congr 2;lia⟩
 have:=c _ _ 0 (by omega) fun k v d=>let⟨t,f⟩:=B k v (by simpa using d);⟨t,by rw[f];congr 1;simp⟩;rwa[List.range_eq_range']
end
end L2
namespace PM
open PySem L2
section
variable{K:Kx}{XO:cX}{E:L2.St->XK}
def rk(l:List D):Option D:=match l with |[.int j]=>cN (0<=j/\j<=100000) (some (.lst ((List.range j.toNat).map fun k:Nat=>.int (k:Int)))) none |_=>none
def Gv(ml:En->R (List D))(δ:En):R D:=(ml δ).bind fun l=>R.of (rk l)
theorem VH(h:rk l=some d):∃j:Int,l=[.int j]/\(0<=j/\j<=100000)/\d=.lst ((List.range j.toNat).map fun k:Nat=>.int (k:Int)):=by
  unfold rk at h;split at h
  . rename_i j;unfold cN at h;split at h;.cases h;exact⟨j,rfl,by omega,rfl⟩
    simp_all
  simp_all
theorem VI(h:SA K XO E s ml):iQ K XO E (qR MF (eG (Gu s) cA)) (Gv ml):=by intro y x z F H C w Q I a;refine h _ _ _ F H _ _ _ I (a.bind.imp fun u p t f c A r=>?_);cases q:rk _ with |none=>rw[q] at c;exact c.elim |some d=> rw[q] at c;obtain⟨j,rfl,o,rfl⟩:=VH q;obtain⟨v,rfl,n⟩:=aD.one r;subst n;refine⟨j,rfl,fun B g=>⟨_,j,rfl,cb,o,fun l m=>?_⟩⟩;have e:Ext _ _ _ (upd _ _ (.lP 0 j)):=.dY f.fh g;have b:=e.hh.free m;refine c _ _ (e.trans (.dY e.fh m)) l (f.fh.free b) (f.hh.free b) ⟨_,cb,?_⟩;have:=aD.ints (K:=K) (F:=p) (ns:=(List.range j.toNat).map fun k:Nat=>k);rwa[cM,cM] at this
end
end PM
namespace L2
open PySem PySem.Spec PyProof.Rows
theorem Inv.vu(ch:List Addr)(I:Inv X pins σ H s)(d:∀b∈ch,jj X pins H b)(k:∀b o,b∉ch->s.heap.get? b=some o->h'.get? b=some o):Inv X pins σ H {s with heap:=h',toks:=t'}:=by
 have g:∀b u,H b=some u->b∉ch:=fun b u e z=>by obtain⟨i,_⟩:=d b z;simp_all
 refine I.step (fun b l=>?_) (fun b o _ _ a e _=>k b o a e) (fun b o _ _ a e _=>⟨_,k b o a e⟩) (fun _ _ _ _ n=>n) (fun b o a e=>⟨o,k b o a e⟩) (fun _ _ e=>e) (fun _ _ _ e=>e) (fun b w e=>⟨#[],by simp_all⟩) (fun m j=>?_) (fun b u e=>?_) I.bare;.obtain⟨i,h,t,B,x,A⟩:=d b l;grind
 .obtain⟨o,y,p,f,r⟩:=j;refine⟨o,_,_,k _ o (fun z=>?_) f,r⟩;obtain⟨_,h,_⟩:=d _ z;simp_all
 .refine(I.bD b u e).ic (fun c v a q=>k c v ?_ q) (fun _ q=>q) fun _ _ q=>q;grind
theorem Inv.wq(ch:List Addr)(I:Inv X pins σ H s)(h:∀b∈ch,jj X pins H b)(k:∀b o,b∉ch->s.heap.get? b=some o->h'.get? b=some o) (x:xs.length<=sizeLine)(t:Vals xs us)(y:h'.get? s.heap.objs.size=some {cls:=.type "tuple",data:=.seq us.toArray}):Inv X pins σ (upd H s.heap.objs.size (.tup xs)) {s with heap:=h',toks:=t'}:=by
  have d:=I.bD.fresh (aC _);have B:∀b u,H b=some u->b∉ch:=fun b u e z=>by obtain⟨j,_⟩:=h b z;simp_all
  refine I.step (fun b a=>?_) (fun b o _ _ a q _=>k b o a q) (fun b o _ _ a q _=>⟨_,k b o a q⟩) (fun b o a q n=>?_) (fun b o a q=>⟨o,k b o a q⟩) (fun b i q=>?_) (fun b o i q=>?_) (fun b J q=>⟨#[],?_⟩) (fun m A=>?_) ?_ I.bare;.obtain⟨j,l,G,E,D,C⟩:=h b a;grind
  .rwa[bc (aY (aM q))]
  .rwa[bc (dH q d)]
  .rwa[bc (dH q d)]
  .rw[bc (dH q d),q];simp
  .obtain⟨o,w,L,g,r⟩:=A;refine⟨o,_,_,k _ o (fun z=>?_) g,r⟩;obtain⟨_,l,_⟩:=h _ z;simp_all
  . intro b o q;by_cases a:b=s.heap.objs.size;.subst a;rw[cb] at q;cases q;exact⟨x,_,t,⟨_,y,rfl,_,rfl⟩⟩
    . rw[bc a] at q;refine(I.bD b o q).ic (fun c v p f=>?_) (fun c f=>by rwa[bc (dH f d)]) fun c i f=>by rwa[bc (dH f d)]
      (first|rfl|omega|simp|simp_all|grind)
section
variable{X:Cx}
end
end L2
namespace PM
open PySem L2
section
variable{K:Kx}{XO:cX}{E:L2.St->XK}
def rl(l r:List D):List D:=List.zipWith (fun x y=>.tup [x,y]) l r
end
end PM
namespace PM
def jQ:List Int->Int->Int |[],m=>m |a::l,m=>jQ l (if a<m then a else m)
end PM
namespace L2
open PySem PySem.Spec PyProof.Rows
theorem MG:∀(l:List Int)(m:Int),PM.jQ l m<=m/\(∀a∈l,PM.jQ l m<=a)/\(PM.jQ l m=m\/PM.jQ l m∈l)
  |[],m=>⟨lE _,fun _ h=>(by cases h),.inl rfl⟩ |a::l,m=>by
    obtain⟨i,g,d⟩:=MG l (if a<m then a else m);unfold PM.jQ;have e:(if a<m then a else m)=a/\a<m\/(if a<m then a else m)=m/\¬a<m:=by lia
    refine⟨by lia,fun b f=>?_,?_⟩
    . rcases aU.mp f with rfl|f;.lia
      simp_all
    . rcases d with d|d
      . rcases e with⟨e,_⟩|⟨e,_⟩;.exact .inr (by simp_all)
        lia
      .exact .inr (bK _ d)
section
variable{X:Cx}
def Gw(f:List Int->Int->Int):List V->Hp->VK->Prop:=fun a H Q=>∃(p:Addr) (n:Int) (l:List Int),a=[.ref p]/\Rd H p (.lst ((n::l).map V.int))/\Q (.int (f l n)) H
theorem MH{ns:List Int}(d:Vals (ns.map V.int) its):∃ts:List Tok,its.toArray=intItems (ns.zip ts).toArray/\(ns.zip ts).toArray.size=ns.length/\∀j,numAt (ns.zip ts).toArray j=ns.getD j 0:=by
 obtain⟨ts,rfl,f⟩:∃ts:List _,its=(ns.zip ts).map (fun p=>Value.int p.1 p.2)/\ts.length=ns.length:=by induction ns generalizing its with |nil=>cases d;simp |cons a l k=> cases d with |cons h t=> obtain⟨e,rfl⟩:=h;obtain⟨ts,rfl,g⟩:=k t;exact⟨e::ts,rfl,by simp[g]⟩
 refine⟨ts,by simp[intItems],by simp_all,fun j=>?_⟩;rw[numAt_eq];have:(ns.zip ts).map _=ns:=sR (by omega);rw[this]
theorem VJ{f:Nat->Int}(a:∀j,f j=(m::l).getD j 0):f (argBest (fun i j=>decide (f i>f j)) ((m::l).length-1))=PM.dM l m:=by
  obtain⟨q,o⟩:=argBest_gt f _;obtain⟨p,d,e⟩:=jY l m;generalize argBest _ _=j at*;have k:j<(m::l).length:=by have:(m::l).length=l.length+1:=rfl;lia
  have b:(m::l).getD j 0∈m::l:=by rw[du,b7 k];simp
  rw[<-a j] at b;refine sE ?_ ?_
  . rcases aU.mp b with z|z;.simp_all
    .exact d _ z
  .have h:PM.dM l m∈m::l:=e.elim (fun z=>by rw[z];simp) fun z=>bK _ z;obtain⟨i,g,n⟩:=nI h;have:=o i (by(first|rfl|lia|simp|simp_all|grind));rwa[a i,du,b7 g,n] at this
theorem VL{f:Nat->Int}(a:∀j,f j=(m::l).getD j 0):f (argBest (fun i j=>decide (f i<f j)) ((m::l).length-1))=PM.jQ l m:=by
  obtain⟨q,o⟩:=argBest_lt f _;obtain⟨p,d,e⟩:=MG l m;generalize argBest _ _=j at*;have k:j<(m::l).length:=by have:(m::l).length=l.length+1:=rfl;lia
  have b:(m::l).getD j 0∈m::l:=by rw[du,b7 k];simp
  rw[<-a j] at b;refine sE ?_ ?_;.have h:PM.jQ l m∈m::l:=e.elim (fun z=>by grind) fun z=>bK _ z;obtain⟨i,g,n⟩:=nI h;have:=o i (by lia);rwa[a i,du,b7 g,n] at this
  . rcases aU.mp b with z|z;.lia
    .exact d _ z
theorem MI(h:X.calm=true):m7 X (.builtin "max") (Gw PM.dM):=by rintro a s A H C x Q I r ⟨p,m,l,rfl,k,q⟩;obtain⟨u,rfl,o⟩:=mI r;cases o;obtain⟨z,i,n,c,e⟩:=k.ok I.bD;obtain⟨B,d,b,f⟩:=MH c;rw[d] at e;refine max_intList (I.ok.hd h) ⟨_,e,rfl,n,rfl⟩ (by simp_all) fun v w y g j=>?_;obtain⟨t,rfl⟩:=intItems_at g;refine⟨.int _,H,I.kept j,⟨t,?_⟩,q⟩;congr 1;rw[b];exact VJ f
theorem VM(h:X.calm=true):m7 X (.builtin "min") (Gw PM.jQ):=by rintro a s A H C x Q I r ⟨p,m,l,rfl,k,q⟩;obtain⟨u,rfl,o⟩:=mI r;cases o;obtain⟨z,i,n,c,e⟩:=k.ok I.bD;obtain⟨B,d,b,f⟩:=MH c;rw[d] at e;refine min_intList (I.ok.hd h) ⟨_,e,rfl,n,rfl⟩ (by grind) fun v w y g j=>?_;obtain⟨t,rfl⟩:=intItems_at g;refine⟨.int _,H,I.kept j,⟨t,?_⟩,q⟩;congr 1;rw[b];exact VL f
end
end L2
namespace PM
open PySem L2
section
variable{K:Kx}
def zd:List D->Option D |[.int i,.int j]=>some (.int (if j>i then j else i)) |_=>none
def xP:List D->Option D |[.int i,.int j]=>some (.int (if j<i then j else i)) |_=>none
def uw(f:List Int->Int->Int):List D->Option D |[.lst (.int a::l)]=>(dE l).map fun b=>.int (f b a) |_=>none
theorem MJ:SC K (fun xs H Q=>∃i j,xs=[.int i,.int j]/\Q (.int (if j>i then j else i)) H) zd:=by
 intro F H h g d Q s r e q;unfold zd at e;split at e;.rename_i i j;cases e;cases r with |cons r f=> cases f with |cons b c=> cases c;subst r b;exact⟨i,j,rfl,q _ F H (.refl s) rfl⟩
 simp_all
theorem Gx:SC K (fun xs H Q=>∃i j,xs=[.int i,.int j]/\Q (.int (if j<i then j else i)) H) xP:=by
 intro F H h g d Q s r e q;unfold xP at e;split at e;.rename_i i j;cases e;cases r with |cons r f=> cases f with |cons b c=> cases c;subst r b;exact⟨i,j,rfl,q _ F H (.refl s) rfl⟩
 simp_all
theorem VN(h:uw f ds=some d):∃(n:Int) (l:List Int),ds=[.lst ((n::l).map .int)]/\d=.int (f l n):=by
 unfold uw at h;split at h;.rename_i a l;cases z:dE l with |none=>simp_all |some b=>rw[z] at h;cases h;exact⟨a,_,by rw[uu z];rfl,rfl⟩
 simp_all
theorem Gy:SC K (Gw f) (uw f):=by intro F H m j d Q s r e q;obtain⟨n,l,rfl,rfl⟩:=VN e;cases r with |cons r g=> cases g;obtain⟨a,k,rfl,h,i⟩:=r;have c:=tH i;subst c;exact⟨a,n,l,rfl,h,q _ F H (.refl s) rfl⟩
end
end PM
namespace L2
open PySem PySem.Spec PyProof.Rows
section
variable{X:Cx}
theorem MK(c:Vals (ns.map V.int) its):IntsAre its ns:=by induction ns generalizing its with |nil=>cases c;exact .nil |cons a l d=> cases c with |cons h t=> obtain⟨f,rfl⟩:=h;exact .cons _ _ (d t)
theorem VO(b:IntsAre its ns):Vals (ns.map V.int) its:=by induction b with |nil=>exact .nil |cons _ _ _ d=>exact .cons ⟨_,rfl⟩ d
end
end L2
namespace PM
open PySem L2
section
variable{K:Kx}
end
section
variable{K:Kx}{XO:cX}{E:L2.St->XK}{te:TE}{me:En->R D}
theorem aD.dropLast(h:aD K F l vs):aD K F l.dropLast vs.dropLast:=by rw[sF,sF,h.length];exact h.take _
def wt(i:Nat)(b:D->En->Option En)(δ:En):O:=match δ[i]? with |some (.o (.lst l))=>(match l[l.length-1]? with|some d=>O.of (b d (δ.set i (.o (.lst l.dropLast))))|none=>.no) |_=>.no
theorem ML(n:SG K g b):SS K XO E (iJ (xh K.f "list" xl (bZ i)) g) (wt i b):=by
 intro A s t F H y r x I a;unfold wt at a;split at a;.rename_i l q;obtain⟨p,f,w,h,c⟩:=I.own q;cases e:l[l.length-1]? with |none=>simp[e] at a;exact a.elim |some d=> simp[e] at a;obtain⟨v,u,k⟩:=c.get e;refine⟨_,f,.inl ⟨rfl,_,.inl (.inl h)⟩,p,_,v,rfl,rfl,h,by rwa[c.length],?_⟩;cases z:b d _ with |none=>rw[z] at a;exact a.elim |some o=>rw[z] at a;exact n _ _ _ F _ _ _ d v _ _ (I.chg (d':=.lst _) q f ⟨_,cb,c.dropLast⟩) k z fun m j=>a _ F _ j
 .exact a.elim
end
end PM
namespace L2
open PySem PySem.Spec PyProof.Rows
section
variable{X:Cx}
end
end L2
namespace PM
open PySem L2
section
variable{K:Kx}{XO:cX}{E:L2.St->XK}{tl te:TE}{ml me:En->R D}
end
end PM
namespace L2
open PySem PySem.Spec PyProof.Rows
open Sem (wp)
section
variable{P:Program}{w:World}{B:Around}{Er:Value->Shared->Prop}{hp:Heap}{gs:Array GenState}{dr:Drawn}{tk:Nat}{os:OsState}
variable{nm q:Str}{C N:Addr}{bs bm m9:List Value}{hdct:Bool}{sn:List Str}{sub:List Value}{ab:Bool}{col:Option Bool}{dd:Option Addr}{k0 k1 k2 k3 k5:Option Value}{B0 Bn newId wb gE wc:String}{wa:List Value}
abbrev tI(a:List Value):Obj:={cls:=.type "tuple",data:=.seq a.toArray}
abbrev ze(C t:Addr):Obj:={cls:=.ref C,data:=.fields #[.ref t,.none,.none,.none,.bool false,.none]}
theorem VP(m:ExcBaseFacts Bn newId wc wa)(j:m9.contains (.type Bn)=true)(v:ExcBaseFacts B0 wb gE m9)(a:OwnTail hp m9 bm)(f:hp.get? C=some (excClassObj nm q C N bs bm hdct sn sub ab col dd k0 k1 k2 k3 k5 newId))(l:hp.Ns N ns)(p:ns "__init__"=some (.ref y))(u:hp.get? y=some fo)(s:fo.cls=.type "function") (run:∀h' e,Heap.MadeExcOf hp h' e (.ref C) c->wpAny (model P w) B (call (.ref y) (.ref e::c)) (fun r s'=>r=.none/\Q (.done (.ret (.ref e))) s') Er ⟨h',gs,dr,tk,os⟩)(t:c.length<=sizeLine): wpAny (model P w) B (Builtin.«type.__call__» ⟨.ref C::c,[]⟩) Q Er ⟨hp,gs,dr,tk,os⟩:=by
 repeat(first|with_reducible rfl|with_reducible rfl|wp_step)
 refine codeAny_call_builtin_code (sD _ m.quiet) (wpAny_check_new_subU m j a f (codeAny_exc_new_subU m j v a f ?_ t));show wpAny _ _ _ _ _ _;have h:∀b o,hp.get? b=some o->((hp.push (tI c)).push (ze C hp.objs.size)).get? b=some o:=fun b o e=>aK _ (aK _ e);have d:=h _ _ f;have g:((hp.push (tI c)).push (ze C hp.objs.size)).Ns N ns:=let⟨o,D,z,e,r⟩:=l;⟨o,D,z,h _ _ e,r⟩;have k:((hp.push (tI c)).push (ze C hp.objs.size)).get? (hp.objs.size+1)=some (ze C hp.objs.size):=by heap_get
 have n:(Value.ref C::bm).contains (.ref C)=true:=by simp
 unfold isInstance;repeat(first|with_reducible refine wpAny_loadPart_at k ?_|(with_reducible refine wpAny_isSubtype_exc d ?_;rw[n])|wp_step)
 show wpAny _ _ (typeLookup (.ref C) _) _ _ _;refine wpAny_typeLookup_tail d g (a.keeps (h':=(hp.push (tI c)).push (ze C hp.objs.size)) h) v.mroIs v.init.lookup ?_;rw[p];refine dz (ah ?_);unfold bindSpecial;refine ah (ji (T:="function") ⟨_,h _ _ u,s⟩ ?_);have i:Heap.MadeExcOf hp ((hp.push (tI c)).push (ze C hp.objs.size)) (hp.objs.size+1) (.ref C) c:= ⟨h,lD (gp _),hp.objs.size,k,lD (aC _),aK _ (Heap.get?_push_at rfl rfl)⟩;refine au (ah (c8 (run _ _ i) (fun r s' E=>?_) fun _ _ x=>x));obtain⟨rfl,A⟩:=E;wp_walk;exact A
theorem VQ(n:ExcBaseFacts Bn newId wc wa)(i:m9.contains (.type Bn)=true)(l:ExcBaseFacts B0 wb gE m9)(b:OwnTail hp m9 bm)(a:hp.get? C=some (excClassObj nm q C N bs bm hdct sn sub ab col dd k0 k1 k2 k3 k5 newId))(d:hp.Ns N ns)(g:ns "__init__"=some (.ref k))(j:hp.get? k=some fo)(f:fo.cls=.type "function") (run:∀h' e,Heap.MadeExcOf hp h' e (.ref C) c->wpAny (model P w) (B.under (.builtin "type.__call__" ⟨.ref C::c,[]⟩)) (call (.ref k) (.ref e::c)) (fun r s'=>r=.none/\Q (.ref e) s') Er ⟨h',gs,dr,tk,os⟩)(h:c.length<=sizeLine): wpAny (model P w) B (call (.ref C) c) Q Er ⟨hp,gs,dr,tk,os⟩:=by
 have p:=tc_lookup;have o:=tc_bind (.ref C);refine fU (codeAny_of_tree ?_);repeat(any_goals(first|rfl|with_reducible rfl|wp_step))
 exact⟨rfl,codeAny_call_builtin_at (sD _ (by simp)) entry_typeCall (wpAny_check_type_call_sub a (VP n i l b a d g j f (fun h' e m=>run _ e m) h))⟩
end
end L2
namespace L2
open PySem PySem.Spec PyProof.Rows
section
variable{P:Program}{w:World}{B:Around}{Er:Value->Shared->Prop}{s:Shared}
end
section
variable{X:Cx}
end
end L2
namespace PM
open PySem L2
section
variable{K:Kx}{XO:cX}{E:L2.St->XK}
end
end PM
namespace L2
open PySem PySem.Spec PyProof.Rows
def uniq(ns:List Int):List Int:=ns.foldl step_dedup []
section
variable{X:Cx}
theorem VR(ns:List Int):firstMet (fun i=>ns.getD i 0) ns.length=uniq ns:=by unfold firstMet uniq;congr 1;refine sJ (by simp) fun i a b=>?_;simp_all
theorem MN:AI X (pP X.K):=by
  rintro f s L H x y v u Q I h l ⟨p,D,i,z,rfl,rfl,n,A,q⟩;cases h;obtain⟨t,rfl⟩:=l;obtain⟨b,r,c,B⟩:=I.list n;obtain⟨j,e,g,G,m,k⟩:=E5 A;obtain⟨w,C,a⟩:=r.get g;have E:=r.length;have J:=AQ;by_cases d:0<=i
  . have o:i.toNat=j:=by rw[seqIndex_of d k] at e;simp_all
    exact wpAny_getItem_list c.isList d (by lia) (by simp_all) ⟨z,H,I,a,q⟩
  . have o:(i+b.toArray.size).toNat=j:=by rw[mf (by lia) m] at e;rw[dX];simp_all
    exact wpAny_getItem_list_neg c.isList (by lia) (by simp_all) (by lia) (by simp_all) ⟨z,H,I,a,q⟩
def MO:List V->Hp->VK->Prop:=fun a H Q=>∃(p:Addr) (S:Int->Bool) (n:Nat),a=[.ref p]/\H p=some (.set S n)/\Q (.int n) H
theorem MP:m7 X (.builtin "len") MO:=by rintro b s v H l k Q I r ⟨p,S,n,rfl,d,q⟩;obtain⟨u,rfl,h⟩:=mI r;cases h;obtain⟨o,m,j,t,e,a,g,_,_,i,c,f⟩:=I.bD p _ d;exact call_len_set e a g c (by unfold scanBound at i;lia) ⟨.int n,H,I.tok _,⟨_,by rw[f]⟩,q⟩
end
end L2
namespace PM
open PySem L2
section
variable{K:Kx}{XO:cX}{E:L2.St->XK}
end
end PM
namespace L2
open PySem PySem.Spec PyProof.Rows
section
variable{X:Cx}
end
end L2
namespace PM
open PySem L2
section
variable{K:Kx}{XO:cX}{E:L2.St->XK}{tk te:TE}{mk me:En->R D}
end
section
variable{K:Kx}{XO:cX}{E:St->XK}{ta tb te:TE}{ma mb me:En->R D}{t u:TS}{m n:En->O}{Λ:List (Nat×Addr×HO)}{F0 H0 F H F' H' F1 H1:Hp}{σ:St}{δ:En}{Dn:Ends}
def bP(a:List (List Int)):D:=.lst (a.map iL)
structure kI(H:Hp)(a:Addr)(bs:List Addr)(ll:List (List Int)):Prop where
 top:H a=some (.lst (bs.map .ref))len:bs.length=ll.length
 row:∀(i:Nat)(b:Addr)(l:List Int),bs[i]?=some b->ll[i]?=some l->H b=some (.lst (l.map .int))nd:(a::bs).Nodup
theorem kI.mono(e:ax H H')(t:kI H a bs c):kI H' a bs c:=⟨e _ _ t.top,t.len,fun i b l f d=>e _ _ (t.row i b l f d),t.nd⟩
theorem kI.obj(t:kI H a bs d):∀b∈a::bs,∃o,H b=some o:=fun b c=>by
  rcases aU.mp c with rfl|c;.exact⟨_,t.top⟩
  . obtain⟨i,f,e⟩:=nI c;have g:i<d.length:=by rwa[<-t.len]
    exact⟨_,t.row i b d[i] (by simp_all) (b7 _)⟩
def tJ(l:List Int):Tr:=.l (l.map fun i=>.d (.int i))
def ip(a:List (List Int)):Tr:=.l (a.map tJ)
theorem iV:∀{l:List Int}{vs:List V}{fp:List Addr},aW K F H (l.map fun i=>.d (.int i)) vs fp↔vs=l.map .int/\fp=[]
 |[],vs,fp=>by rfl |i::l,vs,fp=>by
  constructor;.rintro⟨v,r,b,c,rfl,rfl,⟨rfl,rfl⟩,h⟩;obtain⟨rfl,rfl⟩:=iV.mp h;simp
  .rintro⟨rfl,rfl⟩;exact⟨_,_,_,_,rfl,rfl,⟨rfl,rfl⟩,iV.mpr ⟨rfl,rfl⟩⟩
theorem qH:de K F H (tJ l) v fp↔∃b,v=.ref b/\fp=[b]/\H b=some (.lst (l.map .int)):=by
 constructor;.rintro⟨a,d,e,rfl,rfl,f,c⟩;obtain⟨rfl,rfl⟩:=iV.mp c;simp_all
 .rintro⟨b,rfl,rfl,h⟩;exact⟨b,_,_,rfl,rfl,h,iV.mpr ⟨rfl,rfl⟩⟩
theorem iW:∀{e:List (List Int)}{vs:List V}{bs:List Addr},aW K F H (e.map tJ) vs bs↔vs=bs.map .ref/\bs.length=e.length/\∀(i:Nat)(b:Addr)(l:List Int),bs[i]?=some b->e[i]?=some l->H b=some (.lst (l.map .int))
 |[],vs,bs=>by
  simp only[jA,aW];constructor;.rintro⟨rfl,rfl⟩;simp
  .rintro⟨rfl,h,_⟩;cases bs with |nil=>simp |cons _ _=>simp at h
 |l::e,vs,bs=>by
  constructor;.rintro⟨v,r,z,y,rfl,rfl,p,w⟩;obtain⟨b,rfl,rfl,A⟩:=qH.mp p;obtain⟨rfl,q,x⟩:=iW.mp w;refine⟨rfl,by simp[q],fun i c r s g=>?_⟩;cases i with |zero=>simp_all |succ i=>exact x i c r (by simp_all) (by simp_all)
  .rintro⟨rfl,h,j⟩;cases bs with |nil=>simp at h |cons b bs=>exact⟨_,_,_,_,rfl,rfl,qH.mpr ⟨b,rfl,rfl,j 0 b l rfl rfl⟩,iW.mpr ⟨rfl,by simpa using h,fun i c r s g=>j (i+1) c r (by simp_all) (by simpa using g)⟩⟩
theorem iX:Tab K F H a bs (ip h)↔kI H a bs h:=by
 constructor;.intro t;have:=t.ok;obtain⟨j,k,i,l,c,f,d⟩:=this;cases c;obtain⟨rfl,g,e⟩:=iW.mp d;exact⟨f,g,e,t.nd⟩
 .intro t;exact⟨⟨a,_,_,rfl,rfl,t.top,iW.mpr ⟨rfl,t.len,t.row⟩⟩,t.nd⟩
def Dw:Tr->Option Int |.d (.int i)=>some i |_=>none
def wu{α:Type}(f:Tr->Option α):List Tr->Option (List α) |[]=>some [] |t::b=>(f t).bind fun x=>(wu f b).bind fun r=>some (x::r)
def Gz:Tr->Option (List Int) |.l a=>wu Dw a |_=>none
def Dx:Tr->Option (List (List Int)) |.l a=>wu Gz a |_=>none
theorem GA{f:Tr->Option b}{g:b->Tr}(h:∀t x,f t=some x->t=g x):∀{ts:List Tr}{l:List b},wu f ts=some l->ts=l.map g |[],l,e=>by cases e;rfl |t::ts,l,e=>by unfold wu at e;cases q:f t with |none=>simp_all |some x=> rw[q] at e;cases c:wu f ts with |none=>simp_all |some r=> rw[c] at e;cases e;rw[h t x q,GA h c];rfl
theorem GB {α : Type} {f : Tr → Option α} {g : α → Tr} (h : ∀ x, f (g x) = some x) : ∀ (l : List α), wu f (l.map g) = some l
  | [] => rfl
  | x :: l => by
    show (f (g x)).bind _ = _
    rw [h x]
    show (wu f (l.map g)).bind _ = _
    rw [GB h l]; rfl
theorem VS{t:Tr}(h:Dw t=some i):t=.d (.int i):=by unfold Dw at h;grind
theorem VT{t:Tr}(h:Gz t=some l):t=tJ l:=by
 unfold Gz at h;split at h;.rw[GA (fun _ _=>VS) h];rfl
 simp_all
theorem VU{t:Tr}(h:Dx t=some a):t=ip a:=by
 unfold Dx at h;split at h;.rw[GA (fun _ _=>VT) h];rfl
 simp_all
@[simp] theorem VV (ll : List (List Int)) : Dx (ip ll) = some ll := GB (fun l => GB (f := Dw) (fun _ => rfl) l) ll
theorem GC:∀(ts:List Tr),gf ts=ts.map ng |[]=>rfl |t::ts=>by simp[gf,GC _]
@[simp] theorem zAn(a:List (List Int)):ng (ip a)=bP a:=by unfold ip bP;simp only[ng,GC,cM];congr 1;apply iD;intro l _;show ng _=iL l;unfold tJ iL;simp only[ng,GC,cM];rfl
variable(K XO E) in
def zf(t:TE)(m:En->R (List (List Int))):Prop:=∀Λ F0 H0 F H σ δ Q,aw K Λ F0 H0 F H σ δ->eJ E XO σ F H (fun d F' H'=>∀a c,kI H' a c d->(∀b∈a::c,F' b=none/\H b=none)->Q (.ref a) H') (m δ)->t σ H Q
def tK:D->Option (List Int) |.lst l=>dE l |_=>none
theorem VW(h:tK d=some l):d=iL l:=by cases d with |lst x=>rw[uu h];rfl |_=>cases h
def vw(b:D->En->Option En)(me:En->R D)(δ:En)(d:D):R (List Int):=match b d δ with |none=>.no |some a=>(me a).i1.bind fun x=>R.of (tK x)
def rm(f:D->R (List Int)):List D->R (List (List Int)) |[]=>.ok [] |d::l=>(f d).bind fun o=>(rm f l).bind fun r=>.ok (o::r)
def zg(mi:En->R (List D))(c:List Nat)(n:Nat)(b:D->En->Option En)(me:En->R D)(δ:En):R (List (List Int)):= (mi δ).bind fun a=>cN (a.length<=sizeLine) (rm (vw b me (c3 δ c n)) a).i1 .no
theorem VX(h:rm f (d::l)=.ok r):∃o a,f d=.ok o/\rm f l=.ok a/\r=o::a:=by unfold rm at h;cases q:f d with |no=>simp_all |ex x=>simp_all |ok o=> rw[q] at h;cases b:rm f l with |no=>simp_all |ex x=>simp_all |ok a=>rw[b] at h;cases h;simp
theorem MQ{n:Nat}(hi:xq K XO E wi mi)(Bf:L.Nodup)(hg:SG K g b)(hw:BW b)(he:iQ K XO EN te me):zf K XO E (yS wi L n g none te) (zg mi L n b me):=by
  intro Λ F0 H0 F H σ δ Q I a;refine hi Λ F0 H0 F H σ δ _ I (a.bind.imp fun v F1 H1 e1 Y J hJ p hp=>?_);unfold cN at Y;split at Y;case isFalse=>exact Y.elim
  rename_i hsz;have I1:=I.grow e1;obtain⟨s,Ic,pU,q9⟩:=F9 (n:=n) I1 Bf;cases B:(rm (vw b me (c3 δ L n)) v).i1 with |no=>rw[B] at Y;exact Y.elim |ex x=>cases q2:rm (vw b me (c3 δ L n)) v<;>(rw[q2] at B;cases B) |ok l=>
  rw[B] at Y;have qg:=bA B;have S:∀x∈s,∃d,(c3 δ L n)[x.1]?=some (.l d):=fun x hx=>(Ic.eZ x hx).1;have Bg:∀x∈s,x.2.1≠p:=fun x hx e=>by obtain⟨o,ho⟩:=q9 x hx;grind
  have p0:H0 p=none:=I1.ext.hh.free hp;have f1:F1 p=none:=e1.fh.free hp;refine⟨fun i k ys U N=>∃F2 l1 l2 G,aw K s F0 H0 F2 N U (c3 δ L n)/\Ext F1 H1 F2 N/\ys=G.map .ref/\kI N p G l1/\(∀c∈p::G,F2 c=none/\H1 c=none)/\rm (vw b me (c3 δ L n)) (v.drop i)=.ok l2/\l=l1++l2/\k=v.length-i/\i<=v.length/\ys.length<=i, ⟨_,F1,[],l,[],?_,.dY e1.fh hp,rfl,⟨cb,rfl,fun i c r h=>by simp at h,by simp⟩,fun c hc=>?_,qg,rfl,rfl,bR _,aC _⟩,?_⟩;.exact Ic.grow (.dY e1.fh hp)
  .rw[cY.mp hc];exact⟨f1,hp⟩
  rintro i k ys U N ⟨F2,l1,l2,G,I2,x2,rfl,tb,A,qd,rfl,rfl,Ga,Bh⟩;refine⟨tb.top,?_⟩;by_cases q_:i<v.length;.have e:v.drop i=v[i]::v.drop (i+1):=nG q_;rw[e] at qd;obtain⟨Z,l3,f,q3,rfl⟩:=VX qd;obtain⟨h1,h2⟩:=(hJ F2 N x2 i).1 v[i] (by simp);refine .inr ⟨h1,fun X tE H'=>∃F' C,aw K s F0 H0 F' H' tE (c3 δ L n)/\Ext F1 H1 F' H'/\X=C.map .ref/\kI H' p C (l1++[Z])/\(∀c∈p::C,F' c=none/\H1 c=none)/\X.length<=i+1, fun X tE H' ⟨F',C,w1,w2,w3,w4,w5,w6⟩=>⟨_,by omega,F',l1++[Z],l3,C,w1,w2,w3,w4,w5,q3,by simp,rfl,q_,w6⟩,fun x H' y=>?_⟩;obtain⟨F3,e3,rx⟩:=h2 x H' y;unfold vw at f;cases qb:b v[i] (c3 δ L n) with |none=>rw[qb] at f;cases f |some T=> rw[qb] at f;dsimp only at f;refine hg s F0 H0 F3 H' U _ _ x T _ (I2.grow e3) rx qb fun v_ I3=>?_;unfold LF;simp only[if_true];cases qm:me T with |no=>rw[qm] at f;cases f |ex x=>rw[qm] at f;cases f |ok d=>
        rw[qm] at f;simp only[R.bA,R.aq] at f;have ed:d=iL Z:=by cases qa:tK d with |none=>rw[qa] at f;cases f |some r=>rw[qa] at f;cases f;exact VW qa
        subst ed;refine he s F0 H0 F3 H' v_ T _ I3 ?_;rw[qm];intro F5 H5 e5 c c0 c1 co;have z:=e3.trans e5;obtain⟨vs,cv,cr⟩:=co;have ex:=tH cr;subst ex;have MR:=tb.mono z.hh;have z2:F5 p=none:=z.nw p _ (A p (by simp)).1 tb.top;have MS:N c=none:=e3.hh.free c1;have sT:∀q∈p::G,q≠c:=fun q hq ee=>by obtain⟨o,ho⟩:=tb.obj q hq;rw[ee,MS] at ho;cases ho
        refine⟨MR.top,?_,F5,G++[c],((I3.grow e5).qF (hw _ _ _ qb) S).side pU Bg p0 z2,?_,by simp,⟨?_,by simp[tb.len],fun j q r M g2=>?_,?_⟩,fun q hq=>?_,by simpa using Bh⟩;.lia
        .have w:=x2.trans z;exact⟨w.ff,fun c o q=>by rw[bc (dH q hp)];exact w.hh c o q,fun c o q=>by rw[bc (dH q z2)];exact w.fh c o q,w.nw⟩
        .rw[cb];simp
        . have qp:q≠p:=fun ee=>by
            have hm:=jB M;rw[ee] at hm;rcases cO.mp hm with w|w;.exact(iF.mp tb.nd).1 w
            .exact sT p (by simp) (cY.mp w)
          rw[bc qp];by_cases hj:j<G.length;.rw[fZ hj] at M;rw[fZ (by rw[<-tb.len];exact hj)] at g2;exact MR.row j q r M g2
          . rw[iC (by omega)] at M;rw[iC (by rw[<-tb.len];omega),<-tb.len] at g2;have j0:j-G.length=0:=by have:=(b_.mp M).1;simp at this;omega
            rw[j0] at M g2;simp at M g2;subst M g2;exact cv
        .rw[<-qh,lO];exact⟨tb.nd,by simp,fun q hq r hr ee=>sT q hq (by rw[ee];exact cY.mp hr)⟩
        . rw[<-qh] at hq;rcases cO.mp hq with w|w;.obtain⟨o,ho⟩:=tb.obj q w;exact⟨z.nw q o (A q w).1 ho,(A q w).2⟩
          .rw[cY.mp w];exact⟨c0,x2.hh.free MS⟩
  . have e:i=v.length:=by lia
    subst e;rw[qi] at qd;cases qd;refine .inl ⟨(hJ F2 N x2 _).2 (by simp),Y F2 N x2 p G (by rw[dN];exact tb) fun c hc=>⟨(A c hc).1,e1.hh.free (A c hc).2⟩⟩
def VY(i:Nat)(δ:En):Bool:=(List.range δ.length).all fun j=>j==i||match δ[j]? with|some (.p _)=>false|_=>true
theorem aw.GD(I:aw K Λ F0 H0 F H σ δ)(hl:∃x,δ[i]?=some x/\∀d,x≠.l d)(e:Ext F H F' H')(t:Tab K F' H' a bs T)(h0:∀b∈a::bs,F' b=none/\H b=none): aw K Λ F0 H0 F' H' (σ.set i (some (.ref a))) (δ.set i (.p T)):=by
  obtain⟨x,hx,VZ⟩:=hl;have hi:i<δ.length:=(b_.mp hx).1;have r:i<σ.length:=by rwa[I.len]
  have fresh:∀(k:Nat)(b:Addr),k≠i->Sl.own δ[k]?=true->σ[k]?=some (some (.ref b))->b∉a::bs:=fun k b hki g M h=>by have z:=I.slot k;have hn':=(h0 b h).2;cases q:δ[k]? with |none=>rw[q] at g;cases g |some y=> rw[q] at g z;cases y with |no=>cases g |v d=>cases g |o d=>obtain⟨c,z1,_,_,z4⟩:=z;obtain⟨u,hu⟩:=z4.obj;simp_all |l d=>obtain⟨c,z1,_,_,z4⟩:=z;obtain⟨u,hu⟩:=z4.obj;simp_all |p l2=>obtain⟨c,cs,z1,z2,_⟩:=z;rw[M] at z1;cases z1;obtain⟨u,hu⟩:=z2.obj b (by simp);simp_all
  have J:=I.grow e;have f3:∀b∈a::bs,H0 b=none/\F' b=none:=fun b h=>⟨I.ext.hh.free (h0 b h).2,(h0 b h).1⟩;refine⟨J.ext,by simp[I.len],fun j=>?_,fun j k b Q w g2 N Z=>?_,fun y hy=>?_,fun j l2 w=>?_⟩
  . by_cases B:i=j;.subst B;rw[a_ hi,a_ r];exact⟨a,bs,rfl,t,f3⟩
    .rw[aI B,aI B];exact J.slot j
  . by_cases e1:i=j;.subst e1;rw[a_ r] at N;cases N;rw[aI Q] at g2 Z;exact fresh k a (aR Q) g2 Z (by simp)
    . by_cases G:i=k;.subst G;rw[a_ r] at Z;cases Z;rw[aI e1] at w N;exact fresh j a (aR e1) w N (by simp)
      .rw[aI e1] at w N;rw[aI G] at g2 Z;exact I.dist j k b Q w g2 N Z
  . obtain⟨⟨d',w⟩,g2,N⟩:=J.eZ y hy;have ne:i≠y.1:=by intro B;rw[<-B,hx] at w;exact VZ d' (dO w)
    exact⟨⟨d',by rwa[aI ne]⟩,by rwa[aI ne],N⟩
  . have old:∀(k:Nat)(T2:Tr),k≠i->δ[k]?=some (.p T2)->∃A f,σ[k]?=some (some (.ref A))/\Tab K F' H' A f T2/\(∀b∈A::f,b∉a::bs)/\(∀b∈A::f,H0 b=none/\F' b=none)/\(∀(j:Nat)(b:Addr),j≠k->Sl.own δ[j]?=true->σ[j]?=some (some (.ref b))->b∉A::f)/\∀(j:Nat)(T':Tr),j≠k->δ[j]?=some (.p T')->∃Y s,σ[j]?=some (some (.ref Y))/\Tab K F' H' Y s T'/\∀b∈Y::s,b∉A::f:=fun k T2 g q=>by
      obtain⟨A,f,s1,X,U,s4,s5⟩:=I.tab q;refine⟨A,f,s1,X.mono e.ff e.hh,fun b h S=>?_,fun b h=>?_,s4,fun j T' hj L=>?_⟩;.obtain⟨o,C⟩:=X.obj b h;rw[(h0 b S).2] at C;cases C
      .obtain⟨o,C⟩:=X.obj b h;exact⟨(U b h).1,e.nw b o (U b h).2 C⟩
      .obtain⟨Y,s,u1,u2,u3⟩:=s5 j T' hj L;exact⟨Y,s,u1,u2.mono e.ff e.hh,u3⟩
    by_cases B:i=j
    . subst B;rw[a_ hi] at w;cases w;refine⟨a,bs,a_ r,t,f3,fun k b g C M h=>?_,fun k l3 g L=>?_⟩;.rw[aI (aR g)] at C M;exact fresh k b g C M h
      .rw[aI (aR g)] at L;obtain⟨A,f,s1,X,U,_⟩:=old k l3 g L;exact⟨A,f,by rwa[aI (aR g)],X,U⟩
    . rw[aI B] at w;obtain⟨A,f,s1,X,U,s4,s5,s6⟩:=old j l2 (aR B) w;refine⟨A,f,by rwa[aI B],X,s4,fun k b g C M h=>?_,fun k l3 g L=>?_⟩
      . by_cases G:i=k;.subst G;rw[a_ r] at M;cases M;exact U a h (by simp)
        .rw[aI G] at C M;exact s5 k b g C M h
      . by_cases G:i=k;.subst G;rw[a_ hi] at L;cases L;exact⟨a,bs,a_ r,t,fun b h S=>U b S h⟩
        .rw[aI G] at L;obtain⟨Y,s,u1,u2,u3⟩:=s6 k l3 g L;exact⟨Y,s,by rwa[aI G],u2,u3⟩
def Dy(me:En->R (List (List Int)))(i:Nat)(δ:En):O:=(me δ).ij δ fun a=>match δ[i]? with |none=>.no |some (.l _)=>.no |some _=>if VY i δ=true then .nx (δ.set i (.p (ip a))) else .no
theorem V0{i:Nat}(h:zf K XO E te f):SS K XO E (iJ te (qP i)) (Dy f i):=by intro Λ F0 H0 F H σ δ Dn I a;refine h _ _ _ F H σ _ _ I ((cR.of I a).imp fun g F1 H1 e c p k t b=>?_);cases q:δ[i]? with |none=>simp[q] at c;exact c.elim |some x=> simp[q] at c;cases x with |l d=>exact c.elim |no|v d|o d|p j=>
 dsimp at c;split at c;.exact c _ _ _ (I.GD ⟨_,q,fun d z=>by cases z⟩ e (iX.mpr t) b)
 .exact c.elim
structure TabAt(K:Kx)(H0 F H:Hp)(σ:St)(δ:En)(i:Nat)(a:Addr)(bs:List Addr)(T:Tr):Prop where
 is:δ[i]?=some (.p T)at':σ[i]?=some (some (.ref a))tab:Tab K F H a bs T
 free:∀b∈a::bs,H0 b=none/\F b=none
 dist:∀(j:Nat)(b:Addr),j≠i->Sl.own δ[j]?=true->σ[j]?=some (some (.ref b))->b∉a::bs
 one:∀(j:Nat)(T':Tr),j≠i->δ[j]?=some (.p T')->∃a' mO,σ[j]?=some (some (.ref a'))/\Tab K F H a' mO T'/\∀b∈a'::mO,b∉a::bs
theorem aw.tabAt(I:aw K Λ F0 H0 F H σ δ)(b:δ[i]?=some (.p T)):∃a bs,TabAt K H0 F H σ δ i a bs T:=let⟨a,_,d,c,g,e,f⟩:=I.tab b;⟨a,_,b,d,c,g,e,f⟩
theorem TabAt.grow(t:TabAt K H0 F H σ δ i a bs T)(e:Ext F H F' H'):TabAt K H0 F' H' σ δ i a bs T:= ⟨t.is,t.at',t.tab.mono e.ff e.hh,fun b c=>let⟨o,h⟩:=t.tab.obj b c;⟨(t.free b c).1,e.nw b o (t.free b c).2 h⟩,t.dist,fun j p f g=>let⟨_,_,k,l,d⟩:=t.one j _ f g;⟨_,_,k,l.mono e.ff e.hh,d⟩⟩
theorem aw.GF{u:HO}(I:aw K Λ F0 H0 F H σ δ)(t:TabAt K H0 F H σ δ i a bs T)(Y:b∈a::bs)(t':Tab K F (upd H b u) a mO T')(sub:∀c∈mO,c∈bs): aw K Λ F0 H0 F (upd H b u) σ (δ.set i (.p T')):=by
  have f:=t.is;have hi:i<δ.length:=(b_.mp f).1;have fb:=t.free b Y;have e:∀c∈a::mO,c∈a::bs:=fun c k=>by
    rcases aU.mp k with rfl|k;.simp
    .exact bK _ (sub c k)
  have N:∀(j:Nat)(c:Addr),i≠j->Sl.own δ[j]?=true->σ[j]?=some (some (.ref c))->c≠b:=fun j c hj Q S g=>t.dist j c (aR hj) Q S (by simp_all);have ow:∀r:Nat,Sl.own (δ.set i (.p T'))[r]?=true->Sl.own δ[r]?=true:=by
    intro r h;by_cases g:i=r;.subst g;rw[f];rfl
    .rwa[aI g] at h
  refine⟨⟨I.ext.ff,fun c w q=>?_,fun c w q=>?_,I.ext.nw⟩,by simp[I.len],fun j=>?_,fun j r c V1 s g2 g3 g4=>?_,fun y hy=>?_,fun j l2 s=>?_⟩;.rw[bc (dH q fb.1)];exact I.ext.hh c w q
  .rw[bc (dH q fb.2)];exact I.ext.fh c w q
  . by_cases g:i=j;.subst g;rw[a_ hi];exact⟨a,mO,t.at',t',fun c k=>t.free c (e c k)⟩
    .rw[aI g];have w:=I.slot j;cases q:δ[j]? with |none=>trivial |some y=> rw[q] at w;cases y with |no=>trivial |v d=>exact w |o d=>obtain⟨c,C,Z,U,w4⟩:=w;exact⟨c,C,Z,U,w4.at (bc (N j c g (by rw[q];rfl) C))⟩ |l d=>obtain⟨c,C,Z,U,w4⟩:=w;exact⟨c,C,Z,U,w4.at (bc (N j c g (by rw[q];rfl) C))⟩ |p l2=> obtain⟨a',mO,M,J,G⟩:=t.one j l2 (aR g) q;obtain⟨c,cs,C,Z,U⟩:=w;rw[M] at C;cases C;have X:=C6 Z J;subst X;exact⟨_,cs,M,J.at' fun x f=>bc fun z=>G x f (z▸Y),U⟩
  .exact I.dist j _ c V1 (ow j s) (ow _ g2) g3 g4
  . obtain⟨⟨d2,s⟩,g2,g3⟩:=I.eZ y hy;have ne:i≠y.1:=by intro g;simp_all
    exact⟨⟨_,by rwa[aI ne]⟩,g2,by rwa[bc (N _ _ ne (by rw[s];rfl) g2)]⟩
  . by_cases g:i=j
    . subst g;rw[a_ hi] at s;cases s;refine⟨a,_,t.at',t',fun c k=>t.free c (e c k),fun r c A Q S k=>?_,fun r l3 A B=>?_⟩;.exact t.dist _ c A (ow _ Q) S (e c k)
      .rw[aI (aR A)] at B;obtain⟨a',cs,M,J,G⟩:=t.one _ _ A B;exact⟨_,_,M,J.at' fun x f=>bc fun z=>G x f (z▸Y),fun x f L=>G x f (e x L)⟩
    . rw[aI g] at s;obtain⟨a2,bs2,s1,s2,s3,s4,s5⟩:=I.tab s;obtain⟨a',cs,M,J,G⟩:=t.one j _ (aR g) s;rw[M] at s1;cases s1;have X:=C6 s2 J;subst X;refine⟨_,_,M,J.at' fun x f=>bc fun z=>G x f (z▸Y),s3,fun r c A Q S k=>s4 _ c A (ow _ Q) S k,fun r l3 A B=>?_⟩;by_cases e2:i=r;.subst e2;rw[a_ hi] at B;cases B;exact⟨a,_,t.at',t',fun x f L=>G x L (e x f)⟩
      .rw[aI e2] at B;obtain⟨a3,cs3,v1,v2,v3⟩:=s5 _ _ A B;obtain⟨a4,cs4,x1,x2,x3⟩:=t.one _ _ (aR e2) B;rw[v1] at x1;cases x1;have X:=C6 v2 x2;subst X;exact⟨_,_,v1,v2.at' fun x f=>bc fun z=>x3 x f (z▸Y),v3⟩
theorem aw.GG(I:aw K Λ F0 H0 F H σ δ)(t:TabAt K H0 F H σ δ i a bs (ip s))(g:bs[k]?=some b): aw K Λ F0 H0 F (upd H b (.lst (row.map .int))) σ (δ.set i (.p (ip (s.set k row)))):=by
  have tb:=iX.mp t.tab;have o:=jB g;have l:=(b_.mp g).1;have h:=iF.mp tb.nd;refine I.GF t (bK _ o) (iX.mpr ⟨?_,by simp[tb.len],fun j c r f d=>?_,tb.nd⟩) fun c q=>q;.rw[bc (show a≠b from fun z=>h.1 (z▸o))];exact tb.top
  . by_cases e:k=j;.subst e;rw[g] at f;cases f;rw[a_ (by rw[<-tb.len];exact l)] at d;cases d;exact cb
    .rw[aI e] at d;rw[bc (fun z=>e ((sO l h.2).mp (by simp_all)))];exact tb.row j c r f d
def tabOf:Option Sl->Option (List (List Int)) |some (.p T)=>Dx T |_=>none
theorem V2(h:tabOf x=some a):x=some (.p (ip a)):=by
 unfold tabOf at h;split at h;.rw[VU h]
 simp_all
@[simp] theorem zAu (ll : List (List Int)) : tabOf (some (.p (ip ll))) = some ll := VV ll
def zh(i:Nat)(mk mj me:En->R D)(δ:En):O:=match tabOf δ[i]? with
 |some b=>(me δ).ij δ fun v=>(mk δ).ij δ fun k=>match v,k with |.int v,.int k=>(match iv b.length k with |some c=>(match b[c]? with |some a=>(mj δ).ij δ fun j=>(match j with |.int j=>(match iv a.length j with|some d=>.nx (δ.set i (.p (ip (b.set c (a.set d v)))))|none=>.no) |_=>.no) |none=>.no) |none=>.no) |_,_=>.no
 |none=>.no
theorem MT(h1:SE K XO E tk mk)(h2:SE K XO E U mj)(h:SE K XO E te me):SS K XO E (iJ te (uT (m8 (pP K.f) (bZ i) tk) U AU)) (zh i mk mj me):=by
  intro Λ F0 H0 F H σ δ Dn I a;unfold zh at a;split at a
  . rename_i G N;have q:=V2 N;obtain⟨p,f,ta⟩:=I.tabAt q;have T:=ta.at';have o:=iX.mp ta.tab;refine h Λ F0 H0 F H σ δ _ I ((cR.of I a).imp fun v F1 H1 e c x Z=>⟨_,T,?_⟩);refine h1 Λ F0 H0 F1 H1 σ δ _ (I.grow e) ((cR.of (I.grow e) c).imp fun k Y H2 s b y X=>?_);have w:=(I.grow e).grow s;have B:=(o.mono e.hh).mono s.hh;split at b;.rename_i v k;subst X Z;cases z:iv G.length k with |none=>rw[z] at b;exact b.elim |some d=> rw[z] at b;dsimp at b;cases l:G[d]? with |none=>rw[l] at b;exact b.elim |some r=>
          rw[l] at b;have kl:d<f.length:=by rw[o.len];exact(b_.mp l).1
          have J:f[d]?=some f[d]:=b7 kl;refine⟨p,f.map .ref,k,.ref f[d],rfl,rfl,.inl (.inl B.top),?_,?_⟩;.unfold hV;rw[aN,o.len,z];simp
          . refine h2 Λ F0 H0 Y H2 σ δ _ w ((cR.of w b).imp fun j F3 H3 A g u S=>?_);have M:=w.grow A;have L:=B.mono A.hh;split at g;.rename_i j;subst S;cases C:iv _ j with |none=>rw[C] at g;exact g.elim |some Q=> rw[C] at g;refine⟨f[d],r.map _,j,Q,rfl,rfl,L.row _ _ _ J l,by simp_all,?_⟩;rw[<-List.map_set];exact g _ _ _ (M.GG (((ta.grow e).grow s).grow A) J)
            .exact g.elim
    .exact b.elim
  .exact a.elim
def Dz(i:Nat)(δ:En):O:=match δ[i]? with|some (.p T)=>.ro (ng T)|_=>.no
open Classical in
def js(F H:Hp)(bs:List Addr):Hp:=fun b=>if b∈bs then H b else F b
mutual
theorem MU {F1 : Hp} (s : ax F F1) : ∀ (T : Tr) {v : V} {fp : List Addr}, de K F H T v fp -> (∀ b ∈ fp, F1 b = H b) -> Rep K F1 (ng T) v
 | .d x, v, fp, h, _ => Rep.mono s x h.2
 | .l _, v, fp, h, e => by
  obtain ⟨a, f, y, rfl, p, k, j⟩ := h
  subst p
  exact ⟨a, _, rfl, (e a (by simp)).trans k, DA s _ j fun b g => e b (bK _ g)⟩
 | .t _, v, fp, h, e => by
  obtain ⟨a, f, rfl, k, j⟩ := h
  exact ⟨a, _, rfl, s _ _ k, DA s _ j e⟩
theorem DA {F1 : Hp} (s : ax F F1) : ∀ (o : List Tr) {f : List V} {fp : List Addr}, aW K F H o f fp -> (∀ b ∈ fp, F1 b = H b) -> aD K F1 (gf o) f
 | [], f, fp, h, _ => by
  simp only [aW] at h
  rw [h.1]
  simp only [gf]
  exact .nil
 | t :: o, f, fp, h, e => by
  simp only [aW] at h
  obtain ⟨v, r, w, q, rfl, p, k, j⟩ := h
  subst p
  simp only [gf]
  exact .cons (MU s t k fun b g => e b (lL _ g)) (DA s o j fun b g => e b (eO _ g))
end
theorem V3:SS K XO E (pG (bZ i)) (Dz i):=by
  intro Λ F0 H0 F H σ δ Dn I a;unfold Dz at a;split at a
  . rename_i T q;obtain⟨p,e,v,r,f,_⟩:=I.tab q;have k:ax F (js F H _):=fun b o h=>by unfold js;rwa[ak fun z=>by rw[(f b (bK _ z)).2] at h;cases h]
    have A:ax (js F H e) H:=fun b o h=>by
      unfold js at h;split at h;.exact h
      .exact I.same b o h
    have B:js F H e p=none:=by unfold js;rw[ak (iF.mp r.nd).1];exact(f p (by simp)).2
    refine⟨_,v,a p _ H ⟨I.ext.ff.trans k,I.ext.hh,A,fun b o g c=>?_⟩ B (f p (by simp)).1 ?_⟩;.unfold js;rw[ak fun z=>by rw[(f b (bK _ z)).1] at c;cases c];exact I.ext.nw b o g c
    . have j:=r.ok;have s:∀b∈e,js F H e b=H b:=fun b s=>by unfold js;grind
      cases T with |d x=>cases j.1 |t w=> obtain⟨J,C,g,c,_⟩:=j;cases g;simp_all |l w=> obtain⟨J,C,L,g,c,G,y⟩:=j;cases c;exact⟨_,G,DA k _ y s⟩
  .exact a.elim
end
end PM
namespace L2
open PySem PySem.Spec PyProof.Rows
section
variable{X:Cx}{x:Str}{np FF pos:Pos}{body:List Stmt}{FG:Stmt}{A_:List Stmt}{D':Addr}{tb:(St->XK)->TS}{th:TS}
end
end L2
namespace PM
open PySem L2
section
variable{K:Kx}{E:L2.St->XK}
end
end PM
namespace L2
open PySem PySem.Spec PyProof.Rows
section
variable{prog:Program}{w:World}{A:Around}{R:Result->Shared->Prop}{I S:Addr}{fp wr:List Addr}{n:Nat}{P:Nat->Value->Prop}{St:Nat->Heap->Prop}{bt:Nat->Nat->Bool}
end
end L2
namespace PM
open PySem L2
section
variable{K:Kx}
end
end PM
namespace L2
open PySem PySem.Spec PyProof.Rows
section
variable {X : Cx}
def MV(c:TA):TE:=fun d H Q=>c d H fun b a=>∃i j:Int,b=[.int i,.int j]/\∀r,a r=none->Q (.ref r) (upd a r (.lP i j))
theorem MW(l:Gl X "range")(n:X.mg "range"=none)(g:PA X [a,b] k)(w:starEach [a,b] X.env=[(false,eval a X.env),(false,eval b X.env)]:=by rfl)(c:starEach [b] X.env=[(false,eval b X.env)]:=by rfl):PE X (.Call (.Name "range" p) [a,b] [] pos) (MV k):=by intro f s A H Q I h;refine Call_ (pE I l n boot_range (eU (bT (g _ _ s _ H _ I h) fun v z ⟨_,_,d,m,r⟩=>?_) (by simp_all) (by rw[c];rfl)));obtain⟨i,j,e,q⟩:=r;subst e;obtain⟨u,y,rfl,⟨t,rfl⟩,⟨x,rfl⟩⟩:=AR m;refine call_range_2 ⟨.ref _,_,?_,rfl,q _ (d.bD.fresh (aC _))⟩;exact d.laid (fun b o e=>aK _ e) (aC _) ⟨_,_,_,b9 _ rfl⟩
def MX:List V->Hp->VK->Prop:=fun a H Q=>∃(r:Addr) (i j:Int),a=[.ref r]/\H r=some (.lP i j)/\(0<=i/\i<=j/\j<=100000)/\∀l,H l=none->Q (.ref l) (upd H l (.lst ((List.range (j-i).toNat).map fun k:Nat=>.int (i+(k:Int)))))
theorem MY(E:X.calm=true):m7 X (.type "list") MX:=by
 rintro m s σ H S T Q I r ⟨D,i,j,rfl,C,hj,q⟩;obtain⟨u,rfl,G⟩:=mI r;cases G;obtain⟨M,N,U,e⟩:=I.bD D _ C;have y:Builtin.Range.rangeSize i j 1=((j-i).toNat:Int):=by rw[l'];lia
 refine call_list_range (I.ok.hd E) e (small_one (by omega) (by omega) (by lia) (by omega)) y (by lia) fun O Y w c' x Z a=>(⟨.ref _,_,?_,rfl,q _ (I.bD.fresh (aC _))⟩);obtain⟨R,B⟩:=a;refine I.laid x (aC _) ⟨by rw[aN,qo];exact bI (by lia) (show 100000<=sizeLine by decide),_,_,?_,by omega⟩;have c:∀(n:Nat)(l:List _)(o:Nat),l.length=n->(∀k v,l[k]?=some v->∃t,v=Value.int (i+(o+k:Nat)) t)->Vals ((List.range' o n).map fun k:Nat=>V.int (i+k)) l:=by intro n;induction n with |zero=>intro l o b _;rw[lJ.mp b];exact .nil |succ n A=> intro l o b p;cases l with |nil=>simp at b |cons v l=> obtain⟨t,rfl⟩:=p 0 v rfl;refine .cons ⟨t,rfl⟩ (A l _ (by simpa using b) fun k v h=>?_);obtain⟨L,J⟩:=p (k+1) v (by simp_all);exact⟨_,by rw[J];congr 3;try lia⟩
 have:=c _ _ 0 (by omega) fun k v h=>let⟨t,_⟩:=B k v (by simpa using h);⟨t,by congr 1⟩;rw[List.range_eq_range'];omega
end
end L2
namespace PM
open PySem L2
section
variable{K:Kx}{XO:cX}{E:L2.St->XK}
def wx(l:List D):Option D:=match l with |[.int i,.int j]=>cN (0<=i/\i<=j/\j<=100000) (some (.lst ((List.range (j-i).toNat).map fun k:Nat=>.int (i+(k:Int))))) none |_=>none
def xQ(ml:En->R (List D))(δ:En):R D:=(ml δ).bind fun l=>R.of (wx l)
theorem V4(h:wx l=some d):∃i j:Int,l=[.int i,.int j]/\(0<=i/\i<=j/\j<=100000)/\d=.lst ((List.range (j-i).toNat).map fun k:Nat=>.int (i+(k:Int))):=by
  unfold wx at h;split at h
  . rename_i i j;unfold cN at h;split at h;.cases h;exact⟨i,j,rfl,by omega,rfl⟩
    simp_all
  simp_all
theorem MZ(h:SA K XO E u ml):iQ K XO E (qR MX (eG (MV u) cA)) (xQ ml):=by intro C B y F H z x Q I a;refine h _ _ _ F H _ _ _ I (a.bind.imp fun G s A f c J r=>?_);cases q:wx _ with |none=>rw[q] at c;exact c.elim |some d=> rw[q] at c;obtain⟨i,j,rfl,t,rfl⟩:=V4 q;obtain⟨v,L,rfl,p,w⟩:=r;obtain⟨N,rfl,g⟩:=aD.one w;subst p g;refine⟨i,j,rfl,fun M m=>⟨_,i,j,rfl,cb,t,fun l o=>?_⟩⟩;have e:Ext _ _ _ (upd _ _ (.lP i j)):=.dY f.fh m;have b:=e.hh.free o;refine c _ _ (e.trans (.dY e.fh o)) l (f.fh.free b) (f.hh.free b) ⟨_,cb,?_⟩;have:=aD.ints (K:=K) (F:=s) (ns:=(List.range (j-i).toNat).map fun k:Nat=>i+k);rwa[cM,cM] at this
end
end PM
namespace L2
open PySem PySem.Spec PyProof.Rows
section
variable{X:Cx}{a b c:Expr}{ta tb tc:TE}{pos:Pos}
end
end L2
namespace PM
open PySem L2
section
variable{K:Kx}{XO:cX}{E:L2.St->XK}{ta tb tc:TE}{ma mb mc:En->R D}
end
end PM
namespace L2
open PySem PySem.Spec PyProof.Rows
section
variable{X:Cx}{e st:Expr}{te ts:TE}{p2 pos:Pos}
end
end L2
namespace PM
open PySem L2
section
variable{K:Kx}{XO:cX}{E:L2.St->XK}{te ts:TE}{me ms:En->R D}
theorem aD.append':∀{l m:List D}{vs ws:List V},aD K F l vs->aD K F m ws->aD K F (l++m) (vs++ws) |[],_,vs,_,h,k=>by have:vs=[]:=h;simp_all |d::l,m,vs,ws,h,k=>by obtain⟨v,r,rfl,a,b⟩:=h;exact⟨v,_,rfl,a,aD.append' b k⟩
theorem aD.reverse:∀{l:List D}{vs:List V},aD K F l vs->aD K F l.reverse vs.reverse |[],vs,h=>by have:vs=[]:=h;simp_all |d::l,vs,h=>by obtain⟨v,r,rfl,a,b⟩:=h;rw[qt,qt];exact aD.append' (aD.reverse b) ⟨v,_,rfl,a,rfl⟩
end
end PM
namespace L2
open PySem PySem.Spec PyProof.Rows
theorem V5:typeLookup (.type "list_reverseiterator") "__len__"=pure none:=by rw[typeLookup_type,builtinLookup_eq_fast];rfl
theorem V6:typeLookup (.type "list_reverseiterator") "__length_hint__"=pure (some (.builtin "list_reverseiterator.__length_hint__")):=by rw[typeLookup_type,builtinLookup_eq_fast];kernel_rfl
section
variable {prog : Program} {w : World} {A : Around} {E : Value → Shared → Prop} {s : Shared}
theorem V7(C:A.handled=none)(n:l≠I)(h:S≠I)(t:S≠l)(a:s.heap.IsRevIter I l ((items.size:Int)-1))(G:s.heap.IsList l items)(L:s.heap.get? S=some {cls:=.type "list",data:=.seq #[] y})(hz:items.size<=sizeLine) (D:∀h' tk c g,(∀b o,b≠S->b≠I->s.heap.get? b=some o->h'.get? b=some o)->h'.get? S=some {cls:=.type "list",dict:=none,data:=.seq c g,slots:=#[]}-> ItemsOf (fun i v=>items[items.size-1-i]?=some v) c items.size->R (.ok (.ret q)) {s with heap:=h',toks:=tk}): wpAny (model prog w) A.in1 (Builtin.List.listExtendWith (.ref S) (.ref I) q) (fun r s'=>match r with|.done f=>R (.ok f) s'|.again g=>g.quiet=true/\codeAny (model prog w) A g R s') (fun e s'=>R (.error e) s') s:=by
  have u:S∉[I,l]:=by simp[h,t]
  have B:Builtin.List.listSameRef (.ref S) (.ref I)=false:=by simp[Builtin.List.listSameRef,h]
  refine ah (ji a.typeIs ?_);have N:(Value.type "list_reverseiterator"==Value.type "list")=false:=by decide
  have M:(Value.type "list_reverseiterator"==Value.type "tuple")=false:=by decide
  simp[B,uL];refine ah (pz a (ah (dz ?_)));refine ah (wpAny_specialOf a.typeIs V5 ?_);refine ah (wpAny_specialOf a.typeIs V6 ?_);generalize p:("list_reverseiterator.__length_hint__":String)=H;subst p;refine ah (wpAny_isInstance (b:=true) a.typeIs (by rw[isSubtype_type];kernel_rfl) (au ?_));refine au ⟨km F.plain_extend_loop _,codeAny_extend_loopS ((Walks.listRev (prog:=prog) (w:=w) (A:=A.in1) C I l n _).toS) hz S u _ _ 0 _ _ _ rfl (bR _) ?_ L (ItemsOf.nil _) fun s' c g x k j=>?_⟩;.exact⟨bR _,by simpa using a,G⟩
  . rw[Moved.eq_with x];refine D _ _ _ _ (fun b o z m e=>x.heap b o (fun d=>?_) e) k j;rcases aU.mp d with J|d;.exact z J
    .exact m (cY.mp d)
theorem V8(B:A.handled=none)(t:l≠I)(j:s.heap.IsRevIter I l ((items.size:Int)-1))(x:s.heap.IsList l items)(hz:items.size<=sizeLine) (z:∀h' tk a u,(∀b o,b≠I->s.heap.get? b=some o->h'.get? b=some o)->h'.get? s.heap.objs.size=some {cls:=.type "list",dict:=none,data:=.seq a u,slots:=#[]}-> ItemsOf (fun i v=>items[items.size-1-i]?=some v) a items.size->Q (.ref s.heap.objs.size) {s with heap:=h',toks:=tk}): wpAny (model prog w) A (call (.type "list") [.ref I]) Q E s:=by refine callType_codes (Q₁:=fun m c=>m=.ref s.heap.objs.size/\c={s with heap:=s.heap.push {cls:=.type "list",data:=.seq #[]}}) F.called_list (F.typeCall_list_1 _) F.entry_list_init (code_list_new _ ⟨rfl,rfl⟩) fun m c g=>?_;obtain⟨rfl,rfl⟩:=g;have p:(s.heap.push {cls:=.type "list",data:=.seq #[]}).get? _=some _:=b9 _ rfl;have k:=let⟨o,e,_⟩:=j;aM e;have n:=let⟨o,e,_⟩:=x;aM e;refine⟨⟨_,p,rfl⟩,F.args_list_init_2 _ _,?_⟩;refine ah (ah (eD p rfl (au ?_)));refine ah (mE p rfl ?_);have f:=jz (Obj.mapSeq (fun _=>(#[]))) p rfl;have d:∀b o,b≠s.heap.objs.size->s.heap.get? b=some o->((s.heap.push {cls:=.type "list",data:=.seq #[]}).update _ (Obj.mapSeq (fun _=>#[]))).get? b=some o:= fun b o r e=>(fO _ _ (aR r)).trans (aK _ e);exact V7 B t (eQ k) (eQ n) (j.at fun o e=>d I o (aY k) e) (x.at fun o e=>d l o (aY n) e) f hz fun h' tk a u y q h=>⟨rfl,z _ _ _ _ (fun b o r e=>y b o (aY (aM e)) r (d b o (aY (aM e)) e)) q h⟩
end
section
variable{X:Cx}{l:Expr}{tl:TE}
def M0(K:PySem.W.Frag)(tl:TE):TE:=fun d H Q=>tl d H fun x b=>∃a c,x=.ref a/\fz K b a c/\∀p,b p=none->Q (.ref p) (upd b p (.lst c.reverse))
theorem V9(O:X.calm=true)(N:Gl X "list")(R:X.mg "list"=none)(n:Gl X "reversed")(k:X.mg "reversed"=none)(J:PE X l tl)(y:starEach [l] X.env=[(false,eval l X.env)]:=by rfl): PE X (.Call (.Name "list" p) [.Call (.Name "reversed" p') [l] [] z] [] pos) (M0 X.K tl):=by
  intro A s σ H Q I h;refine Call_ (pE I N R eB (eU ?_ rfl rfl));refine nC (Call_ (pE I n k boot_reversed (eU ?_ y rfl)));rw[y];refine nC (bT (J _ s _ H _ I h) fun u s1 ⟨x,_,j,G,B⟩=>(p9 ?_));obtain⟨a,S,rfl,D,q⟩:=B;cases G;obtain⟨f,r,t,hz⟩:=j.list D;have w:=r.length;refine call_reversed_list t.isList (p9 ?_);have v:=let⟨o,e,_⟩:=t.isList;aM e;refine V8 (j.ok.hd O) (aY v) ⟨_,b9 _ rfl,rfl,rfl⟩ (t.isList.push _) (by simp_all) fun U Z c Y M m d=>?_;have E:c=f.reverse.toArray:=by
    have T:c.size=f.length:=by have:=d.1;omega
    apply Array.ext';apply iB;intro i;by_cases L:i<f.length
    . have C:i<c.size:=by lia
      have:=d.2 i c[i] (by rw[Array.getElem?_eq_getElem _]);rw[dX,List.getElem?_toArray] at this;rw[wN,Array.getElem?_eq_getElem C,List.getElem?_reverse L,<-this]
    .rw[f9.mpr (by simp_all),f9.mpr (by simpa using by lia)]
  subst E;refine⟨.ref _,_,j.laid (o:=.lst _) (fun b ob e=>M b _ (aY (aM e)) (aK _ e)) ?_ ⟨by rwa[ka],_,_,r.reverse,m⟩,rfl,q _ (j.bD.fresh ?_)⟩;.rw[iA];omega
  .rw[iA];omega
end
end L2
namespace PM
open PySem L2
section
variable{K:Kx}{XO:cX}{E:L2.St->XK}{te:TE}{me:En->R D}
def GH(me:En->R D)(δ:En):R D:=(me δ).bind fun d=>match d with|.lst l=>.ok (.lst l.reverse)|_=>.no
theorem V_(h:lV K XO E te me):iQ K XO E (M0 K.f te) (GH me):=by intro m k j F H t u Q I a;refine h _ _ _ F H _ _ _ I (a.bind.imp fun d s o b e v r=>?_);cases d with |lst l=> obtain⟨p,n,rfl,g,i⟩:=r;refine⟨p,_,rfl,.inl g,fun q c=>e _ _ (.dY b.fh c) q (b.fh.free c) (b.hh.free c) ⟨_,cb,aD.reverse i⟩⟩ |_=>exact e.elim
end
end PM
namespace L2
open PySem PySem.Spec PyProof.Rows Builtin Builtin.ObjectAttr
def GI:List Value->Bool |.ref _::r=>GI r |l=>l==[.type "ValueError",.type "Exception",.type "BaseException",.type "object"]
theorem M1(b:Value):∀{l:List Value},GI l=true->refuseLoop b "__setattr__" l=pure () |.ref c::r,e=>by rw[refuseLoop_ref];exact M1 _ e |[],e=>rfl |.type n::r,e=>by have:=eW.mp e;rw[this];exact PySem.F.store_ValueError.passes _ |.none::r,e=>by have:=eW.mp e;simp_all |.bool _::r,e=>by have:=eW.mp e;simp_all |.int _ _::r,e=>by have:=eW.mp e;simp_all |.str _ _::r,e=>by have:=eW.mp e;simp_all |.builtin _::r,e=>by have:=eW.mp e;simp_all
def GJ(K:PySem.W.Frag)(C:Addr):Bool:=(PySem.W.clsIn K C).any fun a=>GI a.mro
section
variable{prog:Program}{w:World}{A:Around}{E:Value->Shared->Prop}{s:Shared}{K:PySem.W.Frag}{x C:Addr}{ox:Obj}{od:Option Obj}{name:Str}{tk:Tok}{v:Value}{R:Result->Shared->Prop}
theorem V'(X:K.In s.heap)(I:PySem.W.InstAt s.heap x ox C od)(i:PySem.W.mroIn K C (.type "object")=some true)(t:GJ K C=true)(o:PySem.W.takerIn K C name=some none) (h:∀b,wpAny (model prog w) A.in1 (storeInOwnDict (.ref x) (.ref C) (.str name tk) name v b) (fun j s'=>match j with|.done f=>R (.ok f) s'|.again k=>k.quiet=true/\codeAny (model prog w) A k R s') (fun e s'=>R (.error e) s') s): codeAny (model prog w) A (.call (.builtin "object.__setattr__") ⟨[.ref x,.str name tk,v],[]⟩) R s:=by
 have d:=PySem.F.store_object;obtain⟨z,y,q⟩:=oY t;have g:PySem.W.Looks (model prog w) s.heap (isInstance _ _) _:=I.type.andThen (PySem.W.looks_mroIn X i);refine l9 d.slot.plain d.entry (@PySem.W.check_slot _ _ _ s _ _ _ _ _ _ _ d.kind d.split g (d.args _ _ v) ?_);obtain⟨c,m,u⟩:=Option.bind_eq_some_iff.mp o;have l:PySem.W.Looks (model prog w) _ (mroOf (.ref C)) _:=(o_ X y).andThen .now;have p:PySem.W.Looks (model prog w) s.heap (storeTaker? c) none:=by cases c with |none=>exact .now |some a=>
  obtain⟨b,n,r⟩:=oP.mp u;refine(PySem.W.looks_takesIn X n).andThen ?_;cases b;.exact .now
  simp_all
 rw[PySem.W.osa_eq,refuse_eq];refine ah (ah (I.type.here (ah (l.here ?_))));rw[M1 _ q];exact au (ah (I.type.here (ah ((pd X m).here (ah (p.here (h _)))))))
theorem Wa(X:K.In s.heap)(p:s.heap.get? x=some ox)(L:ox.cls=.ref C)(q:ox.dict=none)(k:ox.data=.fields vs) (Y:PySem.W.findIn K (.ref C) "__setattr__"=some (some (.builtin "object.__setattr__")))(N:PySem.W.mroIn K C (.type "object")=some true)(c:GJ K C=true)(ht:PySem.W.takerIn K C name=some none)(hh:PySem.W.hasDictIn K C=true) (h:∀h' M,(∀b o,b≠x->s.heap.get? b=some o->h'.get? b=some o)->h'.get? x=some {ox with dict:=some s.heap.objs.size}->h'.Ns1 s.heap.objs.size (fun y=>if y=name then some v else none)->s.heap.objs.size+1<=h'.objs.size->Q () {s with heap:=h',toks:=M}): wpAny (model prog w) A (setAttr (.ref x) name v) Q E s:=by
 have I:PySem.W.InstAt s.heap x ox C none:=⟨p,L,by unfold PySem.W.notCls;rw[k],by simp_all⟩;refine PySem.W.set_plain X I Y (V' (s:={s with toks:=s.toks+1}) X I N c ht fun b=>?_);obtain⟨cd,B,G⟩:=oY hh;obtain⟨c,g,d,t,os⟩:=s;obtain⟨oc,odi,Wb,m⟩:=ox;dsimp at L q k p h X I⊢;subst L q k;obtain⟨l,a⟩:=xz ({cls:=.type "dict",data:=.dict #[]}:Obj);obtain⟨n,f⟩:=xz ((c.push l).update x fun u=>{u with dict:=some c.objs.size}:Heap);have S:x≠c.objs.size:=fun z=>absurd (aM p) (by simp_all);have O:(c.push l).get? x=some ⟨.ref C,none,.fields vs,m⟩:=aK _ p;refine ah (au (ah (ah (wpAny_loadPart p (ah ((o_ X B).here ?_))))));rw[G];rw[<-a];refine ah (wpAny_alloc' (ah (wpAny_update' O (au ?_))));have H:n.get? c.objs.size=some l:=by rw[f];exact(Heap.get?_update_ne _ _ _ _ (aR S)).trans (Heap.get?_push_at rfl (by rw[a];rfl))
 have j:n.Ns1 c.objs.size (fun _=>none):=Heap.Ns1.of_empty ⟨l,#[],_,H,by rw[a],fun u hu=>absurd hu (by simp),fun _=>rfl⟩;rw[<-f];refine ah (au (ah (wpAny_nsSet1 j fun U T same=>?_)));obtain⟨oD,_,_,r,i,D⟩:=T.count (Within.cons name v Within.nil);refine ah (wpAny_lookBehind r ?_ ?_);.rw[i];refine pastItsLine_dict (bI D ?_);simp_all
 wp_walk;have Z:n.get? x=some ⟨.ref C,some c.objs.size,.fields vs,m⟩:=by rw[f];exact jz _ O rfl
 refine h U _ (fun b u nb e=>?_) ((same.2 x S).trans Z) T (aM r);have J:b≠c.objs.size:=fun z=>absurd (aM e) (by rw[z];exact dw _);refine(same.2 b J).trans ?_;rw[f];exact(Heap.get?_update_ne _ _ _ _ nb).trans (aK _ e)
end
structure tL(K:PySem.W.Frag)(C:Addr):Prop where
 z:gF K C
 sa:PySem.W.findIn K (.ref C) "__setattr__"=some (some (.builtin "object.__setattr__"))ov:GJ K C=true
def jR(C:Addr)(b:Option Addr)(vs:Array Value)(ea:Addr):HO:=.ext fun h=>∃a,h.get? ea=some a/\a.cls=.ref C/\a.dict=b/\a.data=.fields vs
theorem M3(h1:h.get? ea=some b)(h2:b.cls=.ref C)(h3:b.dict=a)(g:b.data=.fields vs):da P w H h ea (jR C a vs ea):= ⟨⟨_,h1,h2,h3,g⟩,⟨_,h1⟩,fun j i ⟨_,e,f,c,d⟩ k=>⟨_,k _ e,f,c,d⟩⟩
def Wc(K:PySem.W.Frag)(h g:TE)(f:Str):TS:=fun D c H=>g c H fun y i=>h c i fun x b=>∃a C e,x=.ref a/\b a=some (jR C none e a)/\tL K C/\aE K C f/\ ∀d,b d=none->D.nx c (upd (upd b a (jR C (some d) e a)) d (.xd [(f,y)]))
section
variable{X:Cx}{o e value:Expr}{f:Str}{pos pos' AS:Pos}{ta tv:TE}
theorem M4(B:PE X o ta)(M:PE X value tv)(T:swapsWith value (some (.Attribute o f pos')) pos.line X.env=pure false):PS X (.Assign [.Attribute o f pos'] value pos) (Wc X.K ta tv f):=by
  intro m s σ H D I h;refine plainObj_wpAny_Assign_Attribute (bT (M _ s _ H _ I h) fun u s1 ⟨y,_,R,_,q⟩=>bT (B _ _ _ _ _ R q) fun J t ⟨x,_,b,E,a,C,_,U,i,c,n,G⟩=>?_) T;subst U;obtain rfl:J=Value.ref a:=E;obtain⟨⟨ob,Y,w,Z,l⟩,_⟩:=b.bD a _ i;refine Wa b.gM Y w Z l c.sa c.z.hm c.ov n.v8 c.z.hd fun L j hk d N S=>?_;have r:=b.bD.fresh (aC _);have k:t.heap.objs.size≠a:=fun z=>by rw[<-z,r] at i;cases i
  have O:Inv X _ _ _ {t with heap:=L,toks:=j}:=b.write (by rw[i];exact True.intro) (.inl rfl) hk ⟨_,d⟩ (M3 d w rfl l);refine⟨_,_,O.wd (by rwa[bc k]) ?_ ?_ ?_ ?_ ?_,G _ r⟩;.exact lD b.sz
  .exact eQ b.lt
  .intro x c e;obtain⟨v,o,Q,_⟩:=b.cell x c e;exact aY (aM Q)
  .intro p A;exact aY (aM (b.pin p A).1)
  . refine⟨_,N,fun g=>?_⟩;show gT (match g==f with|true=>some y|false=>none) _;by_cases z:g=f;.rwa[ao z,show(g==f)=true by grind]
    .rw[ak z,show(g==f)=false by simpa using z];trivial
end
section
variable{M:Model}{A:Around}{E:Value->Shared->Prop}{s:Shared}{B:Heap}{env:Env}{outer l:List Env}{L e:Addr}{Q:Unit->Shared->Prop}
theorem Wd(c:A.frames=some (env::outer))(g:env.frame=some L)(a:B.StaysIn s.heap)(h:s.heap.FunFrames B (env::outer))(f:s.heap.get? e=some b)(hd:b.data=.fields vs)(h1:vs[1]?=some .none)(d:B.get? e=none) (k:∀h',kC B (env::outer) e b.cls b.dict (rawInt L) h'->s.heap.UpToSlots h'->Q () {s with heap:=h'}):wpAny M A (noteFrame (.ref e) env) Q E s:=by unfold noteFrame;simp[g];exact ah (cj f hd h1 (Fy c h g f hd (uK.mp h1).1 a d k))
end
def kJ(H:Hp)(a:Addr):Hp:=fun b=>if b=a then none else H b
theorem xR(h:b≠a):kJ H a b=H b:=by unfold kJ;simp_all
section
variable {P : Program} {w : World} {K : PySem.W.Frag} {mg : Str → Option Value} {base : Heap} {N : List Str} {qual : Str} {scope : Scope} {f : Addr} {cd : Value} {A : Around} {outer : List Env} {s0 : Shared} {H0 : Hp} {E : XK}
theorem We(I:Inv (kE P w K mg base N qual scope f cd A outer s0 H0 E) pins σ H s)(r:H ea=some (jR C p vs ea))(h0:s0.heap.get? ea=none)(M:vs[1]?=some .none) (q:E (.ref C) p (kJ H ea)):(kE P w K mg base N qual scope f cd A outer s0 H0 E).xe (.ref ea) s:=by
  obtain⟨⟨ob,Y,X,g3,g4⟩,_⟩:=I.bD ea _ r;have D:∀i∈(kE P w K mg base N qual scope f cd A outer s0 H0 E).stack,∀a,i.frame=some a->a∈ea::k6 (kE P w K mg base N qual scope f cd A outer s0 H0 E).stack:=fun i r a T=>bK _ (lN.mpr ⟨i,r,T⟩);have h:=I.stack;refine ah (Wd (B:=PySem.W.hideAll s.heap (ea::k6 (kE P w K mg base N qual scope f cd A outer s0 H0 E).stack)) I.ok.frames rfl (fun b o e=>pj _ e) (PySem.W.funFrames_hide h D) Y g4 M (PySem.W.hideAll_none _ (by simp)) fun h1 U up1=>(Fz U fun Z y t=>?_));have g:∀b o,s.heap.get? b=some o->b∉ea::k6 (kE P w K mg base N qual scope f cd A outer s0 H0 E).stack->(PySem.W.hideAll s.heap (ea::k6 (kE P w K mg base N qual scope f cd A outer s0 H0 E).stack)).get? b=some o:=fun b o e c=>o5 _ e c;have d:∀{b:Addr}{u:HO},H b=some u->(∀O,u≠.ext O)->b≠ea:=fun e n z=>by subst z;rw[r] at e;exact n _ (dO e).symm
  have l:Un (kE P w K mg base N qual scope f cd A outer s0 H0 E).fs [] H0 (kJ H ea) s0.heap s.heap:=⟨I.base.keep,I.base.slot,fun b o e n S=>by
      unfold kJ;split;.rfl
      .exact I.base.free b o e n S,I.base.there,fun b J e=>by have z:=I.base.kv b J e;rwa[xR (d z (fun _ w=>by cases w))],fun b o u e=>by have z:=I.base.jJ b o u e;rwa[xR (d z (fun _ w=>by cases w))],fun b Q e=>let⟨m,z⟩:=I.base.ie b Q e;⟨m,by rwa[xR (d z (fun _ w=>by cases w))]⟩⟩;obtain⟨u,j⟩:=FA (h1:=s0.heap) (h2:=s.heap) (h3:=Z) (B:=PySem.W.hideAll s.heap (ea::k6 (kE P w K mg base N qual scope f cd A outer s0 H0 E).stack)) (fr:=k6 (kE P w K mg base N qual scope f cd A outer s0 H0 E).stack) Un.refl (l.mono (fun b c=>bK _ c) (fun b c=>c)) I.ok.above I.gx (fun b c=>bK _ c) I.ok.uh (fun b c o e=>by obtain⟨_,x,R,hn⟩:=h.mem (bK _ c);simp_all) (up1.trans t) y.stays (fun b o e c=>by
      obtain⟨x,e'⟩:=I.base.there b o e (by show b∉[];simp);have L:b≠ea:=fun z=>by simp_all
      refine⟨x,g b x e' (fun z=>(aU.mp z).elim L c),fun n=>?_⟩;have k:=I.base.keep b o e n (fun z=>c (bK _ z)) (by show b∉[];simp);simp_all);refine⟨ea,C,p,kJ H ea,rfl,⟨I.os,I.bare,u,_,by rw[X,g3] at y;exact y.pop,?_,j⟩,q⟩;intro a o e;have G:a≠ea:=fun z=>by unfold kJ at e;simp_all
  rw[xR G] at e;refine(I.bD a o e).ic (fun b v c q=>g b v q fun z=>?_) (fun b q=>by rwa[xR (d q (fun _ w=>by cases w))]) fun b _ q=>by rwa[xR (d q (fun _ w=>by cases w))]
  rcases aU.mp z with z|z
  . subst z;rcases c with c|c;.exact G c.symm
    .exact d c (fun _ w=>by cases w) rfl
  . have n:=I.jT b z;rcases c with rfl|c;.rw[e] at n;cases n
    .rw[c] at n;cases n
end
theorem Wf{K:PySem.W.Frag}(X:K.In h)(G:h.Ns N m)(e:PySem.W.nsIn K N n=some (some v)):m n=some v:=by
  obtain⟨o,i,g,c,f,_,d⟩:=G;unfold PySem.W.nsIn at e;split at e
  . rename_i b;cases((X _ _ b).symm.trans c);cases f;split at e;.rename_i a;cases e;refine(d n).symm.trans ?_;simp only[nsFind,findBy];rw[<-Array.find?_toList,a];rfl
    simp_all
  .cases e
noncomputable def zi(K:PySem.W.Frag)(C:Addr)(b:List Value)(newId:String)(d:Addr):Bool:=match K.lookup C with |some ⟨.type "type",_,.cls a,e⟩=>(match a.mro,e.toList with |.ref c::f,[_,_,_,_,some (.builtin n),_]=>c==C&&n==newId&&!a.hasDel&&PySem.W.tailIn K b f&&PySem.W.nsOkIn K a.ns&&PySem.W.nsIn K a.ns "__init__"==some (some (.ref d)) |_,_=>false) |_=>false
theorem Wg{K:PySem.W.Frag}(X:K.In h)(q:zi K C d newId g=true): ∃bm N nm e bs hdct sn sub ab col dd k0 k1 k2 k3 k5 mN,h.get? C=some (excClassObj nm e C N bs bm hdct sn sub ab col dd k0 k1 k2 k3 k5 newId)/\h.Ns N mN/\mN "__init__"=some (.ref g)/\OwnTail h d bm:=by
  unfold zi at q;split at q
  . rename_i dd f p l;split at q;.rename_i t bm k0 k1 k2 k3 n k5 k m;simp[eW] at q;obtain⟨⟨⟨⟨⟨rfl,rfl⟩,a⟩,o⟩,b⟩,c⟩:=q;obtain⟨nm,bs,r,u,e,s,sn,sub,ab,col,i⟩:=f;subst k a;obtain⟨j⟩:=p;subst m;exact⟨_,_,_,_,_,_,_,_,_,_,_,_,_,_,_,_,_,X _ _ l,.of_isNs (o9 X b),Wf X (.of_isNs (o9 X b)) c,PySem.W.tail_of_in X o⟩
    simp_all
  simp_all
section
variable{M:Model}{A:Around}{E:Value->Shared->Prop}{env:Env}
variable{nm q:Str}{C N:Addr}{bs bm:List Value}{hdct:Bool}{sn:List Str}{sub:List Value}{ab:Bool}{col:Option Bool}{dd:Option Addr}{k0 k1 k2 k3 k5:Option Value}{newId:String}
theorem Wh(b:bm.contains (.type "BaseException")=true)(n:A.handled=none) (h:wpAny M A x (fun v a=>∃e c,v=.ref e/\a.heap.get? C=some (excClassObj nm q C N bs bm hdct sn sub ab col dd k0 k1 k2 k3 k5 newId)/\ a.heap.get? e=some c/\c.cls=.ref C/\(∃vs,c.data=.fields vs/\vs[1]?=some .none)/\E (.ref e) a) E s): wpAny M A (raiseStmt env (some x) none) Q E s:=by
 have i:(Value.ref C::bm).contains (.type "BaseException")=true:=by rw[List.contains_cons,b,Bool.or_true]
 unfold raiseStmt;refine ah (c8 h (fun v a f=>?_) fun _ _ x=>x);obtain⟨e,c,rfl,p,w,k,⟨vs,l,o⟩,t⟩:=f;obtain⟨u,g,d,z,os⟩:=a;obtain⟨y,j,r,m⟩:=c;subst k l;repeat(first|with_reducible rfl|with_reducible rfl|(with_reducible refine wpAny_isSubtype_exc p ?_;rw[i])|wp_step)
 rw[o];refine au ?_;exact au (wpAny_raiseNew_none n t)
end
def GK(X:Cx)(E:St->XK):Prop:=∀(b:List (Addr×Obj))(e:St)(H:Hp)(s:Shared)(c C:Addr)(a:Option Addr)(d:Array Value),Inv X b e H s->H c=some (jR C a d c)->X.fy.heap.get? c=none->d[1]?=some .none->E e (.ref C) a (kJ H c)->X.xe (.ref c) s
def GL(C:Addr)(sp:Sp)(E:St->XK)(t:TA):TS:=fun _ f H=>t f H fun c d=>c.length<=sizeLine/\ ∀e b,d e=none->sp (.ref e::c) (upd d e (jR C none b e)) (fun v g=>v=.non/\∃a,g e=some (jR C a b e)/\E f (.ref C) a (kJ g e)) E0
section
variable {P : Program} {w : World} {K : PySem.W.Frag} {mg : Str → Option Value} {base : Heap} {N : List Str} {qual : Str} {scope : Scope} {f : Addr} {cd : Value} {A : Around} {outer : List Env} {s0 : Shared} {H0 : Hp} {E : XK}
theorem M5:GK (kE P w K mg base N qual scope f cd A outer s0 H0 E) (fun _=>E):=fun _ _ _ _ _ _ _ _ I c b a q=>We I c b a q
end
section
variable{X:Cx}{CX:jC}{k:Nat}{fa:Addr}{fd:FuncData}{ps:List Str}{sp:Sp}{x:Str}{np dB pos:Pos}{ig:Expr}{rest:List Expr}{C:Addr}{m9 wa:List Value}{newId Bn B wb wc gE:String}{E:St->XK}{t:TA}
theorem Wi(hex:X.ex=[])(hc:X.calm=true)(hg:Gl X x)(Wj:X.mg x=some (.ref C))(hk:zi X.K C m9 newId fa=true)(Fn:ExcBaseFacts Bn newId wc wa)(Wk:m9.contains (.type Bn)=true)(FB:ExcBaseFacts B wb gE m9)(hE:GK X E) (F:cq X.prog X.w X.K X.mg X.base CX k fa fd ps sp)(hr:cm (k+1) X.A)(hb:Binds X.K fd ps [])(Q:PySem.W.isFn X.K (.ref fa)=true)(hx:nP CX X E0) (ha:PA X (ig::rest) t)(he:starEach (ig::rest) X.env=(false,eval ig X.env)::starEach rest X.env:=by rfl)(i:(backTo dB (starEach rest X.env)).any (·.1)=false:=by rfl)(Wl:(x==("__debug__":Str))=false:=by decide): PS X (.Raise (some (.Call (.Name x np) (ig::rest) [] dB)) none pos) (GL C sp E t):=by
 intro b s L H D I h;obtain⟨tl,N,nm,qn,bs,J,sn,sub,ab,col,dd,k0,k1,k2,k3,k5,mN,hC,hN,U,T⟩:=Wg I.ok.mod.vY hk;have w:(backTo dB (starEach (ig::rest) X.env)).any (·.1)=false:=by rw[he];show(false||(backTo dB (starEach rest X.env)).any (·.1))=false;rw[i];rfl
 refine ah (gv (Wh (C:=C) (nm:=nm) (q:=qn) (N:=N) (bs:=bs) (bm:=tl) (hdct:=J) (sn:=sn) (sub:=sub) (ab:=ab) (col:=col) (dd:=dd) (k0:=k0) (k1:=k1) (k2:=k2) (k3:=k3) (k5:=k5) (newId:=newId) (T.hasType FB.hasBase) (I.ok.hd hc) ?_));refine ah (c8 (wpAny_Call_ofName (yI I hg Wj ?_ Wl)) (fun v Wm y=>ah (gv (au y))) fun _ _ x=>x);refine ah (dz ?_);have hA:=ha dB b s L H _ I h;rw[he] at hA w⊢;refine uM (bT hA fun l s1 ⟨vs,H1,j,r1,z,q⟩=>?_);have bk:=j.bk;have A:=bk _ _ hC;have fI:∃G,s1.heap.get? fa=some G/\G.cls=.type "function":=by have z:=eW.mp Q;obtain⟨G,e1,e2⟩:=oP.mp z;exact⟨G,j.gM _ _ e1,e2⟩
 obtain⟨G,Wn,R⟩:=fI;obtain⟨hp,g,d,tk,os⟩:=s1;refine ah (gv ?_);simp only[w];refine ah (wpAny_keeperOf_exc A (ah (VQ Fn Wk FB (T.keeps bk) A (hN.keeps bk) U Wn R (fun h' e hm=>?_) (by show l.length<=sizeLine;rw[<-r1.length];exact z))));obtain⟨t,ht,_,_⟩:=hm.there;have n:hp.get? e=none:=hm.new;have nH:H1 e=none:=j.bD.none_of n;have h0:X.fy.heap.get? e=none:=by cases z:X.fy.heap.get? e with |none=>rfl |some o=> obtain⟨o',e'⟩:=j.base.there e o z (by rw[hex];simp);rw[show hp.get? e=some o' from e'] at n;cases n
 have I2:Inv X b L H1 {heap:=h',gens:=g,drawn:=d,toks:=tk,os:=os}:=j.kept hm.keeps;have O:=I2.wd (ea:=e) (o:=jR C none #[.ref t,.none,.none,.none,.bool false,.none] e) nH h0 (fun z=>by obtain⟨m,⟨o,es,ep,M,_⟩,_⟩:=j.loc;rw[z,show hp.get? X.env.locals=some o from M] at n;cases n) (fun x c ec z=>by obtain⟨v,o,M,_⟩:=j.cell x c ec;rw[z,n] at M;cases M) (fun p Z z=>by have a:=(j.pin p Z).1;rw[z,n] at a;cases a) (M3 ht rfl rfl rfl);have hq:=q e #[.ref t,.none,.none,.none,.bool false,.none] nH;have r2:Vals (V.ref e::vs) (Value.ref e::l):=.cons rfl r1;have hl:(Value.ref e::l++[]).length=ps.length:=by rw[dN,<-r2.length];exact F.len _ _ _ _ hq
 have bb:=hb _ (Value.ref e::l) O.gM hl;rw[dN] at bb;refine fU (gq (F.run _ X.stack _ _ ⟨Value.ref e::l,[]⟩ (Value.ref e::l) _ _ E0 (hr.make C l []) (O.uX.make C l []) bb r2 hq) fun r s' f=>?_);cases r with |error er=>exact hx b L _ _ er s' O f |ok fl=> cases fl with |ret u=> obtain⟨v,H',Y,rv,ev,dc,eH,qE⟩:=O.after f;subst ev;obtain⟨⟨ob,g1,g2,g3,g4⟩,_⟩:=Y.bD e _ eH;exact⟨rv,ah (dz (wpAny_point (au ⟨e,ob,rfl,Y.bk _ _ hC,g1,g2,⟨_,g4,rfl⟩,hE b L _ _ e C _ _ Y eH h0 rfl qE⟩)))⟩ |next=>exact False.elim f |brk=>exact False.elim f |cont=>exact False.elim f
end
end L2
namespace PM
open PySem L2
def zj(K:PySem.W.Frag)(a:Str):Sp:=fun d H Q _=>∃(e C:Addr) (c:Array Value) (n:Int),d=[.ref e,.int n]/\H e=some (jR C none c e)/\tL K C/\aE K C a/\ ∀b,H b=none->Q .non (upd (upd H e (jR C (some b) c e)) b (.xd [(a,.int n)]))
theorem M6{a c b:Str}(h:zj K a vs H Q E):vs.length=[c,b].length:=by obtain⟨_,_,_,_,rfl,_⟩:=h;rfl
def xS(P:Program)(w:World)(K:PySem.W.Frag)(mg:Str->Option Value)(a:Heap)(c:Addr)(ps:List Str)(sp:Sp):Prop:=∃b,cq P w K mg a jM 1 c b ps sp/\Binds K b ps []
section
variable{X:Cx}{fa:Addr}{ps:List Str}{sp:Sp}{x:Str}{np dB pos:Pos}{ig:Expr}{rest:List Expr}{C:Addr}{m9 wa:List Value}{newId Bn B wb wc gE:String}{E:L2.St->XK}{t:TA}
theorem M7(e:X.ex=[])(n:X.calm=true)(p:Gl X x)(f:X.mg x=some (.ref C))(m:zi X.K C m9 newId fa=true)(k:ExcBaseFacts Bn newId wc wa)(b:m9.contains (.type Bn)=true)(j:ExcBaseFacts B wb gE m9)(g:GK X E) (G:xS X.prog X.w X.K X.mg X.base fa ps sp)(l:cm 2 X.A)(c:PySem.W.isFn X.K (.ref fa)=true) (h:PA X (ig::rest) t)(o:starEach (ig::rest) X.env=(false,eval ig X.env)::starEach rest X.env:=by rfl)(a:(backTo dB (starEach rest X.env)).any (·.1)=false:=by rfl)(d:(x==("__debug__":Str))=false:=by decide): PS X (.Raise (some (.Call (.Name x np) (ig::rest) [] dB)) none pos) (GL C sp E t):=let⟨_,F,i⟩:=G;Wi e n p f m k b j g F l i c bH h o a d
end
def vx:List D->Option Int |[.int n]=>some n |_=>none
theorem Wo(h:vx l=some n):l=[.int n]:=by unfold vx at h;grind
def GN(c0:Nat)(ml:En->R (List D))(δ:En):O:=(ml δ).ij δ fun l=>match vx l with|some n=>cN (0<=n) (.ex δ ⟨c0+16*(n.toNat+1)⟩) .no|none=>.no
section
variable{K:Kx}{XO:cX}{E:L2.St->XK}{ta:TE}{ma:En->R D}{Λ:List (Nat×Addr×HO)}{F0 H0 F H:Hp}{σ:L2.St}{δ:En}
theorem M8(G:c0<16)(B:∀k,C=K.ca (c0+16*(k+1)))(s:∀k,K.an (c0+16*(k+1))=c)(A:tL K.f C)(N:aE K.f C c) (h:SA K (jr K) E Q ml):SS K (jr K) E (GL C (zj K.f c) E Q) (GN c0 ml):=by intro Λ F0 H0 F H σ δ T I a;refine h _ _ _ F H _ _ _ I ((cR.of I a).imp fun l U x e p S r=>?_);cases q:vx l with |none=>rw[q] at p;exact p.elim |some n=>
    rw[q] at p;have J:=Wo q;subst J;simp at p;unfold cN at p;split at p
    . obtain⟨v,rfl,M⟩:=r.one;subst M;refine⟨by show 1<=sizeLine;decide,fun f y t=>⟨_,C,_,n,rfl,cb,A,N,fun g d=>⟨rfl,some g,?_,?_⟩⟩⟩
      . have i:f≠g:=fun z=>by rw[<-z,cb] at d;cases d
        rw[bc i,cb]
      . have i:g≠f:=fun z=>by rw[z,cb] at d;cases d
        have m:=by rw[bc i] at d;exact d
        have L:kJ (upd (upd (upd x f (jR C none y f)) f (jR C (some g) y f)) g (.xd [(c,.int n)])) f=upd x g (.xd [(c,.int n)]):=by
          funext b;by_cases j:b=f;.subst j;rw[bc (aR i),t];unfold kJ;simp
          . rw[xR j];by_cases u:b=g;.subst u;rw[cb,cb]
            .rw[bc u,bc u,bc j,bc j]
        rw[L];refine p _ _ _ _ _ ((I.grow e).grow (Ext.new (o:=.xd _) (I.grow e).same m)) ⟨by rw[B _],(⟨_,rfl,?_⟩)⟩;rw[cb,s];have:((c0+16*(n.toNat+1))/16:Nat)-1=n:=by omega
        rw[this]
    .exact p.elim
end
end PM
namespace L2
open PySem PyProof.Rows
def Lx(ky:Nat->Int)(i j:Nat):Prop:=ky i<ky j\/(ky i=ky j/\i<j)
theorem Lx.trans(h:Lx ky a b)(h':Lx ky b c):Lx ky a c:=by unfold Lx at*;lia
theorem Lx.le(h:Lx ky a b):ky a<=ky b:=by unfold Lx at h;lia
abbrev cE(p:Array Nat)(j:Nat):Nat:=p.getD j 0
theorem Bt(a:j<=p.size)(k:Nat):cE (PySem.W.kas_rev p i j) k=if i<=k/\k<j then cE p (i+j-1-k) else cE p k:=by unfold cE PySem.W.kas_rev;rw[oK,getElem?_mirror_all a,oK,oK];grind
theorem Wq(a:s<p.size)(hd:d<=s)(k:Nat):cE (bubble p s d) k=if k=s-d then cE p s else if s-d<k/\k<=s then cE p (k-1) else cE p k:=by unfold cE;rw[oK,getElem?_bubble a d hd,oK,oK,oK];grind
def Arr(N:Nat)(p:Array Nat):Prop:=p.Perm (List.toArray (List.range N))
section
variable{N:Nat}{p:Array Nat}
theorem Arr.list(h:Arr N p):p.toList.Perm (List.range N):=by simpa using Array.perm_iff_toList_perm.mp h
theorem Arr.size(h:Arr N p):p.size=N:=by have:=h.size_eq;simp_all
theorem Arr.get(h:Arr N p)(hi:i<N):p.toList[i]?=some (cE p i):=by
 have:i<p.size:=by rwa[h.size]
 simp_all
theorem Arr.lt(h:Arr N p){i:Nat}(hi:i<N):cE p i<N:=by have:=h.list.mem_iff.mp (jB (h.get hi));simp_all
theorem Arr.inj(h:Arr N p)(hi:i<N)(c:j<N)(e:cE p i=cE p j):i=j:=by
 have d:=h.list.nodup_iff.mpr qs;have b:=h.get hi;have a:=h.get c;rw[<-e] at a;have f:i<p.toList.length:=by grind
 exact(sO f d).mp (b.trans a.symm)
theorem Arr.below(h:Arr N p)(b:∀j,n<=j->j<N->cE p j=j)(hi:i<n)(c:n<=N):cE p i<n:=by
 by_cases a:cE p i<n;.exact a
 .have l:=h.lt (show i<N by lia);have:=h.inj (by lia) l (b _ (by lia) l).symm;lia
theorem Arr.rev(h:Arr N p)(i j:Nat):Arr N (PySem.W.kas_rev p i j):=(mirror_perm p i j _).trans h
theorem Arr.Wr(h:Arr N p)(s d:Nat):Arr N (bubble p s d):=(bubble_perm p s d).trans h
end
section
variable{ky:Nat->Int}{N:Nat}{cmp:Nat->Nat->(Bool->Shared->Prop)->Shared->Prop}
def og(ky:Nat->Int)(N:Nat)(cmp:Nat->Nat->(Bool->Shared->Prop)->Shared->Prop):Prop:=∀i j,i<N->j<N->∀(C:Bool->Shared->Prop)(s:Shared),C (decide (ky i<ky j)) s->cmp i j C s
structure Pre(ky:Nat->Int)(N:Nat)(p:Array Nat)(n:Nat):Prop where
 arr:Arr N p
 le:n<=N
 ord:∀i j,i<j->j<n->Lx ky (cE p i) (cE p j)rest:∀j,n<=j->j<N->cE p j=j
theorem M9{g:Nat->Nat}(h:∀j,0<j->j<n->Lx ky (g (j-1)) (g j)):∀i j,i<j->j<n->Lx ky (g i) (g j):=by intro i j;induction j with |zero=>lia |succ j f=>
 intro k d;have a:=h _ (by lia) d;by_cases e:i=j;.simp_all
 .exact(f (by lia) (by lia)).trans a
theorem M_(u:og ky N cmp)(l:Arr N p):∀(f n:Nat)(s:Shared),1<=n->n+f<=N-> (∀m,n<=m->m<=n+f->(∀j,n<=j->j<m->¬ky (cE p j)<ky (cE p (j-1)))->(m<n+f->ky (cE p m)<ky (cE p (m-1)))->G m s)->(PySem.W.kas_asc p f n).kasWp cmp G s:=by intro f;induction f with |zero=>intro n s q o k;exact k n (aC _) (aC _) (fun j a b=>by lia) (fun a=>by lia) |succ f t=>
    intro n s q o k;refine u _ _ (l.lt (by lia)) (l.lt (by lia)) _ s ?_;by_cases g:ky (cE p n)<ky (cE p (n-1));.rw[eY g];exact k n (aC _) (by lia) (fun j a b=>by lia) fun _=>g
    . rw[cV g];refine t _ s (by lia) (by lia) fun m a b c d=>k m (by lia) (by lia) (fun j v r=>?_) (fun e=>d (by lia));by_cases e:j=n;.subst e;exact g
      .exact c j (by lia) r
structure Ds(ky:Nat->Int)(N:Nat)(p:Array Nat)(n q:Nat):Prop where
 arr:Arr N p
 le:n<=N
 qn:q<n
 rest:∀j,n<=j->j<N->cE p j=j
 ord:∀i j,i<j->j<n-1-q->Lx ky (cE p j) (cE p i)low:∀i j,i<n-1-q->n-1-q<=j->j<n->ky (cE p j)<ky (cE p i)DB:∀i j,n-1-q<=i->i<j->j<n->ky (cE p i)=ky (cE p j)/\cE p i<cE p j
theorem Ds.turn(D:Ds ky N p n q)(g':∀k,cE d k=if n-1-q<=k/\k<n then cE p (n-1-q+n-1-k) else cE p k):∀i j,i<j->j<n->Lx ky (cE d j) (cE d i):=by
  intro i j f e;rw[g',g'];by_cases a:n-1-q<=i;.rw[ao ⟨by omega,e⟩,ao ⟨a,by omega⟩];have:=D.DB (n-1-q+n-1-j) (n-1-q+n-1-i) (by omega) (by omega) (by omega);exact .inr this
  . by_cases b:n-1-q<=j;.rw[ao ⟨b,e⟩,ak (by omega)];exact .inl (D.low i _ (by omega) (by omega) (by omega))
    .rw[ak (by omega),ak (by omega)];exact D.ord i j f (by omega)
theorem Ds.next(D:Ds ky N p n q)(f:n<N)(l:Arr N d)(g':∀k,cE d k=if n-1-q<=k/\k<n then cE p (n-1-q+n-1-k) else cE p k)(lt:ky (cE p n)<ky (cE p (n-1))):Ds ky N d (n+1) 0:=by
  have h:cE d n=cE p n:=by simp_all
  refine⟨l,f,by lia,fun j a b=>?_,fun i j a b=>(D.turn g') i j a (by lia),fun i j a b c=>?_,fun i j a b c=>by omega⟩;.rw[g',ak (by lia)];exact D.rest j (by omega) b
  . have g:j=n:=by lia
    subst g;rw[h,g'];by_cases z:j-1-q<=i
    . rw[ao ⟨z,by lia⟩];have e:ky (cE p (j-1-q+j-1-i))=ky (cE p (j-1)):=by
        by_cases y:j-1-q+j-1-i=j-1;.rw[y]
        .exact(D.DB _ _ (by lia) (by lia) (by omega)).1
      omega
    .rw[ak (by lia)];have:=D.low i (j-1) (by lia) (by lia) (by omega);lia
theorem Ws(t:og ky N cmp)(k:∀p m q,Ds ky N p m q->G (p,m,q) s):∀(f:Nat)(p:Array Nat)(n q:Nat),n+f=N->Ds ky N p n q->(PySem.W.kas_desc f p n q).kasWp cmp G s:=by intro f;induction f with |zero=>intro p n q _ D;exact k p n q D |succ f h=>
    intro p n q w D;have v:=D.qn;refine t (cE p n) (cE p (n-1)) (D.arr.lt (by lia)) (D.arr.lt (by lia)) _ s ?_;by_cases g:ky (cE p n)<ky (cE p (n-1))
    . rw[eY g];dsimp only;rw[ao rfl];by_cases l:q>0;.rw[ao l];refine h _ (n+1) 0 (by lia) (D.next (by lia) (D.arr.rev _ _) (fun k=>?_) g);have e:=Bt (p:=p) (i:=n-(q+1)) (j:=n) (by grind) k;rwa[show n-(q+1)=n-1-q by lia] at e⊢
      . rw[ak l];refine h _ (n+1) 0 (by lia) (D.next (by lia) D.arr (fun k=>?_) g);by_cases z:n-1-q<=k/\k<n;.grind
        .grind
    . rw[cV g];refine t (cE p (n-1)) (cE p n) (D.arr.lt (by lia)) (D.arr.lt (by lia)) _ s ?_;by_cases d:ky (cE p (n-1))<ky (cE p n);.rw[eY d];exact k p n q D
      . rw[cV d];have u:=D.rest n (aC _) (by lia);refine h p (n+1) (q+1) (by lia) ⟨D.arr,by lia,by lia,fun j a b=>D.rest j (by lia) b,fun i j a b=>D.ord i j a (by lia),fun i j a b c=>?_,fun i j a b c=>?_⟩
        . by_cases e:j=n;.subst e;have:=D.low i (j-1) (by lia) (by lia) (by lia);lia
          .exact D.low i j (by lia) (by lia) (by lia)
        . by_cases e:j=n
          . subst e;refine⟨?_,by rw[u];exact(D.arr.below (i:=i) D.rest (by omega) (by lia))⟩;by_cases y:i=j-1;.subst y;lia
            .have:=(D.DB i (j-1) (by lia) (by lia) (by lia)).1;lia
          .exact D.DB i j (by lia) b (by lia)
theorem M'(r:og ky N cmp)(g:Arr N p)(h1:1<=n)(q:n<=N)(f:∀i j,i<j->j<n->Lx ky (cE p j) (cE p i))(rest:∀j,n<=j->j<N->cE p j=j) (k:∀m l,1<=m->Pre ky N l m->G (m,l) s):(PySem.W.kas_tail3 n N p).kasWp cmp G s:=by
  unfold PySem.W.kas_tail3;rw[ki];have h:=Bt (i:=0) (by rwa[g.size]);have d:∀j,n<=j->j<N->cE _ j=j:=fun j a b=>by rw[h,ak (by omega)];simp_all
  refine M_ r (g.rev 0 n) _ n s h1 (by omega) fun m a b c _=>k m _ (by omega) ⟨g.rev 0 n,by omega,M9 fun j u o=>?_,fun j x y=>d j (by omega) y⟩;by_cases t:j<n;.rw[h,h,ao ⟨by omega,by omega⟩,ao ⟨by lia,t⟩];exact f _ _ (by omega) (by omega)
  . have w:=c j (by lia) o;have z:=d j (by omega) (by lia);have v:cE (PySem.W.kas_rev p 0 n) (j-1)<j:=by
      by_cases e:j=n;.subst e;exact(g.rev 0 j).below d (by lia) q
      .rw[d _ (by lia) (by lia)];lia
    unfold Lx;lia
theorem Na(e:og ky N cmp)(h:n<N)(D:Ds ky N p (n+1) 0) (k:∀m f,1<=m->Pre ky N f m->G (m,f) s):(PySem.W.kas_descPart n N p).kasWp cmp G s:=by
  unfold PySem.W.kas_descPart;rw[ki];refine Ws e (fun f m q c=>?_) _ p _ 0 (by lia) D;have l:=c.qn;have d:=c.le;by_cases g:q>0
  . rw[ao g];refine M' (n:=m) e (c.arr.rev _ _) (by lia) d (c.turn fun k=>?_) (fun j a b=>?_) k;.have z:=Bt (i:=m-(q+1)) (by rwa[c.arr.size]) k;grind
    .show cE (PySem.W.kas_rev _ _ m) j=j;rw[Bt (by rwa[c.arr.size]),ak (by lia)];exact c.rest j a b
  . rw[ak g];refine M' (n:=m) e c.arr (by lia) d (c.turn fun k=>?_) c.rest k;by_cases z:m-1-q<=k/\k<m;.rw[ao z];congr 1;lia
    .rw[ak z]
theorem Wt(N:Nat):Arr N (List.toArray (List.range N)):=Array.Perm.refl _
theorem oH{N j:Nat}(h:j<N):cE (List.toArray (List.range N)) j=j:=by simp_all
theorem Wu(o:og ky N cmp)(I:1<=N)(k:∀m r,1<=m->Pre ky N r m->G (m,r) s):(PySem.W.kas_count N (List.toArray (List.range N))).kasWp cmp G s:=by
  unfold PySem.W.kas_count;rw[ki];have f:=Wt N;refine M_ o f (N-1) 1 s (aC _) (by omega) fun n a b c d=>?_;have p:Pre ky N (List.toArray (List.range N)) n:=⟨f,by omega,M9 fun j L B=>by have w:=c j (by lia) B;rw[oH (show j<N by omega),oH (show j-1<N by lia)] at w⊢;unfold Lx;lia,fun j _ y=>oH y⟩;by_cases e:n=N;.rw[ao (by simp[e])];exact k n _ (by omega) p
  . rw[ak (by simp[e])];have E:=d (by lia);rw[oH (show n<N by omega),oH (show n-1<N by lia)] at E;by_cases A:n>1
    . rw[ao A];refine o _ _ (f.lt (by omega)) (f.lt (by omega)) _ s ?_;rw[oH (show 0<N by omega),oH (show n-1<N by omega)];by_cases t:ky 0<ky (n-1);.rw[eY t];dsimp only;rw[ao rfl];exact k n _ (by omega) p
      . rw[cV t];dsimp only;rw[ak (by simp)];have g:∀i,i<n->ky i=ky (n-1):=fun i v=>by
          have H:ky 0<=ky i:=by
            by_cases z:i=0;.subst z;exact lE _
            .have:=(p.ord 0 i (by lia) v).le;rwa[oH (show 0<N by omega),oH (show i<N by lia)] at this
          have J:ky i<=ky (n-1):=by
            by_cases z:i=n-1;.subst z;exact lE _
            .have:=(p.ord i (n-1) (by lia) (by lia)).le;rwa[oH (show n-1<N by lia),oH (show i<N by lia)] at this
          lia
        have l:∀k,k<N->cE (PySem.W.kas_rev (List.toArray (List.range N)) 0 n) k=if k<n then n-1-k else k:=fun k u=>by
          rw[Bt (by rw[f.size];lia)];by_cases z:k<n;.rw[ao ⟨by lia,z⟩,ao z,oH (by lia)];lia
          .rw[ak (by lia),ak z,oH u]
        refine Na o (by omega) ⟨f.rev 0 n,by lia,by lia,fun j x y=>?_,fun i j x y=>?_,fun i j x y z=>?_,fun i j x y z=>by lia⟩ k;.rw[l j y,ak (by lia)]
        .rw[l j (by lia),l i (by lia),ao (by lia),ao (by lia)];exact .inr ⟨by rw[g (n-1-j) (by lia),g (n-1-i) (by lia)],by lia⟩
        . have q:j=n:=by lia
          subst q;rwa[l j (by lia),l i (by lia),ak (by lia),ao (by lia),g (j-1-i) (by lia)]
    . have C:n=1:=by lia
      subst C;refine Na o (by omega) ⟨f,by lia,by lia,fun j x y=>oH y,fun i j x y=>by lia,fun i j x y z=>?_,fun i j x y z=>by lia⟩ k;have q:j=1:=by lia
      have D:i=0:=by lia
      subst q D;rwa[oH (show 1<N by omega),oH (show 0<N by lia)]
theorem Wv(v:og ky N cmp)(h:Pre ky N p k)(w:k<N)(d:∀l,l<=k->(∀j,j<l->ky (cE p j)<=ky (cE p k))->(∀j,l<=j->j<k->ky (cE p k)<ky (cE p j))->G l s):∀(f l r:Nat),l<=r->r<=k->r-l<=f-> (∀j,j<l->ky (cE p j)<=ky (cE p k))->(∀j,r<=j->j<k->ky (cE p k)<ky (cE p j))->(PySem.W.kas_place p k f l r).kasWp cmp G s:=by
  intro f;induction f with |zero=>
    intro l r t g u a b;have e:r=l:=by lia
    subst e;exact d r g a b |succ f o=>
    intro l r t g u a b;unfold PySem.W.kas_place;by_cases e:l≥r
    . rw[ao e];have A:r=l:=by lia
      subst A;exact d r g a b
    . rw[ak e];refine v _ _ (h.arr.lt w) (h.arr.lt (by lia)) _ s ?_;have c:∀i j,i<=j->j<k->ky (cE p i)<=ky (cE p j):=fun i j x y=>by
        by_cases z:i=j;.subst z;lia
        .exact(h.ord i j (by lia) y).le
      by_cases q:ky (cE p k)<ky (cE p ((l+r)/2));.rw[eY q];refine o l _ (by lia) (by lia) (by lia) a fun j x y=>?_;have:=c _ j x y;lia
      .rw[cV q];refine o _ r (by lia) g (by lia) (fun j x=>?_) b;have:=c j ((l+r)/2) (by lia) (by lia);lia
theorem Ww(w:og ky N cmp)(h:∀p,Pre ky N p N->G p s):∀(f:Nat)(p:Array Nat)(k:Nat),k+f=N->Pre ky N p k->(PySem.W.kas_bin f p k).kasWp cmp G s:=by
  intro f
  induction f with |zero=>
    intro p k e c;have A:k=N:=by omega
    subst A;exact h p c |succ f v=>
    intro p k e c;unfold PySem.W.kas_bin;rw[ki];refine Wv w c (by lia) (fun l B a b=>v _ (k+1) (by lia) ?_) k 0 k (by lia) (aC _) (by lia) (fun j x=>by lia) fun j x y=>by lia
    have g:=Wq (p:=p) (s:=k) (d:=k-l) (by rw[c.arr.size];lia) (by lia);have C:=c.rest k (aC _) (by lia);have u:∀i,i<k->cE p i<k:=fun i z=>c.arr.below c.rest z c.le;rw[show k-(k-l)=l by lia] at g;refine⟨c.arr.Wr _ _,by lia,fun i j x y=>?_,fun j x y=>?_⟩
    . rw[g,g];by_cases n:i=l;.rw[ao n,ak (by lia),ao ⟨by lia,by omega⟩];exact .inl (b (j-1) (by lia) (by omega))
      . rw[ak n];by_cases q:j=l;.rw[ao q,ak (by lia)];have E:=a i (by lia);have D:=u i (by lia);unfold Lx;lia
        . rw[ak q];by_cases o:l<i/\i<=k;.rw[ao o,ao ⟨by lia,by omega⟩];exact c.ord _ _ (by lia) (by omega)
          . rw[ak o];by_cases m:l<j/\j<=k;.rw[ao m];exact c.ord _ _ (by lia) (by omega)
            .rw[ak m];exact c.ord _ _ x (by lia)
    .rw[g,ak (by lia),ak (by lia)];exact c.rest j (by lia) y
theorem Wx(c:og ky N cmp)(d:1<=N)(a:∀p,Pre ky N p N->G p s):(PySem.W.kas_sort N).kasWp cmp G s:=by
  unfold PySem.W.kas_sort;rw[ki];refine Wu c d fun m p h b=>?_;by_cases e:m<N
  . rw[ao e];have g:max m 1=m:=by lia
    rw[g];exact Ww c a _ p m (by lia) b
  . rw[ak e];have f:m=N:=by have:=b.le;lia
    subst f;exact a p b
end
def nr(ky:Nat->Int)(N:Nat):List Nat:=(List.range N).mergeSort fun i j=>decide (ky i<ky j\/(ky i=ky j/\i<=j))
theorem wz(ky:Nat->Int)(N:Nat):(nr ky N).Perm (List.range N):=List.mergeSort_perm ..
theorem Wy(ky:Nat->Int)(N:Nat):(nr ky N).Pairwise (Lx ky):=by have h:=List.pairwise_mergeSort (le:=fun i j=>decide (ky i<ky j\/(ky i=ky j/\i<=j))) (fun a b c d f=>by grind) (fun a b=>by grind) (List.range N);have e:(nr ky N).Nodup:=(wz _ N).nodup_iff.mpr qs;refine(List.Pairwise.and h e).imp fun{a b} h=>?_;have d:=h.1;simp at d;unfold Lx;lia
theorem Wz(c:l.Perm (List.range N))(d:l.Pairwise (Lx ky)):l=nr ky N:= List.Perm.eq_of_pairwise (fun a b _ _ f e=>by unfold Lx at*;lia) d (Wy _ N) (c.trans (wz _ N).symm)
theorem WA(b:Pre ky N p N):p.toList=nr ky N:=by
 refine Wz b.arr.list ?_;rw[List.pairwise_iff_getElem];intro i j h g d;have k:=b.arr.size;have c:i<N:=by simp_all
 have a:j<N:=by simp_all
 have f:=b.arr.get c;have e:=b.arr.get a;rw[b7 h] at f;rw[b7 g] at e;rw[dO f,dO e];exact b.ord i j d a
end L2
namespace L2
open PySem PySem.Spec PyProof.Rows
section
variable{prog:Program}{w:World}{A:Around}{E:Value->Shared->Prop}{s:Shared}
abbrev Kp(g h:Heap):Prop:=∀b o,g.get? b=some o->h.get? b=some o
theorem WB{n:Nat}(q:A.handled=none)(l:IsRange s.heap r a b c t u v)(p:Builtin.Range.small a b c=true)(x:Builtin.Range.rangeSize a b c=n)(y:n<=2^24) (z:∀h' tk d,Kp s.heap h'->ItemsOf (fun i v=>∃t,v=.int (a+i*c) t) d n->Q d.toList {s with heap:=h',toks:=tk}):wpAny (model prog w) A (collect (.ref r)) Q E s:=by
 have h:∀R,(∀h' tk d j,Kp s.heap h'->h'.get? s.heap.objs.size=some (seqObj "list" d j)->ItemsOf (fun i v=>∃t,v=.int (a+i*c) t) d n->R (.ok (.ret (.ref s.heap.objs.size))) {s with heap:=h',toks:=tk})-> codeAny (model prog w) A (.builtin "proto.collect" ⟨[.ref r],[]⟩) R s:=by intro R m;refine jg F.entry_proto_collect ((sC F.plain_proto_collect _).symm▸(ah (wpAny_newList (au ⟨km F.plain_list_iadd _,jg F.entry_list_iadd ((sC F.plain_list_iadd _).symm▸?_)⟩) (by simp))));have atS:(s.heap.push _).get? _=some (seqObj "list" #[] 0):=b9 _ rfl;refine wpAny_extend_range (s:={s with heap:=s.heap.push _}) q (aK _ l) p x y _ _ 0 atS fun h' tk d j k g f=>m _ _ _ _ (fun b o e=>?_) g f;exact k b o (aY (aM e)) (aK _ e)
 exact ah (wpAny_runValue (h _ fun h' tk d j k g f=>ah (wpAny_load g (au (z _ _ _ k f)))))
theorem WC{its:List Value}(f:env.scope.kind=.function)(j:env.kindOf x=some .free)(c:env.cells.lookup x=some cc)(b:s.heap.IsCell cc (some (.ref a)))(k:env.kindOf n=some .local)(d:s.heap.Ns env.locals m)(l:m n=some (.int i t)) (p:s.heap.IsList a its.toArray)(h0:0<=i)(e:i<2^63)(hi:its[i.toNat]?=some (.int z tz))(g:(x==("__debug__":Str))=false)(q:(x==("__classdict__":Str))=false)(o:(n==("__debug__":Str))=false) (h:Q (.int (-z) s.toks) {s with toks:=s.toks+1}):wpAny (model prog w) A (eval (.UnaryOp .USub (.Subscript (.Name x r) (.Name n y) u) v) env) Q E s:=UnaryOp_ (Subscript_ (kn (wpAny_loadName_free f j c b (kn (px f k d l (item_listR p h0 e (by simpa using hi) (neg_int h) rfl)) o) q) g))
theorem WD{f cc c a:Addr}{d:Arguments}{J l:Value}{its:List Value}(T:A.depth<recursionLimit) (ho:s.heap.get? f=some (PySem.W.kla_obj "<lambda>" q d (.UnaryOp .USub (.Subscript (.Name x p1) (.Name n N) p3) X) g cl J c l))(G:s.heap.CodeRec (.ref c) q)(m:s.heap.NoLimit) (S:∀v:Value,bindArgs (PySem.W.kla_fn "<lambda>" q d (.UnaryOp .USub (.Subscript (.Name x p1) (.Name n N) p3) X) g cl J (.ref c) l) ⟨[v],[]⟩=pure [(n,v)])(M:g.kind=.function)(p:g.isCoroutine=false)(u:g.isGenerator=false) (I:∀y∈g.names,y.2≠.cell)(L:g.names.lookup n=some .local)(O:g.names.lookup x=some .free)(D:cl.lookup x=some cc)(j:s.heap.IsCell cc (some (.ref a)))(U:s.heap.IsList a its.toArray)(h0:0<=i)(C:i<2^63) (hi:its[i.toNat]?=some (.int z tz))(R:(x==("__debug__":Str))=false)(Z:(x==("__classdict__":Str))=false)(Y:(n==("__debug__":Str))=false) (h:∀h' tk t',Kp s.heap h'->Q (.int (-z) t') {s with heap:=h',toks:=tk}):wpAny (model prog w) A (call (.ref f) [.int i t]) Q E s:=by
  refine fU (PySem.W.kla_callFunE T ho rfl p u rfl G ?_);rw[S];refine au (wpAny_newFunctionEnv I (fun y hy=>?_) (fun h1 H k=>⟨m.fresh _ k,?_⟩) M)
  . obtain rfl:y=(n,.int i t):=by simp_all
    exact L
  have B:=fun b o e=>k.extBut b o (aY (aM e)) (aK _ e);exact PySem.W.kla_codeExpr (WC (t:=t) M O D (j.keeps B) L H (by simp) (let⟨o,e,r⟩:=U;⟨o,B _ _ e,r⟩) h0 C hi R Z Y (h _ _ _ B))
theorem DC{g:Heap}(e:g.get? a=some (seqObj "list" xs n))(f:Array Value->Array Value):∃c,(g.update a (Obj.mapSeq f)).get? a=some (seqObj "list" (f xs) c):=⟨_,get?_update_seq e f⟩
theorem DE(k:Kp g h)(c:g.get? a=none)(f:Obj->Obj):Kp g (h.update a f):=fun b o e=>((nE h a f).2 b (fun z=>by simp_all)).trans (k b o e)
theorem Nb(h:IntsAre vs kz)(hi:i<kz.length):∃t,vs.getD i .none=.int (kz.getD i 0) t:=let⟨t,e⟩:=h.get i (kz.getD i 0) (by simp[hi]);⟨t,by rw[du,e];rfl⟩
theorem WE{vs:List Value}(D:Heap)(na:D.get? a=none)(X:D.get? k=none)(H:k≠a)(K0:Kp D s.heap) (S:s.heap.get? k=some (seqObj "list" b e))(ha:s.heap.get? a=some (seqObj "list" #[] l))(B:IntsAre b.toList kz)(o:kz.length=vs.length)(L:vs.length<64) (O:∀h' c,Kp D h'->h'.get? a=some (seqObj "list" (List.toArray ((nr (fun i=>kz.getD i 0) vs.length).map fun i=>vs.getD i .none)) c)->P (.done (.ret .none)) {s with heap:=h'}): wpAny (model prog w) A (ksk_end a false vs.toArray l (.ref k) b) P E s:=by
 have q:b.size=vs.length:=by have:=B.length;rw[oM] at this;lia
 have f:∀(st:SortSt),(arrOf st).map (·.2)=List.toArray ((nr (fun i=>kz.getD i 0) vs.length).map fun i=>vs.getD i .none)->failedOf st=none->wpAny (model prog w) A (ksk_tail a false l (.ref k) st) P E s:=by
  intro st I hf;obtain⟨ck,hck⟩:=DC S fun _=>#[];have g:(s.heap.update k (Obj.mapSeq fun _=>(#[]:Array Value))).get? a=some (seqObj "list" #[] l):=((nE s.heap k _).2 a H.symm).trans ha;obtain⟨ca,U⟩:=DC g fun _=>(arrOf st).map (·.2);have T:=DE (DE K0 X (Obj.mapSeq fun _=>(#[]:Array Value))) na (Obj.mapSeq fun _=>(arrOf st).map (·.2));have ln:((arrOf st).map (·.2)).size=vs.length:=by rw[I,dX,aN,(wz _ _).length_eq,qo]
  unfold ksk_tail;try rfl
  refine ah (listUpdate_at S rfl (ah (gu (ah (seqEpoch_at g rfl (ah (listUpdate_at g rfl ?_ (bR _) (bI (l4 ln) (by rw[dP];lia)))))))) (by rw[q,dP];lia) (bR _));rw[hf];simp only[bne_self_eq_false,uL,if_false];refine au (O _ ca T ?_);simp_all
 unfold ksk_end;try rfl
 simp only[uL,if_false];by_cases n:vs.toArray.size<2;.rw[ao n,ao n];refine ah (au (f _ ?_ rfl));match vs,n,o,q with
  |[],_,_,z=>
   have:b=#[]:=Array.eq_empty_of_size_eq_zero z;subst this;have l:nr (fun i=>kz.getD i 0) 0=[]:=by have:=wz (fun i=>kz.getD i 0) 0;simpa using this
   show(((#[]:Array Value).zip #[]).map (·.2))=List.toArray ((nr _ 0).map _);simp_all |[v],_,_,z=>
   have l:nr (fun i=>kz.getD i 0) 1=[0]:=by have:=wz (fun i=>kz.getD i 0) 1;simpa using this
   show(((b.zip #[v])).map (·.2))=List.toArray ((nr _ 1).map _);rw[l];apply Array.toList_inj.mp;rw[Array.toList_map,show(#[v]:Array Value)=List.toArray [v] from rfl,ksk_zip];have:b.toList.length=1:=by rwa[oM]
   match b.toList,this with |[y],_=>rfl
  |_::_::_,h,_,_=>simp at h;lia
 .rw[ak n,ak n];rw[dX] at n;rw[ksk_kind B (by lia)];refine ah (au ?_);have run:=PySem.W.kat_run (prog:=prog) (w:=w) (A:=A) (E:=E) (s:=s) (vs:=vs) (ks:=b.toList) (κ:=oneType') (Q:=fun st m=>m=s/\(arrOf st).map (·.2)=List.toArray ((nr (fun i=>kz.getD i 0) vs.length).map fun i=>vs.getD i .none)/\failedOf st=none) (G:=fun p m=>m=s/\p.toList=nr (fun i=>kz.getD i 0) vs.length) (by rwa[oM]) (by lia) L (fun p st m q1 J M R=>⟨R.1,by rw[PySem.W.kat_snds (by rwa[oM]) J,R.2],M⟩) (Wx (ky:=fun i=>kz.getD i 0) (N:=vs.length) (fun i j hi hj C m hC=>by obtain⟨t,Y⟩:=Nb B (i:=i) (by lia);obtain⟨u,eu⟩:=Nb B (i:=j) (by lia);unfold PySem.W.kas_ask;rw[Y,eu];exact PySem.W.kat_lt_int hC) (by lia) fun p hp=>⟨rfl,WA hp⟩);refine ah (c8 run (fun r m Z=>?_) fun _ _ x=>x);obtain⟨⟨⟩,st⟩:=r;obtain⟨rfl,J,M⟩:=Z;exact f st J M
theorem WG{vs:List Value}{kz:List Int}(l:Heap)(na:l.get? a=none)(K0:Kp l s.heap)(N:s.heap.get? a=some (seqObj "list" vs.toArray n))(I:kz.length=vs.length)(Z:vs.length<64) (B:∀(i:Nat)(v:Value)(k:Int),vs[i]?=some v->kz[i]?=some k->∀(h:Heap)(tk:Nat),Kp l h->∀Q:Value->Shared->Prop,(∀h' T t',Kp h h'->Q (.int k t') {s with heap:=h',toks:=T})-> wpAny (model prog w) A (call (.ref f) [v]) Q (fun _ _=>False) {s with heap:=h,toks:=tk}) (fin:∀h' tk c,Kp l h'->h'.get? a=some (seqObj "list" (List.toArray ((nr (fun i=>kz.getD i 0) vs.length).map fun i=>vs.getD i .none)) c)->P (.done (.ret .none)) {s with heap:=h',toks:=tk}): wpAny (model prog w) A (ksk_tree a (.ref f) false) P E s:=by
 have la:=aM N;obtain⟨e1,G⟩:=DC N fun _=>#[];refine ah (listItems_at N rfl (ah (listUpdate_at N rfl ?_ (by rw[dX,dP];lia) (bR _))));refine ah (seqEpoch_at G rfl (ah (wpAny_newTuple ?_ (by show vs.length<=_;rw[dP];lia))));refine ah (wpAny_newList (dz ?_) (bR _));obtain⟨g,p⟩:=xz (((s.heap.update a (Obj.mapSeq fun _=>(#[]:Array Value))).push (seqObj "tuple" vs.toArray 0)).objs.size);have t:g=s.heap.objs.size+1:=by rw[p,size_push',Heap.size_update]
 have nk:l.get? g=none:=by cases q:l.get? g with |none=>rfl |some o=>have z:=aM (K0 _ _ q);rw[t] at z;exact absurd z (by simp)
 have y:g≠a:=by rw[t];exact eQ (kb la)
 obtain⟨r,d⟩:=xz (((s.heap.update a (Obj.mapSeq fun _=>(#[]:Array Value))).push (seqObj "tuple" vs.toArray 0)).push (seqObj "list" #[] 0));have K2:Kp l r:=fun b o e=>by rw[d];exact aK _ (aK _ ((DE K0 na (Obj.mapSeq fun _=>(#[]:Array Value))) b o e))
 have R:r.get? a=some (seqObj "list" #[] e1):=by rw[d];exact aK _ (aK _ G)
 have U:r.get? g=some (seqObj "list" #[] 0):=by rw[d,p];exact b9 _ rfl
 rw[<-p,<-d];refine ah (ib ?_);rw[List.forIn_toArray];refine ah (ksk_fold (fun i s'=>∃h' tk m e,s'={s with heap:=h',toks:=tk}/\Kp l h'/\h'.get? g=some (seqObj "list" m e)/\h'.get? a=some (seqObj "list" #[] e1)/\IntsAre m.toList (kz.take i)) vs 0 _ ⟨r,s.toks,#[],0,rfl,K2,U,R,by simpa using IntsAre.nil⟩ ?step ?D);case step=>
  rintro j x s' hx ⟨h',tk,m,e,rfl,M,J,Y,H⟩;simp only[Nat.zero_add] at H⊢;have hj:j<vs.length:=(b_.mp hx).1;obtain⟨k,u⟩:∃k,kz[j]?=some k:=⟨_,b7 (by lia)⟩;have hz:m.size<=vs.length:=by have h1:=H.length;rw[oM,lK] at h1;lia
  refine ah (mm (c8 (B j x k hx u h' tk M _ fun h3 tk3 O L=>?C) (fun _ _ z=>z) fun _ _ hF=>hF.elim));case C=>
   obtain⟨c2,WH⟩:=DC (L _ _ J) (·.push (.int k O));have ek:kz.take (j+1)=kz.take j++[k]:=by rw[List.take_add_one,u];simp
   have ea:(m.push (Value.int k O)).toList=m.toList++[Value.int k O]:=by simp
   refine ah (listUpdate_at (L _ _ J) rfl ?_ (by rw[dP];lia) (bI (l4 (Array.size_push ..)) (by rw[dP];lia)));exact au ⟨rfl,_,_,m.push (.int k O),c2,rfl,DE (fun b o q=>L _ _ (M b o q)) nk _,WH,((nE _ _ _).2 a y.symm).trans (L _ _ Y),by rw[ea,ek];exact ksk_snoc H⟩
 case D=>
  rintro s' ⟨h',tk,m,e,rfl,M,J,Y,H⟩;have X:=by rwa[oN (by lia)] at H
  exact ah (listItems_at J rfl (WE _ na nk y M J Y X I Z fun h3 c S q=>fin _ _ c S q))
theorem WI{kz:List Int}(hh:A.handled=none)(Z:IsRange s.heap r 0 b 1 t u v)(hb:b=(kz.length:Nat))(h64:kz.length<64) (p:∀(i:Nat)(t:Tok)(k:Int),kz[i]?=some k->∀(h:Heap)(tk:Nat),Kp s.heap h->∀Q:Value->Shared->Prop,(∀h' G t',Kp h h'->Q (.int k t') {s with heap:=h',toks:=G})-> wpAny (model prog w) A.in1.in1 (call (.ref f) [.int (i:Nat) t]) Q (fun _ _=>False) {s with heap:=h,toks:=tk}) (L:∀D h' tk n c,s.heap.get? D=none->Kp s.heap h'->IntsAre n.toList ((nr (fun i=>kz.getD i 0) kz.length).map fun i:Nat=>(i:Int))->h'.get? D=some (seqObj "list" n c)->Q (.ref D) {s with heap:=h',toks:=tk}): wpAny (model prog w) A (call (.builtin "sorted") [.ref r] [(Str.ofString "key",.ref f)]) Q E s:=by
  refine call_function_entry_kw kind_sorted plain_sorted entry_sorted (ksk_s1 _ _) ?_;unfold Builtin.«sorted»;refine ah (m:=checkCount "sorted" 1 1 _) (au ?_);have sz:Builtin.Range.rangeSize 0 b 1=(kz.length:Int):=by rw[l'];lia
  refine ah (WB (A:=A.in1) hh Z (small_one (by decide) (by decide) (by lia) (by lia)) sz (by lia) fun C g a U d=>?_);have y:a.toList.length=kz.length:=by rw[oM];exact d.1
  have X:∀i v,a.toList[i]?=some v->∃t,v=Value.int (i:Nat) t:=fun i v e=>(let⟨t,S⟩:=d.2 i v (by simp_all);⟨t,by rw[S];simp⟩);refine ah (wpAny_newList ?_ (by rw[y,dP];lia));obtain⟨D,I⟩:=xz C.objs.size;have T:(C.push (seqObj "list" a.toList.toArray 0)).get? D=some (seqObj "list" a.toList.toArray 0):=by rw[I];exact b9 _ rfl
  have R:s.heap.get? D=none:=by cases q:s.heap.get? D with |none=>rfl |some o=>have z:=aM (U _ _ q);rw[I] at z;exact absurd z (dw _)
  show wpAny _ _ _ _ _ {s with heap:=C.push (seqObj "list" a.toList.toArray 0),toks:=g};rw[<-I];refine ah (dz (wpAny_call_entry_kw slot_list_sort ⟨_,T,rfl⟩ entry_list_sort ?x (ksk_l1 _ _)));case x=>
    show wpAny (model prog w) A.in1.in1 (Builtin.«list.sort» ⟨[.ref D],[(Str.ofString "key",.ref f)]⟩) _ _ _;rw[ksk_t1];refine WG (s:={s with heap:=C.push (seqObj "list" a.toList.toArray 0),toks:=g}) s.heap R (fun b o e=>aK _ (U b o e)) T y.symm (by lia) (fun i v k Y hk h tk J Q' hQ=>?_) fun h' tk c J q=>⟨_,rfl,?_⟩;.obtain⟨t,rfl⟩:=X i v Y;exact p i t k hk h tk J Q' hQ
    . refine au ⟨_,rfl,?_⟩;rw[y] at q;refine L D h' tk _ c R J ?_ q;have H:∀l:List Nat,(∀i∈l,i<kz.length)->IntsAre (l.map fun i=>a.toList.getD i .none) (l.map fun i:Nat=>(i:Int)):=fun l=>by induction l with |nil=>intro _;exact .nil |cons i l ih=>
          intro M;have B:i<a.toList.length:=by rw[y];exact M i g_
          obtain⟨t,S⟩:=X i (a.toList[i]) (b7 B);have e:a.toList.getD i .none=.int (i:Nat) t:=by rwa[du,b7 B]
          rw[bJ,bJ,e];exact .cons _ _ (ih fun j hj=>M j (bK _ hj))
      simpa using H _ fun i B=>by have:=(wz _ _).mem_iff.mp B;simpa using this
end
section
variable{X:Cx}{pins:List (Addr×Obj)}{σ:St}{H:Hp}{s:Shared}{h':Heap}
theorem Inv.Bu(I:Inv X pins σ H s)(k:Kp s.heap h')(n:s.heap.get? a=none)(h:da X.prog X.w (upd H a o) h' a o):Inv X pins σ (upd H a o) {s with heap:=h',toks:=t'}:=by
 have d:=I.bD.none_of n;have i:∀b u,s.heap.get? b=some u->b≠a:=fun b u e z=>by simp_all
 refine I.un ⟨fun b u q _ _ _=>k b u q,fun b u q _ _ _=>⟨_,k b u q⟩,fun b u q z _=>by rwa[bc (i b u q)],fun b u q _=>⟨u,k b u q⟩,fun b g q=>by rwa[bc (dH q d)],fun b u g q=>by rwa[bc (dH q d)], fun b j q=>⟨#[],by rw[bc (dH q d),q];simp⟩⟩ fun b u e=>?_;by_cases f:b=a;.subst f;rw[cb] at e;simp_all
 .rw[bc f] at e;exact(I.bD b u e).ic (fun c v _ q=>k c v q) (fun c q=>by rwa[bc (dH q d)]) fun c g q=>by rwa[bc (dH q d)]
theorem Inv.filled(I:Inv X pins σ H s)(l:H P=some (.pC ps))(k:∀b o,b≠P->s.heap.get? b=some o->h'.get? b=some o)(n:s.heap.get? c=none)(p:∃o,h'.get? c=some o)(f:iH (upd H c (.own P)) h' P ps): Inv X pins σ (upd H c (.own P)) {s with heap:=h',toks:=t'}:=by
  have a:=I.bD.none_of n;have m:∀b u,s.heap.get? b=some u->b≠c:=fun b u e z=>by simp_all
  have g:∀b,H b=none->b≠P:=fun b e z=>by lia
  have t:c≠P:=g c a;have r:∃o,h'.get? P=some o:=let⟨_,_,_,_,_,_,_,e,_⟩:=f;⟨_,e⟩;refine I.un ⟨fun b u q z _ _=>k b u (g b z) q,fun b u q z _ _=>⟨u.slots,k b u (g b z) q⟩,fun b u q z _=>by rwa[bc (m b u q)],fun b u q _=>?_,fun b j q=>by rwa[bc (dH q a)],fun b u j q=>by rwa[bc (dH q a)], fun b ps q=>⟨#[],by rw[bc (dH q a),q];simp⟩⟩ fun b u e=>?_
  . by_cases z:b=P;.simp_all
    simp_all
  . by_cases h:b=c;.subst h;rw[cb] at e;cases e;exact p
    . rw[bc h] at e;by_cases z:b=P;.subst z;rw[l] at e;cases e;exact f
      . refine(I.bD b u e).ic (fun d v i q=>k d v ?_ q) (fun d q=>by rwa[bc (dH q a)]) fun d j q=>by rwa[bc (dH q a)]
        rcases i with rfl|i;.exact z
        .rintro rfl;simp_all
def mV(mg:Str->Option Value)(h:Heap):Prop:=∃b a,mg "__builtins__"=some (.ref b)/\b≠builtinsNs/\h.get? b=some a/\a.cls=.type "module"/\a.dict=some builtinsNs/\a.data=.plain
theorem WJ(I:Inv X pins σ H s)(hT:tabOf X.K=some (P,#[.str (X.env.qual++"<lambda>") 0,rawInt pos.line,rawInt pos.col]))(hC:PySem.W.codeHdIn X.K c P=true)(N:X.env.code=.ref c) (r:closureFor B X.env=pure cl)(A:defaultsOf a X.env=([],[]))(hB:mV X.mg X.base) (h:∀(f k:Addr)(pm g:Value)(H':Hp)(s':Shared),ax H H'->Inv X pins σ H' s'->s'.heap.get? f=some (PySem.W.kla_obj "<lambda>" (X.env.qual++"<lambda>") a i B cl pm k g)->s'.heap.CodeRec (.ref k) (X.env.qual++"<lambda>")->Q (.ref f) s'): wpAny (model X.prog X.w) X.A (eval (.Lambda a i B pos) X.env) Q E s:=by
 refine PySem.W.kla_eval A ?_;obtain⟨v,G⟩:=I.ok.tb.grown I.base.ie _ hT;obtain⟨q,tq,ln,co,mr,O,Y,U,e3⟩:=I.bD P _ G;have J:Value.str (X.env.qual++"<lambda>") 0::rawInt pos.line::rawInt pos.col::v.toList=.str q tq::rawInt ln::rawInt co::mr:=by rw[<-Y];simp
 have l:s.heap.Ns mainGlobals X.mg:=I.mod.glob.keeps I.bk;have S:PySem.W.CodeHd s.heap c P:=PySem.W.codeHd_of_K I.gM hC;have p:∀b o,X.base.get? b=some o->b≠P:=fun b o e z=>by have:=(I.bs b o e).2;rw[z,G] at this;cases this
 have L:mainGlobals≠P:=let⟨o,es,ep,e,_⟩:=I.mod.glob;p _ _ e;have y:s.heap.BuiltinsAt X.mg P:=by obtain⟨bm,ob,b1,b2,T,b4,b5,b6⟩:=hB;refine⟨bm,ob,b1,b2,fun z=>?_,p _ _ T,I.bk _ _ T,b4,b5,b6⟩;obtain⟨o,es,ep,e,d,_⟩:=I.mod.glob;grind
 injection J with f1 f2;injection f1 with f3 f4;injection f2 with C f6;injection f6 with M f8;injection C with C _;injection M with M _;subst f3 C M;rcases e3 with rfl|⟨k,o,vs,u,rfl,r1,r2,r3,r4⟩;.refine PySem.W.kla_makeFunction (mg:=X.mg) r I.ok.glob l N S U trivial rfl L y fun k g h' tk hx x q_ w D=>?_;obtain⟨_,oc,vs,t,z,j,Z,R⟩:=id w;cases z;have m:Kp h' (h'.push (PySem.W.kla_obj "<lambda>" (X.env.qual++"<lambda>") a i B cl ((X.mg "__name__").getD .none) k g)):=fun b o e=>aK _ e;refine h _ _ _ g _ _ (ax.upd (I.bD.none_of (lD x))) ((I.filled (t':=tk) G (fun b o hb e=>hx b o hb e) (lD x) ⟨_,j⟩ ⟨_,_,_,_,_,_,Y,D,.inr ⟨_,_,_,t,rfl,cb,j,Z,R⟩⟩).kept m) (b9 _ rfl) ⟨_,_,_,t,rfl,m _ _ j,Z,R⟩
 .refine PySem.W.kla_makeFunctionHit (cv:=.ref k) r I.ok.glob l N S U trivial (by simp[codeAmong,rawInt]) y fun g h' tk hk hsz=>?_;have m:Kp s.heap (h'.push (PySem.W.kla_obj "<lambda>" (X.env.qual++"<lambda>") a i B cl ((X.mg "__name__").getD .none) k g)):=fun b o e=>aK _ (hk b o e);exact h _ _ _ g H _ (ax.refl _) (I.kept m) (b9 _ rfl) ⟨_,o,_,u,rfl,m _ _ r2,r3,r4⟩
def Nc(f:TA)(g:Nat):TE:=fun σ H Q=>f σ H fun e c=>∃(r a:Addr) (b:List Int),e=[.ref r]/\c r=some (.lP 0 (b.length:Nat))/\σ[g]?=some (some (.ref a))/\Rd c a (.lst (b.map V.int))/\b.length<64/\ ∀d D,ax c d->d D=none->Q (.ref D) (upd d D (.lst ((nr (fun i=>-(b.getD i 0)) b.length).map fun i:Nat=>V.int (i:Int))))
theorem WK(hc:X.calm=true)(hr:cm k X.A)(hg:Gl X "sorted")(hm:X.mg "sorted"=none)(ha:PA X [L] ta) (hT:tabOf X.K=some (P,#[.str (X.env.qual++"<lambda>") 0,rawInt lp.line,rawInt lp.col]))(hC:PySem.W.codeHdIn X.K c P=true)(DF:X.env.code=.ref c)(hB:mV X.mg X.base) (uj:∀cc,X.env.cells.lookup x=some cc->closureFor g X.env=pure [(x,cc)])(J:defaultsOf b X.env=([],[])) (hb:∀(q:Str)(cl:List (Str×Addr))(pm C v:Value)(c:Addr),bindArgs (PySem.W.kla_fn "<lambda>" q b (.UnaryOp .USub (.Subscript (.Name x p1) (.Name n p2) p3) p4) g cl pm (.ref c) C) ⟨[v],[]⟩=pure [(n,v)]) (hN:X.N[ix]?=some x)(N:X.env.kindOf x=some .cell)(hk:g.kind=.function)(WL:g.isCoroutine=false)(S:g.isGenerator=false)(T:∀y∈g.names,y.2≠.cell)(hn:g.names.lookup n=some .local)(hx:g.names.lookup x=some .free) (d1:(x==("__debug__":Str))=false)(d2:(x==("__classdict__":Str))=false)(d3:(n==("__debug__":Str))=false) (he:backTo pos (starEach [L] X.env)=(false,eval L X.env)::backTo pos (starEach [] X.env):=by rfl)(WM:(backTo pos (starEach [L] X.env)).any (·.1)=false:=by rfl): PE X (.Call (.Name "sorted" p0) [L] [⟨some "key",.Lambda b (.UnaryOp .USub (.Subscript (.Name x p1) (.Name n p2) p3) p4) g lp,l⟩] pos) (Nc ta ix):=by
  intro pins s σ H Q I h;refine gr (pE I hg hm rfl (callWith_kw (bT (ha pos pins s σ H _ I h) fun us s1 ⟨vs,H1,I1,r1,r,a,j,e1,Y,hs,hq,hl,q⟩=>?_) he WM));subst e1;obtain⟨u,rfl,rx⟩:=mI r1;cases rx;obtain⟨m0,WN,p⟩:=I1.loc;obtain⟨u0,ru,R⟩:=p ix x _ hN hs (.inr (.inl N));obtain⟨cc,E⟩:∃cc,X.env.cells.lookup x=some cc:=by
    rcases R with⟨z,_⟩|⟨_,cc,e,_⟩;.rw[N] at z;cases z
    simp_all
  show wpAny _ _ (evalAll ((do let v<-eval _ X.env;standAt pos;pure v)::[])) _ _ s1;refine wpAny_evalAll_cons (ah (WJ I1 hT hC DF (uj cc E) J hB fun f c' pm C H2 O M w hf G=>ah (gv (au (wpAny_evalAll_nil ?_)))));show wpAny _ _ (call (.builtin "sorted") [.ref r] [(Str.ofString "key",.ref f)]) _ _ O;obtain⟨t,u1,v1,WO⟩:=w.bD r _ (M _ _ Y);have WQ:Rd H2 a (.lst (j.map V.int)):=hq.elim (fun z=>.inl (M _ _ z)) fun⟨o,z⟩=>.inr ⟨o,M _ _ z⟩;obtain⟨z,Z,cnt,rv,WR⟩:=WQ.ok w.bD;have B:O.heap.IsCell cc (some (.ref a)):=by
    obtain⟨m,hns,p⟩:=w.loc;obtain⟨u0,ru,R⟩:=p ix x _ hN hs (.inr (.inl N));cases ru;rcases R with⟨z,_⟩|⟨_,c2,e,q⟩;.rw[N] at z;cases z
    .rw[E] at e;cases e;exact q
  refine WI (A:=X.A) (kz:=j.map fun z=>-z) (w.ok.hd hc) WO (by rw[aN]) (by rw[aN];exact hl) (fun i t k d h' tk l Q' hQ=>?_) fun D h' tk U cD nD l io hD=>?_;.rw[bY] at d;cases e:j[i]? with |none=>rw[e] at d;cases d |some z=> rw[e] at d;have ek:-z=k:=dO d;subst ek;obtain⟨tz,ez⟩:=(MK rv).get i z e;exact WD (s:={O with heap:=h',toks:=tk}) (A:=X.A.in1.in1) (its:=Z) (tz:=tz) (show X.A.depth<recursionLimit from hr.depth) (l _ _ hf) (G.keeps l) (w.nolimit.keeps l) (fun v=>hb _ _ _ _ v _) hk WL S T hn hx (by simp) (B.keeps l) ⟨_,l _ _ WR,rfl,cnt,rfl⟩ (by lia) (by have:=(b_.mp e).1;lia) (by simpa using ez) d1 d2 d3 hQ
  . have eK:(fun i=>(j.map fun z=>-z).getD i 0)=fun i=>-(j.getD i 0):=by funext i;rw[du,bY,du];cases j[i]?<;>rfl
    rw[eK,aN] at io;refine⟨.ref D,_,w.Bu (a:=D) (o:=.lst ((nr (fun i=>-(j.getD i 0)) j.length).map fun i:Nat=>V.int (i:Int))) l nD ⟨?_,U.toList,cD,?_,by simpa using hD⟩,rfl,q H2 D M (w.bD.none_of nD)⟩;.rw[aN,(wz _ _).length_eq,qo];exact bI (hX hl) (by decide)
    .have:=VO io;rwa[cM] at this
end
end L2
namespace PM
open PySem L2
section
variable{K:Kx}{XO:cX}{E:L2.St->XK}
def dg(ns:List Int):List Int:=(nr (fun i=>-(ns.getD i 0)) ns.length).map fun i:Nat=>(i:Int)
def xT(d:D):Option D:=match d with |.lst l=>(dE l).bind fun a=>cN (a.length<64) (some (.lst ((dg a).map .int))) none |_=>none
def DG(i:Nat)(δ:En):R D:=match δ[i]? with |some (.v d)=>R.of (xT d) |_=>.no
theorem WS(h:xT d=some d'):∃ns:List Int,d=.lst (ns.map .int)/\ns.length<64/\d'=.lst ((dg ns).map .int):=by
 unfold xT at h;split at h;.rename_i l;cases z:dE l with |none=>simp_all |some ns=>
  rw[z] at h;simp at h;unfold cN at h;split at h;.rename_i a;cases h;exact⟨_,by rw[uu z],a,rfl⟩
  simp_all
 simp_all
theorem WT(h:ns.length<64):xT (.lst (ns.map .int))=some (.lst ((dg ns).map .int)):=by simp[xT,r6,fi h]
theorem WU:iQ K XO E (Nc (eG (Gu (eG (qR (fun xs H Q=>∃p ys,xs=[.ref p]/\(fz K.f H p ys\/hO K.f H p ys)/\Q (.int ys.length) H) (eG (bZ i) cA)) cA)) cA) i) (DG i):=by intro M L N F H T x Q I a;have k:=I.slot i;unfold DG at a;cases e:x[i]? with |none=>rw[e] at a;exact a.elim |some y=> cases y with
 |v d=> rw[e] at a k;dsimp at a;cases q:xT d with |none=>rw[q] at a;exact a.elim |some U=>
  rw[q] at a;obtain⟨G,rfl,B,rfl⟩:=WS q;obtain⟨u,t,z⟩:=k;obtain⟨X,S,rfl,C,A⟩:=z;have j:=tH A;subst j;have f:=PM.ax.qV I.ext.fh C;refine⟨_,t,_,_,rfl,.inl (.inl f),(⟨_,rfl,fun r n=>⟨r,_,_,rfl,by rw[cb,aN],t,?_,B,fun Y D w m=>?_⟩⟩)⟩;.exact PM.ax.rd (ax.upd n) f
  .have g:=(ax.upd n).trans w;have s:Ext F H F _:=⟨.refl _,g,I.ext.fh.trans g,fun _ _ h _=>h⟩;have b:=g.free m;refine a F _ (s.trans (.dY s.fh m)) D (I.ext.fh.free b) b ⟨_,cb,?_⟩;have:=aD.ints (K:=K) (F:=F) (ns:=dg G);unfold dg at this;rw[cM,cM] at this;unfold dg;rwa[cM]
 |no=>rw[e] at a;exact a.elim |o d=>rw[e] at a;exact a.elim |l d=>rw[e] at a;exact a.elim |p d=>rw[e] at a;exact a.elim
end
end PM
namespace L2
open PySem PySem.Spec PyProof.Rows
theorem WV{K:PySem.W.Frag}(h:tabOf K=some T):∃(q:Str) (a cl:Int),T.2=#[.str q 0,rawInt a,rawInt cl]:=by
  obtain⟨p,_,e⟩:=List.exists_of_findSome?_eq_some h;split at e
  . split at e;.obtain⟨P,_,e⟩:=oP.mp e;grind
    grind
  grind
def Bv(K:PySem.W.Frag)(P:Addr):Bool:= (match tabOf K with|some t=>t.1==P|none=>false)&&(K.lookup P).isNone&&K.any fun p=>match p.2.data with
 |.func a=>match a.code with |.ref c=>PySem.W.codeHdIn K c P |_=>false
 |_=>false
theorem WW{K:PySem.W.Frag}(h:Bv K P=true):(∃a,tabOf K=some (P,a))/\K.lookup P=none/\∃c,PySem.W.codeHdIn K c P=true:=by
  unfold Bv at h;simp only[jH] at h;obtain⟨⟨b,d⟩,f⟩:=h;refine⟨?_,by simpa using d,?_⟩
  . split at b;.grind
    simp_all
  . obtain⟨p,_,e⟩:=List.any_eq_true.mp f;split at e
    . split at e;.exact⟨_,e⟩
      .cases e
    .cases e
section
variable{P:Program}{w:World}{K:PySem.W.Frag}{mg mb:Str->Option Value}{CX:jC}{k:Nat}{fa a tP:Addr}{fd:FuncData}{x:Str}{sp:Sp}{dR:Shared}{vs:List Value}{ns:List Int}
theorem WX(KX:K.In dR.heap)(hT:Bv K tP=true)(I:dR.heap.get? tP=some (PySem.W.tabObj #[])) (M:dR.heap.Ns mainGlobals mg)(g:dR.heap.Ns builtinsNs mb)(WY:∀y:Str,y≠"__name__"->mb y=bootBuiltins y)(lim:dR.heap.NoLimit)(bm:mV mg dR.heap)(hg:dR.gens=#[]) (C:dR.heap.get? a=some (seqObj "list" vs.toArray 0))(hi:IntsAre vs ns)(hl:ns.length<=sizeLine)(hr:cm k callerA) (F:∀B:Heap,K.In B->B.Ns mainGlobals mg->mV mg B->cq P w K mg B CX k fa fd [x] sp)(bd:∀(s:Shared)(u:Value),BindsTo s fd ⟨[u],[]⟩ [(x,u)]) (WZ:∀H:Hp,fz K H a (ns.map V.int)->sp [.ref a] H (fun v _=>v=.bl true) fun _ _ _=>False)(Y:∀H e s',CX [] H dR (fun _ _ _=>False) e s'->False): codeAny (model P w) callerA (.call (.ref fa) ⟨[.ref a],[]⟩) (fun r s'=>r=.ok (.ret (.bool true))/\OldK dR.heap s'.heap/\s'.os=dR.os/\AllBare s'.gens) dR:=by
  obtain⟨⟨A,eT⟩,nT,c,cT⟩:=WW hT;obtain⟨q,ln,cl,l⟩:=WV eT;dsimp only at l;have rv:=LA hi;have aP:a≠tP:=fun z=>by simp_all
  obtain⟨D,L⟩:∃D:Hp,D=fun b=>if b=a then(if(K.lookup a).isNone then some (.jI (seqObj "list" vs.toArray 0) (.lst (ns.map V.int))) else none) else none:=⟨_,rfl⟩;have E:D a=if(K.lookup a).isNone then some (.jI (seqObj "list" vs.toArray 0) (.lst (ns.map V.int))) else none:=by rw[L];simp_all
  have W0:∀b,b≠a->D b=none:=fun b g=>by rw[L];simp_all
  obtain⟨H,eH⟩:=xz (upd D tP (.pC A));have HT:H tP=some (.pC A):=by rw[eH];exact cb
  have HA:H a=D a:=by rw[eH];exact bc aP
  have Q:∀b u,H b=some u->(b=tP/\u=.pC A)\/(b=a/\K.lookup a=none/\u=.jI (seqObj "list" vs.toArray 0) (.lst (ns.map V.int))):=fun b u e=>by
    by_cases U:b=tP;.subst U;rw[HT] at e;simp_all
    . rw[eH,bc U] at e;by_cases R:b=a
      . subst R;rw[E] at e;split at e;.rename_i z;cases e;exact .inr ⟨rfl,by simpa using z,rfl⟩
        simp_all
      .rw[W0 b R] at e;cases e
  have Z:hL P w H dR.heap:=fun b u e=>by
    rcases Q b u e with⟨rfl,rfl⟩|⟨rfl,_,rfl⟩;.exact⟨q,0,ln,cl,[],#[],by rw[l],I,.inl rfl⟩
    .exact⟨C,by rw[aN];exact hl,vs,_,rv,C⟩
  have hS:fz K H a (ns.map V.int):=by cases z:K.lookup a with |none=>exact .inl (.inr ⟨_,by rw[HA,E,z];rfl⟩) |some o=> have e:=KX a o z;rw[C] at e;cases e;exact .inr ⟨_,vs.toArray,_,z,rfl,rfl,rfl,by rwa[dX,hi.length],by omega⟩
  have W2:∀{b:Addr}{o:Obj}{T:Array DictEntry}{S:Nat},dR.heap.get? b=some o->o.data=.dict T S->H b=none:=fun{b o T S} e d=>by cases z:H b with |none=>rfl |some u=>
      rcases Q b u z with⟨rfl,_⟩|⟨rfl,_,_⟩;.rw[I] at e;cases e;cases d
      .rw[C] at e;cases e;cases d
  have j:∀{b:Addr}{m:Str->Option Value},dR.heap.Ns b m->(mF dR.heap H).Ns b m:=fun{b m} ⟨o,T,S,e,d,r⟩=>⟨o,T,S,EH e (W2 e d),d,r⟩;have O:K.In (mF dR.heap H):=fun b o e=>EH (KX b o e) (by cases z:H b with |none=>rfl |some u=>
      rcases Q b u z with⟨rfl,_⟩|⟨rfl,y,_⟩;.rw[nT] at e;cases e
      .rw[y] at e;cases e);have hM:Mod K mg (mF dR.heap H):=⟨O,j M,⟨mb,j g,WY⟩,let⟨mc,U,R⟩:=lim;⟨mc,j U,R⟩⟩;have X:mV mg (mF dR.heap H):=by obtain⟨m,o,b1,b2,J,b4,b5,b6⟩:=bm;refine⟨m,o,b1,b2,EH J ?_,b4,b5,b6⟩;cases z:H m with |none=>rfl |some u=>
      rcases Q m u z with⟨rfl,_⟩|⟨rfl,_,_⟩;.rw[I] at J;cases J;cases b4
      .rw[C] at J;cases J;cases b6
  have tb:qM K H:=fun t e=>by rw[eT] at e;cases e;exact⟨#[],by rw[HT];simp⟩
  have e0:pO P w K mg (mF dR.heap H) callerA [] dR H:=⟨rfl,hM,fun b o e=>SV e,l4 (SQ _ _),trivial,fun b g=>absurd (show b∈([]:List Addr) from g) (by simp),Z,.of_eq hg,tb⟩;refine gq ((F _ O (j M) X).run callerA [] dR H ⟨[.ref a],[]⟩ [.ref a] [.ref a] _ _ hr e0 (bd dR (.ref a)) (.cons rfl .nil) (WZ H hS)) fun r s' h=>?_;match r,h with
  |.error e,h=>exact(Y H e s' h).elim |.ok (.ret u),h=>
    obtain⟨v,H',os,G,un,n,r',q'⟩:=h;subst q';obtain rfl:u=Value.bool true:=r';have N:∃f,s'.heap.get? tP=some (PySem.W.tabObj f):=by obtain⟨more,z⟩:=un.ie tP _ HT;obtain⟨_,_,_,_,_,f,_,e,_⟩:=n tP _ z;exact⟨f,e⟩
    obtain⟨f,i⟩:=N;have p:∀b o,b≠tP->dR.heap.get? b=some o->s'.heap.get? b=some o:=fun b o g e=>by cases z:H b with |none=>exact un.keep b o e z (by intro y;exact absurd (show b∈([]:List Addr) from y) (by simp)) (by simp) |some u=>
        rcases Q b u z with⟨rfl,_⟩|⟨rfl,_,rfl⟩;.exact absurd rfl g
        .obtain⟨e2,_⟩:=n _ _ (un.jJ _ _ _ z);rw[C] at e;cases e;exact e2
    refine⟨rfl,⟨fun b o e=>?_,fun b o e=>?_⟩,os,G⟩
    . by_cases g:b=tP;.subst g;rw[I] at e;cases e;exact .inr (.inl ⟨((PySem.W.codeHd_of_K KX cT).tab I).isCodeTable,rfl,#[],f,rfl,by rw[i];simp⟩)
      .exact .inl (p b o g e)
    . by_cases g:b=tP;.subst g;exact⟨_,i⟩
      .exact⟨o,p b o g e⟩ |.ok .next,h=>exact False.elim h |.ok .brk,h=>exact False.elim h |.ok .cont,h=>exact False.elim h
end
theorem tM{l:PySem.W.OpenLaw}{q:Program}{K:Params->PySem.W.Frag}{CX:World->jC}{sp:World->Sp}(M:l.most=some n)(A:n<=sizeLine)(y:d.params.defaults=[])(J:cm k callerA)(E:∀(w:World)(h:Heap),I w h->(K w.params).In h)(r:∀(w:World)(h:Heap),I w h->∀t∈[U],h.get? t=some (PySem.W.tabObj #[])) (S:∀w:World,Bv (K w.params) U=true) (F:∀(w:World)(mg:Str->Option Value)(i:Addr)(h:Heap),(K w.params).In h->h.Ns mainGlobals mg->mg d.name=some (.ref i)-> ∃fd:FuncData,(∀(s:Shared)(u:Value),BindsTo s fd ⟨[u],[]⟩ [(x,u)])/\∀B:Heap,(K w.params).In B->B.Ns mainGlobals mg->mV mg B->cq l.prog w (K w.params) mg B (CX w) k i fd [x] (sp w)) (m:∀(w:World)(H:Hp)(a:Addr)(ns:List Int),ns.length<=n->fz (K w.params) H a (ns.map V.int)->sp w [.ref a] H (fun v _=>v=.bl true) fun _ _ _=>False) (j:∀(w:World)(H:Hp)(s:Shared)(e:Value)(s':Shared),CX w [] H s (fun _ _ _=>False) e s'->False):PySem.W.WalkO q z XP I l.row.toRowW d [] (fun f vs=>PySem.call f vs):=by refine Lz.nR M y fun w C D mg mb i o pm cd N a vs ns G Y Z X Q p g c b L=>?_;obtain⟨fd,O,R⟩:=F w _ _ _ (E w _ Y) G.T.g p;exact WX (E w _ Y) (S w) (r w _ Y _ g_) G.T.g G.T.b G.T.builtins G.T.nolimit G.T.bmain L g c (bI b A) J R O (fun H T=>m w H a _ b T) fun H e s'=>j w H _ e _
section
variable{X:Cx}
end
end L2
namespace PM
open PySem L2
section
variable{K:Kx}{XO:cX}{E:L2.St->XK}
end
section
variable{K:Kx}
end
end PM
namespace L2
open PySem PySem.Spec PyProof.Rows
section
variable{prog:Program}{w:World}{A:Around}{E:Value->Shared->Prop}{s:Shared}
end
section
variable{prog:Program}{w:World}{A:Around}{E:Value->Shared->Prop}{s:Shared}
end
section
variable{X:Cx}{pins:List (Addr×Obj)}{σ:St}{A:Around}{R:Result->Shared->Prop}
end
end L2
namespace PM
open PySem L2
section
variable{K:Kx}{XO:cX}{E:L2.St->XK}
end
end PM
namespace L2
open PySem PySem.Spec PyProof.Rows
section
variable{X:Cx}{pins:List (Addr×Obj)}{σ:St}{H:Hp}{s:Shared}{a:Addr}{cu:List (Key×V)}
end
theorem KV.len{cu:List (Key×V)}(r:KV cu vs):vs.length=cu.length:=by induction r with |nil=>rfl |cons _ _ b=>simp[b]
section
variable{X:Cx}
def Nd:List V->Hp->VK->Prop:=fun c H Q=>∃a b,c=[.ref a]/\Rd H a (.dK b)/\∀l,H l=none->Q (.ref l) (upd H l (.dK b))
theorem W3:m7 X (.type "dict") Nd:=by rintro f s w H p t Q I r ⟨a,g,rfl,n,q⟩;obtain⟨u,rfl,o⟩:=mI r;cases o;obtain⟨z,h,v,d,m⟩:=AY I.bD n;refine kt_call_dict h m (by rwa[d.len]) fun i k l=>?_;have j:∀b u,s.heap.get? b=some u->i.get? b=some u:=fun b u e=>(l.2 b (aY (aM e))).trans (aK _ e);exact⟨.ref _,_,I.laid j (aC _) (Lq z (by have:=I.big;exact kj.mpr (eQ this)) d k),rfl,q _ (I.bD.fresh (aC _))⟩
end
end L2
namespace PM
open PySem L2
section
variable{K:Kx}{XO:cX}{E:L2.St->XK}
end
end PM
namespace L2
open PySem PySem.Spec PyProof.Rows
structure xU(P:Program)(w:World)(K:PySem.W.Frag)(mg:Str->Option Value)(base:Heap)(CX:jC)(k:Nat)(x:Str)(ps:List Str)(sp:Sp)(d:V):Prop where ex:∃(f:Addr) (fd:FuncData),cq P w K mg base CX k f fd ps sp/\mg x=some (.ref f)/\PySem.W.keepIn K (.ref f)=true/\Binds K fd ps []/\∃u,RelV d u/\Binds K fd ps [u]
section
variable{P:Program}{w:World}{K:PySem.W.Frag}{mg:Str->Option Value}{base:Heap}{CX:jC}{k:Nat}{x:Str}{ps:List Str}{sp:Sp}{d:V}
end
section
variable{X:Cx}{CX:jC}{k:Nat}{x:Str}{ps:List Str}{sp:Sp}{E:XK}{p pos:Pos}{a b:Expr}{ta tb:TE}{d:V}
end
theorem W4{K:PySem.W.Frag}{n:Nat}(hd:fd.defaults=.ref T)(f:K.lookup T=some o)(g:o.data=.seq #[u] n) (h3:∀us:List Value,us.length=ps.length->∃a,bindArgs fd ⟨us,[]⟩=seqItems? fd.defaults>>=a/\a (some #[u])=pure (ps.zip us)) (h2:∀us:List Value,us.length+1=ps.length->∃a,bindArgs fd ⟨us,[]⟩=seqItems? fd.defaults>>=a/\a (some #[u])=pure (ps.zip (us++[u]))):Binds K fd ps []/\Binds K fd ps [u]:=by
 constructor;.intro s us d b;rw[dN] at b⊢;obtain⟨a,c,e⟩:=h3 _ b;exact .of_defaults hd (d T o f) g c e
 .intro s us d b;obtain⟨a,c,e⟩:=h2 _ (by simpa using b);exact .of_defaults hd (d T o f) g c e
structure rA(K:PySem.W.Frag)(x qual:Str)(st:Stmt)(f:Addr)(fd:FuncData)(d:V):Prop where
 ex:∃(oc:Value) (od:Option Addr) (T:Addr) (kV doc pm:Value) (an:Option Addr) (qy ct:Value) (uY:Array (Option Value)), fd=PySem.W.fnOf x qual (nU st) (kR st) (cQ st) (.ref T) kV doc pm an qy ct/\K.lookup f=some ⟨oc,od,.func fd,uY⟩/\PySem.W.codeIn K qy qual=true/\∃(o:Obj) (u:Value) (n:Nat),K.lookup T=some o/\o.data=.seq #[u] n/\RelV d u
 kp:PySem.W.keepIn K (.ref f)=true
section
variable{P:Program}{w:World}{K:PySem.W.Frag}{mg:Str->Option Value}{base:Heap}{d:V}
theorem rA.binds{st:Stmt}(F:rA K x c st f fd d) (h3:∀(T:Addr)(kV b g:Value)(an:Option Addr)(a h u:Value)(us:List Value),us.length=ps.length->∃e,bindArgs (PySem.W.fnOf x c (nU st) (kR st) (cQ st) (.ref T) kV b g an a h) ⟨us,[]⟩=seqItems? (.ref T)>>=e/\e (some #[u])=pure (ps.zip us)) (h2:∀(T:Addr)(kV b g:Value)(an:Option Addr)(a h u:Value)(us:List Value),us.length+1=ps.length->∃e,bindArgs (PySem.W.fnOf x c (nU st) (kR st) (cQ st) (.ref T) kV b g an a h) ⟨us,[]⟩=seqItems? (.ref T)>>=e/\e (some #[u])=pure (ps.zip (us++[u]))): Binds K fd ps []/\∃u,RelV d u/\Binds K fd ps [u]:=by obtain⟨t,v,T,kV,b,g,an,a,h,p,rfl,s,r,o,u,n,q,l,k⟩:=F.ex;obtain⟨j,m⟩:=W4 rfl q l (fun us i=>h3 T _ _ _ _ _ _ u _ i) fun us i=>h2 T _ _ _ _ _ _ u _ i;exact⟨j,u,k,m⟩
end
structure mW(K:PySem.W.Frag)(x:Str)(st:Stmt)(f:Addr)(fd:FuncData)(d:V):Prop where ns:PySem.W.nsIn K mainGlobals x=some (some (.ref f))fn:rA K x x st f fd d
theorem rB{K:PySem.W.Frag}{st:Stmt}{kV d g b h:Value}(a:PySem.W.nsIn K mainGlobals x=some (some (.ref f))) (l:K.lookup f=some ⟨o,od,.func (PySem.W.fnOf x x (nU st) (kR st) (cQ st) (.ref T) kV d g an b h),m⟩)(c:PySem.W.codeIn K b x=true)(k:PySem.W.keepIn K (.ref f)=true)(t:K.lookup T=some ⟨j,od',.seq #[.int i tk] n,e⟩):∃f fd,mW K x st f fd (.int i):= ⟨f,_,a,⟨⟨_,_,T,_,_,_,_,_,_,_,rfl,l,c,_,_,n,t,rfl,_,rfl⟩,k⟩⟩
theorem mW.has{K:PySem.W.Frag}{st:Stmt}(D:mW K x st f fd d)(X:K.In h)(G:h.Ns mainGlobals mg) (c:cq P w K mg a CX k f fd ps sp)(b:Binds K fd ps []/\∃u,RelV d u/\Binds K fd ps [u]):xU P w K mg a CX k x ps sp d:=⟨f,_,c,cU X G D.ns,D.fn.kp,b⟩
end L2
namespace PM
open PySem L2
def kK:List Str->List D->Str->Option D |a::r,d::t,f=>if a=f then some d else kK r t f |_,_,_=>none
def putN:List Str->Str->List Str |[],f=>[f] |a::r,f=>if a=f then a::r else a::putN r f
def fC:List Str->List D->Str->D->List D |[],_,_,d=>[d] |a::r,l,f,d=>if a=f then d::l.drop 1 else match l with|x::t=>x::fC r t f d|[]=>[]
section
variable{K:Kx}{F H:Hp}
theorem GO:∀{fs:List (Str×V)}{ks:List Str}{l:List D}{d:D},fs.map (·.1)=ks->aD K F l (fs.map (·.2))->kK ks l f=some d->∃v,fs.lookup f=some v/\Rep K F d v |[],ks,l,d,b,j,h=>by subst b;cases l<;>cases h |(g,x)::fs,ks,l,d,b,j,h=>by subst b;cases l with |nil=>cases h |cons y l=>
 obtain⟨v,r,e,n,m⟩:=j;cases e;rw[bJ,kK] at h;by_cases c:g=f;.simp_all
 .rw[ak c] at h;obtain⟨v,p,o⟩:=GO rfl m h;grind
theorem GP:∀{fs:List (Str×V)},f∉fs.map (·.1)->fs.lookup f=none |[],_=>rfl |(g,x)::fs,h=>by simp only[bJ,aU,hZ] at h;rw[fq,kj.mpr h.1];exact GP h.2
theorem xV(j:Rep K F d v):∀{fs:List (Str×V)}{l:List D},aD K F l (fs.map (·.2))->(gd f v fs).map (·.1)=putN (fs.map (·.1)) f/\aD K F (fC (fs.map (·.1)) l f d) ((gd f v fs).map (·.2)) |[],l,_=>⟨rfl,.cons j .nil⟩ |(g,x)::fs,l,h=>by cases l with |nil=>cases h |cons y l=>
 obtain⟨u,r,e,n,m⟩:=h;cases e;unfold gd;rw[bJ];by_cases c:g=f;.rw[ao c];refine⟨by rw[putN,ao c];rfl,?_⟩;rw[fC,ao c];exact .cons j m
 .rw[ak c];obtain⟨a,b⟩:=xV j m;refine⟨by rw[putN,ak c,bJ,a],?_⟩;rw[fC,ak c];exact .cons n b
end
def bp(b:Nat->Bool)(f:Str)(d:D):Option D:=match d with|.obj c a l=>if b c=true then kK a l f else none|_=>none
section
variable{K:Kx}{XO:cX}{E:L2.St->XK}{ta te:TE}{ma me:En->R D}
theorem gQ(g:∀c,e c=true->dI K.f (K.ca c)/\aE K.f (K.ca c) f)(h:lV K XO E ta ma):SE K XO E (uV K.f ta f) (m1 (bp e f) ma):=by
 intro L B u F H A J Q I a;refine h _ _ _ F H _ _ _ I (a.bind.imp fun d w t m b x n=>?_)
 cases d with |obj c y l=>
  obtain⟨p,C,G,rfl,j,o,r⟩:=n;change eJ E _ _ _ _ _ (R.of (if e c=true then kK _ l f else none)) at b;by_cases z:e c=true;.rw[ao z] at b;cases q:kK _ l f with |none=>rw[q] at b;exact b.elim |some d=> rw[q] at b;obtain⟨v,s,k⟩:=GO o r q;exact⟨p,_,_,_,v,rfl,j,(g c z).1,(g c z).2,s,b _ _ (.refl m.fh) _ k⟩
  .rw[ak z] at b;exact b.elim |_=>exact b.elim
end
def tN(δ:En):Prop:=∀i:Nat,Sl.own δ[i]?=false
section
variable{K:Kx}{XO:cX}{E:L2.St->XK}{F0 H0 F H:Hp}{σ:L2.St}{δ:En}
theorem aw.oh(I:aw K [] F0 H0 F H σ δ)(f:tN δ)(h0:H0 x=none)(h:F x=none):aw K [] F0 H0 F (upd H x u) σ δ:=by
 refine⟨⟨I.ext.ff,fun b o q=>?_,fun b o q=>?_,I.ext.nw⟩,I.len,fun i=>?_,fun i j a _ e _ _ _=>?_,fun y k=>(by cases k),fun i g e=>?_⟩;.rw[bc (dH q h0)];exact I.ext.hh _ _ q
 .rw[bc (dH q h)];exact I.ext.fh _ _ q
 .have z:=I.slot i;have o:=f i;cases q:δ[i]? with |none=>trivial |some s=> rw[q] at z o;cases s with |no=>trivial |v d=>exact z |o d=>cases o |l d=>cases o |p g=>cases o
 .rw[f i] at e;cases e
 .have:=f i;rw[e] at this;cases this
def fD(m1 m2:En->List Str->List D->R (List Str×List D))(δ:En)(ks:List Str)(l:List D):R (List Str×List D):=(m1 δ ks l).bind fun p=>m2 δ p.1 p.2
def runN(c np:Nat)(m:En->List Str->List D->R (List Str×List D))(ds:List D):R D:=if ds.length=np then(m (.no::ds.map .v) [] []).bind fun p=>.ok (.obj c p.1 p.2) else .no
def isObj(c:Nat)(m:Str)(d:D):Option Unit:=match d with|.obj b a _=>if b=c/\m∉a then some () else none|_=>none
def b3(c:Nat)(m:Str)(f:List D->R D)(ma:En->R D)(ml:En->R (List D))(δ:En):R D:=(ma δ).bind fun d=>(R.of (isObj c m d)).bind fun _=>(ml δ).bind fun l=>(f (d::l)).i1
theorem Nf(h:isObj c m d=some u):∃ks l,d=.obj c ks l/\m∉ks:=by
  unfold isObj at h;split at h
  . split at h;.simp_all
    simp_all
  simp_all
theorem fK(k:C=K.ca c)(s:SE K XO E o ma)(h:SA K XO E y ml):SE K XO E (v9 C m (qA K XO f) [] E' o y) (b3 c m f ma ml):=by intro A F0 H0 F H σ δ Q I a;refine s _ _ _ F H _ _ _ I (a.bind.imp fun d X T g b x j=>?_);cases q:isObj c m d with |none=>rw[q] at b;exact b.elim |some u=> rw[q,R.aF,R.aq] at b;obtain⟨S,l,rfl,G⟩:=Nf q;have e:=j;obtain⟨p,J,L,rfl,t,z,Y⟩:=j;exact⟨p,_,_,rfl,by rw[k];exact g.fh _ _ t,GP (by rwa[z]),(h _ _ _ _ _ _ _ _ (I.grow g) (b.bind.imp fun M F2 H2 i n U r=>⟨_,_,i.fh,by rw[dN];exact .cons (Rep.mono i.ff _ e) r,eJ.imp (fun d Z B N p v w=>p v w) (eJ.any n)⟩))⟩
theorem jF(y:C=K.ca c)(w:SE K XO E n ma)(h:SA K XO E z ml):iQ K XO E (v9 C m (vo K XO f) [] E' n z) (b3 c m f ma ml):=by intro B F0 H0 F H σ δ Q I a;refine w _ _ _ F H _ _ _ I (a.bind.imp fun d Y U e b x k=>?_);cases q:isObj c m d with |none=>rw[q] at b;exact b.elim |some u=> rw[q,R.aF,R.aq] at b;obtain⟨T,l,rfl,L⟩:=Nf q;have i:=k;obtain⟨p,M,N,rfl,j,A,Z⟩:=k;exact⟨p,_,_,rfl,by rw[y];exact e.fh _ _ j,GP (by rwa[A]),(h _ _ _ _ _ _ _ _ (I.grow e) (b.bind.imp fun S F2 H2 g s X r=>⟨_,_,g.fh,by rw[dN];exact .cons (Rep.mono g.ff _ i) r,eJ.imp (fun d F3 G J p v t j o=>p v t (e.hh.free (g.hh.free j)) o) (eJ.any s)⟩))⟩
end
end PM
namespace L2
open PySem PySem.Spec PyProof.Rows
section
variable{prog:Program}{w:World}{A:Around}{E:Value->Shared->Prop}{s:Shared}
theorem Ng(a:s.heap.IsTupleIter d t i)(h:s.heap.IsTuple t items)(k:items[i]?=some x) (j:∀h',h'.IsTupleIter d t (i+1)->Heap.SameBut d s.heap h'->Q x {s with heap:=h'}):wpAny (model prog w) A (Builtin.SmallTypes.nextOf (.ref d)) Q E s:=by obtain⟨o,c,g,b⟩:=id a;obtain⟨l,e,_,m,f⟩:=h;refine ah (h8 a.typeIs p_ (h_ p_ a.typeIs F.entry_tuple_iterator_next ?_ (F.args_tuple_iterator_next_1 _)));show wpAny _ _ (field _ 0>>=_) _ _ s;refine ah (cj c b rfl (ah (cj c b rfl (ah (eD e f ?_)))));simp[k];refine ah (kq c b (by simp) (au ⟨x,rfl,au (j _ ⟨_,jz _ c (l7 (kf b _)),(Obj.cls_mapFields ..).trans g,?_⟩ (nE ..))⟩));rw[kf b];rfl
theorem GQ(g:A.handled=none)(a:s.heap.IsTupleIter h t i)(l:s.heap.IsTuple t items)(j:items[i]?=none) (k:∀h' e,Heap.ExtBut h s.heap h'->(∃o,h'.get? e=some o/\o.cls=.type "StopIteration")->E (.ref e) {s with heap:=h'}):wpAny (model prog w) A (Builtin.SmallTypes.nextOf (.ref h)) Q E s:=by
 obtain⟨o,d,q,c⟩:=id a;obtain⟨p,b,_,n,f⟩:=l;refine ah (h8 a.typeIs p_ (h_ p_ a.typeIs F.entry_tuple_iterator_next ?_ (F.args_tuple_iterator_next_1 _)));show wpAny _ _ (field _ 0>>=_) _ _ s;refine ah (cj d c rfl (ah (cj d c rfl (ah (eD b f ?_)))));simp[j];refine ah (ib (ah (kq d c (by simp) (ah (ah (m:=firstArgMember _ _) (wpAny_of_eq rfl (ko (ah (wpAny_handled ?_)) (by size_fits))))))));first|rw[g]|rw[g]
 exact ah (au (wpAny_throw (k _ _ (((nE ..).extBut.push _).push _) ⟨_,b9 _ rfl,rfl⟩)))
theorem W5(k:A.handled=none)(c t:Addr)(d:t≠c)(items:Array Value):Draws prog w A c [c,t] items.size (fun i v=>items[i]?=some v) (fun i h=>h.IsTupleIter c t i/\h.IsTuple t items) where live:=fun _ _ st=>let⟨o,j,_⟩:=st.1;⟨o,j⟩;frame:=fun _ _ _ st f=>⟨st.1.at fun o e=>f _ (by simp) o e,st.2.at fun o e=>f t (by simp) o e⟩;item:=fun i s Q E m st l=>Ng st.1 st.2 (x:=items[i]) (by simp) fun n b a=>l _ _ _ (by simp) ⟨b,st.2.extBut a.extBut d⟩ a;done:=fun s Q E st g=>GQ k st.1 st.2 (by simp) g
end
open AutoSeq1 (wpAny_loadPart') in
theorem W6(l:Addr)(items:Array Value)(n:Nat)(e:Option Addr)(m:Array (Option Value)): Meets (Builtin.«enumerate.__new__» ⟨[.type "enumerate",.ref l],[]⟩) (fun _ R s=>s.heap.get? l=some {cls:=.type "tuple",dict:=e,data:=.seq items n,slots:=m}/\ R (.ok (.ret (.ref (s.heap.push {cls:=.type "tuple_iterator",data:=.fields #[.ref l,.int 0 0]}).objs.size))) {s with heap:=(s.heap.push {cls:=.type "tuple_iterator",data:=.fields #[.ref l,.int 0 0]}).push {cls:=.type "enumerate",data:=.fields #[.none,.bool false,.ref s.heap.objs.size,rawInt 0,.none,.none]}}):= .of_wp fun i w A R s h=>by
    obtain⟨j,g,d,k,os⟩:=s;obtain⟨a,h⟩:=h;have f:=sub_enumerate;have b:Heap.IsTuple (Shared.heap ⟨j,g,d,k,os⟩) l items:=⟨_,a,rfl,n,rfl⟩;wp_walk using mw a;refine wpAny_stack_any fun st=>au ?_;split
    . rename_i c _ _ _ _ _;cases(c==Value.type "enumerate");.wp_walk using mw a,mD b;exact⟨_,rfl,h⟩
      .wp_walk using mw a,mD b;exact⟨_,rfl,h⟩
    .wp_walk using mw a,mD b;exact⟨_,rfl,h⟩
theorem W7(j:s.heap.IsTuple l items) (h:∀h',IsEnum h' (s.heap.objs.size+1) s.heap.objs.size 0 .none->h'.IsTupleIter s.heap.objs.size l 0->h'.objs.size=s.heap.objs.size+2->(∀b o,s.heap.get? b=some o->h'.get? b=some o)->Q (.ref (s.heap.objs.size+1)) {s with heap:=h'}): wpAny (model prog w) A (call (.type "enumerate") [.ref l]) Q E s:=by
 obtain⟨⟨c,d,m,p⟩,g,i,n,k⟩:=j;subst i k;refine callType_new F.called_enumerate rfl (F.typeCall_enumerate_1 _) (F.newCall_enumerate_1 _) (fun e=>F.args_object_init_2 _ _) F.entry_enumerate_new (W6 l _ n _ _) ⟨g,?_⟩;have f:(s.heap.push {cls:=.type "tuple_iterator",data:=.fields #[.ref l,.int 0 0]}).objs.size=s.heap.objs.size+1:=iA ..;rw[f];have a:IsEnum ((s.heap.push {cls:=.type "tuple_iterator",data:=.fields #[.ref l,.int 0 0]}).push {cls:=.type "enumerate",data:=.fields #[.none,.bool false,.ref s.heap.objs.size,rawInt 0,.none,.none]}) (s.heap.objs.size+1) s.heap.objs.size 0 .none:=by have:=b9 (s.heap.push {cls:=.type "tuple_iterator",data:=.fields #[.ref l,.int 0 0]}) (o:={cls:=.type "enumerate",data:=.fields #[.none,.bool false,.ref s.heap.objs.size,rawInt 0,.none,.none]}) rfl;grind
 exact⟨⟨_,a,rfl⟩,h _ a ⟨_,aK _ (b9 _ rfl),rfl,rfl⟩ (by simp) fun b o x=>aK _ (aK _ x)⟩
theorem W8{w:World}{i:Nat}(n:A.handled=none)(g:IsEnum s.heap e f i h)(a:s.heap.IsTupleIter f t i)(l:s.heap.IsTuple t items)(j:items[i]?=none) (p:∀h',Heap.ExtBut f s.heap h'->Q none {s with heap:=h'}):wpAny (model prog w) A (pyNext (.ref e)) Q E s:=by have d:s.TypeIs (.ref e) _:=⟨_,g,rfl⟩;refine ah (mm (h8 d F.slot_enumerate_next (h_ F.slot_enumerate_next d F.entry_enumerate_next ?_ (F.args_enumerate_next_1 _))));show wpAny _ _ (field _ 2>>=_) _ _ _;refine ah (cj g rfl rfl (ah (GQ n a l j fun h' x b c=>?_)));obtain⟨o,k,m⟩:=c;exact ah (wpAny_isInstance ⟨o,k,m⟩ isSubtype_stop (au (p _ b)))
def GR(K:PySem.W.Frag)(a:Addr):It:= ⟨fun i H=>∃b x,hO K H a b/\b[i]?=some x,fun i H x c=>∃p y,x=.ref p/\H p=none/\c=upd H p (.tup [.int i,y])/\∀b,hO K H a b->b[i]?=some y,fun i H=>∃b,hO K H a b/\b.length<=i⟩
theorem W9{K:PySem.W.Frag}(a e m:Addr)(t:e≠m): Turn P w K (.Tuple es k pos) (GR K a) [e,m] e (fun i h=>(∃g,IsEnum h e m i g)/\h.IsTupleIter m a i) where
  mem:=by simp
  obj:=fun i h st b f=>by
    obtain⟨⟨g,h1⟩,o,h2,c,d⟩:=st;rcases aU.mp f with rfl|f;.exact⟨_,h1,fun v z=>by cases(show Data.fields _=Data.cell v from z)⟩
    .rw[cY.mp f];exact⟨o,h2,fun v z=>by simp_all⟩
  keep:=fun i h Z st k=>let⟨⟨g,h1⟩,h2⟩:=st;⟨⟨g,k e (by simp) _ h1⟩,h2.at fun o q=>k m (by simp) o q⟩;item:=by
    intro X hP R S U i J s σ H E I O st T;subst hP R S;obtain⟨xs,x,N,hx⟩:=T;obtain⟨j,Y,p,hz⟩:=I.tuple N;obtain⟨u,hu,ru⟩:=Y.get hx;obtain⟨⟨g,r⟩,l⟩:=st;have M:s.heap.IsTuple a j.toArray:=p;have hT:H s.heap.objs.size=none:=I.bD.fresh (aC _);have eT:e≠s.heap.objs.size:=aY (aM r);have iT:m≠s.heap.objs.size:=let⟨_,z,_⟩:=l;aY (aM z);have W_:a≠m:=fun z=>by obtain⟨o1,z1,c1,_⟩:=l;obtain⟨o2,G,Q,_⟩:=M;rw[z,z1] at G;cases G;rw[c1] at Q;simp at Q
    have ae:a≠e:=fun z=>by obtain⟨o2,G,Q,_⟩:=M;rw[z,r] at G;cases G;simp at Q
    have li:i<j.toArray.size:=by have:=(b_.mp hu).1;simpa using this
    refine wpAny_pyNext_enum_itemD (W5 (prog:=X.prog) (w:=X.w) (A:=X.A.in1) (I.ok.hd U) m a W_ j.toArray) r ⟨l,M⟩ li t (by simp[t,aR ae]) fun y Z tk hy ho C ht hsz hk=>⟨_,rfl,?_⟩;have ey:y=u:=by
      have:j.toArray[i]?=some u:=by simpa using hu
      rw[this] at hy;cases hy;rfl
    subst ey;refine wpAny_letOwnedTupleGo_enum ho fun Xa L D=>?_;have n:Heap.SameBut e Z Xa:=D;refine⟨.ref s.heap.objs.size,upd H s.heap.objs.size (.tup [.int i,x]),?_,rfl,⟨_,x,rfl,hT,rfl,fun ys Xb=>by rwa[I.lQ Xb N]⟩,⟨⟨_,by simpa using L⟩,C.1.at fun o q=>(n.2 _ t.symm).trans q⟩,fun b f=>?_⟩;.refine I.wq _ O (fun b o f q=>?_) (by show 2<=sizeLine;decide) (.cons ⟨tk,rfl⟩ (.cons ru .nil)) ((n.2 _ eT.symm).trans ht);simp[aU,iG,h7,hZ] at f;exact(n.2 b f.1).trans (hk b o f.1 f.2 q)
    . obtain⟨f0,_⟩:=O b f;rcases aU.mp f with rfl|f;.rwa[bc eT]
      .rw[cY.mp f] at f0⊢;rwa[bc iT]
  done:=by intro X hP R S U i J s σ H E I O st T;subst hP R S;obtain⟨xs,N,hx⟩:=T;obtain⟨j,Y,p,hz⟩:=I.tuple N;obtain⟨⟨g,r⟩,l⟩:=st;have M:s.heap.IsTuple a _:=p;obtain⟨g0,g1,g2,g3,g4,g5⟩:=O m (by simp);have hl:=Y.length;refine W8 (I.ok.hd U) r l M (by simp;lia) fun Z eb=>⟨rfl,I.turned (fun b o f q=>eb b o f q) g0 g1 g3 g4 g5⟩
  self:=fun _ _ _ _ _ st h=>let⟨⟨_,r⟩,_⟩:=st;mB r h
section
variable{X:Cx}
def Nh(K:PySem.W.Frag)(d:TA):TI:=fun e H R=>d e H fun c b=>∃a,c=[.ref a]/\(∃f,hO K b a f)/\R (GR K a) b
theorem Xd(J:Gl X "enumerate")(z:X.mg "enumerate"=none)(w:PA X [l] y)(E:starEach [l] X.env=[(false,eval l X.env)]:=by rfl): PI X (.Tuple es k M) (.Call (.Name "enumerate" p) [l] [] pos) (Nh X.K y):=by
 intro j s O H R I h;refine Call_ (pE I J z boot_enumerate (eU (bT (w _ _ s _ H _ I h) fun L d ⟨_,_,f,A,o⟩=>?_) E rfl));obtain⟨a,e,⟨N,t⟩,q⟩:=o;subst e;obtain⟨u,rfl,x⟩:=mI A;cases x;obtain⟨r,Q,C,S⟩:=f.tuple t;refine W7 C fun B m i D G=>?_;have v:Inv X _ _ _ {d with heap:=B}:=f.kept G;have g:d.heap.objs.size+1≠d.heap.objs.size:=by lia
 refine mB m ⟨_,_,_,_,_,rfl,v,W9 a _ _ g,⟨⟨_,m⟩,i⟩,fun b n=>?_,q⟩;have c:d.heap.objs.size<=b:=by
  rcases aU.mp n with rfl|n;.lia
  simp_all
 exact f.kA c (f.bD.fresh c)
def GS(K:PySem.W.Frag):R2:=fun x y H Q=>∃a b c d,x=.ref a/\y=.ref b/\hO K H a c/\hO K H b d/\c.length+d.length<=sizeLine/\ (c=[]->Q (.ref b) H)/\(c≠[]->d=[]->Q (.ref a) H)/\(c≠[]->d≠[]->∀p,H p=none->Q (.ref p) (upd H p (.tup (c++d))))
theorem Bw:hR X (binaryOp .Add) (GS X.K):=by
 rintro p s T H x y v u Q I h m ⟨a,b,q,N,rfl,rfl,l,o,G,A,C,B⟩;by_cases c:q=[];.cases h;cases m;obtain⟨M,L,E,_⟩:=I.tuple l;obtain⟨j,U,D,_⟩:=I.tuple o;obtain⟨⟨w,R,k,O⟩,i,r,n,t⟩:=id E;obtain⟨⟨g,J,data2,z⟩,d,e,S,f⟩:=id D;subst r t e f;exact concat_meets ⟨_,i,rfl⟩ ⟨_,d,rfl⟩ noFill_tuple_add seq_tuple_add oW oS (oR _ _) (tuple_addW0 a b _ _ n _ _ _ _ _ (by simp[(L.jV.mpr c)])) ⟨i,d,⟨.ref b,H,I,rfl,A c⟩⟩
 .exact TK _ s _ H _ _ v u Q I h m ⟨a,b,_,_,rfl,rfl,l,o,c,G,C c,B c⟩
end
end L2
namespace PM
open PySem L2
section
variable{K:Kx}{XO:cX}{E:L2.St->XK}
theorem Xe(r:aD K n ds vs)(h:∀b c,P b c->ax n b/\ax b c/\hO K.f c a vs):mQ K (GR K.f a) P (rX ds):=by
 intro b c p i;obtain⟨l,g,q⟩:=h _ _ p;unfold rX;rw[List.getElem?_mapIdx];refine⟨fun d f=>?_,fun t=>?_⟩;.cases e:ds[i]? with |none=>simp_all |some x=> rw[e] at f;cases f;obtain⟨v,k,m⟩:=r.get e;refine⟨⟨_,v,q,k⟩,fun s u y=>?_⟩;obtain⟨o,w,rfl,j,rfl,y⟩:=y;have z:=y _ q;rw[k] at z;cases z;exact⟨_,.new g j,⟨_,_,rfl,cb,.cons rfl (.cons (Rep.mono (l.trans (ax.upd (g.free j))) _ m) .nil)⟩⟩
 .refine⟨_,q,?_⟩;cases e:ds[i]? with |none=>rw[r.length];simp_all |some x=>simp_all
def Bx:List D->Option (List D) |[.tup l]=>some (rX l) |_=>none
def GU(ml:En->R (List D))(δ:En):R (List D):=(ml δ).bind fun l=>R.of (Bx l)
theorem Xf(h:Bx l=some r):∃x,l=[.tup x]/\r=rX x:=by unfold Bx at h;grind
theorem Xg(h:SA K XO E e ml):SI K XO E (Nh K.f e) (GU ml):=by intro k u p F H s m R I a;refine h _ _ _ F H _ _ _ I (a.bind.imp fun j o n c b g r=>?_);cases q:Bx _ with |none=>rw[q] at b;exact b.elim |some z=> obtain⟨l,rfl,rfl⟩:=Xf q;obtain⟨v,rfl,f⟩:=aD.one r;obtain⟨a,g,rfl,d,i⟩:=f;exact⟨a,rfl,⟨_,.of (c.fh _ _ d)⟩,b _ _ (.refl c.fh) _ (Xe i fun w t x=>⟨x.1,x.2,.of (x.2 _ _ (x.1 _ _ d))⟩)⟩
def qI(x y:D):Option D:=match x,y with|.tup l,.tup r=>cN (l.length+r.length<=sizeLine) (some (.tup (l++r))) none|_,_=>none
theorem By:SR K (GS K.f) qI:=by
  intro F H x y v w d Q s o m e q;unfold qI at e;split at e
  . rename_i l r;unfold cN at e;split at e
    . cases e;obtain⟨a,j,rfl,g,f⟩:=o;obtain⟨b,t,rfl,n,h⟩:=m;have A:=f.length;have B:=h.length;refine⟨a,b,_,_,rfl,rfl,.of (s _ _ g),.of (s _ _ n),by lia,fun z=>?_,fun k u=>?_,fun k u p i=>?_⟩;.have:l=[]:=vX (by simp_all);refine q _ F H (.refl s) ?_;simp[Rep];simp_all
      .have:r=[]:=vX (by simp_all);exact q _ F H (.refl s) ⟨a,_,rfl,g,by simp_all⟩
      .have c:Ext F H (upd F p (.tup (j++t))) _:=.new s i;exact q _ _ _ c ⟨p,_,rfl,cb,(f.mono c.ff).append (h.mono c.ff)⟩
    simp_all
  simp_all
end
end PM
namespace L2
open PySem PySem.Spec PyProof.Rows
structure tO(P:Program)(w:World)(K:PySem.W.Frag)(mg:Str->Option Value)(base:Heap)(CX:jC)(k:Nat)(x:Str)(C:Addr)(ps:List Str)(sp:Sp):Prop where ex:∃(f:Addr) (fd:FuncData),Mk K C f/\cq P w K mg base CX k f fd ps sp/\mg x=some (.ref C)/\Binds K fd ps []
structure oi(P:Program)(w:World)(K:PySem.W.Frag)(mg:Str->Option Value)(base:Heap)(CX:jC)(k:Nat)(m:Str)(C:Addr)(ps:List Str)(sp:Sp):Prop where ex:∃(f:Addr) (fd:FuncData),dI K C/\Meth K C m f/\cq P w K mg base CX k f fd ps sp/\Binds K fd ps []
section
variable{X:Cx}{CX:jC}{k:Nat}{x m:Str}{C:Addr}{ps:List Str}{sp:Sp}{E:XK}{p pos apos:Pos}{e o:Expr}{es:List Expr}{t:TA}{ta:TE}
theorem zk(G:tO X.prog X.w X.K X.mg X.base CX k x C ps sp)(d:cm (k+1) X.A)(h:Gl X x)(c:nP CX X E)(i:PA X (e::es) t) (a:(x==("__debug__":Str))=false:=by decide)(g:starEach (e::es) X.env=(false,eval e X.env)::starEach es X.env:=by rfl)(b:(backTo pos (starEach es X.env)).any (·.1)=false:=by rfl): PE X (.Call (.Name x p) (e::es) [] pos) (EY C sp [] E t):=let⟨f,n,M,F,l,j⟩:=G.ex;Tv M F d h l j .nil c i a g b
theorem iY(G:oi X.prog X.w X.K X.mg X.base CX k m C ps sp)(h:cm k X.A)(l:nP CX X E)(g:PE X o ta)(i:PA X (e::es) t) (a:starEach (e::es) X.env=(false,eval e X.env)::starEach es X.env:=by rfl)(b:(backTo pos (starEach es X.env)).any (·.1)=false:=by rfl) (r:eval (.Call (.Attribute o m apos) (e::es) [] pos) X.env=(eval o X.env>>=fun d=>standAt apos.atName>>=fun _=>holding [d] (getMethod d m pl)>>=fun q=>callWith pos q.1 q.2 (backTo pos (starEach (e::es) X.env)) (backToKw pos (keywordEach [] X.env))):=by rfl): PE X (.Call (.Attribute o m apos) (e::es) [] pos) (v9 C m sp [] E ta t):=let⟨f,_,c,n,F,j⟩:=G.ex;Ts g c n F h j .nil l i a b r
theorem pZ(G:oi X.prog X.w X.K X.mg X.base CX k m C ps sp)(h:cm k X.A)(g:nP CX X E)(d:PE X o ta) (j:eval (.Call (.Attribute o m apos) [] [] pos) X.env=(eval o X.env>>=fun a=>standAt apos.atName>>=fun _=>holding [a] (getMethod a m pl)>>=fun q=>callWith pos q.1 q.2 (backTo pos (starEach [] X.env)) (backToKw pos (keywordEach [] X.env))):=by rfl): PE X (.Call (.Attribute o m apos) [] [] pos) (v9 C m sp [] E ta cA):=let⟨f,_,c,b,F,i⟩:=G.ex;Tt d c b F h i .nil g j
end
end L2
namespace PM
open PySem L2
section
variable{K:Kx}{XO:cX}{E:L2.St->XK}{F0 H0 F H:Hp}{σ:L2.St}{δ:En}
open Classical in
def vy(H:Hp)(p:Addr):Hp:=fun b=>if b=p then none else H b
theorem Xh{H:Hp}:ax (vy H p) H:=fun b o h=>by unfold vy at h;simp_all
theorem Ni{H:Hp}:vy H p p=none:=by unfold vy;simp
theorem GV{H:Hp}(h:b≠p):vy H p b=H b:=by unfold vy;simp_all
end
section
variable{K:Kx}{XO:cX}{E:L2.St->XK}{F0 H0 F H F1 H1 F' H':Hp}
theorem vz(s:ax F a):ax (cL F1 H1 F) (cL F1 H1 a):=fun b o h=>by
 unfold cL at h⊢;split at h;.cases h
 .rename_i z;rw[ak z];exact s _ _ h
theorem GW(x:Ext F H F' H')(h0:F' p=none)(h1:H p=none)(o:H' p=some (.lst vs)):Ext F H (upd F' p (.lst vs)) H':=by
  refine⟨fun b u h=>?_,x.hh,fun b u h=>?_,fun q u d c=>?_⟩;.have:=x.ff b u h;rw[bc (dH this h0)];omega
  . by_cases z:b=p;.subst z;rw[cb] at h;simp_all
    .rw[bc z] at h;exact x.fh b u h
  .rw[bc (dH c h1)];exact x.nw q u d c
variable(K) in
def p5(c:Nat)(t:TS)(m:En->List Str->List D->R (List Str×List D)):Prop:= ∀(F1 H1 F H:Hp)(b:L2.St)(d:En)(x g:Addr)(e:List (Str×V))(l:List D)(f:Ends),tN d->aw K [] (ik F1 H1) H1 F H b d->b[0]?=some (some (.ref x))->H1 x=none->F x=none->H x=some (.ins (K.ca c) g e)->aD K (cL F1 H1 F) l (e.map (·.2))-> (match m d (e.map (·.1)) l with |.no=>False |.ok p=>∀F' H' a,aw K [] (ik F1 H1) H1 F' H' b d->F' x=none->H' x=some (.ins (K.ca c) g a)->a.map (·.1)=p.1->aD K (cL F1 H1 F') p.2 (a.map (·.2))->f.nx b H' |.ex _=>False)->t f b H
def lX(f:Str)(me:En->R D)(δ:En)(ks:List Str)(l:List D):R (List Str×List D):=(me δ).i1.bind fun d=>cN (ks.length<1000/\nZ d=true) (.ok (putN ks f,fC ks l f d)) .no
def rC(f:Str)(me:En->R D)(δ:En)(ks:List Str)(l:List D):R (List Str×List D):=(me δ).i1.bind fun d=>cN (ks.length<1000/\∃r,d=.lst r/\rh r=true) (.ok (putN ks f,fC ks l f d)) .no
theorem Xi(g:dI K.f (K.ca c)/\aE K.f (K.ca c) f)(h:SE K XO E k me):p5 K c (jL K.f (bZ 0) k f) (lX f me):=by intro F1 H1 F H N B x G p l A n I t m o i u a;refine h _ _ _ F H _ _ _ I ?_;unfold lX at a;cases q:me _ with |no=>rwa[q] at a |ex J=>rw[q] at a;exact a.elim |ok d=>
 rw[q] at a;intro y M e v r;simp only[R.bA,R.aq,cN] at a;by_cases z:(p.map (·.1)).length<1000/\nZ d=true;.rw[ao z] at a;have b:=e.nw x _ o i;have j:=I.grow e;obtain⟨w,s⟩:=xV (f:=f) (Dk j.ext d z.2 r) (u.mono (vz e.ff));exact⟨_,t,x,_,_,_,rfl,(e.hh _ _ i),g.1,g.2,by simp_all,(a _ _ _ (j.oh n m b) b cb w s)⟩
 .grind
theorem Xj(t:dI K.f (K.ca c)/\aE K.f (K.ca c) f)(h:iQ K XO E G me):p5 K c (jL K.f (bZ 0) G f) (rC f me):=by intro F1 H1 F H σ δ x dx n l Dn Y I A T J k U a;refine h _ _ _ F H _ _ _ I ?_;unfold rC at a;cases q:me _ with |no=>rwa[q] at a |ex xx=>rw[q] at a;exact a.elim |ok d=>
    rw[q] at a;intro m H2 e p i g o;simp[R.bA,R.aq,cN] at a;by_cases z:(n.map (·.1)).length<1000/\∃r,d=.lst r/\rh r=true
    . rw[ao z] at a;obtain⟨z1,r,rfl,Z⟩:=z;obtain⟨y,g1,C⟩:=o;have X:=e.nw x _ J k;have s:=GW e i g g1;have B:=dH k g;have j:upd m p (.lst y) x=none:=by rwa[bc B]
      have v:=I.grow s;have S:=Gg v.ext r Z (C.mono fun b u L=>by rwa[bc (dH L i)]);have N:Rep K (cL F1 H1 (upd m p (.lst y))) (.lst r) (.ref p):=by refine⟨p,_,rfl,?_,S⟩;unfold cL;rw[ak (fun w=>w.2 (I.ext.hh.free g))];exact cb
      obtain⟨Q,M⟩:=xV N (U.mono (vz s.ff));exact⟨_,A,x,_,_,n,rfl,(e.hh _ _ k),t.1,t.2,by simp_all,a _ _ _ (v.oh Y T j) j cb Q M⟩
    .rw[ak z] at a;simp_all
theorem Nj{R:D->V->Prop}:∀{ds:List D}{vs:List V},um R ds vs->ds.length=vs.length |_,_,.nil=>rfl |_,_,.cons _ t=>by rw[gY,gY,Nj t]
end
end PM
namespace L2
open PySem PySem.Spec PyProof.Rows
structure MethAt(K:PySem.W.Frag)(C:Addr)(m qual:Str)(st:Stmt)(f:Addr)(fd:FuncData):Prop where
 at_:PySem.W.findIn K (.ref C) m=some (some (.ref f))Nk:PySem.W.isFn K (.ref f)=true
 fn:jD K m qual st f fd
theorem rD{K:PySem.W.Frag}{st:Stmt}{kV e g d h:Value}(a:PySem.W.findIn K (.ref C) m=some (some (.ref f)))(i:PySem.W.isFn K (.ref f)=true) (l:K.lookup f=some ⟨n,od,.func (PySem.W.fnOf m b (nU st) (kR st) (cQ st) .none kV e g an d h),j⟩)(c:PySem.W.codeIn K d b=true)(k:PySem.W.keepIn K (.ref f)=true):∃f fd,MethAt K C m b st f fd:= ⟨f,_,a,i,C3 l c k⟩
section
variable{P:Program}{w:World}{K:PySem.W.Frag}{mg:Str->Option Value}{base:Heap}{CX:jC}{k:Nat}{x m qual:Str}{C:Addr}{st:Stmt}{f:Addr}{fd:FuncData}{ps:List Str}{sp:Sp}
theorem MethAt.GX(D:MethAt K C m qual st f fd)(c:dI K C)(a:cq P w K mg base CX k f fd ps sp)(b:Binds K fd ps []):oi P w K mg base CX k m C ps sp:=⟨f,_,c,⟨D.at_,D.Nk,D.fn.kp⟩,a,b⟩
theorem MethAt.GY(D:MethAt K C "__init__" qual st f fd)(mk:PySem.W.makesIn K C=true)(c:PySem.W.keepIn K (.ref C)=true)(a:mg x=some (.ref C))(d:cq P w K mg base CX k f fd ps sp)(b:Binds K fd ps []):tO P w K mg base CX k x C ps sp:=⟨f,_,⟨mk,D.at_,D.Nk,c⟩,d,a,b⟩
end
def xW(t u:TE):TE:=fun a H Q=>t a H Q\/u a H Q
section
variable{X:Cx}{CX:jC}{k:Nat}{x:Str}{C:Addr}{ps:List Str}{sp:Sp}{E:St->XK}{p pos:Pos}{e:Expr}{es:List Expr}{t:TA}
theorem dW(h:PE X e c)(g:PE X e d):PE X e (xW c d):=fun b s f H Q I a=>a.elim (h _ s _ H Q I) (g _ s _ H Q I)
end
end L2
namespace PM
open PySem L2
section
variable{K:Kx}{XO:cX}{E:L2.St->XK}{F0 H0 F H F1 H1 F' H':Hp}
theorem Xk(e:Ext (ik F H) H F' H')(h:jr K x F' H' C b):jr K x (cL F H F') H' C b:=by
 refine⟨h.1,?_⟩;have a:=h.2;unfold XA at a⊢;split;.simp_all
 .rename_i c;rw[ak c] at a;obtain⟨g,d,f⟩:=a;exact⟨_,d,Gf e f (fun _ z=>by cases z) (fun _ z=>by cases z) (fun _ _ z=>by cases z) (fun _ _ _ z=>by cases z)⟩
variable(K XO E) in
def iZ(c:Nat)(t:TS)(m:En->List Str->List D->R (List Str×List D)):Prop:= ∀(F1 H1 F H:Hp)(b:L2.St)(e:En)(x h:Addr)(f:List (Str×V))(l:List D)(g:Ends),tN e->aw K [] (ik F1 H1) H1 F H b e->b[0]?=some (some (.ref x))->H1 x=none->F x=none->H x=some (.ins (K.ca c) h f)->aD K (cL F1 H1 F) l (f.map (·.2))-> (match m e (f.map (·.1)) l with |.no=>False |.ok p=>∀F' H' a,aw K [] (ik F1 H1) H1 F' H' b e->F' x=none->H' x=some (.ins (K.ca c) h a)->a.map (·.1)=p.1->aD K (cL F1 H1 F') p.2 (a.map (·.2))->g.nx b H' |.ex i=>∀C d F' H',Ext (ik F1 H1) H1 F' H'->XO i F' H' C d->E b C d H')->t g b H
theorem Xl:lX f me δ ks l≠.ex x:=by unfold lX cN;cases me _ with |ok d=>simp[R.bA];grind |_=>exact fun h=>by cases h
theorem Xm:rC f me δ ks l≠.ex x:=by unfold rC cN;cases me _ with |ok d=>simp[R.bA];split<;>exact fun h=>by cases h |_=>exact fun h=>by cases h
theorem p5.x(h:p5 K c t m)(b:∀δ ks l x,m δ ks l≠.ex x):iZ K XO E c t m:=by intro F1 H1 F H u δ x n s l r g I i j d f e a;refine h _ _ F H _ _ x _ _ l _ g I i j d f e ?_;cases q:m _ _ l with |no=>rwa[q] at a |ok p=>rwa[q] at a |ex o=>exact(b _ _ _ _ q).elim
theorem zm(b:dI K.f (K.ca c)/\aE K.f (K.ca c) f)(h:SE K XO E a me):iZ K XO E c (jL K.f (bZ 0) a f) (lX f me):=(Xi b h).x fun _ _ _ _=>Xl
theorem GZ(b:dI K.f (K.ca c)/\aE K.f (K.ca c) f)(h:iQ K XO E a me):iZ K XO E c (jL K.f (bZ 0) a f) (rC f me):=(Xj b h).x fun _ _ _ _=>Xm
def tQ(me:En->R D)(δ:En)(ks:List Str)(l:List D):R (List Str×List D):=(me δ).bind fun _=>.ok (ks,l)
theorem DH(h:SE K XO E g me):iZ K XO E c (sV g) (tQ me):=by intro F1 H1 F H m n x s u l w p I y A i b j a;refine h _ _ _ F H _ _ _ I ?_;unfold tQ at a;cases q:me _ with |no=>simp_all |ex B=>rw[q] at a;exact fun C f F' H' e z=>a C _ _ _ (I.ext.trans e) z |ok d=> rw[q] at a;intro k G e v r;exact a _ _ _ (I.grow e) (e.nw x _ i b) (e.hh _ _ b) rfl (j.mono (vz e.ff))
theorem rE{m1 m2:En->List Str->List D->R (List Str×List D)}(h1:iZ K XO E c t m1)(h2:iZ K XO E c u m2):iZ K XO E c (nM t u) (fD m1 m2):=by intro F1 H1 F H z y x C v l w f I e g m k j a;unfold fD at a;refine h1 _ _ F H _ _ x _ _ l _ f I e g m k j ?_;cases q:m1 _ _ l with |no=>simp_all |ex B=>rwa[q] at a |ok p=> rw[q] at a;intro F' H' n o b d i h;refine h2 _ _ _ _ _ _ x _ _ _ _ f o e g b d h ?_;rwa[i]
def allI:List D->Bool |[]=>true |.int _::l=>allI l |_::_=>false
theorem Nl{F F':Hp}:∀{l:List D}{vs:List V},allI l=true->aD K F l vs->aD K F' l vs |[],vs,_,h=>h |d::l,vs,c,h=>by cases d with |int n=> obtain⟨v,r,g,f,b⟩:=h;exact⟨v,r,g,f,Nl c b⟩ |_=>cases c
theorem qJ:ax (cL F H F') F':=fun b o h=>by unfold cL at h;simp_all
def wA(c:Nat)(f:Str)(me:En->R D)(δ:En)(ks:List Str)(l:List D):R (List Str×List D):=(me (δ.set 0 (.v (.obj c ks l)))).i1.bind fun d=>cN (ks.length<1000/\0<δ.length/\∃r,d=.lst r/\allI r=true) (.ok (putN ks f,fC ks l f d)) .no
theorem Nm(hc:dI K.f (K.ca c)/\aE K.f (K.ca c) f)(h:iQ K XO E te me):iZ K XO E c (jL K.f (bZ 0) te f) (wA c f me):=by
  intro F1 H1 F H σ k x Q g l Dn X I hx h0 hF hH hl a;have M:ax F (upd F x (.ins (K.ca c) Q g)):=fun b o q=>by rwa[bc (dH q hF)]
  have xe:Ext (ik F1 H1) H1 (upd F x (.ins (K.ca c) Q g)) H:=by
    refine⟨I.ext.ff.trans M,I.ext.hh,fun b o q=>?_,fun q u L n=>?_⟩
    . by_cases z:b=x;.subst z;rw[cb] at q;simp_all
      .rw[bc z] at q;exact I.ext.fh _ _ q
    .rw[bc (dH n h0)];exact I.ext.nw q u L n
  have C:tN (k.set 0 (.v (.obj c (g.map (·.1)) l))):=fun i=>by cases i with
    |zero=> cases k with |nil=>rfl |cons s r=>rfl
    |succ i=> rw[aI (by omega)];exact X _
  have I':aw K [] (ik F1 H1) H1 (upd F x (.ins (K.ca c) Q g)) H σ (k.set 0 (.v (.obj c (g.map (·.1)) l))):=by refine⟨xe,by rw[I.len,qq],fun i=>?_,fun i j a _ S _ _ _=>(by rw[C i] at S;cases S),fun y hy=>(by cases hy),fun i ll S=>(by have:=C i;rw[S] at this;cases this)⟩;cases i with
    |zero=> cases k with |nil=>trivial |cons s r=> refine⟨.ref x,hx,?_⟩;exact⟨x,Q,g,rfl,cb,rfl,(hl.mono qJ).mono M⟩
    |succ i=> rw[aI (by omega)];have z:=I.slot (i+1);have N:=X (i+1);cases q:k[i+1]? with |none=>trivial |some s=> rw[q] at z N;cases s with |no=>trivial |v d=>obtain⟨v,z1,T⟩:=z;exact⟨v,z1,Rep.mono M _ T⟩ |o d=>cases N |l d=>cases N |p ll=>cases N
  refine h [] _ _ _ H σ _ _ I' ?_;unfold wA at a;cases q:me (k.set 0 (.v (.obj c (g.map (·.1)) l))) with |no=>rwa[q] at a |ex xx=>rw[q] at a;exact a.elim |ok d=>
    rw[q] at a;intro F2 H2 e p hp0 m o;simp only[R.bA,R.aq,cN] at a;by_cases z:(g.map (·.1)).length<1000/\0<k.length/\∃r,d=.lst r/\allI r=true
    . rw[ao z] at a;obtain⟨z1,_,r,rfl,T⟩:=z;obtain⟨Z,L,n⟩:=o;have xp:x≠p:=dH hH m;have e':Ext F H (vy F2 x) H2:=by
        refine⟨fun b o q=>?_,e.hh,fun b o q=>e.fh _ _ (Xh b o q),fun b u L n=>?_⟩;.rw[GV (dH q hF)];exact e.ff _ _ (M _ _ q)
        . by_cases w:b=x;.subst w;exact Ni
          .rw[GV w];exact e.nw b u (by rwa[bc w]) n
      have e3:=GW e' (by rwa[GV (aR xp)]) m L;have G:upd (vy F2 x) p (.lst Z) x=none:=by rw[bc xp];exact Ni
      have U:H1 p=none:=I.ext.hh.free m;have rp:Rep K (cL F1 H1 (upd (vy F2 x) p (.lst Z))) (.lst r) (.ref p):=by refine⟨p,Z,rfl,?_,Nl T n⟩;unfold cL;rw[ak (fun w=>w.2 U)];exact cb
      obtain⟨g3,g4⟩:=xV rp (hl.mono (vz e3.ff));exact⟨_,hx,x,_,_,_,rfl,(e.hh _ _ hH),hc.1,hc.2,by simp_all,a _ _ _ ((I.grow e3).oh X h0 G) G cb g3 g4⟩
    grind
def zo(K:Kx)(c:Nat)(f:List D->R D):Sp:=fun h H Q E=>∃(x b:Addr) (g:List V) (F a:Hp) (e:List D),h=.ref x::g/\H=upd (upd a b (.own x)) x (.ins (K.ca c) b [])/\a x=none/\a b=none/\b≠x/\ax F a/\um (wm K F a) e g/\ eJ (fun _=>E) (jr K) [] F a (fun d F' H'=>F' x=none->Own K F' H' d x->Q .non H') (f e)
theorem Nn{E:XK}{ps:List Str}(b:ps.length=np+1)(h:zo K c (runN c np m) vs H Q E):vs.length=ps.length:=by
 obtain⟨x,d,f,F,g,e,rfl,rfl,_,_,_,_,r,a⟩:=h;unfold runN at a;split at a;.have:=Nj r;simp;lia
 .exact a.elim
theorem Np{E:XK}(h:iZ K (jr K) (fun _=>E) c t m)(hn:N.length=np+1)(sp:zo K c (runN c np m) vs H Q E): t {nx:=fun _ H'=>Q .non H',rt:=Q} (L2.start N vs) H:=by
 obtain⟨x,dx,g,F,n,l,rfl,rfl,u,G,ne,s,M,a⟩:=sp;unfold runN at a;split at a;case isFalse=>exact a.elim
 case isTrue hl=>
  have r:=Ge s M;have A:=Mc s;have I:=r.length;have st:L2.start N (.ref x::g)=some (.ref x)::g.map some:=by unfold L2.start;rw[show N.length-(V.ref x::g).length=0 by simp_all];simp
  rw[st];have B:=A.free u;have k:tN (.no::l.map .v):=fun i=>by cases i with |zero=>rfl |succ i=> rw[List.getElem?_cons_succ,bY];cases l[i]?<;>rfl
  have X:aw K [] (ik F n) n (ik F n) n (some (V.ref x)::g.map some) (.no::l.map .v):=by refine⟨.refl A,by simp[I],fun i=>?_,fun i j a _ w _ _ _=>(by rw[k i] at w;cases w),fun y J=>(by cases J),fun i ll w=>by grind⟩;cases i with |zero=>trivial |succ i=> rw[List.getElem?_cons_succ,bY];cases q:l[i]? with |none=>trivial |some d=> obtain⟨v,Y,U⟩:=r.get q;exact⟨v,by simp_all,U⟩
  refine h F _ _ _ _ _ x _ _ _ _ k ((X.oh k G (A.free G)).oh k u B) rfl u B cb .nil ?_;rw[jA];cases q:m _ _ _ with |no=>rwa[q] at a |ex xx=>rw[q] at a;exact fun C L F' H' e z=>a C _ _ _ (Gh e) (Xk e z) |ok p=> rw[q] at a;intro F' H' S I' Z o e1 T;refine a _ _ (Gh I'.ext) ?_ ⟨_,_,o,e1,T⟩;unfold cL;simp_all
theorem zp(j:C=K.ca c)(h:xw K (jr K) E n ml):iQ K (jr K) E (EY C (zo K c f) [] y n) (bw f ml):=by intro w F0 H0 F H A p Q I a;refine h _ _ _ F H _ _ _ I (a.bind.imp fun v F1 H1 i b B r x t g e m=>⟨x,_,_,_,_,_,by simp,by rw[j],g,e,m,i.fh,r,?_⟩);cases q:f _ with |no=>rwa[q] at b |ex z=>rw[q] at b;exact b.elim |ok d=>rw[q] at b;exact fun L G l k o=>⟨rfl,b _ _ l x k (i.hh.free g) o⟩
def br(i a:Nat)(m1 m2:En->R D)(δ:En):R D:=match δ[i]? with|some (.v (.obj c _ _))=>if c=a then m1 δ else m2 δ|_=>.no
theorem gm{m1 m2:En->R D}(h1:SE K XO E b m1)(h2:SE K XO E c m2):SE K XO E (xW b c) (br i e m1 m2):=by
  intro g F0 H0 F H d f Q I a;unfold br at a;split at a
  . split at a;.exact .inl (h1 _ _ _ F H _ _ Q I a)
    .exact .inr (h2 _ _ _ F H _ _ Q I a)
  .exact a.elim
theorem nu{m1 m2:En->R D}(h1:iQ K XO E b m1)(h2:iQ K XO E c m2):iQ K XO E (xW b c) (br i e m1 m2):=by
  intro g F0 H0 F H d f Q I a;unfold br at a;split at a
  . split at a;.exact .inl (h1 _ _ _ F H _ _ Q I a)
    .exact .inr (h2 _ _ _ F H _ _ Q I a)
  .exact a.elim
end
end PM
namespace L2
open PySem PySem.Spec PyProof.Rows
section
variable{prog:Program}{w:World}{A:Around}{E:Value->Shared->Prop}{s:Shared}
theorem Xn{Q:Value->Shared->Prop}(D:ZipApart z d a i j l t) (hz:IsZip s.heap z d a .none)(h3:IsPair s.heap d (.ref i) (.ref j))(h4:IsPair s.heap a p q) (h1:s.heap.IsListIter i l k)(h2:s.heap.IsTupleIter j t m)(hl:s.heap.IsList l xs)(ht:s.heap.IsTuple t ys)(hx:xs[k]?=some x)(hy:ys[m]?=some y) (hQ:∀h',IsZip h' z d a (rawInt s.heap.objs.size)->IsPair h' a x y->h'.IsListIter i l (k+1)->h'.IsTupleIter j t (m+1)->IsPair h' s.heap.objs.size x y-> (∀c o,c≠z->c≠a->c≠i->c≠j->s.heap.get? c=some o->h'.get? c=some o)->Q (.ref s.heap.objs.size) {s with heap:=h'}): wpAny (model prog w) A (Builtin.«zip.__next__» ⟨[.ref z],[]⟩) (fun M s'=>∃v,M=.done (.ret v)/\Q v s') E s:=by
 show wpAny _ A (field (.ref z) 2>>=_) _ _ s;refine ah (cj hz rfl (x:=.bool false) rfl ?_);show wpAny _ A (field (.ref z) 3>>=_) _ _ s;refine ah (cj hz rfl (x:=.ref d) rfl (ah (eD h3 rfl ?_)));show wpAny _ A (Builtin.SmallTypes.ownedTupleIsFree (.ref z)>>=_) _ _ s;refine ah ?_;unfold Builtin.SmallTypes.ownedTupleIsFree;refine ah (cj hz rfl (x:=.none) rfl (au ?_));simp only[if_true];refine ah (ib ?_);refine ah (cj hz rfl (x:=.ref a) rfl ?_);refine ah (jh hz (by simp) fun g1 H g=>?_);replace H:IsZip g1 z d a .ellipsis:=H;refine ah ?_;simp only[List.zipIdx_cons,List.zipIdx_nil,sN,List.forIn_nil];refine ah (ah (mz ?_));show wpAny _ A (Builtin.SmallTypes.nextOf (.ref i)>>=_) _ _ _;refine ah (wpAny_nextOf_list_item (h1.extBut g.extBut D.i1z) (hl.extBut g.extBut D.l1z) hx fun g2 p2 h=>au ?_);have O:IsPair g2 a p q:=h.extBut _ _ D.TOi1 (g.extBut _ _ D.TOz h4);refine ah (eD O rfl (ah (pA O fun g3 u3 n=>?_)));refine ah (gu (au (ah (ah (mz ?_)))));refine ah (Ng (((h2.extBut g.extBut D.i2z).extBut h.extBut D.i12.symm).extBut n.extBut D.TOi2.symm) (((ht.extBut g.extBut D.l2z).extBut h.extBut D.l2i1).extBut n.extBut D.l2TO) hy fun g4 p4 u=>au ?_);have T:IsPair g4 a x q:=u.extBut _ _ D.TOi2 u3;refine ah (eD T rfl (ah (pA T fun b C r=>?_)));replace C:IsPair b a x y:=C;refine ah (gu (au (au ?_)));refine ah (eD C rfl (ah (wpAny_newTuple (hsz:=by show 2<=sizeLine;decide) ?_)));have S:b.objs.size=s.heap.objs.size:=by rw[r.1,u.1,n.1,h.1,g.1]
 have X:IsZip b z d a .ellipsis:=r.extBut _ _ D.TOz.symm (u.extBut _ _ D.i2z.symm (n.extBut _ _ D.TOz.symm (h.extBut _ _ D.i1z.symm H)));have k5:∀c o,c≠z->c≠a->c≠i->c≠j->s.heap.get? c=some o->b.get? c=some o:=fun c o f G I J e=>r.extBut _ _ G (u.extBut _ _ J (n.extBut _ _ G (h.extBut _ _ I (g.extBut _ _ f e))));have i5:b.IsListIter i l (k+1):=((p2.extBut n.extBut D.TOi1.symm).extBut u.extBut D.i12).extBut r.extBut D.TOi1.symm;have j5:b.IsTupleIter j t (m+1):=p4.extBut r.extBut D.TOi2.symm;have R:z<b.objs.size:=aM X;refine ah ?_;have z6:IsZip (b.push {cls:=.type "tuple",data:=.seq #[x,y]}) z d a .ellipsis:=aK _ X;refine ah (jh z6 (by simp) fun g7 z7 Y=>?_);refine jh z7 (by simp) fun L Z U=>?_;have B:∀c o,c≠z->b.get? c=some o->L.get? c=some o:=fun c o f e=>U.extBut _ _ f (Y.extBut _ _ f (aK _ e));have N:IsPair L b.objs.size x y:=U.extBut _ _ (eQ R) (Y.extBut _ _ (eQ R) (b9 _ rfl));rw[S] at Z N;refine au ⟨_,rfl,?_⟩;show Q (.ref b.objs.size) _;rw[S];exact hQ L Z (B _ _ D.TOz C) (i5.at fun o e=>B _ o D.i1z e) (j5.at fun o e=>B _ o D.i2z e) N fun c o f G I J e=>B c o f (k5 c o f G I J e)
theorem Xo(L:A.handled=none)(D:ZipApart z g d i j l t) (hz:IsZip s.heap z g d .none)(h3:IsPair s.heap g (.ref i) (.ref j))(T:IsPair s.heap d p q) (h1:s.heap.IsListIter i l k)(h2:s.heap.IsTupleIter j t m)(O:s.heap.IsList l xs)(ht:s.heap.IsTuple t ys)(Z:xs[k]?=none\/ys[m]?=none) (C:∀h' e,(∀c o,c≠z->c≠d->c≠i->c≠j->s.heap.get? c=some o->h'.get? c=some o)->(∃o,h'.get? e=some o/\o.cls=.type "StopIteration")->E (.ref e) {s with heap:=h'}): wpAny (model prog w) A (Builtin.«zip.__next__» ⟨[.ref z],[]⟩) Q E s:=by
 show wpAny _ A (field (.ref z) 2>>=_) _ _ s;refine ah (cj hz rfl (x:=.bool false) rfl ?_);refine ah (cj hz rfl (x:=.ref g) rfl (ah (eD h3 rfl ?_)));refine ah ?_;unfold Builtin.SmallTypes.ownedTupleIsFree;refine ah (cj hz rfl (x:=.none) rfl (au ?_));refine ah (ib ?_);refine ah (cj hz rfl (x:=.ref d) rfl (ah (jh hz (by simp) fun g1 M a=>?_)))
 refine ah ?_;refine ah (ah (mz ?_));cases H:xs[k]? with |none=>
  refine ah (wpAny_nextOf_list_end L (h1.extBut a.extBut D.i1z) (O.extBut a.extBut D.l1z) H fun v e b ⟨G,u,B⟩=>?_);have z2:IsZip v z g d .ellipsis:=b _ _ D.i1z.symm M;have n:e≠z:=fun r=>by grind
  exact jh z2 (by simp) fun R _ f=>C R e (fun c o h _ y _ r=>f.extBut _ _ h (b _ _ y (a.extBut _ _ h r))) ⟨G,f.extBut _ _ n u,B⟩ |some x=>
  have X:ys[m]?=none:=Z.resolve_left (by grind);refine ah (wpAny_nextOf_list_item (h1.extBut a.extBut D.i1z) (O.extBut a.extBut D.l1z) H fun v p2 b=>au ?_);have N:IsPair v d p q:=b.extBut _ _ D.TOi1 (a.extBut _ _ D.TOz T);refine ah (eD N rfl (ah (pA N fun R u3 f=>?_)));refine ah (gu (au ?_));refine ah (ah (mz (ah (GQ L (((h2.extBut a.extBut D.i2z).extBut b.extBut D.i12.symm).extBut f.extBut D.TOi2.symm) (((ht.extBut a.extBut D.l2z).extBut b.extBut D.l2i1).extBut f.extBut D.l2TO) X fun U e I ⟨G,u,B⟩=>?_))));have Y:IsZip U z g d .ellipsis:=I _ _ D.i2z.symm (f.extBut _ _ D.TOz.symm (b.extBut _ _ D.i1z.symm M));have n:e≠z:=fun r=>by grind
  exact jh Y (by simp) fun S _ J=>C S e (fun c o h c2 y c4 r=>J.extBut _ _ h (I _ _ c4 (f.extBut _ _ c2 (b.extBut _ _ y (a.extBut _ _ h r))))) ⟨_,J.extBut _ _ n u,B⟩
end
def zq(h:Heap)(l t:Addr):Heap:=((((h.push {cls:=.type "list_iterator",data:=.fields #[.ref l,.int 0 0]}).push {cls:=.type "tuple_iterator",data:=.fields #[.ref t,.int 0 0]}).push {cls:=.type "tuple",data:=.seq #[.ref h.objs.size,.ref (h.objs.size+1)]}).push {cls:=.type "tuple",data:=.seq #[.none,.none]}).push {cls:=.type "zip",data:=.fields #[.none,.bool false,.bool false,.ref (h.objs.size+2),.ref (h.objs.size+3)]}
theorem Xp(l t:Addr)(xs ys:Array Value):Meets (Builtin.«zip.__new__» ⟨[.type "zip",.ref l,.ref t],[]⟩) (fun _ R s=>s.heap.IsList l xs/\s.heap.IsTuple t ys/\R (.ok (.ret (.ref (s.heap.objs.size+4)))) {s with heap:=zq s.heap l t}):= .of_wp fun e w A R s h=>by obtain⟨a,g,d,c,os⟩:=s;obtain⟨j,f,h⟩:=h;have b:=sub_zip;have i:Heap.IsList (Shared.heap ⟨a,g,d,c,os⟩) l xs:=j;have k:IsTup (Shared.heap ⟨a.push {cls:=.type "list_iterator",data:=.fields #[.ref l,.int 0 0]},g,d,c,os⟩) t ys:=IsTup.push f _;wp_walk using wpAny_pyIter_list i,iter_tuple k;refine⟨_,rfl,?_⟩;simp only[iA] at h⊢;exact h
theorem Xq(j:s.heap.IsList l xs)(k:s.heap.IsTuple t ys) (h:∀h',IsZip h' (s.heap.objs.size+4) (s.heap.objs.size+2) (s.heap.objs.size+3) .none->IsPair h' (s.heap.objs.size+2) (.ref s.heap.objs.size) (.ref (s.heap.objs.size+1))->IsPair h' (s.heap.objs.size+3) .none .none-> h'.IsListIter s.heap.objs.size l 0->h'.IsTupleIter (s.heap.objs.size+1) t 0->(∀c o,s.heap.get? c=some o->h'.get? c=some o)->Q (.ref (s.heap.objs.size+4)) {s with heap:=h'}): wpAny (model prog w) A (call (.type "zip") [.ref l,.ref t]) Q E s:=by
 refine callType_new F.called_zip (by decide) (F.typeCall_zip_2 _ _) (F.newCall_zip_2 _ _) (fun d=>F.args_object_init_3 d _ _) F.entry_zip_new (Xp l t xs ys) ⟨j,k,?_⟩;obtain⟨n,b⟩:=xz s.heap.objs.size;have a:∀(h:Heap)(o:Obj)(m:Nat),h.objs.size=m->o.isFreed=false->(h.push o).get? m=some o:=fun h o m e f=>by rw[<-e];exact b9 _ f
 have g:IsZip (zq s.heap l t) (n+4) (n+2) (n+3) .none:=by rw[b];exact a _ _ _ (by simp) rfl
 have q:IsPair (zq s.heap l t) (n+3) .none .none:=by rw[b];exact aK _ (a _ _ _ (by simp) rfl)
 have p:IsPair (zq s.heap l t) (n+2) (.ref n) (.ref (n+1)):=by rw[b];exact aK _ (aK _ (a _ _ _ (by simp) rfl))
 have r:(zq s.heap l t).get? (n+1)=some {cls:=.type "tuple_iterator",data:=.fields #[.ref t,.int 0 0]}:=by rw[b];exact aK _ (aK _ (aK _ (a _ _ _ (by simp) rfl)))
 have i:(zq s.heap l t).get? n=some {cls:=.type "list_iterator",data:=.fields #[.ref l,.int 0 0]}:=by rw[b];exact aK _ (aK _ (aK _ (aK _ (a _ _ _ rfl rfl))))
 rw[<-b] at h⊢;exact⟨⟨_,g,rfl⟩,h _ g p q ⟨_,i,rfl,rfl⟩ ⟨_,r,rfl,rfl⟩ fun c o x=>aK _ (aK _ (aK _ (aK _ (aK _ x))))⟩
theorem Nq(hd:[z,l,g,i,j].Nodup)(h1:IsZip h z l g f0)(h3:IsPair h g u v)(C:h.IsListIter i a k)(t:h.IsTupleIter j b m)(p:PlainL h a xs)(x:h.IsTuple b ys)(M:b≠g):ZipApart z l g i j a b:=by
 obtain⟨o,n,e,c,_⟩:=p;obtain⟨O,d,f,_⟩:=x;obtain⟨Q,N,D,_⟩:=C;obtain⟨R,q,I,_⟩:=t;simp[iF,aU,iG,hZ,List.nodup_nil,and_true,not_false_eq_true] at hd;obtain⟨⟨A,L,J,G⟩,⟨H,s,B⟩,⟨y,w⟩,E⟩:=hd;refine⟨aR A,aR L,aR J,aR G,H,s,B,y,w,E,fun r=>?_,fun r=>?_,fun r=>?_,fun r=>?_,fun r=>?_,M,fun r=>?_,fun r=>?_⟩;.subst r;rw[h1] at e;cases e;simp at c
 .grind
 .simp_all
 .simp_all
 .subst r;rw[h1] at d;cases d;simp at f
 .subst r;rw[N] at d;cases d;rw[D] at f;simp at f
 .subst r;rw[q] at d;cases d;rw[I] at f;simp at f
def xX(K:PySem.W.Frag)(a b:Addr):It:= ⟨fun i H=>∃c d x y,fz K H a c/\H b=some (.tup d)/\c[i]?=some x/\d[i]?=some y, fun i H v e=>∃p x y,v=.ref p/\H p=none/\e=upd H p (.tup [x,y])/\(∀c,fz K H a c->c[i]?=some x)/\∀d,H b=some (.tup d)->d[i]?=some y, fun i H=>∃c d,fz K H a c/\H b=some (.tup d)/\(c.length<=i\/d.length<=i)⟩
theorem Xr{K:PySem.W.Frag}(a b z L t i j:Addr)(hd:[z,L,t,i,j].Nodup): Turn P w K (.Tuple es k pos) (xX K a b) [z,L,t,i,j] z (fun n h=>IsZip h z L t .none/\IsPair h L (.ref i) (.ref j)/\(∃u v,IsPair h t u v)/\h.IsListIter i a n/\h.IsTupleIter j b n) where
  mem:=by simp
  obj:=fun n h st c d=>by
    obtain⟨l,J,⟨u,v,B⟩,⟨o1,G,c1,d1⟩,o2,C,c2,d2⟩:=st;simp only[aU,iG,h7] at d;rcases d with rfl|rfl|rfl|rfl|rfl;.exact⟨_,l,fun v z=>by trivial⟩
    .exact⟨_,J,fun v z=>by trivial⟩
    .exact⟨_,B,fun v z=>by trivial⟩
    .exact⟨o1,G,fun v z=>by simp_all⟩
    .exact⟨o2,C,fun v z=>by simp_all⟩
  keep:=fun n h h' st q=>let⟨l,J,⟨u,v,B⟩,G,C⟩:=st;⟨q z (by simp) _ l,q L (by simp) _ J,⟨u,v,q t (by simp) _ B⟩,G.at fun o e=>q i (by simp) o e,C.at fun o e=>q j (by simp) o e⟩;item:=by
    intro X hP hw hK d n S s σ H E I Q st hg;subst hP hw hK;obtain⟨xs,ys,x,y,q1,O,hx,hy⟩:=hg;obtain⟨its,rv,p,hz⟩:=I.list q1;obtain⟨_,A,M,p'⟩:=I.bD b _ O;have Z:s.heap.IsTuple b A.toArray:=p';obtain⟨u,hu,ru⟩:=rv.get hx;obtain⟨u',hu',Xs⟩:=M.get hy;obtain⟨l,J,⟨f,g,B⟩,G,C⟩:=st;have bt:b≠t:=fun r=>by obtain⟨f0,_⟩:=Q t (by simp);simp_all
    have D:=Nq hd l B G C p Z bt;have hT:H s.heap.objs.size=none:=I.bD.fresh (aC _);have N:∀c o,s.heap.get? c=some o->c≠s.heap.objs.size:=fun c o e=>aY (aM e);have Y:s.TypeIs (.ref z) "zip":=⟨_,l,rfl⟩;refine ah (mm (h8 (name:=Str.ofString "__next__") Y qc (h_ qc Y F.entry_zip_next ?_ (F.args_zip_next_1 _))));refine Xn D l J B G C p.isList Z (x:=u) (y:=u') (by simp_all) (by simp_all) fun h' a1 a2 a3 a4 a5 hk=>au ⟨_,rfl,(wpAny_letOwnedTupleGo_zip a1 fun R b1 U=>?_)⟩;have m:Heap.SameBut z h' R:=U;have Xt:∀c o,c∉[z,L,t,i,j]->s.heap.get? c=some o->R.get? c=some o:=fun c o d q=>by simp only[aU,iG,h7,hZ] at d;exact(m.2 c d.1).trans (hk c o d.1 d.2.2.1 d.2.2.2.1 d.2.2.2.2 q)
    refine⟨.ref s.heap.objs.size,upd H s.heap.objs.size (.tup [x,y]),?_,rfl,⟨_,x,y,rfl,hT,rfl,fun xs' h=>by rwa[I.iI h q1],fun A7 h=>by rw[O] at h;cases h;exact hy⟩, ⟨b1,(m.2 _ D.TIz).trans (hk _ _ D.TIz D.TITO D.TIi1 D.TIi2 J),⟨u,u',(m.2 _ D.TOz).trans a2⟩,a3.at fun o e=>(m.2 _ D.i1z).trans e,a4.at fun o e=>(m.2 _ D.i2z).trans e⟩,fun c d=>?_⟩;.exact I.wq (t':=s.toks) [z,L,t,i,j] Q Xt (by show 2<=sizeLine;decide) (.cons ru (.cons Xs .nil)) ((m.2 _ (aR (N z _ l))).trans a5)
    . obtain⟨f0,_⟩:=Q c d;rw[bc];.exact f0
      . obtain⟨o1,e4,_⟩:=G;obtain⟨o2,e5,_⟩:=C;simp only[aU,iG,h7] at d;rcases d with rfl|rfl|rfl|rfl|rfl;.exact N _ _ l
        .exact N _ _ J
        .exact N _ _ B
        .exact N _ _ e4
        .exact N _ _ e5
  done:=by
    intro X hP hw hK d n S s σ H E I Q st hg;subst hP hw hK;obtain⟨xs,ys,q1,O,he⟩:=hg;obtain⟨its,rv,p,hz⟩:=I.list q1;obtain⟨_,A,M,p'⟩:=I.bD b _ O;have Z:s.heap.IsTuple b A.toArray:=p';obtain⟨l,J,⟨f,g,B⟩,G,C⟩:=st;have bt:b≠t:=fun r=>by obtain⟨f0,_⟩:=Q t (by simp);rw[r,f0] at O;cases O
    have l1:=rv.length;have l2:=M.length;have Y:s.TypeIs (.ref z) "zip":=⟨_,l,rfl⟩;refine ah (mm (h8 (name:=Str.ofString "__next__") Y qc (h_ qc Y F.entry_zip_next ?_ (F.args_zip_next_1 _))));refine Xo (I.ok.hd d) (Nq hd l B G C p Z bt) l J B G C p.isList Z (he.imp (fun z=>by simp;lia) fun z=>by simp;lia) fun h' e hk ⟨oe,ho,Xu⟩=>?_;exact ah (wpAny_isInstance (T:="StopIteration") (b:=true) ⟨oe,ho,Xu⟩ isSubtype_stop (au ⟨rfl,(I.vu (t':=s.toks) [z,L,t,i,j] Q fun c o d q=>by simp only[aU,iG,h7,hZ] at d;exact hk c o d.1 d.2.2.1 d.2.2.2.1 d.2.2.2.2 q)⟩))
  self:=fun _ _ _ _ _ st h=>wpAny_pyIter_zip st.1 h
section
variable{X:Cx}
def Nr(K:PySem.W.Frag)(e:TA):TI:=fun g H R=>e g H fun d c=>∃a b,d=[.ref a,.ref b]/\(∃h,fz K c a h)/\(∃f,c b=some (.tup f))/\R (xX K a b) c
theorem Nt(Y:Gl X "zip")(L:X.mg "zip"=none)(ha:PA X [l,g] S)(N:starEach [l,g] X.env=(false,eval l X.env)::starEach [g] X.env:=by rfl)(o:(backTo pos (starEach [g] X.env)).any (·.1)=false:=by rfl): PI X (.Tuple es k tp) (.Call (.Name "zip" p) [l,g] [] pos) (Nr X.K S):=by
 intro A s σ H R I h;refine Call_ (pE I Y L PyProof.Rows.boot_zip (eU (bT (ha _ _ s _ H _ I h) fun us t ⟨_,_,f,Q,Z⟩=>?_) N o));obtain⟨a,b,e,⟨xs,J⟩,⟨ys,j⟩,q⟩:=Z;subst e;obtain⟨u,v,rfl,G,M⟩:=AR Q;cases G;cases M;obtain⟨D,rv,E,hz⟩:=f.list J;obtain⟨_,w,O,r⟩:=f.bD b _ j;refine Xq E.isList r fun h' n C B y z U=>?_;obtain⟨m,T⟩:=xz t.heap.objs.size;have i:[m+4,m+2,m+3,m,m+1].Nodup:=by simp
 rw[<-T] at n C B y z⊢;refine wpAny_pyIter_zip n ⟨_,_,_,_,_,rfl,(f.kept U),Xr a b _ _ _ _ _ i,⟨n,C,⟨_,_,B⟩,y,z⟩,fun d x=>?_,q⟩;have c:t.heap.objs.size<=d:=by simp[iG] at x;rcases x with rfl|rfl|rfl|rfl|rfl<;>lia
 exact f.kA c (f.bD.fresh c)
end
end L2
namespace PM
open PySem L2
section
variable{K:Kx}{XO:cX}{E:L2.St->XK}
def zr:List D->Option (List D) |[.lst x,.tup y]=>some (rl x y) |_=>none
def Bz(ml:En->R (List D))(δ:En):R (List D):=(ml δ).bind fun l=>R.of (zr l)
theorem Xv(h:zr l=some r):∃x y,l=[.lst x,.tup y]/\r=rl x y:=by unfold zr at h;grind
theorem Xw(r:aD K A ds vs)(t:aD K A es ws)(h:∀g c,P g c->ax A g/\ax g c/\fz K.f c a vs/\c b=some (.tup ws)):mQ K (xX K.f a b) P (rl ds es):=by
 intro g c p i;obtain⟨C,s,q,f⟩:=h _ _ p;unfold rl;rw[List.getElem?_zipWith];refine⟨fun d k=>?_,fun Q=>?_⟩;.cases e:ds[i]? with |none=>rw[e] at k;cases k |some x=> cases j:es[i]? with |none=>simp_all |some y=> rw[e,j] at k;cases k;obtain⟨v,o,I⟩:=r.get e;obtain⟨w,B,l⟩:=t.get j;refine⟨⟨_,_,v,w,q,f,o,B⟩,fun N S y=>?_⟩;obtain⟨J,M,L,rfl,n,rfl,G,H⟩:=y;have z:=G _ q;rw[o] at z;cases z;have z:=H _ f;rw[B] at z;cases z;refine⟨_,.new s n,?_⟩;have m:=C.trans (ax.upd (u:=.tup [v,w]) (s.free n));exact⟨_,_,rfl,cb,.cons (Rep.mono m _ I) (.cons (Rep.mono m _ l) .nil)⟩
 .cases e:ds[i]? with |none=>exact⟨_,_,q,f,.inl (by rw[r.length];simp_all)⟩ |some x=> cases j:es[i]? with |none=>exact⟨_,_,q,f,.inr (by rw[t.length];exact f9.mp j)⟩ |some y=>simp_all
theorem Nu(h:SA K XO E k ml):SI K XO E (Nr K.f k) (Bz ml):=by intro t y J F H B o R I a;refine h _ _ _ F H _ _ _ I (a.bind.imp fun C A u c d j r=>?_);cases q:zr _ with |none=>rw[q] at d;exact d.elim |some z=> obtain⟨l,s,rfl,rfl⟩:=Xv q;obtain⟨v,w,rfl,m,g⟩:=aD.two r;obtain⟨a,j,rfl,e,n⟩:=m;obtain⟨b,p,rfl,f,i⟩:=g;exact⟨a,b,rfl,⟨_,.inl (PM.ax.qV c.fh e)⟩,⟨_,c.fh _ _ f⟩,d _ _ (.refl c.fh) _ (Xw n i fun L G x=>⟨x.1,x.2,.inl (PM.ax.rd x.2 (PM.ax.qV x.1 e)),x.2 _ _ (x.1 _ _ f)⟩)⟩
def ux:List D->Option D |[.tup l]=>(dE l).bind fun a=>cN (a.length<4000) (some (.int (uniq a).length)) none |_=>none
theorem Xx(h:ux ds=some d):∃ns:List Int,ds=[.tup (ns.map .int)]/\ns.length<4000/\d=.int (uniq ns).length:=by
 unfold ux at h;split at h;.rename_i l;cases z:dE l with |none=>simp_all |some ns=>
  rw[z] at h;simp at h;unfold cN at h;split at h;.rename_i a;cases h;exact⟨_,by rw[uu z],a,rfl⟩
  simp_all
 simp_all
end
end PM
namespace L2
open PySem PySem.Spec PyProof.Rows
theorem Xy : isSubtype (.type "tuple") (.type "set") = pure false := by rw [isSubtype_type]; rfl
theorem Xz : isSubtype (.type "tuple") (.type "frozenset") = pure false := by rw [isSubtype_type]; kernel_rfl
abbrev tR (b : Bool) : Obj := { cls := .type "set", dict := none, data := .set #[] 0 (.fresh 0 0 b) }
section
variable {prog : Program} {w : World} {A : Around} {E : Value → Shared → Prop} {s : Shared}
abbrev Nv (prog : Program) (w : World) (s : Shared) (vs : Array Value) (ns : List Int) (h' : Heap) : Prop :=
  h'.SetOf (intKind prog w) s.heap.objs.size (fun k' => (firstMet (fun i => ns.getD i 0) vs.size).any (· == k')) (firstMet (fun i => ns.getD i 0) vs.size).length ∧ ∀ b o, b < s.heap.objs.size → s.heap.get? b = some o → h'.get? b = some o
set_option maxHeartbeats 8000000 in
theorem XB {t : Addr} {vs : Array Value} {ns : List Int} {Q : Value → Shared → Prop} (hh : A.handled = none) (ht : s.heap.IsTuple t vs) (hi : IntsAre vs.toList ns) (hb : vs.size + 1 < scanBound)
    (h : ∀ (h' : Heap) (tk : Nat), Nv prog w s vs ns h' → Q (.ref s.heap.objs.size) { s with heap := h', toks := tk }) : wpAny (model prog w) A (call (.type "set") [.ref t]) Q E s := by
  obtain ⟨c, tl, m1⟩ := jy.mro
  have m2 := jy.made
  have m3 := jy.sub
  refine fU (codeAny_of_tree ?_)
  show wpAny _ A.in1 (callAny (.type "set") _) _ _ s
  refine au ⟨sD _ (by decide +kernel), jg F.entry_type_call ?_⟩
  rw [Around.under_plain (weight_type_call_type "set" [.ref t] []) rfl]
  have m4 := jy.notType
  have m5 := jy.canCreate
  have m6 := F.typeCall_set_1 (.ref t)
  repeat (any_goals (first | assumption | wp_step))
  refine gq (code_set_new_1 (.ref t) (E := E) (Q₁ := fun ob dR => ∃ b : Bool, ob = .ref s.heap.objs.size ∧ dR = { s with heap := s.heap.push (tR b) }) fun b => ⟨b, rfl, rfl⟩) fun r dR hr => ?_
  cases r with
  | error e => exact hr
  | ok fl =>
    cases fl with
    | ret ob =>
      obtain ⟨b, rfl, rfl⟩ := hr
      have gS : (s.heap.push (tR b)).get? s.heap.objs.size = some (tR b) := b9 _ rfl
      have tS : Shared.TypeIs { s with heap := s.heap.push (tR b) } (.ref s.heap.objs.size) "set" := ⟨_, gS, rfl⟩
      have n1 := jy.init.lookup
      have n2 := jy.init.bind (.ref s.heap.objs.size)
      repeat (any_goals (first | assumption | wp_step))
      refine gq (l9 (R := wants (fun r BA => r = .none ∧ ∃ h' tk, BA = { s with heap := h', toks := tk } ∧ Nv prog w s vs ns h') E) jy.init.plain F.entry_set_init (check_set_init_1 tS ?_)) fun G0 BA tU => ?_
      · obtain ⟨ot, et, ct, nt, dt⟩ := ht
        obtain ⟨oc, od, Wb, uY⟩ := ot
        simp only at ct dt
        subst ct; subst dt
        have XC : (s.heap.push (tR b)).get? t = some { cls := .type "tuple", dict := od, data := .seq vs nt, slots := uY } := aK _ et
        have p1 := Xy
        have p2 := Xz
        have p3 : (Value.type "tuple" == Value.type "dict") = false := by decide
        have tT : (s.heap.push (tR b)).IsTuple t vs := ⟨_, XC, rfl, nt, rfl⟩
        unfold Builtin.«set.__init__» noKeywords Builtin.Frozenset.updateFrom
        generalize XD : pyIter = PI
        wp_walk
        subst XD
        refine iter_tuple tT ?_
        refine ah (wpAny_runValue ?_)
        have lt : t < s.heap.objs.size := aM et
        have h3 : A.in1.in1.in1.handled = none := by simp [hh]
        have sz : (s.heap.push (tR b)).objs.size = s.heap.objs.size + 1 := iA ..
        have ne : t ≠ (s.heap.push (tR b)).objs.size := by rw [sz]; exact aY (kb lt)
        have nS : s.heap.objs.size ∉ [(s.heap.push (tR b)).objs.size, t] := by
          rw [sz]; simp only [aU, iG, h7, hZ]
          exact ⟨aY (eP _), eQ lt⟩
        have hv : ∀ (i : Nat) (v : Value), vs[i]? = some v → ∃ u, v = .int ((fun i => ns.getD i 0) i) u := fun i v hv => IntsAre.int_at hi i v (by rw [wN]; exact hv)
        refine codeAny_set_update_loopS ((Walks.tuple h3 _ t ne vs).toS) s.heap.objs.size nS (fun i => ns.getD i 0) hv hb (vs.size - 0) 0 _ (by lia) (bR _) ⟨⟨_, b9 _ rfl, rfl, rfl⟩, tT.push _⟩ ?first ?last
        case first =>
          have g : ((s.heap.push (tR b)).push { cls := .type "tuple_iterator", data := .fields #[.ref t, .int 0 0] }).get? s.heap.objs.size = some (tR b) := aK _ gS
          exact SetOf_congr ((setObjOf_fresh (knd := intKind prog w) b).setOf g (by unfold scanBound; lia)) (fun _ => rfl) rfl
        case last =>
          intro s' mv hS
          obtain ⟨h', g', d', XE, XF⟩ := s'
          have eg : g' = s.gens := mv.gens
          have ed : d' = s.drawn := mv.drawn
          have eo : XF = s.os := mv.os
          subst eg; subst ed; subst eo
          show wpAny _ _ _ _ _ _
          refine au ?_
          show wpAny _ _ (ret Value.none) _ _ _
          refine au ⟨rfl, h', XE, rfl, hS, fun q o hq e => ?_⟩
          refine mv.heap q o ?_ (aK _ (aK _ e))
          simp only [aU, iG, h7, hZ]
          exact ⟨aY hq, by rw [sz]; exact aY (kb hq)⟩
      · cases G0 with
        | error e => exact tU
        | ok BB =>
          cases BB with
          | ret r =>
            obtain ⟨rfl, h', tk, rfl, XG⟩ := tU
            repeat (any_goals (first | assumption | wp_step))
            exact h _ _ XG
          | _ => exact tU.elim
    | _ => exact hr.elim
end
section
variable {X : Cx}
def Nw : List V → Hp → VK → Prop := fun xs H Q => ∃ (p : Addr) (ns : List Int), xs = [.ref p] ∧ H p = some (.tup (ns.map V.int)) ∧ ns.length < 4000 ∧ ∀ a, H a = none → Q (.ref a) (upd H a (.set (fun k => (uniq ns).any (· == k)) (uniq ns).length))
theorem Nx (hc : X.calm = true) : m7 X (.type "set") Nw := by
  rintro pins s σ H xs us Q I r ⟨p, ns, rfl, hq, hl, q⟩
  obtain ⟨u, rfl, rx⟩ := mI r
  cases rx
  obtain ⟨z, its, rv, e⟩ := I.bD p _ hq
  have len := rv.length
  have XH : its.toArray.size = ns.length := by simp_all
  refine XB (I.ok.hd hc) e (by simpa using MK rv) (by unfold scanBound; lia) fun h' tk hS => ?_
  obtain ⟨hS, hk⟩ := hS
  rw [XH, VR] at hS
  refine ⟨.ref _, _, ?_, rfl, q _ (I.bD.fresh (aC _))⟩
  exact I.laid (fun b o hb => hk b o (aM hb) hb) (aC _) hS
end
end L2
namespace PM
open PySem L2
section
variable {K : Kx} {XO : cX} {E : L2.St → XK}
theorem Ny {tl : TA} {ml : En → R (List D)} (h : SA K XO E tl ml) : SE K XO E (qR MO (eG (qR Nw tl) cA)) (aT ux ml) := by
  intro Λ F0 H0 F H σ δ Q I a
  refine h _ _ _ F H _ _ _ I (a.bind.imp fun ds F1 H1 e1 a1 vs r => ?_)
  cases q : ux _ with
  | none => rw [q] at a1; exact a1.elim
  | some d =>
    rw [q] at a1
    obtain ⟨ns, rfl, hl, rfl⟩ := Xx q
    obtain ⟨v, rfl, r1⟩ := aD.one r
    obtain ⟨p, ws, rfl, h1, h2⟩ := r1
    have ei := tH h2
    subst ei
    exact ⟨p, _, rfl, e1.fh _ _ h1, hl, fun b hb => ⟨b, _, _, rfl, cb, a1 _ _ (.dY e1.fh hb) _ rfl⟩⟩
end
end PM
namespace L2
open PySem PySem.Spec PyProof.Rows
section
variable{X:Cx}
end
end L2
namespace PM
open PySem L2
section
variable{K:Kx}{XO:cX}{E:L2.St->XK}
end
section
variable{K:Kx}{XO:cX}{E:St->XK}{ta tb te:TE}{ma mb me:En->R D}{t u:TS}{m n:En->O}{Λ:List (Nat×Addr×HO)}{F0 H0 F H F' H' F1 H1:Hp}{σ:St}{δ:En}{Dn:Ends}
theorem kL:∀{l:List D}{vs:List V}{fp:List Addr},aW K F H (l.map .d) vs fp↔aD K F l vs/\fp=[]
 |[],vs,fp=>by rfl |d::l,vs,fp=>by
  constructor;.rintro⟨v,r,f,g,rfl,rfl,⟨rfl,c⟩,e⟩;obtain⟨b,rfl⟩:=kL.mp e;exact⟨⟨v,r,rfl,c,b⟩,rfl⟩
  .rintro⟨⟨v,r,rfl,c,b⟩,rfl⟩;exact⟨v,r,_,_,rfl,rfl,⟨rfl,c⟩,kL.mpr ⟨b,rfl⟩⟩
theorem aW.append:∀{ts:List Tr}{vs:List V}{a:List Addr}{us:List Tr}{ws:List V}{f2:List Addr},aW K F H ts vs a->aW K F H us ws f2->aW K F H (ts++us) (vs++ws) (a++f2) |[],vs,a,us,ws,f2,h,b=>by obtain⟨rfl,rfl⟩:=h;exact b |t::ts,vs,a,us,ws,f2,h,b=>by obtain⟨v,r,e,f,rfl,rfl,d,c⟩:=h;exact⟨v,_,_,_,rfl,by simp,d,aW.append c b⟩
end
section
variable{K:Kx}{XO:cX}{E:St->XK}{ta tb te:TE}{ma mb me:En->R D}{t u:TS}{m n:En->O}{Λ:List (Nat×Addr×HO)}{F0 H0 F H F' H' F1 H1:Hp}{σ:St}{δ:En}{Dn:Ends}
end
section
variable{K:Kx}{XO:cX}{E:St->XK}{ta tb te to:TE}{ma mb me mo:En->R D}{t u:TS}{m n:En->O}{Λ:List (Nat×Addr×HO)}{F0 H0 F H F' H' F1 H1:Hp}{σ:St}{δ:En}{Dn:Ends}
end
section
variable{K:Kx}{XO:cX}{E:St->XK}{te ti tj:TE}{me mi mj:En->R D}{Λ:List (Nat×Addr×HO)}{F0 H0 F H:Hp}{σ:St}{δ:En}{Dn:Ends}
end
section
variable{K:Kx}{XO:cX}{E:L2.St->XK}{Λ:List (Nat×Addr×HO)}{F0 H0 F H:Hp}{σ:L2.St}{δ:En}{t:TS}{m:En->O}
end
section
variable{X:Cx}{K:Kx}{XO:cX}{E:L2.St->XK}{te:TE}{me:En->R D}{ca:Nat->Addr}{an:Nat->Str}
open Classical in
def zAv(x y:D):Option D:=match y with|.lst l=>cN (ja 7 x=true/\ja 8 (.lst l)=true) (some (.bl (!decide (x∈l)))) none|_=>none
end
end PM
namespace L2
open PySem PySem.Spec PyProof.Rows
section
variable{X:Cx}
section
variable{prog:Program}{w:World}{A:Around}{E:Value->Shared->Prop}{s:Shared}{a:Addr}{xs:Array (Int×Tok)}
end
end
end L2
namespace PM
open PySem L2
section
variable{K:Kx}
end
end PM
namespace L2
open PySem PySem.Spec PyProof.Rows
section
variable{prog:Program}{w:World}{A:Around}{E:Value->Shared->Prop}{s:Shared}
end
end L2
namespace L2
open PySem PySem.Spec PyProof.Rows PM
section
variable{X:Cx}{ca:Nat->Addr}{an:Nat->Str}
end
end L2
namespace PM
open PySem L2
section
variable{K:Kx}
end
section
variable{K:Kx}{XO:cX}{E:L2.St->XK}{F0 H0 F H F1 H1 F' H':Hp}
def rF(np:Nat)(m:En->R (List (List Int)))(ds:List D):R (List (List Int)):=if ds.length=np then m (mR 0 ds) else .no
def BC(K:Kx)(XO:cX)(f:List D->R (List (List Int))):Sp:=fun g H Q E=>∃F d,ax F H/\aD K F d g/\eJ (fun _=>E) XO [] F H (fun e F' H'=>∀a c,kI H' a c e->(∀b∈a::c,F' b=none/\H b=none)->Q (.ref a) H') (f d)
theorem XI{E:XK}(sp:BC K XO (rF np m) vs H Q E):vs.length=np:=by
 obtain⟨F,b,s,r,a⟩:=sp;unfold rF at a;split at a;.rwa[r.length]
 .exact a.elim
theorem XJ{E:XK}(h:zf K XO (fun _=>E) t m)(e:N.length=np)(sp:BC K XO (rF np m) vs H Q E):(pG t) {nx:=fun _ H'=>Q .non H',rt:=Q} (L2.start N vs) H:=by
 obtain⟨F,d,s,r,a⟩:=sp;unfold rF at a;split at a;.rename_i b;refine h _ F H F H _ _ _ (Gb (nv:=0) s r (by omega) b) ?_;cases q:m _ with |no=>rwa[q] at a |ok g=>rwa[q] at a |ex x=>rwa[q] at a
 .exact a.elim
def BD(f:List D->R (List (List Int)))(ml:En->R (List D))(δ:En):R (List (List Int)):=(ml δ).bind fun a=>(f a).i1
theorem Nz(h:SA K XO E g ml):zf K XO E (rS (BC K XO f) [] k g) (BD f ml):=fun j F0 H0 F H s m Q I a=>h _ _ _ F H _ _ _ I (a.bind.imp fun o F1 H1 c i l r=>⟨_,_,c.fh,by rwa[dN],eJ.imp (fun x w v n p q u t e=>p q _ t fun b d=>⟨(e b d).1,c.hh.free (e b d).2⟩) (eJ.any i)⟩)
theorem XM(t:kI H a bs c)(h:∀b∈a::bs,G b=H b):Rep K G (ng (ip c)) (.ref a):=MU (F:=fun _=>none) (fun _ _ z=>by cases z) _ (iX.mpr t).ok h
def vA(f:Str)(me:En->R (List (List Int)))(δ:En)(ks:List Str)(l:List D):R (List Str×List D):=(me δ).i1.bind fun a=>cN (ks.length<1000) (.ok (putN ks f,fC ks l f (ng (ip a)))) .no
theorem XN:vA f me δ ks l≠.ex x:=by unfold vA cN;cases me _ with |ok d=>simp[R.bA];grind |_=>exact fun h=>by cases h
theorem XQ(y:dI K.f (K.ca c)/\aE K.f (K.ca c) f)(h:zf K XO E J me):p5 K c (jL K.f (bZ 0) J f) (vA f me):=by intro F1 H1 F H σ δ x dx M l Dn L I Q h0 G n C a;refine h _ _ _ F H _ _ _ I ?_;unfold vA at a;cases q:me _ with |no=>rwa[q] at a |ex xx=>rw[q] at a;exact a.elim |ok ll=>
    rw[q] at a;intro r k e p i Y m;simp only[R.bA,R.aq,cN] at a;by_cases v:(M.map (·.1)).length<1000
    . rw[ao v] at a;have Z:=e.nw x _ G n;have s:∀b∈p::i,js r k (p::i) b=k b:=fun b g=>by unfold js;simp_all
      have d:∀b,b∉p::i->js _ k _ b=r b:=fun b g=>by unfold js;rw[ak g]
      have B:ax r (js _ _ _):=fun b o h=>by rwa[d b fun z=>by rw[(m b z).1] at h;cases h]
      have S:ax (js _ _ (p::i)) _:=fun b o h=>by
        unfold js at h;split at h;.exact h
        .exact e.fh b o h
      have X:x∉p::i:=fun z=>by rw[(m x z).2] at n;cases n
      have A:Ext F H _ _:=⟨e.ff.trans B,e.hh,S,fun b o g1 t=>by rw[d b fun z=>by rw[(m b z).2] at t;cases t];exact e.nw b o g1 t⟩;have j:js r k (p::i) x=none:=by rwa[d x X]
      have N:=fun b g=>I.ext.hh.free (m b g).2;have u:∀b∈p::i,cL F1 _ (js _ _ _) b=k b:=fun b g=>by unfold cL;rw[ak (fun w=>w.2 (N b g)),s b g]
      have T:Rep K _ _ _:=XM Y u;obtain⟨U,g4⟩:=xV T (C.mono (vz A.ff));exact⟨_,Q,x,_,_,_,rfl,(e.hh _ _ n),y.1,y.2,by simpa using v,a _ _ _ ((I.grow A).oh L h0 j) j cb U g4⟩
    .rw[ak v] at a;exact a.elim
theorem NA(b:dI K.f (K.ca c)/\aE K.f (K.ca c) f)(h:zf K XO E a me):iZ K XO E c (jL K.f (bZ 0) a f) (vA f me):=(XQ b h).x fun _ _ _ _=>XN
variable(K XO E) in
def G1(t:TE)(m:En->R Tr):Prop:=∀f F0 H0 F H c e Q,aw K f F0 H0 F H c e->eJ E XO c F H (fun T F' H'=>∀a d,Tab K F' H' a d T->(∀b∈a::d,F' b=none/\H b=none)->Q (.ref a) H') (m e)->t c H Q
end
end PM
namespace L2
open PySem PySem.Spec PyProof.Rows
section
variable{X:Cx}
theorem XR(f:s.TypeIs (.ref a) "list")(h:s.TypeIs (.ref b) "list")(g:wpAny M A (call (.builtin "list.__iadd__") [.ref a,.ref b]) Q E s):wpAny M A (inplaceOp .Add (.ref a) (.ref b)) Q E s:=by
 refine dz ?_;have e:typeLookup (.type "list") _=pure _:=F.slot_list_iadd.lookup;have d:fillsInplaceSlot (.type "list") "add" (Operator.Add==.Add)=pure false:=by show(typeLookup _ _>>=fun i=>pure _)=pure _;rw[e];(rfl)
 have c:seqSlot? (.type "list") (dunderI "add")=pure (some (.builtin "list.__iadd__")):=by unfold seqSlot?;rw[e];rfl
 refine ah (ji f (ah (wpAny_of_eq d (ah (wpAny_binaryOp1_none f h noFill_list_add ?_)))));exact ah (wpAny_of_eq c (ah (ib g)))
def NB:AD:=fun x y H Q=>∃l b c a,x=.ref l/\y=.ref b/\H l=some (.lst c)/\H b=some (.lst a)/\c.length+a.length<=sizeLine/\Q (.ref l) (upd H l (.lst (c++a)))
theorem XS:AE X .Add NB:=by
 rintro j s A H x y v u Q I m g ⟨l,b,w,p,rfl,rfl,i,k,B,q⟩;cases m;cases g;obtain⟨z,d,n,r,t,e⟩:=I.qT i;obtain⟨C,a,D,g,o,h⟩:=I.qT k;have f:d.toArray.size+a.toArray.size<=sizeLine:=by rw[dX,dX];lia
 have c:¬(!d.toArray.isEmpty&&Builtin.List.listTooLong (d.toArray.size+a.toArray.size))=true:=by rw[Li f];simp_all
 refine XR ⟨_,e,rfl⟩ ⟨_,h,rfl⟩ (call_meets F.slot_list_iadd ⟨_,e,rfl⟩ F.entry_list_iadd (F.args_list_iadd_2 _ _) (AutoSeq1.list___iadd___list_list_0 l _ n b _ _ c (by lia) (by lia)) ⟨e,h,(⟨.ref l,_,I.u9 i e (by simp) (r.append g) ?_,rfl,q⟩)⟩);simp_all
end
end L2
namespace PM
open PySem L2
section
variable{K:Kx}{XO:cX}{E:L2.St->XK}{F0 H0 F H F1 H1 F' H':Hp}
def BE(i:Nat)(me:En->R D)(δ:En):O:=match δ[i]? with
 |some (.o (.lst l))=>(me δ).ij δ fun d=>match d with |.lst r=>if l.length+r.length<=sizeLine then .nx (δ.set i (.o (.lst (l++r)))) else .no |_=>.no
 |_=>.no
theorem XT(h:iQ K XO E t me):SS K XO E (wX i t NB) (BE i me):=by
  intro B F0 H0 F H k A w I a;unfold BE at a;split at a
  . rename_i l q;obtain⟨p,f,G,v,g⟩:=I.own q;refine⟨_,f,h _ _ _ F H _ _ _ I ((cR.of I a).imp fun d F1 H1 e c b C x u=>?_)⟩
    cases d with |lst r=>
      dsimp at c;split at c
      . obtain⟨y,n,m⟩:=u;refine⟨p,b,_,_,rfl,rfl,e.hh _ _ v,n,by rwa[g.length,m.length],?_⟩;have s:k.set i (some (.ref p))=k:=by
          refine iB fun j=>?_;by_cases z:i=j;.subst z;rw[a_ (b_.mp f).1,f]
          simp_all
        show w.nx _ _;rw[s];exact c _ _ _ ((I.grow e).chg q f ⟨_,cb,(g.mono e.ff).append m⟩)
      .exact c.elim |_=>exact c.elim
  .exact a.elim
end
section
variable{K:Kx}{XO:cX}{E:L2.St->XK}{Λ:List (Nat×Addr×HO)}{F0 H0 F H:Hp}{σ:L2.St}{δ:En}
end
end PM
namespace L2
open PySem PySem.Spec PyProof.Rows
section
variable{prog:Program}{w:World}{A:Around}{E:Value->Shared->Prop}{s:Shared}
end
section
variable{X:Cx}
end
end L2
namespace PM
open PySem L2
section
variable{K:Kx}{XO:cX}{E:L2.St->XK}
end
end PM
namespace L2
open PySem PySem.Spec PyProof.Rows
def NC(C:Addr):TE:=fun _ H Q=>∀x a,H x=none->H a=none->a≠x->Q (.ref x) (upd (upd H a (.own x)) x (.ins C a []))
section
variable{X:Cx}{x:Str}{C:Addr}{p pos:Pos}
theorem XU(mk:PySem.W.makesIn X.K C=true)(hi:PySem.W.findIn X.K (.ref C) "__init__"=some (some (.builtin "object.__init__")))(g:PySem.W.keepIn X.K (.ref C)=true)(n:Gl X x)(k:X.mg x=some (.ref C))(c:(x==("__debug__":Str))=false:=by decide): PE X (.Call (.Name x p) [] [] pos) (NC C):=by
 intro d s q H Q I h;refine gr (yI I n k ?_ c);refine PySem.W.callWith_K0 I.gM g ?_;have f:=h (s.heap.objs.size+1) s.heap.objs.size (I.bD.fresh (gp _)) (I.bD.fresh (aC _)) (aY (eP _));have m:=Inv.made (C:=C) I;refine fU (Tf I.gM mk hi (fun a=>PySem.W.Looks.of_pure (PySem.W.oi_bind a)) ?_);have Y:=ph (M:=model X.prog X.w) I.gM mk;have i:((s.heap.push PySem.W.emptyDict).push (PySem.W.instObj C s.heap.objs.size)).get? (s.heap.objs.size+1)=some (PySem.W.instObj C s.heap.objs.size):=by have:=b9 (s.heap.push PySem.W.emptyDict) (o:=PySem.W.instObj C s.heap.objs.size) rfl;simp_all
 have l:PySem.W.Looks (model X.prog X.w) ((s.heap.push PySem.W.emptyDict).push (PySem.W.instObj C s.heap.objs.size)) (typeOf (.ref (s.heap.objs.size+1))) (.ref C):=(PySem.W.Looks.ld i).andThen .now;have j:PySem.W.Looks (model X.prog X.w) ((s.heap.push PySem.W.emptyDict).push (PySem.W.instObj C s.heap.objs.size)) (isInstance (.ref (s.heap.objs.size+1)) (.type _)) _:=l.andThen (Y.top.keeps fun b o e=>aK _ (aK _ e));refine l9 PySem.W.oi_plain PySem.W.entry_oi (@PySem.W.check_slot _ _ _ _ _ _ _ _ _ _ _ PySem.W.oi_kind rfl j (PySem.W.oi_args _) ?_);exact au (And.intro rfl ⟨V.ref _,_,m,rfl,f⟩)
end
end L2
namespace PM
open PySem L2
section
variable{K:Kx}{XO:cX}{E:L2.St->XK}{F0 H0 F H F1 H1 F' H':Hp}
theorem XW(f:C=K.ca c):iQ K XO E (NC C) (mC (.obj c [] [])):=by intro l F0 H0 F H j k Q I a x g b d h;have e:Ext F H F (upd H _ (.own x)):=.dY I.same d;have i:=e.trans (.dY (o:=.ins C g []) e.fh (by rw[bc (aR h)];exact b));exact a F _ i x (I.same.free b) b ⟨_,[],by rw[f];exact cb,rfl,rfl⟩
variable(K XO E) in
def ND(t:TE)(m:En->R Tr):Prop:=∀e F0 H0 F H a d Q,aw K e F0 H0 F H a d->eJ E XO a F H (fun T F' H'=>∀v c,de K F' H' T v c->c.Nodup->(∀b∈c,F' b=none/\H b=none)->Q v H') (m d)->t a H Q
def NF(ma a:En->R D)(δ:En):R Tr:=(ma δ).bind fun x=>(a δ).bind fun y=>match y with|.lst l=>.ok (.t [.d x,.l (l.map .d)])|_=>.no
theorem XX(r:SE K XO E q ma)(o:iQ K XO E k t):ND K XO E (sZ (eG q (eG k cA))) (NF ma t):=by
 intro A F0 H0 F H J B Q I a;refine r _ _ _ F H _ _ _ I (a.bind.imp fun x F1 H1 g j v w=>(o _ _ _ _ _ _ _ _ (I.grow g) (j.bind.imp fun y M L h i b C p s=>⟨by simp[sizeLine],fun c e=>?_⟩)))
 cases y with |lst l=>
  obtain⟨G,u,z⟩:=s;have d:Ext _ _ (upd _ c (.tup [v,.ref b])) _:=.new h.fh e;have f:=dH u e;refine i _ _ d _ [b] ?_ (by simp) fun y n=>?_;.exact⟨c,_,rfl,cb,v,_,_,_,rfl,rfl,⟨rfl,Rep.mono (h.ff.trans d.ff) x w⟩,_,_,_,_,rfl,rfl,⟨b,_,_,rfl,rfl,by rwa[bc f],kL.mpr ⟨z.mono d.ff,rfl⟩⟩,rfl,rfl⟩
  .rw[cY.mp n];exact⟨by rwa[bc f],g.hh.free p⟩ |_=>exact i.elim
def BF(b:D->En->Option En)(me:En->R Tr)(δ:En)(d:D):R Tr:=match b d δ with |none=>.no |some a=>(me a).i1
def tV(f:D->R Tr):List D->R (List Tr) |[]=>.ok [] |d::l=>(f d).bind fun o=>(tV f l).bind fun r=>.ok (o::r)
def G2(mi:En->R (List D))(c:List Nat)(n:Nat)(b:D->En->Option En)(me:En->R Tr)(δ:En):R Tr:= (mi δ).bind fun a=>cN (a.length<=sizeLine) ((tV (BF b me (c3 δ c n)) a).i1.bind fun l=>.ok (.l l)) .no
theorem XY(h:tV f (d::l)=.ok r):∃o a,f d=.ok o/\tV f l=.ok a/\r=o::a:=by unfold tV at h;cases q:f d with |no=>simp_all |ex x=>simp_all |ok o=> rw[q] at h;cases b:tV f l with |no=>simp_all |ex x=>simp_all |ok a=>rw[b] at h;cases h;simp
mutual
theorem XZ : ∀ (T : Tr) {v : V} {fp : List Addr}, de K F H T v fp -> ∀ b ∈ fp, ∃ o, H b = some o
 | .d x, v, fp, h, b, e => by
  rw [h.1] at e; cases e
 | .l _, v, fp, h, b, e => by
  obtain ⟨a, i, m, _, rfl, k, f⟩ := h
  rcases aU.mp e with rfl | e
  . simp_all
  . exact BG _ f b e
 | .t _, v, fp, h, b, e => let ⟨a, _, _, _, f⟩ := h;BG _ f b e
theorem BG : ∀ (j : List Tr) {i : List V} {fp : List Addr}, aW K F H j i fp -> ∀ b ∈ fp, ∃ o, H b = some o
 | [], i, fp, h, b, e => by
  simp only [aW] at h
  rw [h.2] at e; cases e
 | t :: j, i, fp, h, b, e => by
  simp only [aW] at h
  obtain ⟨v, r, n, p, _, rfl, k, f⟩ := h
  rcases cO.mp e with e | e
  . exact XZ t k b e
  . exact BG j f b e
end
theorem X0(hi:xq K XO E wi mi)(Bf:L.Nodup)(hg:SG K g b)(hw:BW b)(he:ND K XO EN te me):G1 K XO E (yS wi L n g none te) (G2 mi L n b me):=by
  intro Λ F0 H0 F H σ M Q I a;refine hi Λ F0 H0 F H σ M _ I (a.bind.imp fun j F1 H1 e1 U J hJ p Z=>?_);unfold cN at U;split at U;case isFalse=>exact U.elim
  have I1:=I.grow e1;obtain⟨f,Ic,pU,q9⟩:=F9 (n:=n) I1 Bf;cases s:(tV (BF b me (c3 M L n)) j).i1 with |no=>rw[s] at U;exact U.elim |ex x=>cases q2:tV (BF b me (c3 M L n)) j<;>(rw[q2] at s;cases s) |ok l=>
  rw[s] at U;have qg:=bA s;have X:∀x∈f,∃d,(c3 M L n)[x.1]?=some (.l d):=fun x hx=>(Ic.eZ x hx).1;have Bg:∀x∈f,x.2.1≠p:=fun x hx e=>by grind
  have p0:H0 p=none:=I1.ext.hh.free Z;have f1:F1 p=none:=e1.fh.free Z;refine⟨fun i k ys T m=>∃N B l2 G,aw K f F0 H0 N m T (c3 M L n)/\Ext F1 H1 N m/\m p=some (.lst ys)/\aW K N m B ys G/\(p::G).Nodup/\(∀c∈p::G,N c=none/\H1 c=none)/\tV (BF b me (c3 M L n)) (j.drop i)=.ok l2/\l=B++l2/\k=j.length-i/\i<=j.length/\ys.length<=i, ⟨_,F1,[],l,[],?_,.dY e1.fh Z,cb,by simp[aW],by simp,fun c A=>?_,qg,rfl,rfl,bR _,aC _⟩,?_⟩;.exact Ic.grow (.dY e1.fh Z)
  .rw[cY.mp A];exact⟨f1,Z⟩
  rintro i k ys T m ⟨N,B,l2,G,I2,x2,h,tb,nd,t,qd,rfl,rfl,Ga,Bh⟩;refine⟨h,?_⟩;by_cases q_:i<j.length;.have e:j.drop i=j[i]::j.drop (i+1):=nG q_;rw[e] at qd;obtain⟨Y,l3,q1,q3,rfl⟩:=XY qd;obtain⟨h1,h2⟩:=(hJ N m x2 i).1 j[i] (by simp);refine .inr ⟨h1,fun C tE H'=>∃F' u,aw K f F0 H0 F' H' tE (c3 M L n)/\Ext F1 H1 F' H'/\H' p=some (.lst C)/\aW K F' H' (B++[Y]) C u/\(p::u).Nodup/\(∀c∈p::u,F' c=none/\H1 c=none)/\C.length<=i+1, fun C tE H' ⟨F',u,w1,w2,w3,w4,w5,w6,w7⟩=>⟨_,by omega,F',B++[Y],l3,u,w1,w2,w3,w4,w5,w6,q3,by simp,rfl,q_,w7⟩,fun x H' y=>?_⟩;obtain⟨F3,e3,rx⟩:=h2 x H' y;unfold BF at q1;cases qb:b j[i] (c3 M L n) with |none=>simp_all |some G3=>
      rw[qb] at q1;refine hg f F0 H0 F3 H' T _ _ x G3 _ (I2.grow e3) rx qb fun v_ I3=>?_;have qm:=bA q1;refine he f F0 H0 F3 H' v_ G3 _ I3 ?_;rw[qm];intro F5 H5 e5 v fp tv X1 fv;have z:=e3.trans e5;have z2:F5 p=none:=z.nw p _ (t p (by simp)).1 h;have NG:∀c∈fp,m c=none:=fun c A=>e3.hh.free (fv c A).2;have sT:∀q∈p::G,q∉fp:=fun q S w=>by
        have:∃o,m q=some o:=by
          rcases aU.mp S with rfl|S;.exact⟨_,h⟩
          .exact BG B tb q S
        obtain⟨o,ho⟩:=this;rw[NG q w] at ho;cases ho
      have pf:p∉G:=(iF.mp nd).1;refine⟨z.hh _ _ h,?_,F5,G++fp,((I3.grow e5).qF (hw _ _ _ qb) X).side pU Bg p0 z2,?_,cb,aW.append (aW.at' B (aW.mono z.ff z.hh B tb) fun c A=>bc fun w=>pf (w▸A)) ?_,?_,fun q S=>?_,by simpa using Bh⟩;.lia
      .have w:=x2.trans z;exact⟨w.ff,fun c o q=>by rw[bc (dH q Z)];exact w.hh c o q,fun c o q=>by rw[bc (dH q z2)];exact w.fh c o q,w.nw⟩
      .exact⟨v,[],fp,[],rfl,by rw[dN],de.at' Y tv fun c A=>bc fun w=>sT p (by simp) (w▸A),rfl,rfl⟩
      .rw[<-qh,lO];exact⟨nd,X1,fun q S r hr ee=>sT q S (ee▸hr)⟩
      . rw[<-qh] at S;rcases cO.mp S with w|w
        . have:∃o,m q=some o:=by
            rcases aU.mp w with rfl|w;.exact⟨_,h⟩
            .exact BG B tb q w
          obtain⟨o,ho⟩:=this;exact⟨z.nw q o (t q w).1 ho,(t q w).2⟩
        .exact⟨(fv q w).1,x2.hh.free (NG q w)⟩
  . have e:i=j.length:=by lia
    subst e;rw[qi] at qd;cases qd;refine .inl ⟨(hJ N m x2 _).2 (by simp),U N m x2 p G ⟨?_,nd⟩ fun c A=>⟨(t c A).1,e1.hh.free (t c A).2⟩⟩;rw[dN];exact⟨p,ys,G,rfl,rfl,h,tb⟩
mutual
def wB : Tr -> Bool
 | .d x => nZ x
 | .l b => vB b
 | .t b => vB b
def vB : List Tr -> Bool
 | [] => true
 | t :: b => wB t && vB b
end
mutual
theorem NH {G : Hp} (x : Ext (ik F1 H1) H1 F H) (g : ax (cL F1 H1 F) G) : ∀ (T : Tr) {v : V} {fp : List Addr}, wB T = true -> de K F H T v fp -> (∀ b ∈ fp, G b = H b) -> Rep K G (ng T) v
 | .d d, v, fp, c, h, _ => Rep.mono g d (Dk x d c h.2)
 | .l _, v, fp, c, h, e => by
  obtain ⟨a, j, q, rfl, rfl, o, m⟩ := h
  exact ⟨a, _, rfl, by simp_all, G4 x g _ c m fun b n => e b (by simp [n])⟩
 | .t _, v, fp, c, h, e => by
  obtain ⟨a, j, rfl, o, m⟩ := h
  exact ⟨a, _, rfl, g _ _ (Gf x o (fun _ z => by cases z) (fun _ z => by cases z) (fun _ _ z => by cases z) (fun _ _ _ z => by cases z)), G4 x g _ c m e⟩
theorem G4 {G : Hp} (x : Ext (ik F1 H1) H1 F H) (g : ax (cL F1 H1 F) G) : ∀ (k : List Tr) {j : List V} {fp : List Addr}, vB k = true -> aW K F H k j fp -> (∀ b ∈ fp, G b = H b) -> aD K G (gf k) j
 | [], j, fp, c, h, _ => by
  simp only [aW] at h
  simp only [gf, aD]; exact h.1
 | t :: k, j, fp, c, h, e => by
  simp only [aW] at h
  simp only [vB, jH] at c
  obtain ⟨v, r, p, s, rfl, rfl, o, m⟩ := h
  simp only [gf]
  exact .cons (NH x g t c.1 o fun b n => e b (lL _ n)) (G4 x g k c.2 m fun b n => e b (eO _ n))
end
def xY(f:Str)(me:En->R Tr)(δ:En)(ks:List Str)(l:List D):R (List Str×List D):=(me δ).i1.bind fun T=>cN (ks.length<1000/\wB T=true) (.ok (putN ks f,fC ks l f (ng T))) .no
theorem X2:xY f me δ ks l≠.ex x:=by unfold xY cN;cases me _ with |ok d=>simp[R.bA];grind |_=>exact fun h=>by cases h
theorem X3(B:dI K.f (K.ca c)/\aE K.f (K.ca c) f)(h:G1 K XO E Z me):p5 K c (jL K.f (bZ 0) Z f) (xY f me):=by intro F1 H1 F H σ δ x dx L l Dn M I N h0 C m X a;refine h _ _ _ F H _ _ _ I ?_;unfold xY at a;cases q:me _ with |no=>rwa[q] at a |ex xx=>rw[q] at a;exact a.elim |ok T=>
    rw[q] at a;intro s k e p i J r;simp only[R.bA,R.aq,cN] at a;by_cases n:(L.map (·.1)).length<1000/\wB T=true
    . rw[ao n] at a;have G:=e.hh _ _ m;have U:=e.nw x _ C m;have v:∀b∈p::i,js s k (p::i) b=k b:=fun b g=>by unfold js;grind
      have d:∀b,b∉p::i->js _ k _ b=s b:=fun b g=>by unfold js;rw[ak g]
      have y:ax s (js _ _ _):=fun b o h=>by rwa[d b fun z=>by rw[(r b z).1] at h;cases h]
      have S:ax (js _ _ (p::i)) _:=fun b o h=>by
        unfold js at h;split at h;.exact h
        .exact e.fh b o h
      have Y:x∉p::i:=fun z=>by rw[(r x z).2] at m;cases m
      have A:Ext F H _ _:=⟨e.ff.trans y,e.hh,S,fun b o g1 t=>by rw[d b fun z=>by rw[(r b z).2] at t;cases t];exact e.nw b o g1 t⟩;have j:js s k (p::i) x=none:=by rwa[d x Y]
      have Q:=I.grow A;have u:∀b∈p::i,cL F1 _ (js _ _ _) b=k b:=fun b g=>by unfold cL;rw[ak (fun w=>w.2 ((fun b g=>I.ext.hh.free (r b g).2) b g)),v b g]
      obtain⟨g3,g4⟩:=xV (NH (I.grow e).ext (vz y) T n.2 J.ok u) (X.mono (vz A.ff));exact⟨_,N,x,_,_,_,rfl,G,B.1,B.2,by simpa using n.1,a _ _ _ (Q.oh M h0 j) j cb g3 g4⟩
    .rw[ak n] at a;exact a.elim
theorem X4(b:dI K.f (K.ca c)/\aE K.f (K.ca c) f)(h:G1 K XO E a me):iZ K XO E c (jL K.f (bZ 0) a f) (xY f me):=(X3 b h).x fun _ _ _ _=>X2
def G5:D->Bool |.lst _=>true |_=>false
def xZ(f g:Str)(m:List D->R D)(a:En)(ks:List Str)(l:List D):R (List Str×List D):=match kK ks l g with |some d=>(m [d]).i1.bind fun r=>cN (ks.length<1000/\G5 r=true) (.ok (putN ks f,fC ks l f r)) .no |none=>.no
def vD(F G:Hp):Hp:=fun b=>match F b with|some o=>some o|none=>G b
theorem X5(Q:dI K.f (K.ca c)/\aE K.f (K.ca c) f)(X:dI K.f (K.ca c)/\aE K.f (K.ca c) g):p5 K c (jL K.f (bZ 0) (rS (vo K XO m) [] E' (eG (uV K.f (bZ 0) g) cA)) f) (xZ f g m):=by intro F1 H1 F H σ δ x U J l Dn hv I N h0 hF C M a;unfold xZ at a;cases S:kK (J.map (·.1)) l g with |none=>simp_all |some d=> rw[S] at a;dsimp at a;obtain⟨v,lk,rv⟩:=GO rfl M S;have sm:ax (cL F1 H1 F) H:=qJ.trans I.ext.fh;refine⟨_,N,x,_,U,J,v,rfl,C,X.1,X.2,lk,cL F1 H1 F,[d],sm,by exact .cons rv .nil,?_⟩;cases q:m [d] with |no=>rwa[q] at a |ex xx=>rw[q] at a;exact a.elim |ok r=>
      rw[q] at a;simp only[R.bA,R.aq,cN] at a;intro i Y e p n B o;by_cases z:(J.map (·.1)).length<1000/\G5 r=true;.rw[ao z] at a;cases r with |lst r=>
          obtain⟨j,g1,g2⟩:=o;have A:=GW e n B g1;have mN:∀b,F b=none->cL F1 H1 F b=none:=fun b h=>by
            unfold cL;split;.rfl
            omega
          have G:ax F (vD F (upd i p (.lst j))):=fun b u h=>by unfold vD;rw[h]
          have T:Ext F H (vD F (upd i p (.lst j))) Y:=by
            refine⟨G,e.hh,fun b u h=>?_,fun b u h hh=>?_⟩
            . unfold vD at h;split at h;.rename_i o' hz;cases h;exact e.hh _ _ (I.ext.fh _ _ hz)
              .exact A.fh b u h
            .unfold vD;rw[h];exact A.nw b u (mN b h) hh
          have s2:ax (upd i p (.lst j)) (cL F1 H1 (vD F (upd i p (.lst j)))):=fun b u h=>by cases w:cL F1 H1 F b with |some L=> have:=A.ff b L w;rw[h] at this;cases this;exact vz G b _ w |none=>
              have t:H b=none:=by cases y:H b with |none=>rfl |some L=> have:=A.nw b L w y;simp_all
              have Z:H1 b=none:=I.ext.hh.free t;have fb:F b=none:=I.ext.fh.free t;unfold cL;unfold vD;simp_all
          have s:vD F (upd i p (.lst j)) x=none:=T.nw x _ hF C;have rp:Rep K (cL F1 H1 (vD F (upd i p (.lst j)))) (.lst r) (.ref p):=by refine Rep.mono s2 _ ?_;exact⟨p,_,rfl,cb,g2.mono fun b u h=>by rw[bc (dH h n)];exact h⟩
          obtain⟨g3,g4⟩:=xV rp (M.mono (vz G));exact⟨_,N,x,_,U,_,rfl,(e.hh _ _ C),Q.1,Q.2,by simpa using z.1,a _ _ _ ((I.grow T).oh hv h0 s) s cb g3 g4⟩ |_=>cases z.2
      lia
theorem X6:xZ f g m δ ks l≠.ex x:=by unfold xZ cN;cases kK _ l g with |none=>simp |some d=> dsimp;cases m _ with |ok d=>simp[R.bA];grind |_=>exact fun h=>by cases h
theorem X7(b:dI K.f (K.ca c)/\aE K.f (K.ca c) f)(a:dI K.f (K.ca c)/\aE K.f (K.ca c) g):iZ K XO E c (jL K.f (bZ 0) (rS (vo K XO m) [] d (eG (uV K.f (bZ 0) g) cA)) f) (xZ f g m):=(X5 b a).x fun _ _ _ _=>X6
def NI:List D->Option D |[.dc a l]=>some (.dc a l) |_=>none
def DI(ml:En->R (List D))(δ:En):R D:=(ml δ).bind fun l=>R.of (NI l)
theorem X8(h:SA K XO E g ml):iQ K XO E (qR Nd g) (DI ml):=by
 intro m F0 H0 F H o n Q I a;refine h _ _ _ F H _ _ _ I (a.bind.imp fun s F1 H1 b c q r=>?_);unfold NI at c;split at c;.obtain⟨v,rfl,e⟩:=aD.one r;obtain⟨p,k,rfl,i,j,f⟩:=e;exact⟨p,_,rfl,.inl (b.fh _ _ i),fun l d=>c _ _ (.dY b.fh d) l (b.fh.free d) (b.hh.free d) ⟨_,cb,j,f⟩⟩
 .exact c.elim
end
section
variable{K:Kx}{XO:cX}{E:L2.St->XK}{Λ:List (Nat×Addr×HO)}{F0 H0 F H:Hp}{σ:L2.St}{δ:En}
def BH(p:D×List D):Tr:=.t [.d p.1,.l (p.2.map .d)]
end
section
variable{K:Kx}{XO:cX}{E:L2.St->XK}{F0 H0 F H F1 H1 F' H':Hp}{α:Type}{An:α->V->Hp->Hp->Hp->Prop}
end
end PM
namespace HT
open PySem PyProof.Rows
section
open PySem.SeqAt
open PySem.AutoSeq1 (wpAny_loadPart')
open PySem.MeetsSeq PySem.MeetsSeq2 PySem.MeetsSeq3
variable{prog:Program}{w:World}{A:Around}{E:Value->Shared->Prop}{s:Shared}
theorem iq{lo hi:Option Int}(a:IsTup s.heap t items)(f:s.heap.IsSliceOf g l i .none)(pl:IsPart l lo)(k:IsPart i hi) (m:dn items.size 0 lo=0/\dn items.size items.size hi=items.size)(h:Q (.ref t) s):wpAny (model prog w) A (getItem (.ref t) (.ref g)) Q E s:=by
 obtain⟨os,c,e,j⟩:=id f;have d:s.TypeIs (.ref _) _:=⟨_,c,e⟩;unfold getItem;try with_reducible refine dz ?_
 refine ah (wpAny_sequenceKey a.typeIs rfl (ah (h8 a.typeIs je (h_ je a.typeIs entry_tuple_getitem ?_ (args_tuple_getitem _ _)))));show wpAny _ _ (Builtin.Tuple.tupleItemsOf _>>=_) _ _ s;refine ah (tupleItemsOf_ a (ah (ji d (ah (La f pl k ?_)))));have b:((dn items.size 0 lo:Int)==0&&(1:Int)==1&&(dn items.size items.size hi-dn items.size 0 lo)==items.size)=true:=by simp_all
 show wpAny _ _ (if((dn _ 0 _:Int)==0&&1==1&&(dn _ _ _-dn _ 0 _)==items.size)=true then _ else _) _ _ s;rw[ao b];refine ah (ah (ji a.typeIs (au ?_)));first |exact ah (ib (au ⟨_,rfl,au h⟩)) |rfl
end
end HT
namespace L2
open PySem PySem.Spec PyProof.Rows
section
variable{X:Cx}
def BI(K:PySem.W.Frag):V->Option Int->Option Int->Hp->VK->Prop:=fun x lo c H Q=>∃a b,x=.ref a/\hO K H a b/\ ((HT.dn b.length 0 lo=0/\HT.dn b.length b.length c=b.length)->Q x H)/\(¬(HT.dn b.length 0 lo=0/\HT.dn b.length b.length c=b.length)->∀p,H p=none->Q (.ref p) (upd H p (.tup (mL b lo c))))
theorem G6:CT X (BI X.K):=by
 rintro j s w H x v q u lo o t Q I i e g d ⟨a,b,rfl,h,m,n⟩;by_cases c:HT.dn b.length 0 lo=0/\HT.dn b.length b.length o=b.length;.cases i;obtain⟨l,r,f,p⟩:=I.tuple h;have k:=r.length.symm;exact⟨_,_,je.lookup,f.typeIs,HT.iq f e g d (by simp_all) ⟨.ref a,H,I,rfl,m c⟩⟩
 .exact TH _ s _ H _ v _ _ _ _ _ Q I i e g d ⟨a,_,rfl,h,c,n c⟩
end
section
variable{P:Program}{w:World}{K:PySem.W.Frag}{mg:Str->Option Value}{base:Heap}{d:V}
theorem rA.C5{st:Stmt}(F:rA K x b st f fd d)(S:bW N ps (cQ st))(h:∀vs H Q E,sp vs H Q E->vs.length=ps.length) (c:∀(e:Value)(A:Around)(a:List Env)(s:Shared)(H:Hp)(vs:List V)(Q:VK)(E:XK),cm k (A.deeper (envOfC b (cQ st) s.heap.objs.size f e))->sp vs H Q E-> ∃t,mG (kE P w K mg base N b (cQ st) f e A a s H E) (kR st) t/\t {nx:=fun _ H'=>Q .non H',rt:=Q} (start N vs) H):cq P w K mg base (qU P w) (k+1) f fd ps sp:=by obtain⟨u,p,T,kV,l,o,r,e,q,m,rfl,j,i,_⟩:=F.ex;exact CS j i S h fun A a s H vs Q E n g=>c _ A _ s H _ Q E n g
end
section
variable{X:Cx}{CX:jC}{k:Nat}{x:Str}{ps:List Str}{sp:Sp}{p pos:Pos}{a:Expr}{ta:TE}{d:V}
theorem X9(G:xU X.prog X.w X.K X.mg X.base CX k x ps sp d)(j:cm k X.A)(l:Gl X x)(m:nP CX X E)(n:PE X a ta) (b:(x==("__debug__":Str))=false:=by decide)(h1:starEach [a] X.env=(false,eval a X.env)::starEach [] X.env:=by rfl)(c:(backTo pos (starEach [] X.env)).any (·.1)=false:=by rfl): PE X (.Call (.Name x p) [a] [] pos) (rS sp [] E (eG ta (eG (tC d) cA))):=by obtain⟨f,q,F,o,h,_,u,i,e⟩:=G.ex;have:=K3 (p:=p) F j l o h e (.cons i .nil) m (bQ n cn h1) b h1 c;exact this
end
end L2
namespace PM
open PySem L2
section
variable{K:Kx}{XO:cX}{E:L2.St->XK}{F0 H0 F H F1 H1 F' H':Hp}
def x5(i:Nat)(me:En->R D)(δ:En):O:=match δ[i]? with |some (.o (.lst l))=>(me δ).ij δ fun d=>(match d with|.lst r=>cN (l.length+r.length<=sizeLine) (.nx (δ.set i (.o (.lst (l++r))))) .no|_=>.no) |_=>.no
theorem NJ(h:iQ K XO E s me):SS K XO E (sV (xj K.f "list" Lj (bZ i) (eG s cA))) (x5 i me):=by
  intro z F0 H0 F H w t y I a;unfold x5 at a;split at a
  . rename_i l q;obtain⟨p,j,A,k,f⟩:=I.own q;refine⟨_,j,.inl ⟨rfl,_,.inl (.inl k)⟩,(h _ _ _ F H _ _ _ I ((cR.of I a).imp fun d F1 H1 e c b v u m=>?_))⟩
    cases d with |lst r=>
      obtain⟨x,o,g⟩:=m;dsimp at c;unfold cN at c;split at c;.exact⟨p,b,_,_,rfl,rfl,e.hh _ _ k,o,by rwa[f.length,g.length],c _ _ _ ((I.grow e).chg q j ⟨_,cb,(f.mono e.ff).append g⟩)⟩
      .exact c.elim |_=>exact c.elim
  .exact a.elim
def encC(c:List Int):D:=.tup (c.map .int)
def pS(c:List Int):List (List Int):=(List.range (c.length+1)).map (c.take .)
def kc(c:List Int):List Key:=c.map Sum.inl
end
end PM
namespace L2
open PySem PySem.Spec PyProof.Rows
open Builtin Builtin.Str
section
variable{X:Cx}{tg:Expr}{pos:Pos}
end
end L2
namespace L2
open PySem PySem.Spec PyProof.Rows
section
variable{X:Cx}{a b:Expr}{ta tb:TE}{pos p1 p2 p3:Pos}
end
end L2
namespace PM
open PySem L2
section
variable{K:Kx}{XO:cX}{E:L2.St->XK}{ta tb te:TE}{ma mb me:En->R D}
end
end PM
namespace L2
open PySem PySem.Spec PyProof.Rows
section
variable{X:Cx}{x:Str}{pos:Pos}
end
end L2
namespace PM
open PySem L2
section
variable{K:Kx}
end
end PM
namespace L2
open PySem PySem.Spec PyProof.Rows
section
variable{prog:Program}{w:World}{A:Around}{E:Value->Shared->Prop}{s:Shared}
end
section
variable{X:Cx}
end
end L2
namespace PM
open PySem L2
section
variable{K:Kx}{XO:cX}{E:L2.St->XK}
end
end PM
namespace L2
open PySem PySem.Spec PyProof.Rows
section
variable{X:Cx}
end
end L2
namespace PM
open PySem L2
section
variable{K:Kx}{XO:cX}{E:L2.St->XK}{Λ:List (Nat×Addr×HO)}{F0 H0 F H F1 H1 F' H':Hp}{σ:L2.St}{δ:En}
end
end PM
namespace L2
open PySem PySem.Spec PyProof.Rows
section
variable{X:Cx}
end
end L2
namespace PM
open PySem L2
section
variable{K:Kx}{XO:cX}{E:L2.St->XK}{te:TE}{me:En->R D}
end
end PM
namespace L2
open PySem PySem.Spec PyProof.Rows
section
variable{X:Cx}{CX:jC}{k n:Nat}{x:Str}{ps:List Str}{sp:Sp}{E:XK}{p pos:Pos}{e:Expr}{es:List Expr}{t:TA}
theorem bU(G:uk X.prog X.w X.K X.mg X.base CX k x ps sp)(f:cm n X.A)(d:nP CX X E)(i:PA X (e::es) t)(c:k<=n:=by decide)(h:Gl X x:=by rfl)(a:(x==("__debug__":Str))=false:=by decide) (g:starEach (e::es) X.env=(false,eval e X.env)::starEach es X.env:=by rfl)(b:(backTo pos (starEach es X.env)).any (·.1)=false:=by rfl):PE X (.Call (.Name x p) (e::es) [] pos) (rS sp [] E t):=Fx G (f.mono c) h d i a g b
theorem zt{E:St->XK}(G:uk X.prog X.w X.K X.mg X.base CX k x ps sp)(f:cm n X.A)(d:FC CX X E)(i:PA X (e::es) t)(c:k<=n:=by decide)(h:Gl X x:=by rfl)(a:(x==("__debug__":Str))=false:=by decide) (g:starEach (e::es) X.env=(false,eval e X.env)::starEach es X.env:=by rfl)(b:(backTo pos (starEach es X.env)).any (·.1)=false:=by rfl):PE X (.Call (.Name x p) (e::es) [] pos) (FD sp E t):=UA G (f.mono c) h d i a g b
theorem jt{N P:List Str}(h1:a.kind=.function:=by rfl)(h2:a.isCoroutine=false:=by rfl)(h3:a.isGenerator=false:=by rfl)(d:N.Nodup:=by decide+kernel)(b:N.take P.length=P:=by rfl) (c:∀x∈P,a.names.lookup x=some .local\/a.names.lookup x=some .cell:=by decide+kernel)(f:∀y∈a.names,y.2≠.free:=by decide+kernel):bW N P a:=⟨h1,h2,h3,d,b,c,f⟩
end
section
variable{X:Cx}{xe:Value->Shared->Prop}{pins:List (Addr×Obj)}{σ:St}{H:Hp}{s:Shared}
end
section
variable{M:Model}{A:Around}{E:Value->Shared->Prop}{s:Shared}{B:Heap}{env X_:Env}{outer l:List Env}{L e:Addr}{cls:Value}{dc:Option Addr}{fl:Value}{Q:Unit->Shared->Prop}
end
section
variable{X:Cx}{E:XK}{C:Addr}{e:Value}{s':Shared}
end
section
variable{prog:Program}{w:World}{A:Around}{R:Result->Shared->Prop}{s:Shared}
end
section
variable{X:Cx}{scope:Scope}{N':List Str}{ix:List Nat}{n:Nat}{tg elt iter:Expr}{g:TG}{te:TE}{pos:Pos}{E0:XK}
end
section
variable{P:Program}{w:World}{K:PySem.W.Frag}{mg:Str->Option Value}{base:Heap}{N:List Str}{qual:Str}{scope:Scope}{f:Addr}{cd:Value}{A:Around}{outer:List Env}{s0:Shared}{H0:Hp}{E:XK}
end
end L2
namespace PM
open PySem L2
section
variable{K:Kx}{XO:cX}{E0:XK}{te:TE}{me:En->R D}
end
section
variable{K:Kx}{XO:cX}{E:L2.St->XK}
def lj(me:En->R D)(ml mh:En->R (Option Int))(δ:En):R D:=(me δ).bind fun d=>(ml δ).bind fun b=>(mh δ).bind fun a=>(R.of (Bb d)).bind fun l=>.ok (.tup (cutD l b a))
theorem G7 {te : TE} {me : En → R D} {tl th : TO} {ml mh : En → R (Option Int)} (h : lV K XO E te me) (hl : SO K XO E tl ml) (hh : SO K XO E th mh) : SE K XO E (E3 (BI K.f) te tl th) (lj me ml mh) := by
  intro Λ F0 H0 F H σ δ Q I a
  refine h _ _ _ F H _ _ _ I (a.bind.imp fun d F1 H1 e1 a1 v r => ?_)
  refine hl _ _ _ _ _ _ _ _ (I.grow e1) (a1.bind.imp fun lo F2 H2 e2 a2 => (hh _ _ _ _ _ _ _ _ ((I.grow e1).grow e2) (a2.bind.imp fun hi F3 H3 e3 a3 => ?_)))
  cases d with
  | tup l =>
    obtain ⟨p, vs, rfl, h1, h2⟩ := r
    have ln := h2.length
    refine ⟨p, _, rfl, .inl (.inl (e3.hh _ _ (e2.hh _ _ (e1.fh _ _ h1)))), fun hw => ?_, fun hn q hq => ?_⟩
    · have e : cutD l lo hi = l := by
        unfold cutD
        simp_all
      refine a3 _ _ (.refl e3.fh) _ ?_
      rw [e]
      exact ⟨p, _, rfl, e3.ff _ _ (e2.ff _ _ h1), h2.mono (e2.ff.trans e3.ff)⟩
    · refine a3 _ _ (.new e3.fh hq) _ (⟨q, _, rfl, cb, ?_⟩)
      have h3 := (h2.mono (e2.ff.trans e3.ff)).mono (show ax _ (upd _ q (.tup (mL vs lo hi))) from ax.upd (e3.fh.free hq))
      generalize upd _ q _ = G at h3 ⊢
      unfold mL cutD
      rw [ln]
      exact (h3.drop _).take _
  | _ => exact a3.elim
def BJ(i:Nat)(δ:En):O:=match δ[i]? with |some (.o (.lst l))=>(match l[l.length-1]? with|some _=>.nx (δ.set i (.o (.lst l.dropLast)))|none=>.no) |_=>.no
theorem X':SS K XO E (sV (xh K.f "list" xl (bZ i))) (BJ i):=by
 intro m n h F H s g k I a;unfold BJ at a;split at a;.rename_i l q;obtain⟨p,c,r,f,b⟩:=I.own q;cases e:l[l.length-1]? with |none=>simp[e] at a;exact a.elim |some d=> simp[e] at a;obtain⟨v,j,o⟩:=b.get e;exact⟨_,c,.inl ⟨rfl,_,.inl (.inl f)⟩,p,_,v,rfl,rfl,f,by rwa[b.length],a _ F _ (I.chg q c ⟨_,cb,b.dropLast⟩)⟩
 .exact a.elim
end
end PM
namespace L2
open PySem PySem.Spec PyProof.Rows
section
variable{X:Cx}{x:Str}{e a b o:Expr}{te ta tb to:TE}{p pos pos' apos:Pos}{tg elt:Expr}
theorem pS(i:Nat)(c:X.N.Nodup)(f:PE X e te)(hi:X.N[i]?=some x:=by rfl)(d:Loc X.env.scope x:=by first|exact Or.inl rfl|exact Or.inr rfl)(h:swapsWith e (some (.Name x pos')) pos.line X.env=pure false:=by rfl) (g:X.fn x=true\/X.env.scope.names.lookup x=some .local:=by first|exact .inl rfl|exact .inr rfl|assumption):PS X (.Assign [.Name x pos'] e pos) (iJ te (qP i)):=mZ c hi d f h g
theorem pN(i:Nat)(c:X.N.Nodup)(hi:X.N[i]?=some x:=by rfl)(d:Loc X.env.scope x:=by first|exact Or.inl rfl|exact Or.inr rfl)(f:X.fn x=true\/X.env.scope.names.lookup x=some .local:=by first|exact .inl rfl|exact .inr rfl|assumption):PG X (.Name x pos) (qP i):=AF c hi d f
theorem pB{id:String}(i:m7 X (.builtin id) r)(l:X.mg x=none)(g:bootBuiltins x=some (.builtin id))(k:PA X (e::es) t)(j:Gl X x:=by rfl)(f:x≠"__name__":=by decide)(c:(x==("__debug__":Str))=false:=by decide) (h:starEach (e::es) X.env=(false,eval e X.env)::starEach es X.env:=by rfl)(d:(backTo pos (starEach es X.env)).any (·.1)=false:=by rfl):PE X (.Call (.Name x p) (e::es) [] pos) (qR r t):=uZ i j l g k f c h d
theorem bg(h:PE X e te)(c:starEach [e] X.env=(false,eval e X.env)::starEach [] X.env:=by rfl):PA X [e] (eG te cA):=bQ h cn c
theorem dh(h:PE X a ta)(g:PE X b tb)(d:starEach [a,b] X.env=(false,eval a X.env)::starEach [b] X.env:=by rfl)(c:starEach [b] X.env=(false,eval b X.env)::starEach [] X.env:=by rfl):PA X [a,b] (eG ta (eG tb cA)):=bQ h (bQ g cn c) d
theorem pI(h:PE X a ta)(g:PE X b tb)(c:E6 b:=by exact fun _ _=>rfl):PE X (.Subscript a b pos) (m8 (pP X.K) ta tb):=rT u5 h g c
theorem pJ(h:PE X a ta)(g:PE X b tb)(c:E6 b:=by exact fun _ _=>rfl):PE X (.Subscript a b pos) (m8 (w_ X.K) ta tb):=rT E8 h g c
theorem pq(c:hR X (compareOp op) r)(d:PE X a ta)(f:PE X b tb)(g:behindInMarks op b=false:=by exact lR _):PT X (.Compare a [op] [b] pos) (v7 (m8 r ta tb)):=mH c d f g
theorem pr(c:hR X (compareOp op) r)(d:PE X a ta)(f:PE X b tb)(g:behindInMarks op b=false:=by exact lR _):PE X (.Compare a [op] [b] pos) (m8 r ta tb):=EU c d f g
theorem pR(h:PE X e te):mG X [.Return (some e) pos] (pG te):=cJ (qO h)
theorem pF{tb:TS}(hi:PI X tg c f)(j:PG X tg g)(k:mG X d tb)(l:PassesOwn (model X.prog X.w) X.A X.env X.xe:=by exact jd)(i:X.calm=true:=by rfl) (h:∀x,foldedSetIterable c X.env x=pure x:=by intro _;rfl):PS X (.For tg c d [] pos) (sY f g tb):=qw l i hi j k h
theorem pM(G:oi X.prog X.w X.K X.mg X.base CX k m C ps sp)(j:cm n X.A)(i:nP CX X E)(h:PE X o ta)(l:PA X (e::es) t)(r:k<=n:=by decide) (c:starEach (e::es) X.env=(false,eval e X.env)::starEach es X.env:=by rfl)(d:(backTo pos (starEach es X.env)).any (·.1)=false:=by rfl) (g:eval (.Call (.Attribute o m apos) (e::es) [] pos) X.env=(eval o X.env>>=fun f=>standAt apos.atName>>=fun _=>holding [f] (getMethod f m pl)>>=fun q=>callWith pos q.1 q.2 (backTo pos (starEach (e::es) X.env)) (backToKw pos (keywordEach [] X.env))):=by rfl): PE X (.Call (.Attribute o m apos) (e::es) [] pos) (v9 C m sp [] E ta t):=iY (pl:=pl) G (j.mono r) i h l c d g
theorem qK(G:oi X.prog X.w X.K X.mg X.base CX k m C ps sp)(i:cm n X.A)(h:nP CX X E)(g:PE X o ta)(f:k<=n:=by decide) (d:eval (.Call (.Attribute o m apos) [] [] pos) X.env=(eval o X.env>>=fun c=>standAt apos.atName>>=fun _=>holding [c] (getMethod c m pl)>>=fun q=>callWith pos q.1 q.2 (backTo pos (starEach [] X.env)) (backToKw pos (keywordEach [] X.env))):=by rfl): PE X (.Call (.Attribute o m apos) [] [] pos) (v9 C m sp [] E ta cA):=pZ (pl:=pl) G (i.mono f) h g d
theorem DJ(h:PE X o to)(g:PE X e te)(k:attributeBase o "append" X.env (eval o X.env)=eval o X.env:=by rfl)(i:((backTo pos (starEach [e] X.env)).all (fun x=>!x.1)&&(backToKw pos (keywordEach [] X.env)).all (fun x=>x.1.isSome)&&decide (([e]:List Expr).length+([]:List Keyword).length+(if([]:List Keyword).isEmpty then 0 else 1)<30))=true:=by rfl) (f:(apos.endLine==pos.line)=true:=by rfl)(c:starEach [e] X.env=(false,eval e X.env)::starEach [] X.env:=by rfl)(d:(backTo pos (starEach [] X.env)).any (·.1)=false:=by rfl)(j:swapsWith (.Call (.Attribute o "append" apos) [e] [] pos) none pos'.line X.env=pure false:=by rfl): PS X (.Expr (.Call (.Attribute o "append" apos) [e] [] pos) pos') (sV (xj X.K "list" yP to (eG te cA))):=qv (xk fx kg kh yQ h (bQ g cn c) k i f c d) j
section
variable{scope:Scope}{c:Expr}{g:TG}{tc:TT}
theorem oj(k:Scope)(A l:List Str)(u:List Nat)(n:Nat) (h:∀(cl:List (Str×Addr))(C:Addr)(s:Shared)(H:Hp)(fp:List Addr)(pins:List (Addr×Obj)),l.Nodup->PG (X.comp scope cl C l s H fp pins) tg g/\PE (X.comp scope cl C l s H fp pins) elt te) (D:l.Nodup:=by decide+kernel)(q:X.env.scope=k:=by rfl)(B:X.N=A:=by rfl)(t:scope.kind=.function:=by rfl)(i:(scope.names.all fun y=>y.2 !=.free||scope.names.all fun z=>!(z.1==y.1)||z.2 !=.cell)=true:=by decide+kernel) (m:∀y∈scope.names,y.2=.local->scope.names.lookup y.1=some .local:=by decide+kernel)(r:(scope.names.all fun y=>y.2 !=.free||(k.names.lookup y.1==some .cell||k.names.lookup y.1==some .free))=true:=by decide+kernel)(w:u.length+n=l.length:=by rfl) (v:((List.range u.length).all fun j=>match l[j]?,A[u.getD j 0]? with|some x,some y=>x==y&&scope.names.lookup x==some .free|_,_=>false)=true:=by decide+kernel):gD X scope l u n tg elt [] g none te:= Fw k A l u n q B t i m r w v (fun a b c d e f=>(h a b c d e f D).1) (fun a b c d e f=>(h a b c d e f D).2) (.inl ⟨rfl,rfl⟩)
theorem x6(k:Scope)(D i:List Str)(u:List Nat)(n:Nat) (h:∀(cl:List (Str×Addr))(C:Addr)(s:Shared)(H:Hp)(fp:List Addr)(pins:List (Addr×Obj)),i.Nodup->PG (X.comp scope cl C i s H fp pins) tg g/\PE (X.comp scope cl C i s H fp pins) elt te/\PT (X.comp scope cl C i s H fp pins) c tc) (A:i.Nodup:=by decide+kernel)(q:X.env.scope=k:=by rfl)(B:X.N=D:=by rfl)(t:scope.kind=.function:=by rfl)(l:(scope.names.all fun y=>y.2 !=.free||scope.names.all fun z=>!(z.1==y.1)||z.2 !=.cell)=true:=by decide+kernel) (m:∀y∈scope.names,y.2=.local->scope.names.lookup y.1=some .local:=by decide+kernel)(r:(scope.names.all fun y=>y.2 !=.free||(k.names.lookup y.1==some .cell||k.names.lookup y.1==some .free))=true:=by decide+kernel)(w:u.length+n=i.length:=by rfl) (v:((List.range u.length).all fun j=>match i[j]?,D[u.getD j 0]? with|some x,some y=>x==y&&scope.names.lookup x==some .free|_,_=>false)=true:=by decide+kernel):gD X scope i u n tg elt [c] g (some tc) te:= Fw k D i u n q B t l m r w v (fun a b c d e f=>(h a b c d e f A).1) (fun a b c d e f=>(h a b c d e f A).2.1) (.inr ⟨_,_,rfl,rfl,fun a b c d e f=>(h a b c d e f A).2.2⟩)
end
theorem BK(i:Nat)(u:X.N.Nodup)(hi:PI X tg c k)(B:gD X scope v m n tg elt f g s te)(h:X.N[i]?=some x:=by rfl)(l:Loc X.env.scope x:=by first|exact Or.inl rfl|exact Or.inr rfl)(r:X.calm=true:=by rfl) (j:swapsWith (.ListComp elt [⟨tg,c,f,0⟩] scope pos) (some (.Name x pos')) d.line X.env=pure true:=by rfl)(t:X.fn x=true\/X.env.scope.names.lookup x=some .local:=by first|exact .inl rfl|exact .inr rfl|assumption) (q:∀x,foldedSetIterable c X.env x=pure x:=by intro _;rfl):PS X (.Assign [.Name x pos'] (.ListComp elt [⟨tg,c,f,0⟩] scope pos) d) (iJ (yS k m n g s te) (qP i)):=Us u h l r hi B j t q
end
section
variable{P:Program}{w:World}{K:PySem.W.Frag}{mg:Str->Option Value}{base:Heap}{x q:Str}{st:Stmt}{C:Addr}{CX:jC}{k:Nat}{ps:List Str}{sp:Sp}
abbrev De(K:PySem.W.Frag)(x:Str)(st:Stmt):Prop:=∃f a,nW K x st f a
abbrev Dm(K:PySem.W.Frag)(C:Addr)(x q:Str)(st:Stmt):Prop:=∃f a,MethAt K C x q st f a
abbrev Bd(x q:Str)(st:Stmt)(ps:List Str):Prop:=∀(kV a f:Value)(e:Option Addr)(b d:Value)(c:List Value),c.length=ps.length->bindArgs (PySem.W.fnOf x q (nU st) (kR st) (cQ st) .none kV a f e b d) ⟨c,[]⟩=pure (ps.zip c)
def x8:Nat->(List Value->Prop)->Prop|0,P=>P []|n+1,P=>∀a,x8 n fun l=>P (a::l)
theorem BL{P:List Value->Prop}:∀us:List Value,x8 us.length P->P us|[],h=>h|a::us,h=>BL (P:=fun l=>P (a::l)) us (h a)
theorem tW(h:∀(kV a f:Value)(e:Option Addr)(b d:Value),x8 ps.length fun c=>bindArgs (PySem.W.fnOf x q (nU st) (kR st) (cQ st) .none kV a f e b d) ⟨c,[]⟩=pure (ps.zip c):=by intro _ _ _ _ _ _;first|exact fun _=>rfl|exact fun _ _=>rfl|exact fun _ _ _=>rfl|exact fun _ _ _ _=>rfl|exact fun _ _ _ _ _=>rfl):Bd x q st ps:=fun a b c d e f us g=>BL us (g▸h a b c d e f)
theorem BM{kV b d a e:Value}(l:K.lookup f=some ⟨h,od,.func (PySem.W.fnOf x q (nU st) (kR st) (cQ st) .none kV b d an a e),g⟩)(c:PySem.W.codeIn K a q=true)(k:PySem.W.keepIn K (.ref f)=true):∃fd,jD K x q st f fd:=⟨_,C3 l c k⟩
theorem hD(T:∃h:Heap,K.In h/\h.Ns mainGlobals mg)(d:De K x st)(h:∀f fd,jD K x x st f fd->cq P w K mg base CX k f fd ps sp) (b:Bd x x st ps:=by exact tW):uk P w K mg base CX k x ps sp:=by obtain⟨f,fd,D⟩:=d;obtain⟨_,X,G⟩:=T;exact D.has X G (h f fd D.fn) (D.fn.binds b)
theorem hM(c:dI K C)(d:Dm K C x q st)(h:∀f fd,jD K x q st f fd->cq P w K mg base CX k f fd ps sp) (b:Bd x q st ps:=by exact tW):oi P w K mg base CX k x C ps sp:=by obtain⟨f,fd,D⟩:=d;exact D.GX c (h f fd D.fn) (D.fn.binds b)
theorem hC(c:PySem.W.makesIn K C=true/\PySem.W.keepIn K (.ref C)=true)(e:mg y=some (.ref C))(d:Dm K C "__init__" q st)(h:∀f fd,jD K "__init__" q st f fd->cq P w K mg base CX k f fd ps sp) (b:Bd "__init__" q st ps:=by exact tW):tO P w K mg base CX k y C ps sp:=by obtain⟨f,fd,D⟩:=d;exact D.GY c.1 c.2 e (h f fd D.fn) (D.fn.binds b)
end
end L2
namespace PM
open PySem PyProof.Rows L2
section
variable{P:Program}{w:World}{K:PySem.W.Frag}{mg:Str->Option Value}{base:Heap}{x q:Str}{st:Stmt}{f:Addr}{fd:FuncData}{k np nv:Nat}{ps N:List Str}{KK:Kx}{XO:cX}
abbrev B0(P:Program)(w:World)(K:PySem.W.Frag)(mg:Str->Option Value)(base:Heap)(N:List Str)(q:Str)(st:Stmt)(f:Addr)(k:Nat)(S:(L2.St->XK)->TS->Prop):Prop:=∀(a:Value)(A:Around)(b:List Env)(s:Shared)(H:Hp)(E:XK),cm k (A.deeper (envOfC q (cQ st) s.heap.objs.size f a))->(A.deeper (envOfC q (cQ st) s.heap.objs.size f a)).units+1<cLine->N.Nodup-> ∃t,mG (nQ jM P w K mg base N q (cQ st) f a A b s H E).AB (kR st) t/\S (fun _=>E) t
abbrev B1(P:Program)(w:World)(K:PySem.W.Frag)(mg:Str->Option Value)(base:Heap)(N:List Str)(q:Str)(st:Stmt)(f:Addr)(k:Nat)(S:(L2.St->XK)->TS->Prop):Prop:=∀(a:Value)(A:Around)(b:List Env)(s:Shared)(H:Hp)(E:XK),cm k (A.deeper (envOfC q (cQ st) s.heap.objs.size f a))->(A.deeper (envOfC q (cQ st) s.heap.objs.size f a)).units+1<cLine->N.Nodup-> ∃t,mG (kE P w K mg base N q (cQ st) f a A b s H E) (kR st) t/\S (fun _=>E) t
theorem iu(N:List Str)(F:jD K x q st f fd)(h:B0 P w K mg base N q st f k fun E t=>SS KK XO E t m)(S:bW N ps (cQ st):=by exact jt)(l:np=ps.length:=by rfl)(j:N.length=np+nv:=by rfl):cq P w K mg base jM (k+1) f fd ps (qA KK XO (bF np nv m)):= F.ok S (fun _ _ _ _ h=>(Dj h).trans l) fun a b c d e v _ g i z=>let⟨t,p,r⟩:=h a b c d e g i (tf i) S.nd;⟨t,p,Bi r j z⟩
theorem tX(N:List Str)(F:jD K x q st f fd)(h:B1 P w K mg base N q st f k fun E t=>SS KK XO E t m)(S:bW N ps (cQ st):=by exact jt)(l:np=ps.length:=by rfl)(j:N.length=np+nv:=by rfl):cq P w K mg base (qU P w) (k+1) f fd ps (qA KK XO (bF np nv m)):= F.C5 S (fun _ _ _ _ h=>(Dj h).trans l) fun a b c d e v _ g i z=>let⟨t,p,r⟩:=h a b c d e g i (tf i) S.nd;⟨t,p,Bi r j z⟩
theorem oo(N:List Str)(F:jD K x q st f fd)(h:B0 P w K mg base N q st f k fun E t=>SS KK XO E t m)(S:bW N ps (cQ st):=by exact jt)(l:np=ps.length:=by rfl)(j:N.length=np+nv:=by rfl):cq P w K mg base jM (k+1) f fd ps (vo KK XO (eE np nv m)):= F.ok S (fun _ _ _ _ h=>(Ma h).trans l) fun a b c d e v _ g i z=>let⟨t,p,r⟩:=h a b c d e g i (tf i) S.nd;⟨t,p,L_ r j z⟩
theorem Ya(N:List Str)(F:jD K x q st f fd)(h:B0 P w K mg base N q st f k fun E t=>iZ KK (jr KK) E c t m)(S:bW N ps (cQ st):=by exact jt)(l:ps.length=np+1:=by rfl)(j:N.length=np+1:=by rfl):cq P w K mg base jM (k+1) f fd ps (zo KK c (runN c np m)):= F.ok S (fun _ _ _ _ h=>Nn l h) fun a b c d e v _ g i z=>let⟨t,p,r⟩:=h a b c d e g i (tf i) S.nd;⟨t,p,Np r j z⟩
theorem tY(N:List Str)(F:jD K x q st f fd)(h:B1 P w K mg base N q st f k fun E t=>iZ KK (jr KK) E c t m)(S:bW N ps (cQ st):=by exact jt)(l:ps.length=np+1:=by rfl)(j:N.length=np+1:=by rfl):cq P w K mg base (qU P w) (k+1) f fd ps (zo KK c (runN c np m)):= F.C5 S (fun _ _ _ _ h=>Nn l h) fun a b c d e v _ g i z=>let⟨t,p,r⟩:=h a b c d e g i (tf i) S.nd;⟨t,p,Np r j z⟩
end
section
variable{K:Kx}{XO:cX}{E:L2.St->XK}{ta tb tc:TE}{ma mb mc:En->R D}
theorem cF(h:SE K XO E ta ma):SA K XO E (eG ta cA) (ai ma af):=cz h cg
theorem fw(h:SE K XO E ta ma)(g:SE K XO E tb mb):SA K XO E (eG ta (eG tb cA)) (ai ma (ai mb af)):=cz h (cz g cg)
theorem bL(h:lV K XO E ta ma):uo K XO E (eG ta cA) (ai ma af):=uq h ve
theorem tZ(h:lV K XO E ta ma)(g:lV K XO E tb mb):uo K XO E (eG ta (eG tb cA)) (ai ma (ai mb af)):=uq h (uq g ve)
theorem sI:lV K XO E (tC (.int i)) (mC (.int i)):=aL.r
end
end PM
namespace L2
open PySem PySem.Spec PyProof.Rows
section
variable{X:Cx}
theorem NK:hR X (compareOp .Is) (fun x y H Q=>∃i j,x=.bl i/\y=.bl j/\Q (.bl (i==j)) H):=by intro a s d H x y v u Q I c b h;obtain⟨i,j,rfl,rfl,q⟩:=h;cases c;cases b;exact is_bool (gN I q rfl)
theorem Yb:hR X (compareOp .IsNot) (fun x y H Q=>∃i j,x=.bl i/\y=.bl j/\Q (.bl (!(i==j))) H):=by intro a s d H x y v u Q I c b h;obtain⟨i,j,rfl,rfl,q⟩:=h;cases c;cases b;exact wpAny_isNot_plain rfl (gN I q (by grind))
end
end L2
namespace PM
open PySem L2
section
variable{K:Kx}{XO:cX}{E:L2.St->XK}
def rG(x y:D):Option D:=match x,y with|.bl i,.bl j=>some (.bl (i==j))|_,_=>none
def BN(x y:D):Option D:=match x,y with|.bl i,.bl j=>some (.bl (!(i==j)))|_,_=>none
theorem NL:SR K (fun x y H Q=>∃i j,x=.bl i/\y=.bl j/\Q (.bl (i==j)) H) rG:=by
 intro F H x y f c d Q s a b e q;unfold rG at e;split at e;.cases e;exact⟨_,_,a,b,q _ F H (.refl s) rfl⟩
 simp_all
theorem Yc:SR K (fun x y H Q=>∃i j,x=.bl i/\y=.bl j/\Q (.bl (!(i==j))) H) BN:=by
 intro F H x y f c d Q s a b e q;unfold BN at e;split at e;.cases e;exact⟨_,_,a,b,q _ F H (.refl s) rfl⟩
 simp_all
def G8:List D->Option D |[.lst l]=>some (.tup l) |_=>none
theorem Yd:SC K (fun xs H Q=>∃p ys,xs=[.ref p]/\((fz K.f H p ys/\∀l,H l=none->Q (.ref l) (upd H l (.tup ys)))\/(hO K.f H p ys/\Q (.ref p) H))) G8:=by
 intro F H i j d Q s r e q;unfold G8 at e;split at e;.cases e;cases r with |cons r f=> cases f;obtain⟨a,xs,rfl,g,h⟩:=r;exact⟨a,_,rfl,.inl ⟨.inl g,fun p c=>q _ _ _ (.new s c) (⟨p,xs,rfl,cb,h.mono (ax.upd (s.free c))⟩)⟩⟩
 simp_all
abbrev Kp:=D×D×List D
variable(K) in
structure Kept(F H:Hp)(a b:Addr)(k:Kp):Prop where
 ne:a≠b
 fa:F a=none
 fb:F b=none
 ex:∃x y ws,H a=some (.lst [x,y,.ref b])/\H b=some (.lst ws)/\Rep K F k.1 x/\Rep K F k.2.1 y/\aD K F k.2.2 ws
structure Fr(F H F' H':Hp)(a b:Addr):Prop where
 ff:ax F F'
 fh:ax F' H'
 hh:∀p o,p≠a->p≠b->H p=some o->H' p=some o
 nw:∀p o,p≠a->p≠b->F p=none->H p=some o->F' p=none
section
variable{F H F' H' F2 H2:Hp}{a b:Addr}{k:Kp}
theorem Kept.grow(h:Kept K F H a b k)(e:Ext F H F' H'):Kept K F' H' a b k:=by obtain⟨f,l,g,x,y,n,c,d,j,i,m⟩:=h;exact⟨f,e.nw _ _ l c,e.nw _ _ g d,x,y,_,e.hh _ _ c,e.hh _ _ d,Rep.mono e.ff _ j,Rep.mono e.ff _ i,m.mono e.ff⟩
theorem Ext.fr(e:Ext F H F' H'):Fr F H F' H' a b:=⟨e.ff,e.fh,fun p o _ _ h=>e.hh p o h,fun p o _ _=>e.nw p o⟩
theorem Fr.trans(e:Fr F H F' H' a b)(f:Fr F' H' F2 H2 a b):Fr F H F2 H2 a b:=⟨e.ff.trans f.ff,f.fh,fun p o c d h=>f.hh p o c d (e.hh p o c d h),fun p o c d h g=>f.nw p o c d (e.nw p o c d h g) (e.hh p o c d g)⟩
theorem Fr.upd(s:ax F H)(f:c=a\/c=b)(d:F c=none):Fr F H F (L2.upd H c o) a b:= ⟨.refl _,fun p u h=>by rw[bc (dH h d)];exact s p u h,fun p u i g h=>by rw[bc (fun e=>f.elim (fun z=>i (e.trans z)) fun z=>g (e.trans z))];exact h,fun _ _ _ _ h _=>h⟩
end
def r9(q:D)(c:List D)(st:Int)(w:Sl):En:=[.v q,.v (.tup c),.v (.int st),.no,.no,w]
def BO(b:D)(lo:Int):Option Bool:=match b with|.non=>some false|.int i=>some (decide (i<=lo))|_=>none
def x9(g:List D->Kp->R Kp)(c:List D):List D->Kp->R Kp |[],k=>.ok k |w::a,k=>(g (c++[w]) k).bind (x9 g c a)
def lk(ml:En->R D)(mi:En->R (List D))(q:D)(st:Int):Nat->List D->Kp->R Kp |0,_,_=>.no |n+1,c,k=>(ml (r9 q c st .no)).bind fun l=>match l with |.int a=>(match BO k.2.1 a with |none=>.no |some true=>cN (k.2.2.length<sizeLine) (.ok (k.1,k.2.1,k.2.2++[.tup c])) .no |some false=>if(c.length:Int)=st then cN (k.2.2.length<sizeLine) (.ok (.tup c,.int a,k.2.2++[.tup c])) .no else cN (c.length<sizeLine) ((mi (r9 q c st .no)).bind fun b=>x9 (lk ml mi q st n) c b k) .no) |_=>.no
def oq(K:Kx)(ml:En->R D)(mi:En->R (List D))(n:Nat):Sp:=fun j H Q _=>∃(F:Hp) (q:D) (c:List D) (h:Int) (i g:V) (a b:Addr) (k e:Kp),j=[i,g,.int h,.ref a]/\ax F H/\Rep K F q i/\Rep K F (.tup c) g/\Kept K F H a b k/\lk ml mi q h n c k=.ok e/\ ∀f d,Fr F H f d a b->Kept K f d a b e->Q .non d
theorem Ye{E:XK}(h:oq K ml mi n vs H Q E):vs.length=4:=by obtain⟨F,q,c,f,g,d,a,b,k,e,rfl,_⟩:=h;rfl
abbrev G9(K:Kx):List V->Hp->VK->Prop:=fun b H Q=>∃p a,b=[.ref p]/\(fz K.f H p a\/hO K.f H p a)/\Q (.int a.length) H
def ou(K:Kx)(j:Int):TE:=m8 (pP K.f) (bZ 3) (tC (.int j))
def G_(K:Kx)(c:TE)(a:TI)(sp:Sp)(b:XK):TS:= nM (iJ c (qP 4)) (uS (uR (v7 (m8 (fun x y H Q=>y=.non/\Q (.bl (!decide (x=.non))) H) (ou K 1) (tC .non))) (v7 (m8 (nN fun i j=>.bl (decide (j<=i))) (bZ 4) (ou K 1)))) (sV (xj K.f "list" yP (ou K 2) (eG (bZ 1) cA))) (uS (v7 (m8 ER (qR (G9 K) (eG (bZ 1) cA)) (bZ 2))) (nM (sV (xj K.f "list" yP (ou K 2) (eG (bZ 1) cA))) (nM (iJ (bZ 1) (uT (bZ 3) (tC (.int 0)) AU)) (iJ (bZ 4) (uT (bZ 3) (tC (.int 1)) AU)))) (sY a (qP 5) (sV (rS sp [] b (eG (bZ 0) (eG (m8 (GS K.f) (bZ 1) (sZ (eG (bZ 5) cA))) (eG (bZ 2) (eG (bZ 3) cA)))))))))
theorem G'(s:ax F H)(g:σ.length=δ.length)(c:∀(i:Nat)(t:Sl),δ[i]?=some t->t=.no\/∃dd u,t=.v dd/\σ[i]?=some (some u)/\Rep K F dd u):aw K [] F H F H σ δ:=by
 have f:∀i:Nat,Sl.own δ[i]?=false:=fun i=>by cases q:δ[i]? with |none=>rfl |some t=>rcases c i t q with e|⟨_,_,e,_⟩<;>rw[e]<;>rfl
 refine⟨.refl s,g,fun i=>?_,fun i j a _ n=>by grind,fun x k=>(by cases k),fun i T h=>?_⟩;.cases q:δ[i]? with |none=>trivial |some t=>
  rcases c i t q with e|⟨d,u,e,m,l⟩;.rw[e];trivial
  .rw[e];exact⟨u,m,l⟩
 .have:=f i;rw[h] at this;cases this
theorem Ha(s:ax F H)(k:Rep K F q j)(f:Rep K F (.tup c) cv)(a:w=.no\/∃d v,w=.v d/\b=some v/\Rep K F d v):aw K [] F H F H [some j,some cv,some (.int st),some m,l,b] (r9 q c st w):=G' s rfl fun i t h=>by match i,h with
 |0,h=>cases h;simp_all |1,h=>cases h;exact .inr ⟨_,_,rfl,rfl,f⟩ |2,h=>cases h;exact .inr ⟨_,_,rfl,rfl,rfl⟩ |3,h=>cases h;grind |4,h=>cases h;exact .inl rfl |5,h=>
  cases h;rcases a with e|⟨d,v,e,g,r⟩;.exact .inl e
  .exact .inr ⟨d,v,e,by rw[g];rfl,r⟩ |n+6,h=>cases h
theorem Yf(h:x9 g c (w::ws) k=.ok a):∃k1,g (c++[w]) k=.ok k1/\x9 g c ws k1=.ok a:=by unfold x9 at h;cases e:g _ k with |no=>simp_all |ex x=>simp_all |ok k1=>simp_all
theorem Yg(hl:SE K XO E tl ml)(hi:SI K XO E ti mi)(h:oq K ml mi (n+1) vs H Q E1)(N:List Str)(hN:N.length=6): G_ K tl ti (oq K ml mi n) E' {nx:=fun _ H'=>Q .non H',rt:=Q} (L2.start N vs) H:=by
  obtain⟨F,q,c,d,u,B,a,b,k,k',rfl,s,rq,rc,kp,e,fin⟩:=h;have Yh:L2.start N [u,B,.int d,.ref a]=[some u,some B,some (.int d),some (.ref a),none,none]:=by unfold L2.start;simp_all
  rw[Yh];unfold lk at e;refine hl [] F H F H _ _ _ (Ha s rq rc (.inl rfl)) ?_;cases q1:ml (r9 q c d .no) with |no=>simp_all |ex x=>simp_all |ok l=>
  rw[q1,R.aq] at e;intro X A M v rv;split at e;case h_2=>cases e
  rename_i t;simp only[Rep] at rv;subst rv;have NM:=Rep.mono M.ff _ rq;have o:=Rep.mono M.ff _ rc;have g:=kp.grow M;obtain⟨x,y,L,ha,hb,rx,ry,Y⟩:=g.ex;have ix:∀{H:Hp}{xs:List V}(j:Nat)(v:V)(Q:VK)(x4 S:Option V),H a=some (.lst xs)->xs.length=3->xs[j]?=some v->Q v H->ou K (j:Int) [some u,some B,some (.int d),some (.ref a),x4,S] H Q:=fun{H xs} j v Q x4 S h1 h3 Z hq=>⟨.ref a,rfl,a,xs,j,v,rfl,rfl,.inl (.inl h1),by
    have:j<3:=by grind
    unfold hV iv;rw[h3];match j,this,Z with |0,_,Z=>exact Z |1,_,Z=>exact Z |2,_,Z=>exact Z,hq⟩;have cond:∀(z:Bool)(Qc:Bool->Hp->Prop),BO k.2.1 t=some z->Qc z A->uR (v7 (m8 (fun x y H Q=>y=.non/\Q (.bl (!decide (x=.non))) H) (ou K 1) (tC .non))) (v7 (m8 (nN fun i j=>.bl (decide (j<=i))) (bZ 4) (ou K 1))) [some u,some B,some (.int d),some (.ref a),some (.int t),none] A Qc:=fun z Qc hz hq=>by
    refine ix 1 y _ _ _ ha rfl rfl ⟨rfl,_,rfl,?_⟩;unfold BO at hz;split at hz;.rename_i U;rw[U] at ry;simp only[Rep] at ry;simp_all
    .rename_i i U;rw[U] at ry;simp only[Rep] at ry;cases hz;rw[ry];rw[ao (by simp)];exact⟨.int t,rfl,ix 1 _ _ _ _ ha rfl (by rw[ry];rfl) ⟨t,i,rfl,rfl,_,rfl,hq⟩⟩
    .cases hz
  have app:∀(Dn:Ends),k.2.2.length<sizeLine->Dn.nx [some u,some B,some (.int d),some (.ref a),some (.int t),none] (upd A b (.lst (L++[B])))->sV (xj K.f "list" yP (ou K 2) (eG (bZ 1) cA)) Dn [some u,some B,some (.int d),some (.ref a),some (.int t),none] A:=fun Dn hs hn=>by refine ix 2 (.ref b) _ _ _ ha rfl rfl ⟨.inl ⟨rfl,L,.inl (.inl hb)⟩,B,rfl,b,L,B,rfl,rfl,hb,by rw[Y.length];exact hs,hn⟩
  have Hb:Fr X A X (upd A b (.lst (L++[B]))) a b:=.upd M.fh (.inr rfl) g.fb
  cases z:BO k.2.1 t with |none=>rw[z] at e;cases e |some bb=> refine cond bb _ z ?_;rw[z] at e;show if bb=true then _ else _;cases bb with |true=>
    rw[ao rfl];dsimp only at e;unfold cN at e;split at e;case isFalse=>cases e
    rename_i hs;cases e;refine app _ hs (fin _ _ (Ext.fr M|>.trans Hb) ⟨g.ne,g.fa,g.fb,x,y,L++[B],by rw[bc g.ne];exact ha,cb,rx,ry,Y.append (.cons o .nil)⟩) |false=>
    rw[ak eN];dsimp only at e;have T:=o;simp only[Rep] at T;obtain⟨p,NN,rfl,Yi,Yj⟩:=T;refine⟨.ref p,rfl,p,NN,rfl,.inr (.inl (.inl (M.fh _ _ Yi))),.int d,rfl,rfl,_,rfl,?_⟩;have el:decide (V.int (NN.length:Int)=V.int d)=decide ((c.length:Int)=d):=by rw[Yj.length];simp
    rw[el];dsimp only[List.set_cons_succ,List.set_cons_zero];by_cases I:(c.length:Int)=d
    . rw[ao I] at e;rw[eY I,ao rfl];unfold cN at e;split at e;case isFalse=>cases e
      rename_i hs;cases e;have Yk:upd A b (.lst (L++[.ref p])) a=some (.lst [x,y,.ref b]):=by rw[bc g.ne];exact ha
      refine app _ hs ⟨.ref p,rfl,.ref a,rfl,a,_,0,0,rfl,rfl,Yk,rfl,.int t,rfl,.ref a,rfl,a,_,1,1,rfl,rfl,cb,rfl,?_⟩;have f1:Fr X (upd A b (.lst (L++[.ref p]))) X (upd (upd A b (.lst (L++[.ref p]))) a (.lst [.ref p,y,.ref b])) a b:=.upd Hb.fh (.inl rfl) g.fa;refine fin X _ (((Ext.fr M).trans Hb).trans (f1.trans (.upd f1.fh (.inl rfl) g.fa))) ⟨g.ne,g.fa,g.fb,.ref p,.int t,L++[.ref p],cb,?_,o,by simp only[Rep],Y.append (.cons o .nil)⟩;rw[bc g.ne.symm,bc g.ne.symm];exact cb
    . rw[ak I] at e;rw[cV I,ak eN];unfold cN at e;split at e;case isFalse=>cases e
      rename_i hsz;refine hi [] X A X A _ _ _ (Ha M.fh NM o (.inl rfl)) ?_;cases q2:mi (r9 q c d .no) with |no=>rw[q2] at e;cases e |ex x=>rw[q2] at e;cases e |ok G=>
      rw[q2,R.aq] at e;intro F2 H2 U J hJ;refine⟨fun i m σ H3=>m=G.length-i/\i<=G.length/\∃F3 k3 S,σ=[some u,some (.ref p),some (.int d),some (.ref a),some (.int t),S]/\Fr F2 H2 F3 H3 a b/\Kept K F3 H3 a b k3/\x9 (lk ml mi q d n) c (G.drop i) k3=.ok k', ⟨_,rfl,bR _,F2,k,none,rfl,(Ext.refl U.fh).fr,g.grow U,e⟩,?_⟩;rintro i m σ H3 ⟨rfl,Ga,F3,k3,S,rfl,f,Hc,e3⟩;by_cases q_:i<G.length;case neg=> have:G.drop i=[]:=List.drop_eq_nil_of_le (by omega);rw[this] at e3;cases e3;exact .inl ⟨((hJ F3 H3 ⟨f.ff,f.fh⟩ i).2 (List.getElem?_eq_none (by omega))),fin F3 H3 ((Ext.fr M).trans ((Ext.fr U).trans f)) Hc⟩
      rw[nG q_] at e3;obtain⟨k4,e4,e5⟩:=Yf e3;obtain⟨j1,j2⟩:=(hJ F3 H3 ⟨f.ff,f.fh⟩ i).1 G[i] (b7 q_);refine .inr ⟨j1,fun tE H'=>∃C S,tE=[some u,some (.ref p),some (.int d),some (.ref a),some (.int t),S]/\Fr F2 H2 C H' a b/\Kept K C H' a b k4,fun tE H' ⟨C,S,w1,w2,w3⟩=>⟨_,by omega,rfl,q_,C,k4,S,w1,w2,w3,e5⟩,fun w H4 yw=>?_⟩;obtain⟨C,x4,Yl⟩:=j2 w H4 yw;have NO:ax X C:=U.ff.trans (f.ff.trans x4.ff);have NP:=Rep.mono NO _ NM;have Ym:=Rep.mono NO _ o;have kp4:=Hc.grow x4;refine⟨u,rfl,?_⟩;have J4:aw K [] C H4 C H4 [some u,some (.ref p),some (.int d),some (.ref a),some (.int t),some w] (r9 q c d (.v G[i])):=Ha x4.fh NP Ym (.inr ⟨_,_,rfl,rfl,Yl⟩);refine aG (XO:=XO) (E:=E) (By (K:=K)) ay (pX (cz aA cg)).r [] C H4 C H4 _ _ _ J4 ?_;have ev:m2 qI (aj 1) (cf (ai (ag 5) af)) (r9 q c d (.v G[i]))=.ok (.tup (c++[G[i]])):=by simp only[fk,aj,cf,ai,ag,af,r9,List.getElem?_cons_succ,List.getElem?_cons_zero,R.aq];rw[fi (by simp[sizeLine])];simp only[R.aq,qI];rw[fi (by simp;lia)];rfl
      rw[ev];intro F5 H5 e6 v5 r5;have NQ:=x4.trans e6;refine⟨.int d,rfl,.ref a,rfl,F5,q,c++[G[i]],d,u,v5,a,b,k3,k4,rfl,e6.fh,Rep.mono e6.ff _ NP,r5,Hc.grow NQ,e4,fun F6 H6 Yn Yo=>⟨F6,some w,rfl,f.trans ((Ext.fr NQ).trans Yn),Yo⟩⟩
def BP(i:Nat)(a b:En->R D)(ml:En->R D)(mi:En->R (List D))(n:Nat)(m:En->O)(δ:En):O:=match δ[i]?,a δ,b δ with |some .no,.ok q,.ok (.int c)=>(match lk ml mi q c n [] (.non,.non,[]) with |.ok k=>m (δ.set i (.v (.lst [k.1,k.2.1,.lst k.2.2]))) |_=>.no) |_,_,_=>.no
theorem aw.BQ(I:aw K w F0 z F H σ δ)(hi:δ[i]?=some .no):aw K w F0 z F H (σ.set i x) δ:=by
  have g:∀j,Sl.own δ[j]?=true->i≠j:=fun j h e=>by rw[<-e,hi] at h;cases h
  have A:∀(j:Nat)(T:Tr),δ[j]?=some (.p T)->i≠j:=fun j T h=>g j (by rw[h];rfl);refine⟨I.ext,by simp[I.len],fun j=>?_,fun j k a n c m l o=>?_,fun y v=>?_,I.fV (fun j T h=>⟨h,aI (A j T h)⟩) (fun _ _ _ _ _ _ t f _=>⟨t,fun b u=>(f b u).2⟩) fun k j B r b C _ _ _ _ q s=>.inl ⟨q,by rw[aI (g j q)] at s;exact s⟩⟩
  . by_cases e:i=j;.rw[<-e,hi];trivial
    .rw[aI e];exact I.slot j
  .rw[aI (g j c)] at l;rw[aI (g k m)] at o;exact I.dist j k a n c m l o
  .obtain⟨⟨d,c⟩,m,l⟩:=I.eZ y v;exact⟨⟨d,c⟩,by rw[aI (g _ (by rw[c];rfl))];exact m,l⟩
theorem Yp(hq:SE K XO E tq mq)(hs:SE K XO E ts ms)(hu:SS K XO E u m): SS K XO E (nM (iJ (uW (eG (tC .non) (eG (tC .non) (eG (uW cA) cA)))) (qP i)) (nM (sV (rS (oq K ml mi n) [] E' (eG tq (eG (sZ cA) (eG ts (eG (bZ i) cA)))))) u)) (BP i mq ms ml mi n m):=by
  intro X F0 H0 F H σ T Dn I a;unfold BP at a;split at a;case h_2=>exact a.elim
  rename_i q st M e1 e2;split at a;case h_2=>exact a.elim
  rename_i k ek;refine⟨by simp,fun b w=>⟨by simp[sizeLine],fun p j=>?_⟩⟩;have x1:Ext F H F (upd (upd H b (.lst [])) p (.lst [.non,.non,.ref b])):=(Ext.dY I.same w).trans (.dY (Ext.dY I.same w).fh j);have C:p≠b:=fun e=>by rw[e,cb] at j;cases j
  have l:H p=none:=by rw[bc C] at j;exact j
  have U:=(I.grow x1).BQ (x:=some (.ref p)) M;have il:i<σ.length:=by rw[I.len];exact(b_.mp M).1
  refine hq X F0 H0 F _ _ T _ U ?_;rw[e1];intro Z Y N vq rq;refine⟨by simp,fun c hc=>?_⟩;have G:Ext Z Y (upd Z c (.tup [])) (upd Y c (.tup [])):=.new N.fh hc;have I2:=(U.grow N).grow G;refine hs X F0 H0 _ _ _ T _ I2 ?_;rw[e2];intro F3 H3 s vs rs;subst rs;have r:=N.trans (G.trans s);have x:=x1.trans r;have k0:Kept K F (upd (upd H b (.lst [])) p (.lst [.non,.non,.ref b])) p b (.non,.non,[]):=⟨C,I.same.free l,I.same.free w,.non,.non,[],cb,by rw[bc C.symm,cb],by rfl,by rfl,.nil⟩;refine⟨.ref p,a_ il,F3,q,[],st,vq,.ref c,p,b,(.non,.non,[]),k,rfl,s.fh,Rep.mono (G.trans s).ff _ rq,?_,k0.grow r,ek,fun y H4 A v=>?_⟩;.exact⟨c,[],rfl,s.ff _ _ cb,.nil⟩
  obtain⟨Q,L,J,h1,h2,r1,r2,r3⟩:=v.ex;have t:ax y (upd (upd y b (.lst J)) p (.lst [Q,L,.ref b])):=fun c o h=>by rw[bc (dH h v.fa),bc (dH h v.fb)];exact h
  have g:∀c o,H c=some o->c≠p/\c≠b:=fun c o h=>⟨dH h l,dH h w⟩;have xf:Ext F H (upd (upd y b (.lst J)) p (.lst [Q,L,.ref b])) H4:=by
    refine⟨x.ff.trans (A.ff.trans t),fun c o h=>A.hh c o (g c o h).1 (g c o h).2 (x.hh c o h),fun c o h=>?_,fun c o h f=>?_⟩
    . by_cases e:c=p;.subst e;rw[cb] at h;simp_all
      . rw[bc e] at h;by_cases S:c=b;.subst S;rw[cb] at h;simp_all
        .rw[bc S] at h;exact A.fh c o h
    .rw[bc (g c o f).1,bc (g c o f).2];exact A.nw c o (g c o f).1 (g c o f).2 (x.nw c o h f) (x.hh c o f)
  refine hu _ _ _ (upd (upd y b (.lst J)) p (.lst [Q,L,.ref b])) _ _ _ _ ?_ a;refine((I.grow xf).put ⟨_,M,fun d z=>by cases z⟩ ?_);refine⟨p,_,rfl,cb,.cons (Rep.mono t _ r1) (.cons (Rep.mono t _ r2) (.cons ?_ .nil))⟩;exact⟨b,_,rfl,by rw[bc v.ne.symm,cb],r3.mono t⟩
end
end PM
namespace My
open PySem L2 PM
def NR:Nat→Bool
 | 4=>true
 | 5=>true
 | _=>false
def Yq (c:Nat):Bool:=NR (c%16)
def x_:Nat→Bool
 | 7=>true
 | _=>false
def oI:Nat→Bool
 | 8=>true
 | 9=>true
 | _=>false
def DK:Nat→Bool
 | 8=>true
 | _=>false
def r_:Nat→Bool
 | 11=>true
 | 12=>true
 | _=>false
def se:Nat→Bool
 | 7=>true
 | 8=>true
 | 12=>true
 | _=>false
def BR:Nat→Bool
 | 8=>true
 | 9=>true
 | _=>false
def x':Nat→Bool
 | 9=>true
 | 10=>true
 | _=>false
def uy:Nat→Bool
 | 7=>true
 | _=>false
def zu:Nat→Bool
 | 10=>true
 | _=>false
def zwE:Nat→Option Bool
 | 6=>some true
 | 7=>some true
 | 8=>some true
 | 9=>some true
 | 10=>some true
 | 11=>some true
 | 12=>some true
 | _=>none
def zrK:Nat→Option Bool
 | 6=>some false
 | 7=>some true
 | 8=>some false
 | 9=>some false
 | 10=>some false
 | 11=>some false
 | 12=>some false
 | _=>none
def zqS:Nat→Option Bool
 | 6=>some false
 | 7=>some false
 | 8=>some true
 | 9=>some false
 | 10=>some false
 | 11=>some false
 | 12=>some false
 | _=>none
def ztS:Nat→Option Bool
 | 6=>some false
 | 7=>some false
 | 8=>some false
 | 9=>some true
 | 10=>some false
 | 11=>some false
 | 12=>some false
 | _=>none
def zr2:Nat→Option Bool
 | 6=>some false
 | 7=>some false
 | 8=>some false
 | 9=>some false
 | 10=>some true
 | 11=>some false
 | 12=>some false
 | _=>none
def zri:Nat→Option Bool
 | 6=>some false
 | 7=>some false
 | 8=>some false
 | 9=>some false
 | 10=>some false
 | 11=>some true
 | 12=>some false
 | _=>none
def zrs:Nat→Option Bool
 | 6=>some false
 | 7=>some false
 | 8=>some false
 | 9=>some false
 | 10=>some false
 | 11=>some false
 | 12=>some true
 | _=>none
def Hd:En→O:=(av (bj (bf (m2 oLt (aj 1) (aT aJ (ai (aj 0) af))))
 (aH (m2 aO (aj 0) (aj 1)))
 dq)
 (aH (mC (.int 0))))
def ny:List D→R D:=bF 2 0 Hd
def NS:En→O:=(aH (m2 oMod (m2 iU (m2 bO (m2 bO (m2 oMod (aj 0) (m2 gg (mC (.int 10)) (mC (.int 20)))) (m2 iU (aj 1) (aj 1))) (mC (.int 3))) (m2 bO (mC (.int 39373)) (m2 iU (mC (.int 2)) (aj 1)))) (mC (.int 2147483647))))
def t7:List D→R D:=bF 2 0 NS
def BS:En→O:=(av (az (m2 oMod (aj 1) (mC (.int 5))) (aQ 2))
 (av (az (m2 oDiv (aj 1) (mC (.int 5))) (aQ 3))
 (av (bj (bf (m2 oEq (aj 2) (mC (.int 0))))
 (aH (m2 oMod (aj 3) (mC (.int 4))))
 dq)
 (av (bj (bf (m2 oEq (aj 2) (mC (.int 1))))
 (aH (m2 oMod (aj 0) (m2 bO (m2 gg (mC (.int 10)) (mC (.int 18))) (mC (.int 1)))))
 dq)
 (av (bj (bf (m2 oEq (aj 2) (mC (.int 2))))
 (aH (m2 jN (m2 gg (mC (.int 10)) (mC (.int 18))) (m2 oMod (aj 3) (mC (.int 3)))))
 dq)
 (aH (m2 oMod (aj 3) (mC (.int 30)))))))))
def uz:List D→R D:=bF 2 2 BS
def He:En→R D:=i' (bS (ai (ag 1) af)) [5] 1 (dC 1) (some (bf (m2 oEq (m2 oMod (m2 oDiv (aj 0) (m2 xO (mC (.int 1)) (aj 1))) (mC (.int 2))) (mC (.int 1))))) (ag 1)
def Hf:En→O:=(av (az (m2 oDiv (bw t7 (ai (ag 4) (ai (ag 3) af))) (mC (.int 16))) (aQ 5))
 (av (az He (aQ 6))
 (qD 2 (cf (ai (bw uz (ai (ag 4) (ai (m2 oDiv (aj 5) (mC (.int 1024))) af))) (ai (ag 6) af))))))
def NT:En→O:=c9 (rY (ai (ag 0) af)) (dZ 2 (fA (aQ 3) (fA (aQ 4) eL))) Hf
def NU:En→O:=(rZ 7 (ag 9) (mC (.bl true)))
def NV:En→O:=c9 (cK (ag 6)) (aQ 9) NU
def Hg:En→O:=NV
def Hh:En→O:=C' 2 (dZ 2 (fA (aQ 8) (fA (aQ 6) eL))) Hg
def DM:En→R D:=i' (bS (ai (ag 1) af)) [7] 1 (dC 1) (some (bf (m2 ur (ag 1) (aj 0)))) (ag 1)
def Yr:En→O:=(av (az (bC af) (cZ 2))
 (av NT
 (av (az (mC (.dc [] [])) (cZ 7))
 (av Hh
 (ft (m2 cW (aj 2) (bC (ai (cf (ai (mC (.int 7)) (ai DM af))) af))))))))
def Hi:List D→R D:=eE 2 8 Yr
def NW:En→O:=(rZ 2 (ag 4) (mC (.bl true)))
def NX:En→O:=c9 (cK (m2 e_ (aj 3) (mC (.int 1)))) (aQ 4) NW
def Hj:En→O:=NX
def NY:En→O:=c9 (cK (ag 1)) (aQ 3) Hj
def Hk:En→O:=(bj (bf (m2 ur (ag 4) (aj 2)))
 (GN 4 (ai (ag 4) af))
 dq)
def NZ:En→O:=c9 (bS (ai (ag 0) af)) (aQ 4) Hk
def Ys:En→O:=(av (az (mC (.dc [] [])) (cZ 2))
 (av NY
 NZ))
def Hl:List D→R D:=bF 2 3 Ys
def N0:En→O:=(rZ 4 (ag 5) (aT xP (ai (aj 2) (ai (Bs (aj 4) (ag 5) (ag 2)) af))))
def N1:En→O:=c9 (cK (ag 3)) (aQ 5) N0
def N2:En→O:=(av (az (DI (ai (m2 aO (aj 1) (m1 gh (mC (.int 1)))) af)) (cZ 4))
 (av N1
 (qX 4 (qD 1 (ag 4)))))
def N3:En→O:=c9 (rj (ai (ag 0) af)) (dZ 2 (fA (aQ 2) (fA (aQ 3) eL))) N2
def Yt:En→O:=(av (az (bC (ai (mC (.dc [] [])) af)) (cZ 1))
 (av N3
 (ft (GH (aj 1)))))
def Hm:List D→R D:=eE 1 5 Yt
def Hn:En→R Tr:=G2 (cK (aj 2)) [] 2 (dZ 2 (fA (dC 0) (fA (dC 1) eL))) (NF (ag 0) (aT ni (ai (aj 1) af)))
def Ho:En→List Str→List D→R (List Str×List D):=(fD (tQ (oE Hl (ai (ag 1) (ai (ag 2) af))))
 (fD (lX "many" (ag 1))
 (fD (xY "sets" Hn)
 (xZ "cheapest" "sets" Hm))))
def Hq:List D→R D:=runN 7 2 Ho
def N4:En→O:=(qD 1 (m2 bO (mC (.int 1)) (m2 oMod (bw uz (ai (ag 3) (ai (m2 oDiv (bw t7 (ai (ag 3) (ai (ag 2) af))) (mC (.int 64))) af))) (m2 gg (mC (.int 10)) (mC (.int 18))))))
def N5:En→O:=c9 (rY (ai (ag 0) af)) (dZ 2 (fA (aQ 2) (fA (aQ 3) eL))) N4
def Yu:En→O:=(av (az (bC af) (cZ 1))
 (av N5
 (C_ 1)))
def DN:List D→R D:=eE 1 3 Yu
def N6:En→O:=(ft (DG 0))
def vE:List D→R D:=eE 1 0 N6
def Hr:En→R Bool:=(bf (m2 qY (aj 3) (mC (.int 0))))
def Hs:En→O:=(av (az (m2 oMod (aj 2) (aj 3)) (aQ 4))
 (av (az (ag 3) (aQ 2))
 (az (ag 4) (aQ 3))))
def N7:En→O:=wh Hr Hs
def N8:En→O:=(av (az (aT n_ (ai (aj 0) af)) (aQ 2))
 (av (az (aT n_ (ai (aj 1) af)) (aQ 3))
 (av N7
 (aH (ag 2)))))
def Ht:List D→R D:=bF 2 3 N8
def N9:En→O:=(av (bj (bf (m2 oEq (aj 1) (mC (.int 0))))
 (xM 1 (ai (mC (.str "no fraction has nought for its bottom")) af))
 dq)
 (av (az (bw Ht (ai (ag 0) (ai (ag 1) af))) (aQ 2))
 (av (bj (bf (m2 oLt (aj 1) (mC (.int 0))))
 (az (m1 gh (aj 2)) (aQ 2))
 dq)
 (aH (cf (ai (m2 oDiv (aj 0) (aj 2)) (ai (m2 oDiv (aj 1) (aj 2)) af)))))))
def uA:List D→R D:=bF 2 1 N9
def N_:En→O:=(aH (m1 gh (m2 oDiv (m1 gh (m2 e_ (aj 0) (mC (.int 0)))) (m2 e_ (aj 0) (mC (.int 1))))))
def wC:List D→R D:=bF 1 0 N_
def Hu:En→R D:=i' (cK (m1 (bp BR "order") (aj 0))) [1] 1 (dC 1) none (m2 aO (aj 0) (aj 1))
def Hv:En→List Str→List D→R (List Str×List D):=(fD (lX "many" (ag 2))
 (fD (rC "order" (bw vE (ai (ag 1) af)))
 (fD (wA 8 "falling" Hu)
 (lX "least" (bw wC (ai (oE uA (ai (aT fX (ai (aj 1) af)) (ai (ag 2) af))) af))))))
def Hw:List D→R D:=runN 8 2 Hv
def Oa:En→O:=(bj (bf (m2 qY (aj 3) (aj 1)))
 (GN 5 (ai (ag 2) af))
 dq)
def Ob:En→O:=c9 (rY (ai (ag 0) af)) (dZ 2 (fA (aQ 2) (fA (aQ 3) eL))) Oa
def Oc:En→O:=Ob
def BU:List D→R D:=bF 2 2 Oc
def Hx:En→R D:=i' (cK (m1 (bp BR "order") (aj 0))) [1] 1 (dC 1) none (m2 aO (aj 0) (aj 1))
def Hy:En→List Str→List D→R (List Str×List D):=(fD (tQ (oE BU (ai (ag 1) (ai (ag 2) af))))
 (fD (lX "room" (ag 2))
 (fD (rC "order" (bw vE (ai (ag 1) af)))
 (wA 9 "falling" Hx))))
def Hz:List D→R D:=runN 9 2 Hy
def HB:En→List Str→List D→R (List Str×List D):=(fD (lX "room" (ag 1))
 (rC "things" (aT ni (ai (aj 2) af))))
def HC:List D→R D:=runN 10 2 HB
def Yv:En→O:=(aH (m2 bO (m2 iU (bw t7 (ai (ag 0) (ai (ag 1) af))) (mC (.int 2147483629))) (m2 iU (mC (.int 11)) (aj 1))))
def DO:List D→R D:=bF 2 0 Yv
def Yw:En→O:=(aH (aT n_ (ai (m2 jN (m2 oMod (m2 aO (aj 0) (aj 1)) (aj 3)) (m2 oMod (m2 aO (aj 0) (aj 2)) (aj 3))) af)))
def zv:List D→R D:=bF 4 0 Yw
def Od:En→R D:=i' (bS (ai (m2 iU (mC (.int 2)) (aj 1)) af)) [4] 1 (dC 1) none (bw DO (ai (m2 aO (aj 0) (m2 oMod (aj 1) (aT aJ (ai (aj 0) af)))) (ai (ag 1) af)))
def HD:En→R D:=i' (bS (ai (ag 0) af)) [] 1 (dC 0) none (mC (.int 0))
def DP:En→R (List (List Int)):=zg (bS (ai (ag 1) af)) [1] 1 (dC 1) HD
def Oe:En→O:=(av (az (bw zv (ai (ag 5) (ai (ag 7) (ai (ag 8) (ai (ag 3) af))))) (aQ 9))
 (av (az (m2 bO (aj 9) (bw zv (ai (ag 5) (ai (m2 bO (aj 1) (aj 7)) (ai (m2 bO (aj 1) (aj 8)) (ai (ag 3) af)))))) (aQ 9))
 (av (bj (bf (m2 oEq (m2 oMod (aj 2) (mC (.int 2))) (mC (.int 1))))
 (av (az (m2 bO (m2 aO (aj 5) (aj 8)) (m2 iU (mC (.int 31)) (m2 aO (aj 5) (m2 bO (aj 1) (aj 7))))) (aQ 10))
 (az (m2 bO (aj 3) (m2 oMod (aj 10) (m2 bO (aj 3) (mC (.int 1))))) (aQ 9)))
 dq)
 (av (zh 6 (ag 7) (ag 8) (ag 9))
 (zh 6 (ag 8) (ag 7) (ag 9))))))
def Of:En→O:=c9 (bS (ai (ag 7) af)) (aQ 8) Oe
def Og:En→O:=Of
def Oh:En→O:=c9 (bS (ai (ag 1) af)) (aQ 7) Og
def Yx:En→O:=(av (az (m2 oMod (bw ny (ai (ag 0) (ai (mC (.int 0)) af))) (m2 gg (mC (.int 10)) (mC (.int 12)))) (aQ 2))
 (av (az (m2 aO (bC (ai (mC (.int 5)) (ai (mC (.int 50)) (ai (m2 iU (mC (.int 4)) (m2 gg (mC (.int 10)) (mC (.int 17)))) af)))) (m2 oMod (m2 oDiv (aj 2) (mC (.int 2))) (mC (.int 3)))) (aQ 3))
 (av (az (m2 cW (gj (aj 0) (dV (mC (.int 1))) cC) (bC (ai (ag 2) af))) (aQ 4))
 (av (az Od (aQ 5))
 (av (Dy DP 6)
 (av Oh
 (Dz 6)))))))
def DQ:List D→R D:=eE 2 9 Yx
def HE:En→O:=(bj (bf (m2 wk (m2 aO (m2 aO (aj 0) (aj 2)) (aj 2)) (mC (.int 0))))
 (xM 2 (ai (mC (.str "a place is away from itself")) af))
 dq)
def Oi:En→O:=c9 (bS (ai (ag 1) af)) (aQ 2) HE
def HF:En→O:=(bj (bf (m2 wk (m2 aO (m2 aO (aj 0) (aj 2)) (aj 3)) (m2 aO (m2 aO (aj 0) (aj 3)) (aj 2))))
 (xM 2 (ai (mC (.str "two places have two unlike lengths")) af))
 dq)
def Yy:En→O:=c9 (bS (ai (ag 2) af)) (aQ 3) HF
def Oj:En→O:=Yy
def Ol:En→O:=c9 (bS (ai (ag 1) af)) (aQ 2) Oj
def HG:En→O:=(bj (bf (m2 oLt (m2 bO (m2 aO (m2 aO (aj 0) (aj 2)) (aj 3)) (m2 aO (m2 aO (aj 0) (aj 3)) (aj 4))) (m2 aO (m2 aO (aj 0) (aj 2)) (aj 4))))
 (xM 2 (ai (mC (.str "a way by a third place is shorter than the straight one")) af))
 dq)
def Yz:En→O:=c9 (bS (ai (ag 1) af)) (aQ 4) HG
def Om:En→O:=Yz
def YA:En→O:=c9 (bS (ai (ag 1) af)) (aQ 3) Om
def Oo:En→O:=YA
def Oq:En→O:=c9 (bS (ai (ag 1) af)) (aQ 2) Oo
def YB:En→O:=(av (az (aT aJ (ai (aj 0) af)) (aQ 1))
 (av Oi
 (av Ol
 Oq)))
def DR:List D→R D:=bF 1 4 YB
def Ot:En→R (List (List Int)):=(zg (cK (aj 0)) [] 1 (dC 0) (aT ni (ai (aj 0) af)))
def zw:List D→R (List (List Int)):=rF 1 Ot
def HH:En→List Str→List D→R (List Str×List D):=(fD (tQ (oE DR (ai (ag 1) af)))
 (vA "lengths" (BD zw (ai (ag 1) af))))
def HI:List D→R D:=runN 11 1 HH
def HJ:En→List Str→List D→R (List Str×List D):=(fD (tQ (oE DR (ai (ag 1) af)))
 (fD (vA "lengths" (BD zw (ai (ag 1) af)))
 (lX "many" (ag 2))))
def HK:List D→R D:=runN 12 2 HJ
def Ou:En→O:=(qD 5 (cf (ai (bw uz (ai (ag 7) (ai (m2 oDiv (bw t7 (ai (ag 7) (ai (m2 bO (aj 6) (mC (.int 9))) af))) (mC (.int 64))) af))) (ai (m2 bO (mC (.int 1)) (m2 oMod (aj 7) (mC (.int 5)))) af))))
def Ov:En→O:=c9 (rY (ai (gj (aj 0) (dV (mC (.int 2))) (dV (mC (.int 8)))) af)) (dZ 2 (fA (aQ 6) (fA (aQ 7) eL))) Ou
def YC:En→O:=(av (az (m2 oMod (m2 oDiv (bw ny (ai (ag 0) (ai (mC (.int 0)) af))) (mC (.int 7))) (m2 gg (mC (.int 10)) (mC (.int 12)))) (aQ 2))
 (av (bj (bf (m2 oEq (aj 1) (mC (.int 0))))
 (aH (mC (.obj 6 [] [])))
 dq)
 (av (bj (bf (m2 oEq (aj 1) (mC (.int 1))))
 (aH (bw Hq (ai (m2 oMod (aj 2) (mC (.int 7))) (ai (bw Hi (ai (gj (aj 0) (dV (mC (.int 2))) (dV (mC (.int 7)))) (ai (m2 oMod (aj 2) (mC (.int 7))) af))) af))))
 dq)
 (av (az (bw DN (ai (gj (aj 0) (dV (mC (.int 2))) (dV (mC (.int 7)))) af)) (aQ 3))
 (av (bj (bf (m2 oEq (aj 1) (mC (.int 2))))
 (aH (bw Hw (ai (ag 3) (ai (m2 bO (mC (.int 1)) (m2 oMod (aj 2) (mC (.int 4)))) af))))
 dq)
 (av (bj (bf (m2 oEq (aj 1) (mC (.int 3))))
 (av (az (xD (ai (aj 3) af) (mC (.int 1))) (aQ 4))
 (aH (bw Hz (ai (ag 3) (ai (aT xP (ai (m2 gg (mC (.int 10)) (mC (.int 18))) (ai (m2 bO (aj 4) (m2 oDiv (m2 iU (m2 oMod (aj 2) (mC (.int 3))) (aj 4)) (mC (.int 2)))) af))) af)))))
 dq)
 (av (bj (bf (m2 oEq (aj 1) (mC (.int 4))))
 (av (az (bC af) (cZ 5))
 (av Ov
 (aH (bw HC (ai (m2 oMod (aj 2) (mC (.int 12))) (ai (aj 5) af))))))
 dq)
 (av (az (m2 bO (mC (.int 1)) (m2 oMod (aj 2) (mC (.int 5)))) (aQ 8))
 (av (bj (bf (m2 oEq (aj 1) (mC (.int 5))))
 (aH (bw HI (ai (bw DQ (ai (ag 0) (ai (ag 8) af))) af)))
 dq)
 (aH (bw HK (ai (bw DQ (ai (ag 0) (ai (ag 8) af))) (ai (m2 bO (mC (.int 1)) (m2 oMod (m2 oDiv (aj 2) (mC (.int 5))) (aj 8))) af)))))))))))))
def DS:List D→R D:=bF 2 7 YC
def Ow:En→R D:=i' (bS (ai (ag 1) af)) [] 1 (dC 0) none (mC (.int 0))
def YD:En→O:=(y7 (fun i j=>i+j) 3 (ag 5) (ag 4))
def Ox:En→O:=c9 (Bz (ai (ag 0) (ai (ag 2) af))) (dZ 2 (fA (aQ 4) (fA (aQ 5) eL))) YD
def YE:En→O:=(av (az Ow (cZ 3))
 (av Ox
 (aH (aT (uw dM) (ai (aj 3) af)))))
def HL:List D→R D:=bF 3 3 YE
def YF:En→O:=(av (az (gj (m1 (bp oI "falling") (aj 0)) cC (dV (aT aJ (ai (aj 1) af)))) (aQ 2))
 (aH (aT zd (ai (m1 (bp DK "least") (aj 0)) (ai (bw HL (ai (ag 2) (ai (m1 (bp se "many") (aj 0)) (ai (ag 1) af)))) af)))))
def BV:List D→R D:=bF 2 1 YF
def Oy:En→R D:=i' (bS (ai (aT ux (ai (ag 1) af)) af)) [0] 1 (dC 1) none (m1 (bp x' "room") (aj 0))
def Oz:En→O:=(y7 (fun i j=>i - j) 2 (ag 4) (ag 3))
def OA:En→O:=c9 (Bz (ai (m1 (bp oI "falling") (aj 0)) (ai (ag 1) af))) (dZ 2 (fA (aQ 3) (fA (aQ 4) eL))) Oz
def YG:En→O:=(av (az Oy (cZ 2))
 (av OA
 (C_ 2)))
def zx:List D→R D:=eE 2 3 YG
def YH:En→O:=(av (az (b3 9 "free" zx (ag 0) (ai (ag 1) af)) (aQ 2))
 (av (az (m2 jN (aT fX (ai (gj (m1 (bp oI "falling") (aj 0)) (dV (aT aJ (ai (aj 1) af))) cC) af)) (aT fX (ai (aj 2) af))) (aQ 3))
 (aH (m2 bO (aT aJ (ai (aj 2) af)) (aT zd (ai (mC (.int 0)) (ai (bw wC (ai (oE uA (ai (ag 3) (ai (m1 (bp x' "room") (aj 0)) af))) af)) af)))))))
def BX:List D→R D:=bF 2 2 YH
def HM:En→R D:=i' (GU (ai (ag 0) af)) [1] 2 (dZ 2 (fA (dC 1) (fA (dC 2) eL))) (some (bf (m2 oEq (aj 2) (aj 0)))) (ag 1)
def YI:En→O:=(ft HM)
def zy:List D→R D:=eE 2 0 YI
def YJ:En→O:=(rZ 2 (ag 4) (mC (.bl true)))
def YK:En→O:=c9 (cK (m2 e_ (m2 aO (m1 (bp uy "sets") (aj 0)) (aj 3)) (mC (.int 1)))) (aQ 4) YJ
def OB:En→O:=YK
def OC:En→O:=c9 (cK (bw zy (ai (ag 1) (ai (mC (.int 1)) af)))) (aQ 3) OB
def HN:En→R D:=i' (bS (ai (m1 (bp se "many") (aj 0)) af)) [2] 1 (dC 1) (some (bf (m2 ur (ag 1) (aj 0)))) (ag 1)
def YL:En→O:=(av (az (mC (.dc [] [])) (cZ 2))
 (av OC
 (ft HN)))
def DT:List D→R D:=eE 2 3 YL
def OD:En→R D:=i' (cK (aj 1)) [0] 1 (dC 1) none (m2 e_ (m2 aO (aj 0) (aj 1)) (mC (.int 0)))
def YM:En→O:=(aH (aT fX (ai OD af)))
def HP:List D→R D:=bF 2 0 YM
def HQ:En→R D:=i' (cK (b3 7 "not_covered" DT (ag 0) (ai (ag 1) af))) [2] 1 (dC 1) none (Bs (aj 0) (ag 1) (mC (.int 0)))
def YN:En→O:=(av (az (m2 aO (m1 (bp x_ "cheapest") (aj 0)) (aT aJ (ai (aj 1) af))) (aQ 2))
 (av (az (xD (ai HQ af) (mC (.int 0))) (aQ 3))
 (aH (m2 bO (bw HP (ai (m1 (bp uy "sets") (aj 0)) (ai (bw zy (ai (ag 1) (ai (mC (.int 1)) af))) af))) (aj 3)))))
def BY:List D→R D:=bF 2 2 YN
def YO:En→O:=(aH (FO (bf (m2 qY (aT aJ (ai (aj 0) af)) (mC (.int 0)))) (m2 bO (m2 e_ (aj 0) (m1 gh (mC (.int 1)))) (mC (.int 1))) (mC (.int 0))))
def ya:List D→R D:=bF 1 0 YO
def OE:En→R D:=i' (cK (aj 2)) [0,1] 1 (dC 2) none (m2 aO (m2 aO (aj 0) (aj 1)) (aj 2))
def YQ:En→O:=(aH (aT (uw jQ) (ai OE af)))
def HR:List D→R D:=bF 3 0 YQ
def OG:En→R D:=i' (bS (ai (aT aJ (ai (aj 0) af)) af)) [0,1] 1 (dC 2) none (bw HR (ai (ag 0) (ai (ag 2) (ai (ag 1) af))))
def YR:En→O:=(aH (aT (uw dM) (ai OG af)))
def DU:List D→R D:=bF 2 0 YR
def YS:En→O:=(av (az (aT ni (ai (aj 1) af)) (cZ 2))
 (av (bj (bf (m2 oLt (aT aJ (ai (aj 1) af)) (m1 (bp se "many") (aj 0))))
 (BE 2 (xQ (ai (bw ya (ai (ag 1) af)) (ai (aT aJ (ai (m1 (bp r_ "lengths") (aj 0)) af)) af))))
 dq)
 (aH (Dl DU (ai (m1 (bp r_ "lengths") (aj 0)) (ai (aj 2) af))))))
def BZ:List D→R D:=bF 2 1 YS
def YT:En→O:=(aH (mC (.int 0)))
def DV:List D→R D:=bF 2 0 YT
def YU:En→O:=(ft (m2 cW (bC (ai (mC (.int 0)) af)) (aT ni (ai (aj 1) af))))
def DW:List D→R D:=eE 2 0 YU
def OH:En→R D:=i' (bS (ai (m2 jN (aT aJ (ai (aj 1) af)) (mC (.int 1))) af)) [0,1] 1 (dC 2) none (m2 aO (m2 aO (aj 0) (m2 aO (aj 1) (aj 2))) (m2 aO (aj 1) (m2 bO (aj 2) (mC (.int 1)))))
def YV:En→O:=(aH (aT fX (ai OH af)))
def DX:List D→R D:=bF 2 0 YV
def YW:En→O:=(av (bj (bf (m2 oEq (aT aJ (ai (aj 1) af)) (mC (.int 1))))
 (aH (mC (.int 0)))
 dq)
 (aH (m2 bO (bw DX (ai (ag 0) (ai (ag 1) af))) (m2 aO (m2 aO (aj 0) (m2 aO (aj 1) (m1 gh (mC (.int 1))))) (m2 aO (aj 1) (mC (.int 0)))))))
def HS:List D→R D:=bF 2 0 YW
def YX:En→O:=(aH (bw HS (ai (m1 (bp r_ "lengths") (aj 0)) (ai (b3 11 "answer" DW (ag 0) (ai (ag 1) af)) af))))
def B2:List D→R D:=bF 2 0 YX
def OI:En→R D:=i' (cK (bw zy (ai (ag 1) (ai (mC (.int 1)) af)))) [0] 1 (dC 1) none (m2 e_ (m2 aO (m1 (bp zu "things") (aj 0)) (aj 1)) (mC (.int 0)))
def YY:En→O:=(aH (aT fX (ai OI af)))
def B3:List D→R D:=bF 2 0 YY
def YZ:En→O:=(aH (aT aJ (ai (m1 (bp oI "falling") (aj 0)) af)))
def yb:List D→R D:=bF 1 0 YZ
def Y0:En→O:=(aH (aT aJ (ai (m1 (bp oI "falling") (aj 0)) af)))
def yc:List D→R D:=bF 1 0 Y0
def Y1:En→O:=(aH (aT aJ (ai (m1 (bp uy "sets") (aj 0)) af)))
def yd:List D→R D:=bF 1 0 Y1
def Y2:En→O:=(aH (m1 (bp se "many") (aj 0)))
def ye:List D→R D:=bF 1 0 Y2
def Y3:En→O:=(aH (mC (.int 0)))
def zz:List D→R D:=bF 1 0 Y3
def Y4:En→O:=(aH (m2 jN (aT aJ (ai (m1 (bp r_ "lengths") (aj 0)) af)) (mC (.int 1))))
def yf:List D→R D:=bF 1 0 Y4
def Y5:En→O:=(aH (aT aJ (ai (m1 (bp zu "things") (aj 0)) af)))
def yg:List D→R D:=bF 1 0 Y5
def Y6:En→O:=(av (az (aT ux (ai (ag 1) af)) (aQ 2))
 (ft (Gv (ai (aT xP (ai (m2 bO (aj 2) (mC (.int 1))) (ai (m1 (bp se "many") (aj 0)) af))) af))))
def zB:List D→R D:=eE 2 1 Y6
def OJ:En→R D:=i' (rY (ai (aj 2) af)) [3] 2 (dZ 2 (fA (dC 1) (fA (dC 2) eL))) (some (bf (m2 oLe (aj 0) (aj 2)))) (ag 1)
def Y7:En→O:=(av (az (b3 9 "free" zx (ag 0) (ai (ag 1) af)) (aQ 2))
 (av (az (m2 aO (m1 (bp oI "falling") (aj 0)) (aT aJ (ai (aj 1) af))) (aQ 3))
 (ft (m2 cW OJ (bC (ai (aT aJ (ai (aj 2) af)) af))))))
def zC:List D→R D:=eE 2 2 Y7
def zD:En→O:=(bj (k_ (bf (m2 Br (aj 4) (aj 3))) (bf (m2 ur (ag 4) (aj 2))))
 (ft (bC (ai (mC (.int 1)) af)))
 dq)
def OK:En→O:=c9 (cK (b3 7 "not_covered" DT (ag 0) (ai (ag 1) af))) (aQ 4) zD
def Y8:En→O:=(av (az (m2 aO (m1 (bp x_ "cheapest") (aj 0)) (m2 bO (aT aJ (ai (aj 1) af)) (mC (.int 1)))) (aQ 2))
 (av (az (m2 e_ (m2 aO (m1 (bp uy "sets") (aj 0)) (aT aJ (ai (aj 1) af))) (mC (.int 1))) (aQ 3))
 (av OK
 (ft (bC (ai (mC (.int 0)) (ai (mC (.int 1)) af)))))))
def zE:List D→R D:=eE 2 3 Y8
def Y9:En→O:=(av (az (m2 jN (m1 (bp se "many") (aj 0)) (aT aJ (ai (aj 1) af))) (aQ 2))
 (ft (xQ (ai (bw ya (ai (ag 1) af)) (ai (m2 bO (m2 jN (aT aJ (ai (m1 (bp r_ "lengths") (aj 0)) af)) (aj 2)) (mC (.int 1))) af)))))
def zF:List D→R D:=eE 2 1 Y9
def Y_:En→O:=(ft (bC af))
def B4:List D→R D:=eE 2 0 Y_
def HU:En→R D:=i' (bS (ai (mC (.int 1)) (ai (aT aJ (ai (m1 (bp r_ "lengths") (aj 0)) af)) af))) [1] 1 (dC 1) (some (bf (m2 zc (aj 1) (aj 0)))) (ag 1)
def Y':En→O:=(ft HU)
def zG:List D→R D:=eE 2 0 Y'
def HV:En→R D:=i' (cK (bw zy (ai (ag 1) (ai (mC (.int 0)) af)))) [0] 1 (dC 1) none (m2 e_ (m2 aO (m1 (bp zu "things") (aj 0)) (aj 1)) (mC (.int 1)))
def Za:En→O:=(av (az (aT fX (ai HV af)) (aQ 2))
 (av (bj (bf (m2 oLe (m2 bO (aj 2) (m2 e_ (m2 aO (m1 (bp zu "things") (aj 0)) (aT aJ (ai (aj 1) af))) (mC (.int 1)))) (m1 (bp x' "room") (aj 0))))
 (ft (bC (ai (mC (.int 0)) (ai (mC (.int 1)) af))))
 dq)
 (ft (bC (ai (mC (.int 1)) af)))))
def zH:List D→R D:=eE 2 1 Za
def OL:En→R D:=i' (rj (ai (br 0 8 (b3 8 "ways" zB (ag 0) (ai (ag 1) af)) (br 0 9 (b3 9 "ways" zC (ag 0) (ai (ag 1) af)) (br 0 7 (b3 7 "ways" zE (ag 0) (ai (ag 1) af)) (br 0 12 (b3 12 "ways" zF (ag 0) (ai (ag 1) af)) (br 0 6 (b3 6 "ways" B4 (ag 0) (ai (ag 1) af)) (br 0 11 (b3 11 "ways" zG (ag 0) (ai (ag 1) af)) (b3 10 "ways" zH (ag 0) (ai (ag 1) af)))))))) af)) [1] 1 (dC 1) none (m2 qI (aj 0) (cf (ai (ag 1) af)))
def Zb:En→O:=(ft OL)
def wD:List D→R D:=eE 2 0 Zb
def DY:En→R Bool:=(bf (m2 qY (aT aJ (ai (aj 6) af)) (mC (.int 0))))
def DZ:En→O:=(av (vj (fun i j=>i+j) 5 (mC (.int 1)))
 (av (bj (bf (m2 qY (aj 5) (aj 1)))
 (xM 3 (ai (mC (.str "more cases than may be looked at")) af))
 dq)
 (av (wt 6 (aQ 7))
 (av (az (br 0 8 (b3 8 "low" BV (ag 0) (ai (ag 7) af)) (br 0 9 (b3 9 "low" BX (ag 0) (ai (ag 7) af)) (br 0 7 (b3 7 "low" BY (ag 0) (ai (ag 7) af)) (br 0 12 (b3 12 "low" BZ (ag 0) (ai (ag 7) af)) (br 0 6 (b3 6 "low" DV (ag 0) (ai (ag 7) af)) (br 0 11 (b3 11 "low" B2 (ag 0) (ai (ag 7) af)) (b3 10 "low" B3 (ag 0) (ai (ag 7) af)))))))) (aQ 8))
 (bj (k_ (bf (m2 F7 (aj 3) (mC .non))) (bf (m2 y9 (aj 8) (aj 3))))
 (qD 4 (ag 7))
 (bj (bf (m2 oEq (aT aJ (ai (aj 7) af)) (br 0 8 (b3 8 "steps" yb (ag 0) af) (br 0 9 (b3 9 "steps" yc (ag 0) af) (br 0 7 (b3 7 "steps" yd (ag 0) af) (br 0 12 (b3 12 "steps" ye (ag 0) af) (br 0 6 (b3 6 "steps" zz (ag 0) af) (br 0 11 (b3 11 "steps" yf (ag 0) af) (b3 10 "steps" yg (ag 0) af)))))))))
 (av (qD 4 (ag 7))
 (av (az (ag 7) (aQ 2))
 (az (ag 8) (aQ 3))))
 (x5 6 (bw wD (ai (ag 0) (ai (ag 7) af))))))))))
def OM:En→O:=wh DY DZ
def HW:En→O:=(av (az (mC .non) (aQ 2))
 (av (az (mC .non) (aQ 3))
 (av (az (bC af) (cZ 4))
 (av (az (mC (.int 0)) (aQ 5))
 (av (az (bC (ai (cf af) af)) (cZ 6))
 (av OM
 (qX 4 (aH (cf (ai (ag 2) (ai (ag 3) (ai (ag 4) af))))))))))))
def B5:List D→R D:=bF 2 7 HW
def ON:En→R D:=i' (Bc (ag 1)) [] 1 (dC 0) (some (oC (jn (bf (m1 (jP "int") (aj 0)))) (bf (m1 (jP "bool") (aj 0))))) (ag 0)
def OO:En→O:=(av (bj (jn (bf (m1 (jP "tuple") (aj 1))))
 (aH (mC (.bl false)))
 dq)
 (bj (bf (m2 qY (aT aJ (ai ON af)) (mC (.int 0))))
 (aH (mC (.bl false)))
 dq))
def Zc:En→O:=c9 (cK (ag 0)) (aQ 1) OO
def Zd:En→O:=(av (bj (jn (bf (m1 (jP "list") (aj 0))))
 (aH (mC (.bl false)))
 dq)
 (av Zc
 (aH (mC (.bl true)))))
def D0:List D→R D:=bF 1 1 Zd
def t8:En→R D:=(br 0 8 (b3 8 "low" BV (ag 0) (ai (ag 1) af)) (br 0 9 (b3 9 "low" BX (ag 0) (ai (ag 1) af)) (br 0 7 (b3 7 "low" BY (ag 0) (ai (ag 1) af)) (br 0 12 (b3 12 "low" BZ (ag 0) (ai (ag 1) af)) (br 0 6 (b3 6 "low" DV (ag 0) (ai (ag 1) af)) (br 0 11 (b3 11 "low" B2 (ag 0) (ai (ag 1) af)) (b3 10 "low" B3 (ag 0) (ai (ag 1) af))))))))
def t9:En→R (List D):=(cK (aT ni (ai (br 0 8 (b3 8 "ways" zB (ag 0) (ai (ag 1) af)) (br 0 9 (b3 9 "ways" zC (ag 0) (ai (ag 1) af)) (br 0 7 (b3 7 "ways" zE (ag 0) (ai (ag 1) af)) (br 0 12 (b3 12 "ways" zF (ag 0) (ai (ag 1) af)) (br 0 6 (b3 6 "ways" B4 (ag 0) (ai (ag 1) af)) (br 0 11 (b3 11 "ways" zG (ag 0) (ai (ag 1) af)) (b3 10 "ways" zH (ag 0) (ai (ag 1) af)))))))) af)))
def zI:En→R Bool:=(bf (m2 jO (m2 aO (aj 2) (m1 gh (mC (.int 1)))) (aj 3)))
def D1:En→O:=(av (wt 2 (aQ 4))
 (av (bj (oC (bf (m2 oEq (aT aJ (ai (aj 4) af)) (br 0 8 (b3 8 "steps" yb (ag 0) af) (br 0 9 (b3 9 "steps" yc (ag 0) af) (br 0 7 (b3 7 "steps" yd (ag 0) af) (br 0 12 (b3 12 "steps" ye (ag 0) af) (br 0 6 (b3 6 "steps" zz (ag 0) af) (br 0 11 (b3 11 "steps" yf (ag 0) af) (b3 10 "steps" yg (ag 0) af))))))))) (bf (m2 jO (lj (aj 3) cC (dV (aT aJ (ai (aj 4) af)))) (aj 4))))
 (aH (mC (.bl false)))
 dq)
 (x5 2 (bw wD (ai (ag 0) (ai (ag 4) af))))))
def Ze:En→O:=wh zI D1
def zJ:En→O:=(av (bj (bf (m2 oEq (aT aJ (ai (aj 2) af)) (mC (.int 0))))
 (aH (mC (.bl false)))
 dq)
 (av Ze
 (BJ 2)))
def OP:En→O:=c9 (cK (ag 1)) (aQ 3) zJ
def Zf:En→O:=(av (az (bC (ai (cf af) af)) (cZ 2))
 (av OP
 (aH (m2 oEq (aT aJ (ai (aj 2) af)) (mC (.int 0))))))
def wF:List D→R D:=bF 2 3 Zf
def OQ:En→R D:=i' (bS (ai (m2 oMod (aj 3) (mC (.int 4))) af)) [3] 1 (dC 1) none (m2 oMod (m2 oDiv (aj 0) (mC (.int 4))) (mC (.int 3)))
def OR:En→O:=(av (az (m2 oMod (m2 oDiv (aj 1) (mC (.int 8))) (aT aJ (ai (aj 0) af))) (aQ 2))
 (av (az (m2 oDiv (aj 1) (mC (.int 8000))) (aQ 3))
 (av (az (m2 aO (aj 0) (aj 2)) (aQ 4))
 (av (az (m2 oMod (aj 1) (mC (.int 8))) (aQ 5))
 (av (bj (bf (m2 oEq (aj 5) (mC (.int 0))))
 (ft (m2 cW (gj (aj 0) cC (dV (ag 2))) (gj (aj 0) (dV (m2 bO (aj 2) (mC (.int 1)))) cC)))
 dq)
 (av (bj (bf (m2 oEq (aj 5) (mC (.int 1))))
 (ft (m2 cW (m2 cW (gj (aj 0) cC (dV (ag 2))) (bC (ai (ag 4) af))) (gj (aj 0) (dV (ag 2)) cC)))
 dq)
 (av (bj (bf (m2 oEq (aj 5) (mC (.int 2))))
 (ft (m2 cW (m2 cW (m2 cW (gj (aj 0) cC (dV (ag 2))) (bC (ai (m2 aO (aj 0) (m1 gh (mC (.int 1)))) af))) (gj (aj 0) (dV (m2 bO (aj 2) (mC (.int 1)))) (dV (m1 gh (mC (.int 1)))))) (bC (ai (ag 4) af))))
 dq)
 (av (bj (bf (m2 oEq (aj 5) (mC (.int 3))))
 (ft (m2 cW (m2 cW (gj (aj 0) cC (dV (ag 2))) (bC (ai (lj (aj 4) cC (dV (m1 gh (mC (.int 1))))) af))) (gj (aj 0) (dV (m2 bO (aj 2) (mC (.int 1)))) cC)))
 dq)
 (av (bj (bf (m2 oEq (aj 5) (mC (.int 4))))
 (ft (m2 cW (m2 cW (gj (aj 0) cC (dV (ag 2))) (bC (ai (m2 qI (aj 4) (cf (ai (m2 oMod (aj 3) (mC (.int 3))) af))) af))) (gj (aj 0) (dV (m2 bO (aj 2) (mC (.int 1)))) cC)))
 dq)
 (av (bj (k_ (bf (m2 oEq (aj 5) (mC (.int 5)))) (bf (m2 qY (aT aJ (ai (aj 4) af)) (mC (.int 0)))))
 (ft (m2 cW (m2 cW (gj (aj 0) cC (dV (ag 2))) (bC (ai (m2 qI (lj (aj 4) cC (dV (m1 gh (mC (.int 1))))) (cf (ai (m2 bO (m2 e_ (aj 4) (m1 gh (mC (.int 1)))) (mC (.int 1))) af))) af))) (gj (aj 0) (dV (m2 bO (aj 2) (mC (.int 1)))) cC)))
 dq)
 (av (bj (bf (m2 oEq (aj 5) (mC (.int 6))))
 (ft (m2 cW (m2 cW (gj (aj 0) cC (dV (ag 2))) (bC (ai (aT G8 (ai OQ af)) af))) (gj (aj 0) (dV (ag 2)) cC)))
 dq)
 (ft (bC af)))))))))))))
def D2:List D→R D:=eE 2 4 OR
def zK (uB:List D→R D):En→O:=(av (az (bw uB (ai (ag 0) (ai (ag 1) (ai (ag 2) (ai (m2 qI (aj 3) (cf (ai (ag 5) af))) (ai (ag 4) af)))))) (aQ 2))
 (bj (bf (m2 y_ (aj 2) (mC .non)))
 (aH (mC .non))
 dq))
def OS (uB:List D→R D):En→O:=c9 (cK (br 0 8 (b3 8 "ways" zB (ag 0) (ai (ag 3) af)) (br 0 9 (b3 9 "ways" zC (ag 0) (ai (ag 3) af)) (br 0 7 (b3 7 "ways" zE (ag 0) (ai (ag 3) af)) (br 0 12 (b3 12 "ways" zF (ag 0) (ai (ag 3) af)) (br 0 6 (b3 6 "ways" B4 (ag 0) (ai (ag 3) af)) (br 0 11 (b3 11 "ways" zG (ag 0) (ai (ag 3) af)) (b3 10 "ways" zH (ag 0) (ai (ag 3) af))))))))) (aQ 5) (zK uB)
def D3 (uB:List D→R D):En→O:=(av (bj (oC (bf (m2 y_ (aj 2) (mC .non))) (bf (m2 y9 (aj 2) (aT aJ (ai (aj 1) af)))))
 (aH (mC .non))
 dq)
 (av (bj (bf (m2 mT (m2 aO (aj 1) (aj 2)) (aj 3)))
 (aH (m2 bO (aj 2) (mC (.int 1))))
 dq)
 (av (bj (bf (m2 oEq (aT aJ (ai (aj 3) af)) (aj 4)))
 (aH (mC .non))
 dq)
 (av (OS uB)
 (aH (ag 2))))))
def oy:Nat→List D→R D
 | 0,_=>.no
 | n+1,ds=>bF 5 1 (D3 (oy n)) ds
def uB:List D→R D:=oy 8
def Zg:En→O:=(av (az (aT ni (ai (aj 1) af)) (aQ 2))
 (av (az (bw wF (ai (ag 0) (ai (ag 2) af))) (aQ 3))
 (av (az (m2 oEq (bw uB (ai (ag 0) (ai (ag 1) (ai (mC (.int 0)) (ai (cf af) (ai (br 0 8 (b3 8 "steps" yb (ag 0) af) (br 0 9 (b3 9 "steps" yc (ag 0) af) (br 0 7 (b3 7 "steps" yd (ag 0) af) (br 0 12 (b3 12 "steps" ye (ag 0) af) (br 0 6 (b3 6 "steps" zz (ag 0) af) (br 0 11 (b3 11 "steps" yf (ag 0) af) (b3 10 "steps" yg (ag 0) af))))))) af)))))) (aT aJ (ai (aj 1) af))) (aQ 4))
 (aH (yX (m1 (jP "bool") (aj 3)) (yX (m2 oEq (aj 3) (aj 4)) (m2 mT (aj 2) (aj 1))))))))
def D4:List D→R D:=bF 2 3 Zg
def OT:En→O:=(av (az (bw t7 (ai (m2 oDiv (bw ny (ai (ag 0) (ai (m2 bO (mC (.int 1)) (aj 6)) af))) (mC (.int 3))) (ai (m2 bO (aj 6) (mC (.int 40))) af))) (aQ 7))
 (bj (jn (bf (bw D4 (ai (ag 2) (ai (bw D2 (ai (ag 4) (ai (ag 7) af))) af)))))
 (aH (mC (.bl false)))
 dq))
def Zh:En→O:=c9 (bS (ai (mC (.int 4)) af)) (aQ 6) OT
def OU:En→O:=(av (az (m2 oMod (bw ny (ai (ag 0) (ai (mC (.int 0)) af))) (mC (.int 7))) (aQ 1))
 (av (az (bw DS (ai (ag 0) (ai (ag 1) af))) (aQ 2))
 (av (az (bw B5 (ai (ag 2) (ai (mC (.int 2000)) af))) (aQ 3))
 (av (bj (oC (jn (bf (m1 (jP "tuple") (aj 3)))) (oC (bf (m2 wk (aT aJ (ai (aj 3) af)) (mC (.int 3)))) (jn (bf (bw D0 (ai (m2 e_ (aj 3) (mC (.int 2))) af))))))
 (aH (mC (.bl false)))
 dq)
 (av (az (m2 e_ (aj 3) (mC (.int 2))) (aQ 4))
 (BP 5 (ag 2) (br 2 8 (b3 8 "steps" yb (ag 2) af) (br 2 9 (b3 9 "steps" yc (ag 2) af) (br 2 7 (b3 7 "steps" yd (ag 2) af) (br 2 12 (b3 12 "steps" ye (ag 2) af) (br 2 6 (b3 6 "steps" zz (ag 2) af) (br 2 11 (b3 11 "steps" yf (ag 2) af) (b3 10 "steps" yg (ag 2) af))))))) t8 t9 8
 (av (bj (oC (bf (m2 jO (aj 3) (cf (ai (m2 aO (aj 5) (mC (.int 0))) (ai (m2 aO (aj 5) (mC (.int 1))) (ai (m2 aO (aj 5) (mC (.int 2))) af)))))) (bf (m2 BN (bw wF (ai (ag 2) (ai (ag 4) af))) (mC (.bl true)))))
 (aH (mC (.bl false)))
 dq)
 (av Zh
 (aH (yX (m2 rG (bw wF (ai (ag 2) (ai (bC (ai (cf af) af)) af))) (mC (.bl true))) (m2 rG (bw wF (ai (ag 2) (ai (bC af) af))) (mC (.bl false)))))))))))))
def OV:List D→R D:=bF 1 7 OU
def bz(n:Nat):List Int:=(List.range n).map fun(k:Nat)=>(k:Int)
theorem bM:t∈bz n↔0<=t/\t<(n:Int):=by
 unfold bz;rw[hI];constructor;.rintro⟨a,h,rfl⟩;simp_all
 .rintro⟨b,c⟩;exact⟨t.toNat,iE.mpr (by lia),by lia⟩
theorem fN:(bz n).length=n:=by simp[bz]
theorem jS{n:Nat}(h:n<=1000):lP [.int (n:Int)]=some ((bz n).map .int):=by rw[Bk (by lia) (by lia),Mi,bz,cM];rfl
noncomputable def gA(L:List Int)(i:Int):Int:=L.getD i.toNat 0
theorem HX(h:i.toNat<L.length):L[i.toNat]?=some (gA L i):=by simp[gA,h]
theorem OW{α:Type}{f g:α->Int}:∀{l:List α},(l.map fun x=>f x+g x).sum=(l.map f).sum+(l.map g).sum |[]=>rfl |a::l=>by have c:=OW (f:=f) (g:=g) (l:=l);simp[bJ,List.sum_cons];lia
theorem OX{α:Type}:∀{l:List α},(l.map fun _=>c).sum=(l.length:Int)*c |[]=>by simp |a::l=>by rw[bJ,List.sum_cons,OX,gY,Int.natCast_add,Int.add_mul];lia
theorem OY{α:Type}(enc:α->D)(p:α->Bool)(g:α->D)(l:List α)(h:∀x∈l,f (enc x)=.ok (if p x=true then some (g x) else none)):oF f (l.map enc)=.ok ((l.filter p).map g):=by induction l with |nil=>rfl |cons a l i=>
 have c:=h a (by simp);have d:=i fun x k=>h x (by simp[k]);rw[bJ,oF,c,d];by_cases e:p a=true;.simp[e]
 simp_all
theorem yh(ns:List Int):fX [iL ns]=some (.int ns.sum):=by simp[fX,iL,r6]
theorem OZ(h0:0<=k)(h1:k.toNat<L.length):aO (iL L) (.int k)=some (.int (gA L k)):= xH h0 (by simp[HX h1])
theorem O0(h:δ[i]?=some (.o (iL L)))(c:mi δ=.ok (.int k))(h0:0<=k)(h1:k.toNat<L.length)(d:me δ=.ok (.int y)): y7 f i mi me δ=.nx (δ.set i (.o (iL (L.set k.toNat (f (gA L k) y))))):=by
 have b:iv (L.map D.int).length k=some k.toNat:=by unfold iv;rw[ao h0,ao (by simp_all)]
 have a:(L.map D.int)[k.toNat]?=some (.int (gA L k)):=by simp[HX h1]
 unfold y7;rw[h];simp only[iL,c,R.gH,b,a,d];simp
theorem Zi:gg (.int 10) (.int 20)=some (.int 100000000000000000000):=Bj ⟨by decide,by decide,by decide⟩
theorem D5:gg (.int 10) (.int 18)=some (.int 1000000000000000000):=Bj ⟨by decide,by decide,by decide⟩
theorem HY(ns:List Int)(k:Nat):ny [.cB ns,.int k]=.ok (.int (ns.getD k 0)):=by
  by_cases h:k<ns.length
  . have e:aO (.cB ns) (.int (k))=some (.int (ns.getD k 0)):=by show(hV _ _).map _=_;rw[mM (d:=ns.getD k 0) (by simp_all)];rfl
    simp[ny,bF,mR,Hd,av,bj,bf,aH,aj,aT,ai,af,aJ,h,e]
  .simp[ny,bF,mR,Hd,av,bj,bf,aH,aj,mC,aT,ai,af,aJ,h,dq]
theorem Zj(ns:List Int)(h:0<=k):ny [.cB ns,.int k]=.ok (.int (ns.getD k.toNat 0)):=by have:=HY ns k.toNat;rwa[show(k.toNat:Int)=k by lia] at this
theorem wG(h:m δ=.rt d):av m n δ=.rt d:=by unfold av;rw[h]
theorem Zk(h0:0<=t)(h1:t<=1000):xO (.int 1) (.int t)=some (.int (1*2^t.toNat)):=fi ⟨h0,by lia,by decide⟩
theorem B6(h:δ[i]?=some (.o (.lst l)))(b:me δ=.ok d)(a:l.length<=100000):qD i me δ=.nx (δ.set i (.o (.lst (l++[d])))):=by unfold qD;rw[h];simp[b,R.gH];rw[fi (l5 a (by decide))]
theorem wH(a:Int)(h:0<b):0<=a%b:=j' _ (by omega)
theorem wI(a:Int)(h:0<b):a%b<b:=j_ _ h
abbrev Ps:=Int×List Int
def fc(s:Ps):D:=.tup [.int s.1,iL s.2]
def bu(l:List Ps):D:=.lst (l.map fc)
structure Good(n:Nat)(s:Ps):Prop where
 lo:0<=s.1hi:s.1<=1000000000000000000nd:s.2.Nodup
 mem:∀t∈s.2,0<=t/\t<(n:Int)
theorem Zl(n:Nat):((List.range n).map fun(k:Nat)=>(k:Int)).Nodup:=by refine List.Pairwise.map _ (fun a b h e=>h (Int.ofNat.inj e)) qs
theorem HZ{n:Nat}(h:n<=1000):lP [.int (n:Int)]=some (((List.range n).map fun(k:Nat)=>(k:Int)).map .int):=by rw[Bk (by omega) (by omega),Mi,cM];rfl
def fQ(n:Nat):List Int:=(List.range n).map fun(k:Nat)=>(k:Int)
theorem cw:t∈fQ n↔0<=t/\t<(n:Int):=by
 unfold fQ;rw[hI];constructor;.rintro⟨a,h,rfl⟩;simp_all
 .rintro⟨b,c⟩;exact⟨t.toNat,iE.mpr (by omega),by omega⟩
theorem H_:(fQ n).length=n:=by simp[fQ]
theorem O1(n:Nat):(fQ n).Nodup:=Zl n
theorem yi{n:Nat}(h:n<=1000):lP [.int (n:Int)]=some ((fQ n).map .int):=HZ h
def lo1(t b:Int):Int:=t/(Int.gcd t b:Int)
def uC(t b:Int):Int:=b/(Int.gcd t b:Int)
theorem D6(h:0<b):(0:Int)<Int.gcd t b:=by have:0<Int.gcd t b:=Int.gcd_pos_of_ne_zero_right _ (by omega);lia
theorem Zm:lo1 t b*(Int.gcd t b:Int)=t:=Int.ediv_mul_cancel (Int.gcd_dvd_left ..)
theorem Ia:uC t b*(Int.gcd t b:Int)=b:=Int.ediv_mul_cancel (Int.gcd_dvd_right ..)
theorem Zn(h:0<b):0<uC t b:=by
 have a:=D6 (t:=t) h;have c:=Ia (t:=t) (b:=b);rcases Int.lt_trichotomy (uC t b) 0 with z|z|z;.have:=Int.mul_neg_of_neg_of_pos z a;lia
 .simp_all
 omega
theorem Zo(h:0<b):(uC t b).natAbs<=b.natAbs:=by
 have c:=D6 (t:=t) h;have e:=Ia (t:=t) (b:=b);have:b.natAbs=(uC t b).natAbs*(Int.gcd t b):=by
  conv=>lhs;rw[<-e]
  rw[Int.natAbs_mul];simp
 rw[this];exact Nat.le_mul_of_pos_right _ (by lia)
def ins(L:List Int)(t:Int):List Int:=if t∈L then L else L++[t]
def d7(L ts:List Int):List Int:=ts.foldl ins L
theorem bV:∀{L:List Int}{t:Int},t∈d7 L ts↔t∈L\/t∈ts:=by induction ts with |nil=>simp[d7] |cons a l d=>
 intro L t;show t∈d7 _ l↔_;rw[d];unfold ins;by_cases h:a∈L;.grind
 .rw[ak h,cO,cY,aU];grind
theorem zL:∀{L:List Int},L.Nodup->(d7 L ts).Nodup:=by induction ts with |nil=>intro L h;exact h |cons a l d=>
 intro L h;refine d ?_;unfold ins;by_cases z:a∈L;.simp_all
 .rw[ak z,lO];exact⟨h,by simp,fun x f y g e=>by simp_all⟩
theorem D8:d7 L (ts++us)=d7 (d7 L ts) us:=by simp[d7]
theorem Ib{L:List Int}(h:L.Nodup)(b:∀t∈L,t∈fQ n):L.length<=n:=by have:=vV h b;rwa[H_] at this
theorem D9(c:i≠j)(G:n<=1000):∀(ts:List Int)(δ:En)(L:List Int)(o:Option D),δ[j]?=some (.o (dk L))->δ[i]?=some (sv o)->L.Nodup->(∀t∈L,t∈fQ n)->(∀t∈ts,t∈fQ n)-> ∃m,iS (aQ i) (rZ j (ag i) (mC (.bl true))) (ts.map .int) δ=.nx ((δ.set j (.o (dk (d7 L ts)))).set i (sv m))
  |[],δ,L,o,l,h,_,_,_=>by
    refine⟨o,?_⟩;have d:δ.set j (.o (dk L))=δ:=by
      apply iB;intro k;by_cases e:j=k;.subst e;rw[a_ (b_.mp l).1,l]
      simp_all
    have f:δ.set i (sv o)=δ:=by
      apply iB;intro k;by_cases e:i=k;.subst e;rw[a_ (b_.mp h).1,h]
      simp_all
    show O.nx _=.nx ((δ.set j (.o (dk L))).set i _);grind |t::ts,δ,L,o,l,h,s,E,r=>by
    have a:=(b_.mp h).1;have g:=(b_.mp l).1;have y:aQ i (.int t) _=some _:=kG h;have w:(δ.set i (.v (.int t)))[j]?=some (.o (dk L)):=by simp_all
    have A:ag i (δ.set i (.v (.int t)))=.ok (.int t):=by unfold ag;rw[a_ a]
    have C:=Ib s E;have p:=UY (me:=mC _) w A rfl (by lia);obtain⟨m,B⟩:=D9 c G _ ((δ.set i (.v _)).set j (.o (dk (ins L t)))) _ (some _) (a_ (by simpa using g)) (by rw[aI (aR c),a_ a];rfl) (zL (ts:=[t]) s) (fun x q=>by
        rcases(bV (ts:=[t])).mp q with z|z;.simp_all
        . have:=by simpa using z
          subst this;exact r x g_) (fun x q=>r x (bK _ q));refine⟨m,?_⟩;rw[bJ];unfold iS;rw[y];simp only;rw[show rZ j (ag i) _ _=.nx ((δ.set i _).set j (.o (dk (ins L t)))) from p];simp only;rw[B];congr 1;apply iB;intro k;by_cases d:i=k;.subst d;rw[a_ (by simpa using a),a_ (by simpa using a)]
    . rw[aI d,aI d];by_cases f:j=k;.subst f;rw[a_ (by simpa using g),a_ (by omega)];rfl
      .rw[aI f,aI f,aI f,aI d]
structure fY(n:Nat)(sets:List Ps):Prop where
 good:∀s∈sets,Good n s
 pT:sets.length<=1000n1:n<=1000
def things(sets:List Ps):List Int:=sets.flatMap (·.2)
def num(c k:Int):Int:=(c%100000000000000000000+k*k+3)*(39373+2*k)%2147483647
theorem O2(c k:Int):0<=num c k:=j' _ (by decide)
theorem B7(c k:Int)(h0:0<=k)(h1:k<=1000):t7 [.int c,.int k]=.ok (.int (num c k)):=by have g:=Int.mul_nonneg h0 h0;have f:=Int.mul_le_mul h1 h1 h0 (by decide);have d:eI k:=c_ 1000 (by lia);have b:eI 2:=c_ 1000 (by decide);have e:eI (c%100000000000000000000+k*k+3):=c_ (10^21) (by lia);have a:eI (39373+2*k):=c_ (10^21) (by lia);simp[t7,bF,mR,NS,aH,aj,mC,Zi,iy,xE,d,b,e,a,num]
def dm(L:List Int)(f:Int->Int):D:=.dc (L.map .inl) (L.map fun t=>.int (f t))
theorem O3(L:List Int)(f:Int->Int)(t:Int):gI (L.map .inl) (L.map fun t=>D.int (f t)) (.inl t)=if t∈L then some (.int (f t)) else none:=by induction L with |nil=>rfl |cons a l d=>
 simp[bJ,gI];by_cases h:a=t;.simp_all
 .grind
theorem Zp(L:List Int)(f:Int->Int)(t v:Int):putL (L.map .inl) (L.map fun t=>D.int (f t)) (.inl t) (.int v)=L.map fun u=>.int (if u=t then v else f u):=by induction L with |nil=>rfl |cons a l d=>
 simp[bJ,putL];by_cases h:a=t;.simp_all
 .simp_all
theorem Zq(L:List Int)(f:Int->Int)(t v:Int):putD (L.map .inl) (L.map fun t=>D.int (f t)) (.inl t) (.int v)=dm (ins L t) (fun u=>if u=t then v else f u):=by
  unfold putD ins;by_cases h:t∈L;.rw[ao (by simp_all),ao h,Zp];rfl
  . unfold dm;have:L.map (fun t=>D.int _)=L.map fun u=>D.int (if u=t then v else f u):=iD fun u a=>by rw[ak (fun e:u=t=>h (e▸a))]
    grind
theorem O4(h:∀t∈L,f t=g t):dm L f=dm L g:=by unfold dm;rw[iD (g:=fun t=>D.int (g t)) fun t a=>by simp_all]
@[simp] theorem zyS(L:List Int)(f:Int->Int)(t:Int):ur (.int t) (dm L f)=some (.bl (!decide (t∈L))):=by simp[ur,qC,dm,O3];grind
theorem Zr(h:δ[i]?=some (.o (dm L f)))(h1:mk δ=.ok (.int t))(h2:me δ=.ok (.int v))(a:L.length<=100000): rZ i mk me δ=.nx (δ.set i (.o (dm (ins L t) (fun u=>if u=t then v else f u)))):=by unfold rZ;rw[h];simp only[dm,h2,h1,R.gH,qC];rw[fi (by rw[aN];exact Mg a),Zq];rfl
theorem O5(hd:md δ=.ok (dm L f))(a:mk δ=.ok (.int t))(b:mx δ=.ok (.int v)):Bs md mk mx δ=.ok (.int (if t∈L then f t else v)):=by unfold Bs;rw[hd,a,b];have g:=O3 L f t;show R.ok _=_;grind
def lY:List Ps->List Int |[]=>[] |s::l=>d7 (lY l) s.2
def ju:List Ps->Int->Int |[],_=>0 |s::l,t=>if t∈s.2 then(if t∈lY l then min s.1 (ju l t) else s.1) else ju l t
theorem cy:∀{l:List Ps}{t:Int},t∈lY l↔∃s∈l,t∈s.2
  |[],t=>by simp[lY] |s::l,t=>by
    rw[lY,bV,cy (l:=l)];constructor
    . rintro(⟨d,b,c⟩|h);.grind
      simp_all
    . rintro⟨d,b,c⟩;rcases aU.mp b with rfl|b;.exact .inr c
      grind
theorem Ie:∀(l:List Ps),(lY l).Nodup |[]=>by simp[lY] |s::l=>zL (Ie l)
theorem Ig:∀{l:List Ps}{t:Int},t∈lY l->(∃s∈l,t∈s.2/\s.1=ju l t)/\∀s∈l,t∈s.2->ju l t<=s.1
  |[],t,h=>by simp[lY] at h |s::l,t,h=>by
    unfold ju;by_cases j:t∈s.2
    . rw[ao j];by_cases g:t∈lY l
      . rw[ao g];obtain⟨⟨k,a,b,c⟩,d⟩:=Ig g;refine⟨?_,fun u e i=>?_⟩
        . rcases Int.le_total s.1 (ju l t) with z|z;.grind
          .exact⟨k,by simp[a],b,by lia⟩
        . rcases aU.mp e with rfl|e;.lia
          grind
      . rw[ak g];refine⟨⟨s,by simp,j,rfl⟩,fun u e i=>?_⟩;rcases aU.mp e with rfl|e;.lia
        .exact absurd (cy.mpr ⟨u,e,i⟩) g
    . rw[ak j];have g:t∈lY l:=by
        obtain⟨u,e,i⟩:=cy.mp h;rcases aU.mp e with rfl|e;.exact absurd i j
        .exact cy.mpr ⟨u,e,i⟩
      obtain⟨⟨k,a,b,c⟩,d⟩:=Ig g;refine⟨⟨k,by simp[a],b,c⟩,fun u e i=>?_⟩;rcases aU.mp e with rfl|e;.simp_all
      grind
def fR(l:List Ps):D:=dm (lY l) (ju l)
def nz:List Ps->List D |[]=>[fR []] |s::l=>nz l++[fR (s::l)]
theorem Ih:∀(l:List Ps),(nz l).length=l.length+1 |[]=>rfl |s::l=>by simp[nz,Ih l]
theorem Zs:∀(l:List Ps),∃r,nz l=r++[fR l] |[]=>⟨[],rfl⟩ |s::l=>⟨_,rfl⟩
theorem Ii:∀(l:List Ps)(k:Nat),k<=l.length->(nz l).reverse[k]?=some (fR (l.drop k))
 |[],k,h=>by
  have:k=0:=by simp_all
  subst this;rfl |s::l,0,_=>by simp[nz] |s::l,k+1,h=>by have:=Ii l k (by simp_all);simpa[nz] using this
theorem O6:aO (.lst (l++[d])) (.int (-1))=some d:=by
 show hV (l++[d]) (-1)=_;unfold hV iv;rw[ak (by lia),ao (by grind)];have:(-1+((l++[d]).length:Int)).toNat=l.length:=by grind
 simp_all
theorem Zt(h:∀s∈l,Good n s):(lY l).length<=n:= Ib (Ie l) fun t c=>by obtain⟨s,b,a⟩:=cy.mp c;exact cw.mpr ((h s b).mem t a)
theorem Zu(w:fY n sets):Hm [bu sets]=.ok (.lst (nz sets).reverse):=by
  obtain⟨A,S⟩:=xz (bu sets);obtain⟨G3,Q,k,j,i,c,rfl⟩:=kW (b:=dZ 2 (fA (aQ 2) (fA (aQ 3) eL))) (m:=N2) fc (fun a p=>∃k j i c,p=[.v A,.o (.lst (nz a.reverse)),sv k,sv j,sv i,sv c]) sets.reverse (by
      rintro a s y p h ⟨k,j,i,c,rfl⟩;have N:s∈sets:=List.mem_reverse.mp (by simp_all);have U:∀s∈a.reverse,Good n s:=fun s N=>w.good s (List.mem_reverse.mp (by rw[h];simp_all));have g:=w.good s N;obtain⟨r,K⟩:=Zs a.reverse;obtain⟨L,l⟩:=xz (lY a.reverse);obtain⟨f,T⟩:=xz (ju a.reverse);have Z:=Zt U;rw[<-l] at Z;have n1:=w.n1;have pl:a.length<=1000:=by
        have:sets.length=a.length+(y.length+1):=by rw[<-ka,h];simp
        have:=w.pT;lia
      obtain⟨W,B⟩:=xz (nz a.reverse);rw[<-B] at K;have wl:W.length<=1001:=by rw[B,Ih,ka];lia
      have a1:az (DI (ai (m2 aO (aj 1) (m1 gh (mC (.int 1)))) af)) (cZ 4) [.v A,.o (.lst W),.v (.int s.1),.v (iL s.2),sv i,sv c]=.nx [.v A,.o (.lst W),.v (.int s.1),.v (iL s.2),.o (dm L f),sv c]:=by
        refine ew (d:=dm L f) ?_ (UT (o:=i) rfl);have ix:aO (.lst W) (.int (-1))=some (dm L f):=by rw[K,O6,l,T];rfl
        simp only[DI,ai,af,aj,mC,vd,fk,List.getElem?_cons_succ,List.getElem?_cons_zero,R.aq,za,R.aF,ix];rfl
      -- the things of the set
      obtain⟨oG,Y,e,rfl⟩:=kW (b:=aQ 5) (m:=N0) D.int (fun q p=>∃c,p=[.v A,.o (.lst W),.v (.int s.1),.v (iL s.2),.o (dm (d7 L q) (fun u=>if u∈q then(if u∈L then min s.1 (f u) else s.1) else f u)),sv c]) s.2 (by
          rintro q x C p G ⟨c,rfl⟩;have M:=g.nd;rw[G] at M;have H:x∉q:=fun z=>(lO.mp M).2.2 x z x (by simp) rfl;have ql:(d7 L q).length<=1000:=by
            have:=Ib (n:=n) (L:=d7 L q) (zL (by rw[l];exact Ie _)) fun t ht=>by
              rcases bV.mp ht with z|z;.rw[l] at z;obtain⟨s',E,h'⟩:=cy.mp z;exact cw.mpr ((U s' E).mem t h')
              .exact cw.mpr (g.mem t (by simp_all))
            lia
          have xi:(x∈d7 L q)=(x∈L):=propext ⟨fun z=>(bV.mp z).resolve_right H,fun z=>bV.mpr (.inl z)⟩;refine⟨_,_,kG (o:=c) rfl,.inl (Zr (t:=x) (v:=if x∈L then min s.1 (f x) else s.1) (f:=fun u=>if u∈q then(if u∈L then min s.1 (f u) else s.1) else f u) (L:=d7 L q) rfl rfl ?_ (by lia)),some (.int x),?_⟩
          . have I:=O5 (md:=aj 4) (mk:=ag 5) (mx:=ag 2) (δ:=([.v A,.o (.lst W),.v (.int s.1),.v (iL s.2),.o (dm (d7 L q) (fun u=>if u∈q then(if u∈L then min s.1 (f u) else s.1) else f u)),sv c]:En).set 5 (.v (.int x))) (L:=d7 L q) (f:=fun u=>if u∈q then(if u∈L then min s.1 (f u) else s.1) else f u) (t:=x) (v:=s.1) rfl rfl rfl;simp only[xi,ak H] at I;simp only[aT,ai,af];rw[I];simp only[aj,List.set_cons_succ,List.set_cons_zero,List.getElem?_cons_succ,List.getElem?_cons_zero,R.aq];show R.of (some (D.int (if(if x∈L then f x else s.1)<s.1 then(if x∈L then f x else s.1) else s.1)))=_;rw[R.aF];congr 2;by_cases z:x∈L;.simp only[ao z];lia
            simp_all
          . have e1:ins (d7 L q) x=d7 L (q++[x]):=by rw[D8];rfl
            have e2:dm (ins (d7 L q) x) (fun u=>if u=x then(if x∈L then min s.1 (f x) else s.1) else if u∈q then(if u∈L then min s.1 (f u) else s.1) else f u)=dm (d7 L (q++[x])) (fun u=>if u∈q++[x] then(if u∈L then min s.1 (f u) else s.1) else f u):=by
              rw[e1];refine O4 fun u _=>?_;by_cases z:u=x;.simp_all
              . have:(u∈q++[x])=(u∈q):=by simp[z]
                simp_all
            show[_,_,_,_,Sl.o (dm (ins (d7 L q) x) _),_]=_;simp_all) [.v A,.o (.lst W),.v (.int s.1),.v (iL s.2),.o (dm L f),sv c] ⟨c,by rfl⟩;have a2:N1 [.v A,.o (.lst W),.v (.int s.1),.v (iL s.2),.o (dm L f),sv c]=.nx [.v A,.o (.lst W),.v (.int s.1),.v (iL s.2),.o (fR (s::a.reverse)),sv e]:=by
        refine((kU (by simp[cK,ag])).trans Y).trans ?_;have:dm (d7 L s.2) (fun u=>if u∈s.2 then(if u∈L then min s.1 (f u) else s.1) else f u)=fR (s::a.reverse):=by unfold fR;rw[lY,<-l];refine O4 fun u _=>?_;rw[ju,<-l,<-T]
        rw[this]
      have a3:qX 4 (qD 1 (ag 4)) [.v A,.o (.lst W),.v (.int s.1),.v (iL s.2),.o (fR (s::a.reverse)),sv e]=.nx [.v A,.o (.lst (W++[fR (s::a.reverse)])),.v (.int s.1),.v (iL s.2),.v (fR (s::a.reverse)),sv e]:=by show qD 1 (ag 4) [.v A,.o (.lst W),.v (.int s.1),.v (iL s.2),.v (fR (s::a.reverse)),sv e]=_;exact B6 rfl rfl (by lia)
      refine⟨[.v A,.o (.lst W),.v (.int s.1),.v (iL s.2),sv i,sv c],[.v A,.o (.lst (W++[fR (s::a.reverse)])),.v (.int s.1),.v (iL s.2),.v (fR (s::a.reverse)),sv e],?_,.inl ?_,some (.int s.1),some (iL s.2),some (fR (s::a.reverse)),e,?_⟩;.rw[B];rcases k with _|k<;>rcases j with _|j<;>rfl
      .exact(bB a1).trans ((bB a2).trans a3)
      .rw[List.reverse_append,B];rfl) [.v A,.o (.lst [fR []]),.no,.no,.no,.no] ⟨none,none,none,none,rfl⟩;rw[List.reverse_reverse] at Q;refine oa ?_;rw[<-S];have q1:az (bC (ai (mC (.dc [] [])) af)) (cZ 1) [.v A,.no,.no,.no,.no,.no]=.nx [.v A,.o (.lst [fR []]),.no,.no,.no,.no]:=by refine ew (d:=.lst [fR []]) ?_ rfl;simp[bC,ai,af,mC,sizeLine];rfl
  have X:N3 [.v A,.o (.lst [fR []]),.no,.no,.no,.no]=.nx [.v A,.o (.lst (nz sets)),sv k,sv j,sv i,sv c]:=by refine(kU ?_).trans Q;simp[rj,ai,af,ag,S,bu,ri]
  refine(bB q1).trans ((bB X).trans ?_);have fl:(nz sets).length<=1001:=by rw[Ih];have:=w.pT;lia
  simp[ft,GH,aj]
theorem Zv(r:fY n sets)(C:∀t∈fQ n,∃s∈sets,t∈s.2):Hl [.int n,bu sets]=.ok .non:=by
  obtain⟨H,E,d,c,rfl⟩:=kW (b:=aQ 3) (m:=Hj) _ (fun a q=>∃d c,q=[.v (.int n),.v (bu _),.o (dk (d7 [] (things a))),sv d,sv c]) sets (by
      rintro a s p q f ⟨d,c,rfl⟩;have u:s∈sets:=by simp_all
      have g:=r.good s u;obtain⟨x,h⟩:=D9 (i:=4) (j:=2) (by decide) r.n1 s.2 [.v (.int n),.v (bu sets),.o (dk (d7 [] (things a))),.v (fc s),sv _] _ c rfl rfl (zL (by simp)) (fun t k=>by
          rcases bV.mp k with z|z;.cases z
          .obtain⟨K,M,B⟩:=nK.mp z;exact cw.mpr ((r.good K (by grind)).mem t B)) (fun t k=>cw.mpr (g.mem t k));refine⟨[.v (.int n),.v (bu sets),.o (dk (d7 [] (things a))),.v (fc s),sv c],[.v (.int n),.v (bu sets),.o (dk (d7 (d7 [] (things a)) s.2)),.v (fc s),sv x],?_,.inl ?_,some (fc s),x,?_⟩;.rcases d with _|d<;>rfl
      .unfold Hj NX NW;exact(kU rfl).trans h
      . rw[<-D8];have e:things (a++[s])=things a++s.2:=by simp[things]
        simp_all) [.v (.int n),.v (bu sets),.o (dk []),.no,.no] ⟨none,none,rfl⟩;obtain⟨I,L,l,rfl⟩:=kW (b:=aQ 4) (m:=Hk) D.int (fun a q=>∃c,q=[.v (.int n),.v (bu sets),.o (dk (d7 [] (things sets))),sv d,sv c]) (fQ n) (by
      rintro a t p q f ⟨c,rfl⟩;have k:t∈fQ n:=by rw[f];simp
      obtain⟨s,u,w⟩:=C t k;have J:t∈d7 [] (things sets):=bV.mpr (.inr (nK.mpr ⟨s,u,w⟩));refine⟨_,_,kG rfl,.inl ?_,some (.int t),rfl⟩;simp[Hk,bj,bf,ag,aj,J,dq]) _ ⟨c,rfl⟩;have y:NY [.v (.int n),.v (bu _),.o _,.no,.no]=.nx _:=(kU rfl).trans E;have G:NZ [.v _,.v (bu sets),.o (dk _),sv d,sv c]=.nx [.v (.int n),.v (bu sets),.o (dk (d7 [] (things sets))),sv d,sv l]:=(kU (by simp[bS,ai,af,ag,yi r.n1])).trans L;refine Ml (δ:=[.v (.int n),.v (bu sets),.o (dk (d7 [] (things sets))),sv d,sv l]) ?_;have A:az (mC (.dc [] [])) (cZ 2) [.v (.int n),.v (bu sets),.no,.no,.no]=.nx [.v (.int n),.v (bu sets),.o (dk []),.no,.no]:=rfl;show av _ _ [.v (.int n),.v (bu sets),.no,.no,.no]=_;rw[bB A,bB y];exact G
theorem O7(f:D->R Tr)(b:∀s:Ps,f (fc s)=.ok (BH (.int s.1,s.2.map .int))):∀(l:List Ps),tV f (l.map fc)=.ok (l.map fun s=>BH (.int s.1,s.2.map .int)) |[]=>rfl |s::l=>by rw[bJ,tV,b,O7 f b l];rfl
def B8(l:List Ps):Tr:=.l (l.map fun s=>BH (.int s.1,s.2.map .int))
theorem Zw(l:List Int):gf ((l.map D.int).map .d)=l.map .int:=by induction l with |nil=>rfl |cons a l c=>simp only[bJ,gf,ng,c]
theorem Zx(l:List Ps):ng (B8 l)=bu l:=by unfold B8 bu;simp[ng];induction l with |nil=>rfl |cons s l c=> simp[bJ,gf,c];simp only[BH,ng,gf,Zw,fc,iL]
theorem Zy(l:List Int):vB ((l.map D.int).map .d)=true:=by induction l with |nil=>rfl |cons a l e=>simp only[bJ,vB,wB,nZ,e,Bool.and_self]
theorem Zz(l:List Ps):wB (B8 l)=true:=by unfold B8;simp[wB];induction l with |nil=>rfl |cons s l c=> rw[bJ,vB,c];simp only[BH,wB,nZ,vB,Zy,Bool.and_self]
def uD(n:Nat)(sets:List Ps):D:=.obj 7 ["many","sets","cheapest"] [.int n,bu sets,.lst (nz sets).reverse]
theorem ZA:¬(("many":Str)="sets"):=by decide
theorem ZC:¬(("many":Str)="cheapest"):=by decide
theorem ZD:¬(("sets":Str)="cheapest"):=by decide
theorem ZE(a:fY n sets)(b:∀t∈fQ n,∃s∈sets,t∈s.2):Hq [.int n,bu sets]=.ok (uD n sets):=by
 have h:Ho [.no,.v (.int n),.v (bu sets)] [] []=.ok (["many","sets","cheapest"],[.int n,bu sets,.lst (nz sets).reverse]):=by
  have k:Hn [.no,.v (.int n),.v (bu sets)]=.ok (B8 sets):=by
   unfold Hn G2;have e:cK (aj 2) [.no,.v (.int n),.v (bu sets)]=.ok _:=rfl;have f:=a.pT;rw[e,R.aq,fi (by rw[aN];exact small (by lia)),O7];.rfl
   .intro s;rfl
  unfold Ho fD tQ lX xY xZ;have c:=Zv a b;have d:=Zu a;simp[ag,oE,ai,af,c,nZ,putN,fC,k,Zz,Zx,kK,ZA,ZC,ZD,d,G5]
 show R.bind _ _=_;simp[bJ,jA];rw[h];rfl
theorem ZF:bp uy "sets" (uD n sets)=some (bu sets):=rfl
def gP(sets:List Ps)(k:Int):Ps:=sets.getD k.toNat (0,[])
theorem O8(h:k.toNat<sets.length):sets[k.toNat]?=some (gP sets k):=by simp[gP,h]
theorem Ij(h0:0<=k)(h1:k<sets.length):aO (bu sets) (.int k)=some (fc (gP sets k)):= xH h0 (by rw[bY,O8 (by lia)];rfl)
theorem ZG(h0:0<=k)(h1:k<sets.length):gP sets k∈sets:=jB (O8 (by omega))
theorem ZH:yd [uD n sets]=.ok (.int sets.length):=by
 refine gO ?_;show aH _ [.v _]=_;have a:aJ [bu sets]=some (.int sets.length):=by simp[bu]
 simp[aH,aT,ai,af,aj,ZF,a]
def fj(cs:List Int)(ch:Int):List Int:=(bz cs.length).filter fun k=>decide (gA cs k=ch)
theorem kM:k∈fj cs ch↔(0<=k/\k<cs.length)/\gA cs k=ch:=by unfold fj;rw[hG,bM,decide_eq_true_eq]
theorem Ik(cs:List Int)(ch:Int):(fj cs ch).length<=cs.length:=by have:=qj (fun k=>decide (gA cs k=ch)) (bz cs.length);rw[fN] at this;exact this
theorem O9(n:Nat):bz (n+1)=bz n++[(n:Int)]:=by simp[bz,List.range_succ]
theorem O_(cs:List Int)(c ch:Int):fj (cs++[c]) ch=fj cs ch++(if c=ch then[(cs.length:Int)] else[]):=by
 have h:gA (cs++[c]) cs.length=c:=by simp[gA]
 have g:(bz cs.length).filter (fun k=>decide (gA (cs++[c]) k=ch))=fj cs ch:=by
  apply List.filter_congr;intro k e;obtain⟨a,b⟩:=bM.mp e;have:gA (cs++[c]) k=gA cs k:=by
   have:k.toNat<cs.length:=by lia
   simp[gA,fZ this]
  rw[this]
 have f:fj (cs++[c]) ch=(bz (cs.length+1)).filter (fun k=>decide (gA (cs++[c]) k=ch)):=by unfold fj;simp
 rw[f,O9,List.filter_append];grind
theorem D_(e:cs.length<=100):zy [encC cs,.int ch]=.ok (iL (fj cs ch)):=by
 refine oa ?_;have b:rX (cs.map .int)=(bz cs.length).map fun k=>D.tup [.int k,.int (gA cs k)]:=by rw[Bl];apply sJ (by simp[bz]);intro i a d;simp at a;simp[bz,gA,a]
 have k:HM [.v (encC cs),.v (.int ch)]=.ok (iL (fj cs ch)):=by refine lh (l:=(bz cs.length).map fun k=>D.tup [.int k,.int (gA cs k)]) (by simp[GU,ai,af,ag,encC,Bx,b]) (by rw[aN,fN];lia) (OY _ _ _ _ fun k _=>?_);by_cases c:gA cs k=ch<;>simp[jE,c3,nY,dZ,fA,eL,dC,bf,aj,ag,c]
 show R.ij (HM [.v _,.v _]) _ _=_;simp_all
def hv(sets:List Ps)(l:List Int):List Int:=l.flatMap fun k=>(gP sets k).2
theorem p6:t∈hv sets l↔∃k∈l,t∈(gP sets k).2:=nK
def nc(n:Nat)(sets:List Ps)(l:List Int):List Int:=(bz n).filter fun t=>!decide (t∈hv sets l)
theorem p7:t∈nc n sets l↔(0<=t/\t<n)/\t∉hv sets l:=by unfold nc;rw[hG,bM];simp
theorem O'(C:fY n sets)(X:cs.length<=sets.length)(A:sets.length<=100):DT [uD n sets,encC cs]=.ok (iL (nc n sets (fj cs 1))):=by
  obtain⟨S,r⟩:=xz (uD n sets);have N:bp uy "sets" S=some (bu sets):=by rw[r];rfl
  have T:bp se "many" S=some (.int n):=by rw[r];rfl
  rw[<-r];have x:∀k∈fj cs 1,Good n (gP sets k):=fun k p=>by obtain⟨⟨a,b⟩,_⟩:=kM.mp p;exact C.good _ (ZG a (by lia))
  have y:=C.n1;obtain⟨Q,M,f,d,rfl⟩:=kW (b:=aQ 3) (m:=OB) D.int (fun c s=>∃f d,s=[.v S,.v (encC cs),.o (dk (d7 [] (hv sets c))),sv f,sv d]) (fj cs 1) (by
      rintro c k u s w ⟨f,d,rfl⟩;have p:k∈fj cs 1:=by simp_all
      obtain⟨⟨a,b⟩,_⟩:=kM.mp p;have g:=x k p;obtain⟨B,h⟩:=D9 (i:=4) (j:=2) (by decide) y (gP sets k).2 [.v S,.v (encC cs),.o (dk (d7 [] (hv sets c))),.v (.int k),sv d] (d7 [] (hv sets c)) d rfl rfl (zL (by simp)) (fun t q=>by
          rcases bV.mp q with z|z;.cases z
          .obtain⟨H,J,K⟩:=p6.mp z;exact cw.mpr ((x H (by simp_all)).mem t K)) (fun t q=>cw.mpr (g.mem t q));refine⟨[.v S,.v (encC cs),.o (dk (d7 [] (hv sets c))),.v (.int k),sv d],[.v S,.v (encC cs),.o (dk (d7 (d7 [] (hv sets c)) (gP sets k).2)),.v (.int k),sv B],?_,.inl ?_,some (.int k),B,?_⟩;.rcases f with _|f<;>rfl
      .exact(kU (by simp[cK,aj,mC,N,Ij a (show k<sets.length by lia),fc])).trans h
      . rw[<-D8];have e:hv sets (c++[k])=hv sets c++(gP sets k).2:=by simp[hv]
        simp_all) _ ⟨none,none,rfl⟩;have U:OC _=.nx _:=(kU (by simp[cK,bw,ai,af,ag,mC,D_ (show cs.length<=100 by lia)])).trans M;have G:HN [.v S,.v (encC cs),.o (dk (d7 [] (hv sets (fj cs 1)))),sv f,sv d]=.ok (iL (nc n sets (fj cs 1))):=by refine lh (l:=(bz n).map .int) (by simp[bS,ai,af,aj,T,jS y]) (by rw[aN,fN];lia) ?_;refine Bm .int _ _ fun t _=>?_;have L:(t∈d7 [] _)=(t∈hv sets (fj cs 1)):=propext ⟨fun z=>(bV.mp z).resolve_left (by simp),fun z=>bV.mpr (.inr z)⟩;by_cases I:t∈hv sets (fj cs 1)<;>simp[jE,c3,nY,dC,bf,ag,aj,I,L]
  have E:az (mC (.dc [] _)) (cZ 2) [.v S,.v (encC cs),.no,.no,.no]=.nx [.v S,.v (encC cs),.o (dk []),.no,.no]:=rfl;refine oa ((bB E).trans ((bB U).trans ?_));show R.ij (HN _) _ _=_;rw[G];rfl
theorem Il(t:Int)(l:List Int):Br (.int t) (iL l)=some (.bl (decide (t∈l))):=by show(dE _).map _=_;rw[r6];rfl
def yj(l:List Int):Int:=l.foldl max 0
theorem ZI(l:List Int):(yj l=0\/yj l∈l)/\0<=yj l/\∀w∈l,w<=yj l:=by
  have b:∀(l:List Int)(a:Int),0<=a->(l.foldl max a=a\/l.foldl max a∈l)/\a<=l.foldl max a/\∀w∈l,w<=l.foldl max a:=by intro l;induction l with |nil=>simp |cons x l g=>
      intro a h;obtain⟨f,j,k⟩:=g (max a x) (by lia);rw[List.foldl_cons];refine⟨?_,by lia,fun w d=>?_⟩
      . rcases f with z|z
        . rcases Int.le_total a x with c|c;.rw[z,show max a x=x by lia];simp
          lia
        .simp_all
      . rcases aU.mp d with rfl|d;.lia
        simp_all
  exact b l 0 (by lia)
theorem ZJ(h:∀w∈l,0<=w):vp [iL l] (.int 0)=some (.int (yj l)):=by cases l with |nil=>rfl |cons a l=>
 have e:vp [iL (a::l)] (.int 0)=some (.int (dM l a)):=by simp[vp,iL,r6]
 obtain⟨d,g,i⟩:=L2.jY l a;obtain⟨j,f,k⟩:=ZI (a::l);grind
theorem Pa{P:En->Prop}:∀(l:List Int)(_:∀x∈l,∀δ,P δ->∃a,b (.int x) δ=some a/\(p x=true->m a=.ro d)/\(p x=false->∃oG,m a=.nx oG/\P oG))(δ:En)(_:P δ), (l.any p=true->iS b m (l.map .int) δ=.ro d)/\(l.any p=false->∃g,iS b m (l.map .int) δ=.nx g/\P g) |[],_,δ,h=>⟨fun z=>(by cases z),fun _=>⟨δ,rfl,h⟩⟩ |x::l,i,δ,h=>by obtain⟨a,j,o,n⟩:=i x (by simp) _ h;rw[bJ];unfold iS;rw[j,lH];cases c:p x with |true=> simp_all |false=> obtain⟨oG,e,q⟩:=n c;simp only[e];exact Pa l (fun y k=>i y (bK _ k)) _ q
def B9(n:Nat)(sets:List Ps)(cs:List Int):Prop:=∀t∈nc n sets (fj cs 1),t∈lY (sets.drop cs.length)
def need(n:Nat)(sets:List Ps)(cs:List Int):Bool:=(nc n sets (fj cs 1)).any fun t=>decide (t∈(gP sets cs.length).2)&&!decide (t∈lY (sets.drop (cs.length+1)))
def wy(n:Nat)(sets:List Ps)(cs:List Int):List Int:=if need n sets cs=true then[1] else[0,1]
theorem Im(n:Nat)(sets:List Ps)(cs:List Int):0<(wy n sets cs).length/\(wy n sets cs).length<=2:=by unfold wy;grind
theorem ZK(T:fY n sets)(B:cs.length<sets.length)(i:sets.length<=100):zE [uD n sets,encC cs]=.ok (iL (wy n sets cs)):=by
  have q:=O' T (hX B) i;obtain⟨S,l⟩:=xz (uD n sets);have K:bp uy "sets" S=some (bu sets):=by rw[l];rfl
  have I:bp x_ "cheapest" S=some (.lst (nz sets).reverse):=by rw[l];rfl
  have G:PM.isObj 7 "not_covered" S=some ():=by rw[l];rfl
  rw[<-l] at q⊢;obtain⟨C,A⟩:=xz (encC cs);have w:aJ [C]=some (.int cs.length):=by rw[A];simp[encC]
  rw[<-A] at q⊢;obtain⟨L,y⟩:=xz (lY (sets.drop (cs.length+1)));obtain⟨a,j⟩:=xz ((gP sets cs.length).2);have Q:aO (.lst (nz sets).reverse) (.int ((cs.length:Int)+1))=some (fR (sets.drop (cs.length+1))):=Gk (k:=cs.length+1) (Ii sets _ (by lia));have r:=Ij (sets:=sets) (k:=(cs.length:Int)) (by lia) (by lia);obtain⟨f,J⟩:=xz (ju (sets.drop (cs.length+1)));have M:fR (sets.drop (cs.length+1))=dm L f:=by rw[y,J];rfl
  have N:az (m2 aO (m1 (bp x_ "cheapest") (aj 0)) (m2 bO (aT aJ (ai (aj 1) af)) (mC (.int 1)))) (aQ 2) [.v S,.v C,.no,.no,.no]=.nx [.v S,.v C,.v (dm L f),.no,.no]:=ew (d:=dm L f) (by simp[aj,mC,aT,ai,af,I,w,Q,M]) rfl;have E:az (m2 e_ (m2 aO (m1 (bp uy "sets") (aj 0)) (aT aJ (ai (aj 1) af))) (mC (.int 1))) (aQ 3) [.v S,.v C,.v (dm L f),.no,.no]=.nx [.v S,.v C,.v (dm L f),.v (iL a),.no]:=ew (d:=iL a) (by simp[aj,mC,aT,ai,af,K,w,r,fc,j]) rfl;obtain⟨H,X⟩:=Pa (b:=aQ 4) (m:=zD) (d:=iL [1]) (P:=fun s=>∃o,s=[.v S,.v C,.v (dm L f),.v (iL a),sv o]) (p:=fun t=>decide (t∈a)&&!decide (t∈L)) (nc n sets (fj cs 1)) (by
      rintro x _ s ⟨o,rfl⟩;refine⟨_,kG (o:=o) rfl,fun h=>?_,fun h=>⟨[.v S,.v C,.v (dm L f),.v (iL a),.v (.int x)],?_,some (.int x),rfl⟩⟩
      . have:x∈a/\x∉L:=by simp_all
        simp[zD,bj,k_,bf,aj,ag,Il,this,ft,bC,ai,af,mC,sizeLine];rfl
      . by_cases z:x∈a
        . have:x∈L:=by simp_all
          simp[zD,bj,k_,bf,aj,ag,Il,this,dq]
        .simp[zD,bj,k_,bf,aj,Il,z,dq]) [.v S,.v C,.v (dm L f),.v (iL a),.no] ⟨none,rfl⟩;have u:OK [.v S,.v C,.v _,.v _,.no]=iS _ zD ((nc n sets (fj cs 1)).map .int) [.v S,.v C,.v (dm L f),.v (iL a),.no]:=kU (by simp[cK,b3,ag,ai,af,G,q]);refine oa ((bB N).trans ((bB E).trans ?_));unfold wy need;rw[<-y,<-j];cases c:((nc n sets (fj cs 1)).any _) with |true=> rw[ao rfl];unfold av;rw[u,H c] |false=> obtain⟨U,e,o,rfl⟩:=X c;refine(bB (u.trans e)).trans ?_;simp[ft,bC,ai,af,mC,sizeLine,iL]
def Io(sets:List Ps)(l:List Int):Int:=(l.map fun k=>(gP sets k).1).sum
def yk(n:Nat)(sets:List Ps)(cs:List Int):Int:=Io sets (fj cs 1)+yj ((nc n sets (fj cs 1)).map (ju (sets.drop cs.length)))
theorem ZL(h:∀k∈l,0<=k/\k<sets.length)(c:l.length<=1000):HP [bu sets,iL l]=.ok (.int (Io sets l)):=by
 refine gO ?_;have k:OD [.v (bu sets),.v (iL l)]=.ok (iL (l.map fun k=>(gP sets k).1)):=by refine gW (lh (r:=l.map fun k=>.int (gP sets k).1) rfl (by grind) (qG _ _ _ fun k a=>?_)) (by simp[iL]);have b:=Ij (h k a).1 (h k a).2;simp[jE,c3,nY,dC,aj,mC,b,fc]
 show aH _ [.v _,.v _]=_;simp[aH,aT,ai,af,k,yh,Io]
theorem ZM(h:∀s∈l,Good n s)(b:t∈lY l):0<=ju l t:=by obtain⟨⟨s,a,_,c⟩,_⟩:=Ig b;rw[<-c];exact(h s a).lo
theorem ZN(j:fY n sets)(o:cs.length<=sets.length)(c:sets.length<=100)(cv:B9 n sets cs):BY [uD n sets,encC cs]=.ok (.int (yk n sets cs)):=by
 have g:=O' j o c;obtain⟨S,h⟩:=xz (uD n sets);have Q:bp uy "sets" S=some (bu sets):=by rw[h];rfl
 have E:bp x_ "cheapest" S=some (.lst (nz sets).reverse):=by rw[h];rfl
 have A:PM.isObj 7 "not_covered" S=some ():=by rw[h];rfl
 rw[<-h] at g⊢;have q:=D_ (cs:=cs) (ch:=1) (by lia);obtain⟨C,u⟩:=xz (encC cs);have H:aJ [C]=some (.int cs.length):=by rw[u];simp[encC]
 rw[<-u] at g q⊢;obtain⟨L,m⟩:=xz (lY (sets.drop cs.length));obtain⟨f,i⟩:=xz (ju (sets.drop cs.length));have T:aO (.lst (nz sets).reverse) (.int (cs.length:Int))=some (dm L f):=by rw[m,i];exact Gk (k:=cs.length) (Ii sets _ o)
 have y:∀s∈sets.drop cs.length,Good n s:=fun s K=>j.good s (List.mem_of_mem_drop K);obtain⟨N,e⟩:=xz (nc n sets (fj cs 1));have U:N.length<=1000:=by rw[e];have:=qj (fun t=>!decide (t∈hv sets (fj cs 1))) (bz n);rw[fN] at this;have:=j.n1;unfold nc;lia
 have B:∀t∈N,t∈L:=by rw[e,m];exact cv
 rw[<-e] at g;have G:az (m2 aO (m1 (bp x_ "cheapest") (aj 0)) (aT aJ (ai (aj 1) af))) (aQ 2) [.v S,.v C,.no,.no]=.nx [.v S,.v C,.v (dm L f),.no]:=ew (d:=dm L f) (by simp[aj,aT,ai,af,E,H,T]) rfl;have k:HQ [.v S,.v C,.v (dm L f),.no]=.ok (iL (N.map f)):=by refine gW (lh (l:=N.map .int) (r:=N.map fun t=>.int (f t)) (by simp[cK,b3,ag,ai,af,A,g]) (by grind) ?_) (by simp[iL]);refine qG _ _ _ fun t M=>?_;have X:=O5 (md:=aj 0) (mk:=ag 1) (mx:=mC (.int 0)) (δ:=[.v (dm L f),.v (.int t)]) rfl rfl rfl;simp[jE,c3,nY,dC,List.getElem?_cons_succ];simp_all
 have J:az (xD (ai HQ af) (mC (.int 0))) (aQ 3) [.v S,.v C,.v (dm L f),.no]=.nx [.v S,.v C,.v (dm L f),.v (.int (yj (N.map f)))]:=by
  refine ew ?_ rfl;have z:=ZJ (l:=N.map f) fun w x=>by obtain⟨t,M,rfl⟩:=hI.mp x;rw[i];exact ZM y (by simp_all)
  simp[xD,ai,af,k,mC,z]
 have pq:=ZL (sets:=sets) (l:=fj cs 1) (fun k I=>by obtain⟨⟨a,b⟩,_⟩:=kM.mp I;lia) (by have:=Ik cs 1;lia);refine gO ((bB G).trans ((bB J).trans ?_));unfold yk;rw[<-e,<-i];simp[aH,bw,ai,af,aj,ag,mC,Q,q,pq]
theorem Pb{sets:List Ps}(h:k<sets.length):sets.drop k=gP sets k::sets.drop (k+1):=by simp[gP,h]
theorem yl:t∈nc n sets (fj (cs++[1]) 1)↔t∈nc n sets (fj cs 1)/\t∉(gP sets cs.length).2:=by
  rw[p7,p7,O_,p6,p6];constructor;.rintro⟨h,z⟩;exact⟨⟨h,fun⟨k,a,b⟩=>z ⟨k,by simp[a],b⟩⟩,fun b=>z ⟨_,by simp,b⟩⟩
  . rintro⟨⟨h,z⟩,y⟩;refine⟨h,fun⟨k,a,b⟩=>?_⟩;rcases cO.mp a with a|a;.simp_all
    .rw[cY.mp a] at b;exact y b
theorem ZO(cs:List Int)(h:w≠1):fj (cs++[w]) 1=fj cs 1:=by rw[O_,ak h,dN]
theorem ZP(h:w∈wy n sets cs):w=1\/w=0/\need n sets cs=false:=by unfold wy at h;grind
theorem ZQ(d:cs.length<sets.length)(cv:B9 n sets cs)(f:w∈wy n sets cs):B9 n sets (cs++[w]):=by
  intro t c;rw[gX];rcases ZP f with rfl|⟨rfl,g⟩
  . obtain⟨e,i⟩:=yl.mp c;have b:=cy.mp (cv t e);rw[Pb d] at b;obtain⟨s,a,h⟩:=b;rcases aU.mp a with rfl|a;.simp_all
    .exact cy.mpr ⟨s,a,h⟩
  . rw[ZO _ (by decide)] at c;have b:=cy.mp (cv t c);rw[Pb d] at b;obtain⟨s,a,h⟩:=b;rcases aU.mp a with rfl|a;.have:=List.any_eq_false.mp g t c;simp_all
    .exact cy.mpr ⟨s,a,h⟩
theorem ZR(b:∀t∈fQ n,∃s∈sets,t∈s.2):B9 n sets []:=fun t a=>by obtain⟨h,_⟩:=p7.mp a;exact cy.mpr (b t (cw.mpr h))
abbrev Fr:=Int×Int
def lq(f:Fr):D:=.tup [.int f.1,.int f.2]
def kX(ts:List Fr):D:=.lst (ts.map lq)
def th(ts:List Fr)(k:Int):Fr:=ts.getD k.toNat (0,1)
theorem ZS(h:k.toNat<ts.length):ts[k.toNat]?=some (th ts k):=by simp[th,h]
theorem Iq(h0:0<=k)(h1:k<ts.length):aO (kX ts) (.int k)=some (lq (th ts k)):= xH h0 (by rw[bY,ZS (by lia)];rfl)
def ym(ts:List Fr)(l:List Int):Int:=(l.map fun k=>(th ts k).2).sum
def Ir(ts:List Fr)(l:List Int):Int:=(l.map fun k=>(th ts k).1).sum
def uE(r:Int)(ts:List Fr):D:=.obj 10 ["room","things"] [.int r,kX ts]
theorem ZT:¬(("room":Str)="things"):=by decide
theorem ZU:HC [.int r,kX ts]=.ok (uE r ts):=by
 have c:rh (ts.map lq)=true:=by induction ts with |nil=>rfl |cons t ts g=>simp[rh,nZ,lq,g]
 have h:HB [.no,.v (.int r),.v (kX ts)] [] []=.ok (["room","things"],[.int r,kX ts]):=by unfold HB fD lX rC;have e:aT ni (ai (aj 2) af) [.no,.v (.int r),.v (kX ts)]=.ok (kX _):=rfl;have d:∃b,kX _=D.lst b/\rh b=true:=⟨_,rfl,c⟩;simp[ag,e,nZ,d,putN,fC,ZT]
 show R.bind _ _=_;simp[bJ,jA];rw[h];rfl
theorem ZV:bp x' "room" (uE r ts)=some (.int r):=rfl
theorem Ea:bp zu "things" (uE r ts)=some (kX ts):=by rfl
theorem ZW:yg [uE r ts]=.ok (.int ts.length):=by
 refine gO ?_;show aH _ [.v _]=_;have a:aJ [kX ts]=some (.int ts.length):=by simp[kX]
 simp[aH,aT,ai,af,aj,Ea,a]
theorem ZX(f:cs.length<=ts.length)(e:ts.length<=100):B3 [uE r ts,encC cs]=.ok (.int (Ir ts (fj cs 1))):=by
 refine gO ?_;have k:OI [.v (uE r ts),.v (encC cs)]=.ok (iL ((fj cs 1).map fun k=>(th ts k).1)):=by
  refine gW (lh (l:=(fj cs 1).map .int) (r:=(fj cs 1).map fun k=>.int (th ts k).1) ?_ (by have:=Ik cs 1;grind) ?_) (by simp[iL]);.simp[cK,bw,ai,af,ag,mC,D_ (show cs.length<=100 by lia)]
  .refine qG _ _ _ fun k d=>?_;obtain⟨⟨a,b⟩,_⟩:=kM.mp d;have c:=Iq (ts:=ts) a (by lia);simp[jE,c3,nY,dC,aj,mC,Ea,c,lq]
 show aH _ [.v _,.v _]=_;simp[aH,aT,ai,af,k,yh,Ir]
theorem ZY(h:cs.length<ts.length)(i:ts.length<=100):zH [uE r ts,encC cs]=.ok (iL (if ym ts (fj cs 0)+(th ts cs.length).2<=r then[0,1] else[1])):=by
 refine oa ?_;have k:HV [.v (uE r ts),.v (encC cs),.no]=.ok (iL ((fj cs 0).map fun k=>(th ts k).2)):=by
  refine gW (lh (l:=(fj cs 0).map .int) (r:=(fj cs 0).map fun k=>.int (th ts k).2) ?_ (by have:=Ik cs 0;grind) ?_) (by simp[iL]);.simp[cK,bw,ai,af,ag,mC,D_ (show cs.length<=100 by lia)]
  .refine qG _ _ _ fun k f=>?_;obtain⟨⟨a,b⟩,_⟩:=kM.mp f;have d:=Iq (ts:=ts) a (by lia);simp[jE,c3,nY,dC,aj,mC,Ea,d,lq]
 have d:=Iq (ts:=ts) (k:=cs.length) (by lia) (by lia);have e:aJ [encC cs]=some (.int cs.length):=by simp[encC]
 have g:az (aT fX (ai HV af)) (aQ 2) [.v (uE r ts),.v (encC cs),.no]=.nx [.v _,.v _,.v (.int (ym ts (fj cs 0)))]:=ew (by simp[aT,ai,af,k,yh,ym]) rfl;refine(bB g).trans ?_;by_cases c:ym ts (fj cs 0)+(th ts cs.length).2<=r<;>simp[av,bj,bf,aT,ai,af,aj,mC,Ea,ZV,d,lq,e,c,dq,ft,bC,sizeLine,iL]
def bq(n:Nat)(d:Int->Int->Int):List (List Int):=(bz n).map fun a=>(bz n).map (d a)
theorem rH(h:k<m):(bz m)[k]?=some (k:Int):=by unfold bz;rw[bY,List.getElem?_range h];rfl
theorem vF{n:Nat}{b:Int}(h0:0<=b)(h1:b<n):aO (iL ((bz n).map f)) (.int b)=some (.int (f b)):=by refine xH h0 ?_;rw[bY,bY,rH (by omega)];simp[show(b.toNat:Int)=b by omega]
theorem Eb{n:Nat}{a:Int}(h0:0<=a)(h1:a<n):aO (bP (bq n d)) (.int a)=some (iL ((bz n).map (d a))):=by unfold bP bq;refine xH h0 ?_;rw[bY,bY,rH (by omega)];simp[show(a.toNat:Int)=a by omega]
theorem zM:aJ [bP (bq n d)]=some (.int n):=by simp[bP,bq,fN]
def mX(d:Int->Int->Int)(a b v:Int):Int->Int->Int:=fun x y=>if x=a/\y=b then v else d x y
theorem ZZ{n:Nat}{b v:Int}(h0:0<=b)(h1:b<n):((bz n).map f).set b.toNat v=(bz n).map fun y=>if y=b then v else f y:=by
  apply iB;intro i;by_cases a:i<n
  . rw[bY,rH a];by_cases e:b.toNat=i
    . rw[e,a_ (by rw[aN,fN];exact a)];have:i=b:=by lia
      simp_all
    . rw[aI e,bY,rH a];have:¬i=b:=by lia
      simp_all
  .rw[f9.mpr (by rw[qq,aN,fN];lia),f9.mpr (by rw[aN,fN];lia)]
theorem Z0{n:Nat}{a b v:Int}(j:0<=a)(k:a<n)(g:0<=b)(h:b<n):(bq n d).set a.toNat (((bz n).map (d a)).set b.toNat v)=bq n (mX d a b v):=by
  rw[ZZ g h];unfold bq;apply iB;intro i;by_cases f:i<n
  . rw[bY,rH f];by_cases e:a.toNat=i
    . rw[e,a_ (by rw[aN,fN];exact f)];have:i=a:=by lia
      simp[mX,this]
    . rw[aI e,bY,rH f];have:¬i=a:=by lia
      simp[mX,this]
  .rw[f9.mpr (by rw[qq,aN,fN];lia),f9.mpr (by rw[aN,fN];lia)]
def cG(n:Nat)(d:Int->Int->Int):Tr:=ip (bq n d)
theorem Z1:tabOf (some (.p (cG n d)))=some (bq n d):=by simp[cG]
theorem Pc{i:Nat}{mk mj me:En->R D}{δ:En}(h:δ[i]?=some (.p (cG n d)))(j:mk δ=.ok (.int a))(f:mj δ=.ok (.int b))(hv:me δ=.ok (.int v))(l:0<=a)(o:a<n)(c:0<=b)(e:b<n): zh i mk mj me δ=.nx (δ.set i (.p (cG n (mX d a b v)))):=by
 have q:(bq n d).length=n:=by simp[bq,fN]
 have g:iv (bq n d).length a=some a.toNat:=by unfold iv;simp_all
 have k:(bq n d)[a.toNat]?=some ((bz n).map (d a)):=by unfold bq;rw[bY,rH (by lia)];simp[show(a.toNat:Int)=a by lia]
 have m:iv ((bz n).map (d a)).length b=some b.toNat:=by unfold iv;rw[ao c,aN,fN,ao e]
 unfold zh;rw[h,Z1];simp only[hv,j,f,R.gH,g,k,m,Z0 l o c e,cG]
structure i0(n:Nat)(B:Int)(d:Int->Int->Int):Prop where
 nn:∀a b:Int,0<=a->a<n->0<=b->b<n->0<=d a b/\d a b<=B
 self:∀a:Int,0<=a->a<n->d a a=0sym:∀a b:Int,0<=a->a<n->0<=b->b<n->d a b=d b a
 Pd:∀a b c:Int,0<=a->a<n->0<=b->b<n->0<=c->c<n->d a c<=d a b+d b c
theorem zO(h:mi δ=.ok ((bz n).map .int)):c9 mi b m δ=iS b m ((bz n).map .int) δ:=kU h
theorem Pe{B:Int}(hn:n<=100)(X:i0 n B d):DR [bP (bq n d)]=.ok .non:=by
 obtain⟨T,Y⟩:=xz (bP (bq n d));have p:∀a:Int,0<=a->a<n->aO T (.int a)=some (iL ((bz n).map (d a))):=fun a h0 A=>by rw[Y];exact Eb h0 A
 rw[<-Y];have G:=jS (show n<=1000 by lia);have l1:∀k j e:Option D,∃g,Oi [.v T,.v (.int n),sv k,sv j,sv e]=.nx [.v T,.v (.int n),sv g,sv j,sv e]:=fun k j e=>by obtain⟨h,A,g,rfl⟩:=kW (b:=aQ 2) (m:=HE) D.int (fun _ h=>∃g,h=[.v T,.v (.int n),sv g,sv j,sv e]) (bz n) (by rintro H a w h x ⟨g,rfl⟩;obtain⟨t,q⟩:=bM.mp (show a∈bz n by simp_all);have r:=vF (n:=n) (f:=d a) t q;rw[X.self a t q] at r;refine⟨[.v T,.v (.int n),.v (.int a),sv j,sv e],[.v T,.v (.int n),.v (.int a),sv j,sv e],kG rfl,.inl ?_,some _,rfl⟩;unfold HE;rw[kH (by simp[bf,aj,mC,p a t q,r])];rfl) [.v T,.v (.int n),sv k,sv j,sv e] ⟨k,rfl⟩;exact⟨g,(zO (by simp[bS,ai,af,ag,G])).trans A⟩
 have l3:∀k j e:Option D,∃g i,Ol [.v T,.v (.int n),sv k,sv j,sv e]=.nx [.v T,.v (.int n),sv g,sv i,sv e]:=fun k j e=>by obtain⟨h,A,g,i,rfl⟩:=kW (b:=aQ 2) (m:=Oj) D.int (fun _ h=>∃g i,h=[.v T,.v (.int n),sv g,sv i,sv e]) (bz n) (by rintro H a w h x ⟨g,i,rfl⟩;obtain⟨t,q⟩:=bM.mp (show a∈bz n by simp_all);obtain⟨S,U,l,rfl⟩:=kW (b:=aQ 3) (m:=HF) D.int (fun _ h=>∃l,h=[.v T,.v (.int n),.v (.int a),sv l,sv e]) (bz a.toNat) (by rintro E b z h o ⟨l,rfl⟩;obtain⟨C,K⟩:=bM.mp (show b∈bz a.toNat by simp_all);have L:=vF (n:=n) (f:=d a) C (by lia);have I:=vF (n:=n) (f:=d b) t q;rw[X.sym a b t q C (by lia)] at L;refine⟨[.v T,.v (.int n),.v (.int a),.v (.int b),sv e],[.v T,.v (.int n),.v (.int a),.v (.int b),sv e],kG rfl,.inl ?_,some _,rfl⟩;unfold HF;rw[kH (by simp[bf,aj,mC,p a t q,p b C (by lia),L,I])];rfl) [.v T,.v (.int n),.v (.int a),sv i,sv e] ⟨i,rfl⟩;refine⟨[.v T,.v (.int n),.v (.int a),sv i,sv e],[.v T,.v (.int n),.v (.int a),sv l,sv e],kG rfl,.inl ?_,some _,l,rfl⟩;have ra:=jS (show a.toNat<=1000 by lia);rw[show((a.toNat:Nat):Int)=a by lia] at ra;exact(zO (n:=a.toNat) (by simp[bS,ai,af,ag,ra])).trans U) [.v T,.v (.int n),sv k,sv j,sv e] ⟨k,j,rfl⟩;exact⟨g,i,(zO (by simp[bS,ai,af,ag,G])).trans A⟩
 have l6:∀k j e:Option D,∃g i u,Oq [.v T,.v (.int n),sv k,sv j,sv e]=.nx [.v T,.v (.int n),sv g,sv i,sv u]:=fun k j e=>by
  obtain⟨h,A,g,i,u,rfl⟩:=kW (b:=aQ 2) (m:=Oo) D.int (fun _ h=>∃g i u,h=[.v T,.v (.int n),sv g,sv i,sv u]) (bz n)
   (by rintro H a w h x ⟨g,i,u,rfl⟩;obtain⟨t,q⟩:=bM.mp (show a∈bz n by simp_all);obtain⟨S,U,l,s,rfl⟩:=kW (b:=aQ 3) (m:=Om) D.int (fun _ h=>∃l s,h=[.v T,.v (.int n),.v (.int a),sv l,sv s]) (bz n) (by rintro E b z h o ⟨l,s,rfl⟩;obtain⟨C,K⟩:=bM.mp (show b∈bz n by rw[o];simp);obtain⟨δ3,k1,J,rfl⟩:=kW (b:=aQ 4) (m:=HG) D.int (fun _ h=>∃J,h=[.v T,.v (.int n),.v (.int a),.v (.int b),sv J]) (bz n) (by
    rintro Z c M h y ⟨J,rfl⟩;obtain⟨Q,N⟩:=bM.mp (show c∈bz n by rw[y];simp);have L:=vF (n:=n) (f:=d a) C K;have I:=vF (n:=n) (f:=d b) Q N;have r5:=vF (n:=n) (f:=d a) Q N;have tr:¬d a b+d b c<d a c:=by have:=X.Pd a b c t q C K Q N;lia
    refine⟨[.v T,.v (.int n),.v (.int a),.v (.int b),.v (.int c)],[.v T,.v (.int n),.v (.int a),.v (.int b),.v (.int c)],kG rfl,.inl ?_,some _,rfl⟩;unfold HG;rw[kH (by simp[bf,aj,mC,p a t q,p b C K,L,I,r5,tr])];rfl) [.v T,.v (.int n),.v (.int a),.v (.int b),sv s] ⟨s,rfl⟩;refine⟨[.v T,.v (.int n),.v (.int a),.v (.int b),sv s],[.v T,.v (.int n),.v (.int a),.v (.int b),sv J],kG rfl,.inl ?_,some _,J,rfl⟩;exact(zO (by simp[bS,ai,af,ag,G])).trans k1) [.v T,.v (.int n),.v (.int a),sv i,sv u] ⟨i,u,rfl⟩;refine⟨[.v T,.v (.int n),.v (.int a),sv i,sv u],[.v T,.v (.int n),.v (.int a),sv l,sv s],kG rfl,.inl ?_,some _,l,s,rfl⟩;exact(zO (by simp[bS,ai,af,ag,G])).trans U) [.v T,.v (.int n),sv k,sv j,sv e] ⟨k,j,e,rfl⟩;exact⟨g,i,u,(zO (by simp[bS,ai,af,ag,G])).trans A⟩
 have lT:aJ [T]=some (.int n):=by rw[Y];exact zM
 obtain⟨g,e1⟩:=l1 none none none;obtain⟨q2,q3,e2⟩:=l3 g none none;obtain⟨I,l,s,e3⟩:=l6 q2 q3 none;refine Ml (δ:=[.v T,.v (.int n),sv I,sv l,sv s]) ?_;show av _ _ [.v T,.no,.no,.no,.no]=_;have s1:az (aT aJ (ai (aj 0) af)) (aQ 1) [.v T,.no,.no,.no,.no]=.nx [.v T,.v (.int n),sv none,sv none,sv none]:=ew (d:=.int n) (by simp[aT,ai,af,aj,lT]) rfl;exact(bB s1).trans ((bB e1).trans ((bB e2).trans e3))
theorem Z2{l:List Int}(hi:mi δ=.ok (l.map .int))(a:l.length<=1000):i' mi [] 1 (dC 0) none (mC (.int 0)) δ=.ok (iL (List.replicate l.length 0)):=by exact gW (lh (r:=l.map fun _=>.int 0) hi (by grind) (qG _ _ _ fun k b=>rfl)) (by simp[iL,qr])
theorem Z3{n:Nat}(h:n<=1000):rk [.int (n:Int)]=some (iL (bz n)):=by have:rk [.int n]=cN _ _ _:=rfl;rw[this,fi ⟨by omega,by omega⟩];simp[iL,bz]
theorem Pf(h:ws.length<64):vE [iL ws]=.ok (iL (dg ws)):=by refine oa ?_;show ft _ [.v _]=_;have e:xT (iL _)=some (iL _):=WT h;simp[ft,DG,e]
theorem Pg(ws:List Int):(dg ws).Perm (bz ws.length):=(wz _ _).map _
theorem Z4:∀x∈dg ws,0<=x/\x<ws.length:=fun x a=>bM.mp ((Pg _).mem_iff.mp a)
theorem Ph(ws:List Int):rX (ws.map .int)=(bz ws.length).map fun k=>D.tup [.int k,.int (gA ws k)]:=by rw[Bl];apply sJ (by simp[bz]);intro i a b;simp at a;simp[bz,gA,a]
theorem Pj(ws:List Int):(dg ws).length=ws.length:=by rw[(Pg _).length_eq,fN]
theorem Iu(l:List Int)(x:Int):uniq (l++[x])=if x∈uniq l then uniq l else uniq l++[x]:=by
 have h:uniq (l++[x])=PyProof.Rows.step_dedup (uniq l) x:=by unfold uniq;simp
 rw[h];unfold PyProof.Rows.step_dedup;simp
theorem Iv{P:List Int->Prop}(h0:P [])(h1:∀l x,P l->P (l++[x]))(l:List Int):P l:=by
 have:∀n(l:List _),l.length=n->P l:=by intro n;induction n with |zero=>simp_all |succ n d=>
  intro l e;have c:l≠[]:=fun z=>by simp_all
  rw[<-vW c];simp_all
 simp_all
theorem Z5(l:List Int):(uniq l).Nodup/\∀x,x∈uniq l↔x∈l:=by
  refine Iv (P:=fun l=>(uniq l).Nodup/\∀x,x∈uniq l↔x∈l) ⟨by simp[uniq],fun x=>by rfl⟩ (fun l x d=>?_) l;rw[Iu];by_cases c:x∈uniq l;.simp_all
  . rw[ak c];refine⟨lO.mpr ⟨d.1,by simp,fun a f b e=>?_⟩,fun y=>?_⟩;.grind
    .rw[cO,cO,d.2]
theorem Pk(l:List Int):(uniq l).length<=l.length:=by refine Iv (P:=fun l=>(uniq l).length<=l.length) (by simp[uniq]) (fun l x a=>?_) l;rw[Iu];grind
theorem Pl(h:cs.length<=100):ux [encC cs]=some (.int (uniq cs).length):=by unfold ux encC;simp[r6];exact fi (by lia)
theorem Z6(a b:Int):Ht [.int a,.int b]=.ok (.int (Int.gcd a b)):=by
  have j:∀z:Int,(if z<0 then-z else z)=z.natAbs:=fun z=>by lia
  let f:Nat×Nat×Option D->En:=fun p=>[.v (.int a),.v (.int b),.v (.int p.1),.v (.int p.2.1),sv p.2.2];obtain⟨⟨x,y,r⟩,o,q,l,_⟩:=UQ (c:=Hr) (m:=Hs) f (fun p=>decide (0<p.2.1)) (fun p=>(p.2.1,p.1%p.2.1,some _)) (fun p=>Nat.gcd p.1 p.2.1=Int.gcd a b) (fun p=>p.2.1) (fun p _=>by simp[f,Hr,bf,aj,mC]) (fun p n s=>by
      have g:0<p.2.1:=by simp_all
      refine⟨?_,?_,Nat.mod_lt _ g⟩
      . have e:oMod (.int (p.1:Int)) (.int p.2.1)=some (.int (p.1%p.2.1:Nat)):=by rw[iy (by lia)];simp
        have i:∀d,aQ 4 d _=some ((f p).set 4 (.v d)):=fun d=>kG rfl;simp[Hs,av,az,fk,show aj 2 (f p)=.ok (.int _) from rfl,show aj 3 (f p)=.ok _ from rfl,R.aq,e,i];rfl
      .rw[Nat.gcd_comm,<-n,Nat.gcd_comm p.1,Nat.gcd_rec p.2.1 p.1]) (a.natAbs,b.natAbs,none) rfl;have k:x=Int.gcd a b:=by simp_all
  refine gO ?_;have h:N7 [.v _,.v _,.v _,.v _,.no]=.nx [.v _,.v _,.v _,.v _,sv r]:=l;simp[N8,mR,av,az,aT,ai,af,aj,n_,j,aQ,h,aH,ag,k]
theorem Z7(d:0<b)(h1:b.natAbs<=10^1000):uA [.int t,.int b]=.ok (.tup [.int (lo1 t b),.int (uC t b)]):=by
 have g:=D6 (t:=t) d;have i:Int.gcd t b<=b.natAbs:=Nat.le_of_dvd (by omega) (by have:=Int.gcd_dvd_right (a:=t) (b:=b);exact Int.natAbs_dvd_natAbs.mpr (by omega));have f:eI (Int.gcd t b):=c_ (10^1000) (by lia);have c:=Z6 t b;have h:¬b=0:=by lia
 have e:¬b<0:=by lia
 simp[uA,bF,mR,N9,av,bj,bf,aj,mC,h,dq,az,bw,ai,af,ag,c,aQ,e,aH,cf,mU g f,sizeLine,lo1,uC]
def cdiv(t b:Int):Int:=-((-t)/b)
theorem Z8(c:0<b):-((-lo1 t b)/uC t b)=cdiv t b:=by
 have g:=D6 (t:=t) c;have d:=Zm (t:=t) (b:=b);have h:=Ia (t:=t) (b:=b);unfold cdiv;have:(-t)/b=(-lo1 t b)/uC t b:=by
  have e:-t=(-lo1 t b)*Int.gcd t b:=by rw[Int.neg_mul,d]
  have f:=Int.mul_ediv_mul_of_pos_left (-lo1 t b) (uC t b) g;simp_all
 rw[this]
theorem Z9{t b R:Int}(a:0<b)(h:t<=b*R):cdiv t b<=R:=by
 unfold cdiv;have:-R<=(-t)/b:=by rw[Int.le_ediv_iff_mul_le a,Int.neg_mul,Int.mul_comm];lia
 lia
theorem Z_(a:0<b):t<=b*cdiv t b:=by unfold cdiv;have:=Int.ediv_mul_le (-t) (show b≠0 by omega);rw[Int.mul_neg,Int.mul_comm b];omega
theorem Z'(c:0<b)(d:eI b):wC [.tup [.int a,.int b]]=.ok (.int (-((-a)/b))):=by simp[wC,bF,mR,N_,aH,aj,mC,mU c d]
def cS(z:List (Int×Int))(b:Int):Int:=((z.filter fun x=>decide (x.2=b)).map (·.1)).sum
theorem Ec(z:List (Int×Int))(x:Int×Int)(b:Int):cS (z++[x]) b=cS z b+(if x.2=b then x.1 else 0):=by
 unfold cS;rw[List.filter_append,gZ];by_cases h:x.2=b;.rw[List.filter_cons_of_pos (by simp_all),ao h];simp
 .rw[List.filter_cons_of_neg (by simp_all),ak h];simp
def Iw:List Int->Int |[]=>0 |a::l=>dM l a
theorem zz7(h:S≠[]):uw dM [iL S]=some (.int (Iw S)):=by cases S with |nil=>simp_all |cons a l=>simp[uw,iL,r6,Iw]
def wJ(m:Nat)(ws put:List Int):Int:=Iw ((bz m).map (cS (ws.zip put)))
theorem zzP(h:0<m){f:Int->Int}:(bz m).map f≠[]:=fun e=>by have:=c7 List.length e;rw[aN,fN] at this;simp_all
theorem zxD{l r:List Int}:rl (l.map .int) (r.map .int)=(l.zip r).map fun x=>D.tup [.int x.1,.int x.2]:=by unfold rl;rw[List.zipWith_map,List.zip,List.map_zipWith]
theorem Iy{m:Nat}{z:List (Int×Int)}{b:Int}(h0:0<=b)(h1:b<m):gA ((bz m).map f) b=f b:=by unfold gA;rw[du,bY,rH (show b.toNat<m by omega)];simp[show(b.toNat:Int)=b by omega]
theorem jU{m:Nat}{b y:Int}(h0:0<=b)(h1:b<m)(d:g b=y)(h:∀c,c≠b->g c=f c):((bz m).map f).set b.toNat y=(bz m).map g:=by
  apply iB;intro i;by_cases a:i<m
  . rw[bY,rH a];by_cases e:b.toNat=i;.subst e;rw[a_ (by rw[aN,fN];exact a),oQ,show(b.toNat:Int)=b by lia,d]
    .rw[aI e,bY,rH a,oQ,oQ,h _ (by lia)]
  .rw[f9.mpr (by rw[qq,aN,fN];lia),f9.mpr (by rw[aN,fN];lia)]
theorem zx1{m:Nat}{w b:Int}(h0:0<=b)(h1:b<m):((bz m).map (cS z)).set b.toNat (gA ((bz m).map (cS z)) b+w)=(bz m).map (cS (z++[(w,b)])):=by
 refine jU h0 h1 ?_ fun c a=>?_;.rw[Iy (z:=z) h0 h1,Ec,ao rfl]
 .rw[Ec,ak (aR a),Int.add_zero]
theorem Iz(m:Nat):(bz m).map (cS [])=List.replicate m 0:=by have a:(bz m).map (cS [])=(bz m).map fun _=>0:=iD fun _ _=>rfl;rw[a,qr,fN]
theorem Pm:zr [iL l,encC cs]=some ((l.zip cs).map fun x=>D.tup [.int x.1,.int x.2]):=by unfold zr iL encC;simp;rw[zxD]
theorem zx4{m:Nat}(b:m<=100)(h:ag i δ=.ok (.int m)):i' (bS (ai (ag i) af)) [] 1 (dC 0) none (mC (.int 0)) δ=.ok (iL (List.replicate m 0)):=by have:=Z2 (l:=bz m) (δ:=δ) (mi:=bS (ai (ag i) af)) (by simp[bS,ai,af,h,jS (show m<=1000 by omega)]) (by rw[fN];omega);rw[fN] at this;omega
theorem zoP{m:Nat}{ws cs:List Int}(y:0<m)(e:m<=100)(p:∀b∈cs,0<=b/\b<m):HL [iL ws,.int m,encC cs]=.ok (.int (wJ m ws cs)):=by
 obtain⟨C,l⟩:=xz (encC cs);obtain⟨h,s,c,d,rfl⟩:=kW (b:=dZ 2 (fA (aQ 4) (fA (aQ 5) eL))) (fun x=>D.tup [.int x.1,.int x.2]) (fun a h=>∃c d,h=[.v (iL ws),.v (.int m),.v C,.o (iL ((bz m).map (cS a))),sv c,sv d]) (ws.zip cs) (by
  rintro a ⟨w,b⟩ k h n ⟨c,d,rfl⟩;have g:=p b (nL (show(w,b)∈ws.zip _ by simp_all)).2;have t:b.toNat<((bz m).map (cS a)).length:=by rw[aN,fN];lia
  have q:=O0 (f:=fun i j=>i+j) (i:=3) (mi:=ag 5) (me:=ag 4) (δ:=[.v (iL ws),.v (.int m),.v C,.o (iL _),.v (.int w),.v _]) rfl rfl g.1 t rfl;rw[zx1 g.1 g.2] at q;refine⟨_,_,?_,.inl q,some _,some _,rfl⟩;rcases c with _|c<;>rcases d with _|d<;>rfl) [.v _,.v _,.v C,.o _,.no,.no] ⟨none,none,by rw[Iz];rfl⟩;refine gO ?_;rw[<-l];have r:az Ow (cZ 3) [.v (iL ws),.v _,.v C,.no,.no,.no]=.nx _:=ew (zx4 e rfl) rfl;have u:Ox [.v (iL ws),.v (.int m),.v C,.o (iL (List.replicate m 0)),.no,.no]=.nx [.v (iL ws),.v (.int m),.v C,.o (iL ((bz m).map (cS (ws.zip cs)))),sv c,sv d]:=by refine(kU ?_).trans s;rw[l];simp[Bz,ai,af,ag,Pm]
 refine(bB r).trans ((bB u).trans ?_);simp[aH,aT,ai,af,aj,zz7 (zzP y),wJ]
def up(t b:Int):Int:=if t<=0 then 0 else cdiv t b
theorem Pn(a:0<b)(h1:b<=1000000000000000000):(uA [.int t,.int b]).bind (fun d=>wC [d])=.ok (.int (cdiv t b)):=by have e:=Z7 (t:=t) a (bI (show b.natAbs<=1000000000000000000 by lia) (by decide));rw[e,R.aq];have c:=Zn (t:=t) a;have f:=Zo (t:=t) a;rw[Z' c (c_ 1000000000000000000 (by lia)),Z8 a]
theorem zyZ(a:0<b):up t b=(if 0<cdiv t b then cdiv t b else 0):=by
 unfold up;by_cases c:t<=0;.have:=Z9 a (show t<=b*0 by lia);lia
 .have:=Z_ (t:=t) a;apply Classical.byContradiction;intro z;have:b*cdiv t b<=0:=Int.mul_nonpos_of_nonneg_of_nonpos (by lia) (by lia);lia
def lr(m:Nat)(cs:List Int):List Int:=bz (if(uniq cs).length+1<m then(uniq cs).length+1 else m)
def di(ws:List Int):List Int:=(dg ws).map (gA ws)
theorem B_(ws:List Int):(di ws).length=ws.length:=by unfold di;rw[aN,Pj]
def yn(m:Nat)(ws cs:List Int):Int:=if cdiv ws.sum m<wJ m (di ws) cs then wJ m (di ws) cs else cdiv ws.sum m
def sf(m:Int)(ws:List Int):D:=.obj 8 ["many","order","falling","least"] [.int m,iL (dg ws),iL (di ws),.int (cdiv ws.sum m)]
theorem n1:¬(("many":Str)="order"):=by decide
theorem n2:¬(("many":Str)="falling"):=by decide
theorem n3:¬(("many":Str)="least"):=by decide
theorem n4:¬(("order":Str)="falling"):=by decide
theorem n5:¬(("order":Str)="least"):=by decide
theorem n6:¬(("falling":Str)="least"):=by decide
theorem n7:¬(("room":Str)="order"):=by decide
theorem n8:¬(("room":Str)="falling"):=by decide
theorem Po(l:List Int):rh (l.map .int)=true:=by induction l with |nil=>rfl |cons a l c=>simp[rh,nZ,c]
theorem Pp(l:List Int):allI (l.map .int)=true:=by induction l with |nil=>rfl |cons a l c=>simp[allI,c]
theorem Pq(e:ws.length<=63)(h:bp BR "order" (.obj c ks l)=some (iL (dg ws))): i' (cK (m1 (bp BR "order") (aj 0))) [1] 1 (dC 1) none (m2 aO (aj 0) (aj 1)) [.v (.obj c ks l),.v (iL ws),s]=.ok (iL (di ws)):=by have f:=Pj ws;refine gW (lh (l:=(dg ws).map .int) (r:=(dg ws).map fun k=>.int (gA ws k)) (by simp[cK,aj,h]) (by grind) (qG _ _ _ fun k b=>?_)) (by simp[iL,di]);have:=Z4 k b;have d:=OZ (L:=ws) this.1 (by lia);simp[jE,c3,nY,dC,aj,d]
theorem zq0(n:0<m)(j:m<=100)(i:ws.length<=63):Hw [iL ws,.int m]=.ok (sf m ws):=by
 have h:Hv [.no,.v (iL ws),.v (.int m)] [] []=.ok (["many","order","falling","least"],[.int m,iL (dg ws),iL (di ws),.int (cdiv ws.sum m)]):=by
  unfold Hv fD;have k:lX "many" (ag 2) [.no,.v (iL ws),.v (.int m)] [] []=.ok (["many"],[.int m]):=by simp[lX,ag,nZ,putN,fC]
  have g:bw vE (ai (ag 1) af) [.no,.v (iL ws),.v (.int m)]=.ok (iL (dg ws)):=by simp[bw,ai,af,ag,Pf (show ws.length<64 by lia)]
  have p:rC "order" (bw vE (ai (ag 1) af)) [.no,.v (iL ws),.v (.int m)] ["many"] [.int m]=.ok (["many","order"],[.int m,iL (dg ws)]):=by have e:∃a,iL (dg ws)=D.lst a/\rh a=true:=⟨_,rfl,Po _⟩;simp[rC,g,e,putN,fC,n1]
  have u:wA 8 "falling" Hu [.no,.v (iL ws),.v (.int m)] ["many","order"] [.int m,iL (dg ws)]=.ok (["many","order","falling"],[.int m,iL (dg ws),iL (di ws)]):=by have f:=Pq (c:=8) (ks:=["many","order"]) (l:=[.int m,iL _]) (s:=.v (.int m)) i rfl;have e:∃a,iL (di ws)=D.lst a/\allI a=true:=⟨_,rfl,Pp _⟩;unfold wA;rw[show Hu (List.set [.no,.v _,.v _] 0 _)=.ok _ from f];simp[e,putN,fC,n2,n4]
  have r:=Pn (t:=ws.sum) (b:=m) (by omega) (by lia);have o:lX "least" (bw wC (ai (oE uA (ai (aT fX (ai (aj 1) af)) (ai (ag 2) af))) af)) [.no,.v (iL ws),.v (.int m)] ["many","order","falling"] [.int m,iL (dg ws),iL (di ws)]=.ok (["many","order","falling","least"],[.int m,iL (dg ws),iL (di ws),.int (cdiv ws.sum m)]):=by
   have s:bw wC (ai (oE uA (ai (aT fX (ai (aj 1) af)) (ai (ag 2) af))) af) [.no,.v (iL ws),.v (.int m)]=.ok (.int (cdiv ws.sum m)):=by cases q:uA _ with |ok d=> rw[q,R.aq] at r;simp[bw,oE,ai,af,ag,aT,aj,yh,q,r] |_=>simp_all
   simp[lX,s,nZ,putN,fC,n3,n5,n6]
  simp_all
 show R.bind _ _=_;simp[bJ,jA];rw[h];rfl
section
variable{m:Int}{ws:List Int}
theorem Pr:bp se "many" (sf m ws)=some (.int m):=rfl
theorem zqR:bp oI "falling" (sf m ws)=some (iL (di ws)):=by rfl
theorem zvW:bp DK "least" (sf m ws)=some (.int (cdiv ws.sum m)):=by simp[bp,sf,DK,kK,n3,n5,n6]
end
theorem zpb:yb [sf m ws]=.ok (.int ws.length):=by
 refine gO ?_;show aH _ [.v _]=_;have a:aJ [iL (di ws)]=some (.int ws.length):=by rw[<-B_ _];simp
 simp[aH,aT,ai,af,aj,zqR,a]
theorem zrv{m:Nat}(d:m<=100)(e:cs.length<=100):zB [sf m ws,encC cs]=.ok (iL (lr m cs)):=by
 refine oa ?_;have c:az (aT ux (ai (ag 1) af)) (aQ 2) [.v (sf m ws),.v (encC cs),.no]=.nx [.v _,.v _,.v (.int (uniq cs).length)]:=ew (by simp[aT,ai,af,ag,Pl e]) rfl;refine(bB c).trans ?_;have a:xP [.int ((uniq cs).length+1),.int m]=some (.int (if(uniq cs).length+1<m then(uniq cs).length+1 else m:Nat)):=by show some _=_;grind
 have b:=Z3 (n:=if(uniq cs).length+1<m then(uniq cs).length+1 else m) (by grind);simp[ft,Gv,ai,af,aT,aj,mC,Pr,a,b,lr]
theorem zva{k:Nat}(h:ma δ=.ok (iL l))(a:mh δ=.ok (.int k))(b:k<=l.length):gj ma cC (dV mh) δ=.ok (iL (l.take k)):=by have e:=UZ (l:=l.map D.int) (k:=k) (by simp_all);simp[gj,h,cC,dV,a,R.aq,xG,R.aF,vf,iL,e,List.map_take]
theorem zwk{k:Nat}(h:ma δ=.ok (iL l))(a:mh δ=.ok (.int k))(b:k<=l.length):gj ma (dV mh) cC δ=.ok (iL (l.drop k)):=by have e:=Mm (l:=l.map D.int) (k:=k) (by simp_all);simp[gj,h,cC,dV,a,R.aq,xG,R.aF,vf,iL,e,List.map_drop]
theorem zvi(l cs:List Int):(l.take cs.length).zip cs=l.zip cs:=by induction cs generalizing l with |nil=>simp |cons c cs e=>cases l with |nil=>rfl |cons a l=>simp[e]
theorem zsJ{m:Nat}{ws cs:List Int}(h:0<m)(b:m<=100)(a:cs.length<=ws.length)(g:∀c∈cs,0<=c/\c<m):BV [sf m ws,encC cs]=.ok (.int (yn m ws cs)):=by
 refine gO ?_;have e:aJ [encC cs]=some (.int cs.length):=by simp[encC]
 have i:az (gj (m1 (bp oI "falling") (aj 0)) _ (dV (aT aJ (ai (aj 1) af)))) (aQ 2) [.v (sf m _),.v (encC cs),.no]=.nx [.v _,.v _,.v (iL ((di _).take cs.length))]:= ew (zva rfl (by simp[aT,ai,af,aj,e]) (by rw[B_];exact a)) rfl;refine(bB i).trans ?_;have hv:=zoP (ws:=(di ws).take cs.length) h b g;have d:wJ m ((di ws).take cs.length) cs=wJ m (di ws) cs:=by unfold wJ;rw[zvi]
 rw[d] at hv;have f:zd [.int (cdiv ws.sum m),.int (wJ m _ cs)]=some (.int (yn m _ _)):=rfl;simp[aH,aT,ai,af,aj,zvW,Pr,bw,ag,hv,f]
def nB(cs:List Int):Nat:=(uniq cs).length
def Cn(cs:List Int):Prop:=∀p c q,cs=p++c::q->0<=c/\c<=(nB p:Int)
theorem zzx(h:Cn (p++q)):Cn p:=fun b c a e=>h _ c (a++q) (by simp_all)
theorem zxw(cs:List Int):Cn cs->uniq cs=bz (nB cs):=by
 refine Iv (P:=fun cs=>Cn cs->uniq cs=bz _) (fun _=>rfl) (fun l x a h=>?_) _;have e:=a (zzx h);have b:=h l x _ rfl;unfold nB at e b⊢;rw[Iu];by_cases c:x∈uniq l;.grind
 .rw[ak c,gX,sQ,O9];rw[e,bM] at c;grind
theorem zzS(h:Cn cs):∀c∈cs,0<=c/\c<(nB cs:Int):=fun c b=>by have:=((Z5 _).2 c).mpr b;rw[zxw _ h] at this;exact bM.mp this
theorem Pt(h:Cn cs)(h0:0<=c)(h1:c<=(nB cs:Int)):Cn (cs++[c]):=by
  intro p d q e;rcases sH q with z|⟨a,x,z⟩;.simp_all
  . have f:cs++[c]=(p++d::a)++[x]:=by simp_all
    obtain⟨b,_⟩:=List.append_inj' f rfl;exact h p _ _ b
theorem IA(cs:List Int):nB cs<=cs.length:=Pk _
def vG(r:Int)(ws cs:List Int):Int:=(nB cs:Int)+up (((di ws).drop cs.length).sum-(nB cs:Int)*r+((bz (nB cs)).map (cS ((di ws).zip cs))).sum) r
def oz(r:Int)(ws cs:List Int):List Int:=((bz (nB cs)).filter fun k=>decide (cS ((di ws).zip cs) k+gA (di ws) cs.length<=r))++[(nB cs:Int)]
def lx(r:Int)(ws:List Int):D:=.obj 9 ["room","order","falling"] [.int r,iL (dg ws),iL (di ws)]
theorem ztp(h:∀w∈ws,w<=r):BU [iL ws,.int r]=.ok .non:=by
 obtain⟨W,o⟩:=xz (iL ws);obtain⟨g,n,a,d,rfl⟩:=kW (b:=dZ 2 (fA (aQ 2) (fA (aQ 3) eL))) (m:=Oa) (fun k=>D.tup [.int k,.int _]) (fun f g=>∃a d,g=[.v W,.v (.int r),sv a,sv d]) (bz ws.length) (by
  rintro f k j g l ⟨a,d,rfl⟩;have p:k∈bz ws.length:=by simp_all
  obtain⟨t,s⟩:=bM.mp p;have:=h _ (jB (HX (i:=k) (by lia)));have c:=by omega
  refine⟨[.v W,.v (.int r),.v (.int k),.v (.int (gA ws k))],[.v W,.v _,.v (.int k),.v (.int (gA ws k))],?_,.inl ?_,some _,some _,rfl⟩;.rcases a with _|a<;>rcases d with _|d<;>rfl
  .show bj _ _ _ _=_;rw[kH (by simp[bf,aj,c])];rfl) _ ⟨none,none,rfl⟩;have q:Ob [.v W,.v (.int r),.no,.no]=.nx [.v W,.v (.int r),sv a,sv d]:=by refine(kU ?_).trans n;rw[o];simp[rY,ai,af,ag,vi,qW,iL,Ph]
 have:BU [W,.int r]=.ok .non:=by show bF 2 2 _ _=_;unfold bF;rw[ao (show[W,D.int r].length=2 from rfl)];have e:Oc (mR 2 [W,.int r])=.nx _:=q;rw[e]
 simp_all
theorem zvB(e:ws.length<=63)(d:∀w∈ws,w<=r):Hz [iL ws,.int r]=.ok (lx r ws):=by
 have h:Hy [.no,.v (iL ws),.v (.int r)] [] []=.ok (["room","order","falling"],[.int r,iL (dg ws),iL (di ws)]):=by
  unfold Hy fD;have i:tQ (oE BU (ai (ag 1) (ai (ag 2) af))) [.no,.v (iL ws),.v (.int r)] [] []=.ok ([],[]):=by simp[tQ,oE,ai,af,ag,ztp d]
  have m:lX "room" (ag 2) [.no,.v (iL ws),.v (.int r)] [] []=.ok (["room"],[.int r]):=by simp[lX,ag,nZ,putN,fC]
  have g:bw vE (ai (ag 1) af) [.no,.v (iL ws),.v (.int r)]=.ok (iL (dg ws)):=by simp[bw,ai,af,ag,Pf (show ws.length<64 by lia)]
  have k:rC "order" (bw vE (ai (ag 1) af)) [.no,.v (iL ws),.v (.int r)] ["room"] [.int r]=.ok (["room","order"],[.int r,iL (dg ws)]):=by have b:∃a,iL (dg ws)=D.lst a/\rh a=true:=⟨_,rfl,Po _⟩;simp[rC,g,b,putN,fC,n7]
  have j:wA 9 "falling" Hx [.no,.v (iL ws),.v (.int r)] ["room","order"] [.int r,iL (dg ws)]=.ok (["room","order","falling"],[.int r,iL (dg ws),iL (di ws)]):=by have f:=Pq (c:=9) (ks:=["room","order"]) (l:=[.int r,iL _]) (s:=.v (.int r)) e rfl;have b:∃a,iL (di ws)=D.lst a/\allI a=true:=⟨_,rfl,Pp _⟩;unfold wA;rw[show Hx (List.set [.no,.v _,.v _] 0 _)=.ok _ from f];simp[b,putN,fC,n8,n4]
  simp_all
 show R.bind _ _=_;simp[bJ,jA];rw[h];rfl
section
variable{r:Int}{ws:List Int}
theorem zru:bp oI "falling" (lx r ws)=some (iL (di ws)):=by rfl
end
theorem zse:yc [lx r ws]=.ok (.int ws.length):=by
 refine gO ?_;show aH _ [.v _]=_;have a:aJ [iL (di ws)]=some (.int ws.length):=by rw[<-B_ _];simp
 simp[aH,aT,ai,af,aj,zru,a]
theorem zvj:((bz n).map fun b=>r-f b).sum=(n:Int)*r-((bz n).map f).sum:=by
 have h:=OW (f:=fun b=>r-f b) (g:=f) (l:=bz n);have e:(bz n).map (fun x=>(r-f x)+f x)=(bz n).map fun _=>r:=iD fun x _=>by lia
 rw[e,OX,fN] at h;lia
theorem Pu(H:cs.length<=100)(s:Cn cs):zx [lx r ws,encC cs]=.ok (iL ((bz (nB cs)).map fun b=>r-cS ((di ws).zip cs) b)):=by
 obtain⟨C,n⟩:=xz (encC cs);obtain⟨B,p⟩:=xz (lx r ws);have T:=IA cs;have J:bp oI "falling" B=some (iL (di ws)):=by rw[p];rfl
 have S:bp x' "room" B=some (.int r):=by rw[p];rfl
 have K:ux [C]=some (.int (nB cs)):=by rw[n];exact Pl H
 obtain⟨t,Q,e,d,rfl⟩:=kW (b:=dZ 2 (fA (aQ 3) (fA (aQ 4) eL))) (m:=Oz) (fun x:Int×Int=>D.tup [.int x.1,.int x.2]) (fun a t=>∃e d,t=[.v B,.v C,.o (iL ((bz (nB cs)).map fun c=>r-cS a c)),sv e,sv d]) ((di ws).zip cs) (by
   rintro a ⟨w,b⟩ A t E ⟨e,d,rfl⟩;have g:=zzS s b (nL (show(w,b)∈(di ws).zip cs by simp_all)).2;have u:b.toNat<((bz (nB cs)).map fun c=>r-cS a c).length:=by rw[aN,fN];lia
   have q:=O0 (f:=fun i j=>i-j) (i:=2) (mi:=ag 4) (me:=ag 3) (δ:=[.v B,.v C,.o (iL ((bz (nB cs)).map fun c=>r-cS a c)),.v (.int w),.v (.int b)]) (k:=b) (y:=w) rfl rfl g.1 u rfl;have G:((bz (nB cs)).map fun c=>r-cS a c).set b.toNat (gA ((bz (nB cs)).map fun c=>r-cS a c) b-w)=(bz (nB cs)).map fun c=>r-cS (a++[(w,b)]) c:=by
    refine jU g.1 g.2 ?_ fun c s=>?_;.rw[Iy (z:=[]) g.1 g.2];rw[Ec];lia
    .rw[Ec,ak (aR s),Int.add_zero]
   rw[G] at q;refine⟨[.v B,.v C,.o (iL ((bz (nB cs)).map fun c=>r-cS a c)),.v (.int w),.v (.int b)],[.v B,.v C,.o _,.v (.int w),.v (.int b)],?_,.inl ?_,some _,some _,rfl⟩;.rcases e with _|e<;>rcases d with _|d<;>rfl
   .exact q) [.v B,.v C,.o (iL (List.replicate (nB cs) r)),.no,.no] ⟨none,none,by
   have:(bz (nB cs)).map (fun c=>r-cS [] c)=List.replicate (nB cs) r:=by
    have L:(bz (nB cs)).map (fun c=>r-cS [] c)=(bz _).map _:=iD fun c _=>by show r-0=r;lia
    rw[L,qr,fN]
   simp_all⟩;refine oa ?_;rw[<-n,<-p];have I:Oy [.v B,.v C,.no,.no,.no]=.ok (iL (List.replicate (nB cs) r)):=by
  refine gW (lh (l:=(bz (nB cs)).map .int) (r:=(bz (nB cs)).map fun _=>.int r) ?_ (by rw[aN,fN];lia) ?_) ?_;.simp[bS,aT,ai,af,ag,K,jS (show nB cs<=1000 by lia)]
  .refine qG _ _ _ fun k _=>?_;simp[jE,c3,nY,dC,aj,S]
  .rw[qr,fN];simp[iL]
 have M:az _ (cZ 2) _=.nx _:=ew I rfl;have N:OA [.v B,.v C,.o (iL (List.replicate (nB cs) r)),.no,.no]=.nx [.v B,.v C,.o (iL ((bz (nB cs)).map fun c=>r-cS ((di ws).zip cs) c)),sv e,sv d]:=by refine(kU ?_).trans Q;have:=Pm (l:=di ws) (cs:=cs);rw[<-n] at this;simp[Bz,ai,af,ag,aj,J,this]
 exact(bB M).trans ((bB N).trans rfl)
theorem zvg(a:n∉(["many","order","falling","least"]:List Str)):PM.isObj 8 n (sf m ws)=some ():=by show(if 8=8/\n∉(["many","order","falling","least"]:List Str) then some _ else none)=some _;simp_all
theorem zv1(J:ws.length<=100)(G:cs.length<ws.length)(A:Cn cs):zC [lx r ws,encC cs]=.ok (iL (oz r ws cs)):=by
  have j:=Pu (r:=r) (ws:=ws) (show cs.length<=100 by lia) A;obtain⟨C,m⟩:=xz (encC cs);obtain⟨B,e⟩:=xz (lx r ws);have I:=IA cs;have s:PM.isObj 9 "free" B=some ():=by rw[e];rfl
  have w:bp oI "falling" B=some (iL (di ws)):=by rw[e];rfl
  have H:aJ [C]=some (.int cs.length):=by rw[m];simp[encC]
  rw[<-m,<-e] at j;obtain⟨L,f⟩:=xz ((bz (nB cs)).map fun b=>r-cS ((di ws).zip cs) b);rw[<-f] at j;have q:L.length=nB cs:=by rw[f,aN,fN]
  refine oa ?_;rw[<-m,<-e];have x:az (b3 9 "free" zx (ag 0) (ai (ag 1) af)) (aQ 2) [.v B,.v C,.no,.no]=.nx [.v B,.v C,.v (iL L),.no]:=ew (d:=iL L) (by simp[b3,ag,ai,af,s,j]) rfl;have E:aO (iL (di ws)) (.int cs.length)=some (.int (gA (di ws) cs.length)):=OZ (by lia) (by rw[B_];lia);have p:az (m2 aO (m1 (bp oI "falling") (aj 0)) (aT aJ (ai (aj 1) af))) (aQ 3) [.v B,.v C,.v (iL L),.no]=.nx [.v B,.v C,.v (iL L),.v (.int (gA (di ws) cs.length))]:=ew (d:=.int (gA (di ws) cs.length)) (by simp[aj,aT,ai,af,w,H,E]) rfl;have n:OJ [.v B,.v C,.v (iL L),.v (.int (gA (di ws) cs.length))]=.ok (iL ((bz (nB cs)).filter fun k=>decide (cS ((di ws).zip cs) k+gA (di ws) cs.length<=r))):=by
    refine lh (l:=(bz (nB cs)).map fun k=>D.tup [.int k,.int (gA L k)]) ?_ (by grind) ?_;.have:=Ph L;rw[q] at this;simp[rY,ai,af,aj,vi,qW,iL,this]
    . refine OY (fun k=>D.tup [.int k,.int (gA L k)]) _ .int _ fun k y=>?_;obtain⟨u,o⟩:=bM.mp y;have g:gA L k=r-cS ((di ws).zip cs) k:=by rw[f,Iy (z:=[]) u o]
      by_cases c:cS ((di ws).zip cs) k+gA (di ws) cs.length<=r
      . have h:gA (di ws) cs.length<=gA L k:=by lia
        simp[jE,c3,nY,dZ,fA,eL,dC,bf,aj,ag,c,h]
      . have h:¬gA (di ws) cs.length<=gA L k:=by lia
        simp[jE,c3,nY,dZ,fA,eL,dC,bf,aj,c,h]
  refine(bB x).trans ((bB p).trans ?_);have t:aJ [iL L]=some (.int (nB cs)):=by simp_all
  have fl:((bz (nB cs)).filter fun k=>decide (cS ((di ws).zip cs) k+gA (di ws) cs.length<=r)).length<=100:=by grind
  unfold oz;generalize((bz (nB cs)).filter fun k=>decide (cS _ k+gA _ _<=r))=Y at fl n⊢;have i:cW (iL Y) (.lst [.int (nB cs)])=some (iL (Y++[(nB cs:Int)])):=by refine(Mn (by grind)).trans ?_;simp[iL]
  simp[ft,bC,ai,af,aj,aT,n,t,sizeLine,i]
theorem zAq(h:ma δ=.ok (iL l)):aT fX (ai ma af) δ=.ok (.int l.sum):=by unfold aT ai;rw[h];simp[af,yh]
theorem zyr(j:0<r)(e:r<=1000000000000000000)(H:ws.length<=100)(g:cs.length<=ws.length)(A:Cn cs):BX [lx r ws,encC cs]=.ok (.int (vG r ws cs)):=by
 have i:=Pu (r:=r) (ws:=ws) (show cs.length<=100 by lia) A;obtain⟨C,h⟩:=xz (encC cs);obtain⟨B,a⟩:=xz (lx r ws);have x:PM.isObj 9 "free" B=some ():=by rw[a];rfl
 have m:bp oI "falling" B=some (iL (di ws)):=by rw[a];rfl
 have y:bp x' "room" B=some (.int r):=by rw[a];rfl
 have s:aJ [C]=some (.int cs.length):=by rw[h];simp[encC]
 rw[<-h,<-a] at i;obtain⟨L,f⟩:=xz ((bz (nB cs)).map fun b=>r-cS ((di ws).zip cs) b);rw[<-f] at i;have J:L.length=nB cs:=by rw[f,aN,fN]
 have G:L.sum=nB cs*r-((bz (nB cs)).map (cS ((di ws).zip cs))).sum:=by rw[f];exact zvj
 refine gO ?_;rw[<-h,<-a];have w:az (b3 9 "free" zx (ag 0) (ai (ag 1) af)) (aQ 2) [.v B,.v C,.no,.no]=.nx [.v B,.v C,.v (iL L),.no]:=ew (by simp[b3,ag,ai,af,x,i]) rfl;have o:=zwk (δ:=[.v B,.v C,.v (iL L),.no]) (ma:=m1 (bp oI "falling") (aj 0)) (mh:=aT aJ (ai (aj 1) af)) (l:=di ws) (k:=cs.length) (by simp[aj,m]) (by simp[aT,ai,af,aj,s]) (by rw[B_];exact g);have p:az (m2 jN (aT fX (ai (gj (m1 (bp oI "falling") (aj 0)) (dV (aT aJ (ai (aj 1) af))) cC) af)) (aT fX (ai (aj 2) af))) (aQ 3) [.v B,.v C,.v (iL L),.no]=.nx [.v B,.v C,.v (iL L),.v (.int (((di ws).drop cs.length).sum-L.sum))]:=by
  refine ew ?_ rfl;have K:=zAq o;have E:aT fX (ai (aj 2) af) [.v B,.v C,.v (iL L),.no]=.ok (.int L.sum):=by simp[aT,ai,af,aj,yh]
  simp_all
 refine(bB w).trans ((bB p).trans ?_);have z:aJ [iL L]=some (.int (nB cs)):=by simp_all
 have c:=Pn (t:=((di ws).drop cs.length).sum-L.sum) j e;have u:nB cs+(if 0<cdiv (((di ws).drop cs.length).sum-L.sum) r then cdiv (((di ws).drop cs.length).sum-L.sum) r else 0)=vG r ws cs:=by rw[<-zyZ j];unfold vG;grind
 have n:zd [.int 0,.int (cdiv (((di ws).drop cs.length).sum-L.sum) r)]=some _:=rfl;cases q:uA _ with |ok d=> rw[q,R.aq] at c;rw[<-u];simp[aH,aT,ai,af,aj,mC,z,bw,oE,ag,y,q,c,n] |_=>rw[q] at c;cases c
theorem zzC(z:Int):n_ [.int z]=some (.int (z.natAbs:Int)):=by have:n_ [.int z]=some _:=rfl;grind
theorem Ed{n:Nat}(h:∀a b:Int,0<=a->a<n->0<=b->b<n->d a b=e a b):bq n d=bq n e:=by refine iD fun a f=>iD fun b c=>?_;obtain⟨k,j⟩:=bM.mp f;obtain⟨g,i⟩:=bM.mp c;simp_all
theorem Pw{pre post:List Int}(h:bz n=pre++x::post):x=pre.length/\pre.length<n/\pre=bz pre.length:=by
  have d:(bz n).length=n:=fN;have b:pre.length<n:=by grind
  refine⟨?_,b,?_⟩
  . have a:(bz n)[pre.length]?=some x:=by simp_all
    rw[rH b] at a;simp_all
  . apply iB;intro i;by_cases c:i<pre.length
    . have a:(bz n)[i]?=pre[i]?:=by grind
      rw[rH c,<-a,rH (by lia)]
    .rw[f9.mpr (by lia),f9.mpr (by rw[fN];lia)]
theorem Px{α:Type}(enc:α->D)(g:α->List Int)(l:List α)(h:∀x∈l,f (enc x)=.ok (g x)):rm f (l.map enc)=.ok (l.map g):=by induction l with |nil=>rfl |cons a l d=>rw[bJ,rm,h a (by simp),d fun x c=>h x (by simp[c])];rfl
def Py(d:Int->Int->Int)(L:List (Int×Int)):Int:=(L.map fun p=>d p.1 p.2).sum
def path(d:Int->Int->Int):List Int->Int |a::b::l=>d a b+path d (b::l) |_=>0
theorem Pz(d:Int->Int->Int):∀(l:List Int)(a x y:Int),path d (a::(l++[x,y]))=path d (a::(l++[x]))+d x y |[],a,x,y=>by simp[path] |c::l,a,x,y=>by have:=Pz d l c x y;show d a c+path d (c::(l++[x,y]))=d a c+path d (c::(l++[x]))+d x y;lia
def B'(d:Int->Int->Int):List Int->Int |[]=>0 |a::l=>path d (a::(l++[a]))
def cp:List Int->List (Int×Int) |a::b::l=>(a,b)::cp (b::l) |_=>[]
theorem PB(d:Int->Int->Int):∀l:List Int,Py d (cp l)=path d l |[]=>rfl |[_]=>rfl |a::b::l=>by have:=PB d (b::l);show d a b+Py d _=d a b+path d _;rw[this]
theorem zzG(d:Int->Int->Int)(l:List Int)(w:Int):B' d (l++[w])=path d (l++[w])+d w ((l++[w]).headD 0):=by cases l with |nil=>show d w w+0=0+d w w;lia |cons a l=>show path d (a::((l++[w])++[a]))=path d _+d w a;rw[nF];exact Pz d l a w a
theorem PD:aO (iL (l++[w])) (.int (-1))=some (.int w):=by
 show hV _ _=_;unfold hV iv;rw[ak (by decide),aN,gX,sQ,ao (by lia)];have:((-1:Int)+(l.length+1:Nat)).toNat=l.length:=by lia
 simp only[this];simp
theorem zvH:aO (iL (a::l)) (.int 0)=some (.int a):=by show hV _ 0=_;unfold hV iv;simp
theorem zxh:aO (iL (l++[w])) (.int 0)=some (.int ((l++[w]).headD 0)):=by cases l with |nil=>rfl |cons a l=>exact zvH
theorem PF:∀l:List Int,cp l=(List.range (l.length-1)).map fun k=>(l.getD k 0,l.getD (k+1) 0) |[]=>rfl |[_]=>rfl |a::b::l=>by have:=PF (b::l);show(a,b)::cp _=_;rw[this];show _=(List.range (l.length+1)).map _;rw[List.range_succ_eq_map,bJ,cM];rfl
theorem PH{l:List Int}(h:k<l.length):aO (iL l) (.int k)=some (.int (l.getD k 0)):=by show hV _ k=_;unfold hV iv;simp[h]
theorem zmW{n:Nat}(C:l≠[])(I:l.length<=100)(c:∀v∈l,0<=v/\v<(n:Int)):DX [bP (bq n d),iL l]=.ok (.int (path d l)):=by
 obtain⟨T,m⟩:=xz (bP (bq n d));have h:∀a:Int,0<=a->a<n->aO T _=some _:=fun a A y=>by rw[m];exact Eb A y
 rw[<-m];have G:=sP.mpr C;have u:aJ [iL l]=some (.int l.length):=by simp
 have x:bS (ai (m2 jN (aT aJ (ai (aj 1) af)) (mC (.int 1))) af) [.v T,.v (iL l)]=.ok ((List.range (l.length-1)).map fun k:Nat=>.int k):=by
  have B:=jS (show l.length-1<=1000 by lia);have e:(l.length:Int)-1=(l.length-1:Nat):=by lia
  simp[bS,ai,af,mC,aT,aj,fk,List.getElem?_cons_succ,List.getElem?_cons_zero,u,R.aq,R.aF,Dq];rw[e];refine(c7 _ B).trans ?_;unfold bz;simp
 have E:OH [.v T,.v (iL l)]=.ok (iL ((cp l).map fun p=>d p.1 p.2)):=by
  unfold iL;rw[PF,cM,cM];refine lh x (by simp;lia) ?_;have e:c3 [.v T,.v (iL l)] [0,1] 1=[.v T,.v _,.no]:=rfl;unfold iL at e;rw[e];refine qG _ _ _ fun k z=>?_;have H:=iE.mp z;have q:=PH (l:=l) (k:=k) (by lia);have i:=PH (l:=l) (k:=k+1) (by lia);rw[show((k+1:Nat):Int)=k+1 by lia] at i;have g:∀j,j<l.length->l.getD j 0∈l:=fun j w=>by rw[du,b7 w];simp
  have o:=c _ (g k (by lia));have m1:=c _ (g (k+1) (by lia));have t:=h _ o.1 o.2;have r:=vF (f:=d (l.getD k 0)) m1.1 m1.2;have b:dC 2 (.int k) [.v T,.v (.lst (l.map .int)),.no]=some _:=rfl;unfold iL at q i;simp[jE,b];simp only[fk,aj,mC,List.getElem?_cons_succ,List.getElem?_cons_zero,R.aq,q,i,R.aF,t,wo,r];rfl
 refine gO ?_;show aH _ [.v T,.v _]=_;have s:=yh ((cp l).map fun p=>d p.1 p.2);have e:((cp l).map _).sum=path d l:=PB d l;simp only[aH,aT,ai,af,E,R.aq,s,e];rfl
theorem zk3(J:i0 n B d)(M:l≠[])(H:l.length<=100)(i:∀v∈l,0<=v/\v<(n:Int)):HS [bP (bq n d),iL l]=.ok (.int (B' d l)):=by
  have o:=zmW (d:=d) M H i;rcases sH l with e|⟨g,w,e⟩;.simp_all
  rw[List.concat_eq_append] at e;subst e;obtain⟨a,p⟩:=xz ((g++[w]).headD 0);have G:a∈g++[w]:=by rw[p];cases g with |nil=>simp |cons b g=>simp
  have u:=i a G;have k:=i w (by simp);have t:=Eb (d:=d) k.1 k.2;have s:=vF (f:=d w) u.1 u.2;have r:=zzG d g w;rw[<-p] at r;have m:=zxh (l:=g) (w:=w);rw[<-p] at m;have y:=PD (l:=g) (w:=w);have j:aJ [iL (g++[w])]=some (.int (g.length+1)):=by simp
  have z:g.length=0->B' d (g++[w])=0:=fun h=>by have:=lJ.mp h;subst this;have:=J.self w k.1 k.2;show d w w+0=0;lia
  obtain⟨X,C⟩:=xz (g++[w]);rw[<-C] at o r m y j z⊢;obtain⟨T,K⟩:=xz (bP (bq n d));rw[<-K] at o t⊢;refine gO ?_;show av _ _ [.v T,.v _]=_;by_cases c:g.length=0
  . have q:bj (bf (m2 oEq (aT aJ (ai (aj 1) af)) (mC (.int 1)))) (aH (mC (.int 0))) dq [.v T,.v (iL X)]=.rt (.int 0):=by rw[c] at j;rw[tG (by simp[bf,aT,ai,af,aj,mC,j])];rfl
    have I:=z c;rw[I];unfold av;rw[q]
  . have q:bj (bf (m2 oEq (aT aJ (ai (aj 1) af)) (mC (.int 1)))) (aH (mC (.int 0))) dq [.v T,.v (iL X)]=.nx [.v T,.v (iL X)]:=by rw[kH (by simp[bf,aT,ai,af,aj,mC,j];lia)];rfl
    refine(bB q).trans ?_;have L:bw DX (ai (ag 0) (ai (ag 1) af)) [.v T,.v (iL X)]=.ok (.int (path d X)):=by simp[bw,ai,af,ag,o]
    simp only[aH,fk,L,vd,aj,mC,List.getElem?_cons_succ,List.getElem?_cons_zero,R.aq,R.aF,za,m,y,t,s,r];rfl
def t_(T:D):D:=.obj 11 ["lengths"] [T]
def ua(T:D)(m:Int):D:=.obj 12 ["lengths","many"] [T,.int m]
theorem zAw:¬(("lengths":Str)="many"):=by decide
theorem PJ(b:a δ=.ok x)(c:f [x]=.ok r):bw f (ai a af) δ=.ok r:=by simp[bw,ai,af,b,c]
theorem zvC(e:a δ=.ok x)(c:b δ=.ok y)(d:f [x,y]=.ok r):bw f (ai a (ai b af)) δ=.ok r:=by simp[bw,ai,af,e,c,d]
theorem zvk(h:a δ=.ok x)(d:b δ=.ok y)(g:c δ=.ok z)(e:f [x,y,z]=.ok r):bw f (ai a (ai b (ai c af))) δ=.ok r:=by simp[bw,ai,af,h,d,g,e]
theorem zxF(g:a δ=.ok o)(d:isObj c m o=some ())(h:b δ=.ok x)(e:f [o,x]=.ok r):b3 c m f a (ai b af) δ=.ok r:=by simp[b3,ai,af,g,d,h,e]
theorem yo(T:D)(h:m∉(["lengths"]:List Str)):isObj 11 m (t_ T)=some ():=by show(if 11=11/\m∉(["lengths"]:List Str) then some _ else none)=some _;simp_all
theorem yp(T:D)(k:Int)(h:m∉(["lengths","many"]:List Str)):isObj 12 m (ua T k)=some ():=by show(if 12=12/\m∉(["lengths","many"]:List Str) then some _ else none)=some _;simp_all
theorem PL(T:D):bp r_ "lengths" (t_ T)=some T:=rfl
theorem PN(T:D)(k:Int):bp r_ "lengths" (ua T k)=some T:=rfl
theorem PQ(T:D)(k:Int):bp se "many" (ua T k)=some (.int k):=rfl
theorem PR(b:n<=100):zw [bP (bq n d)]=.ok (bq n d):=by
 unfold zw rF;rw[ao (show[bP _].length=1 from rfl)];show zg _ _ _ _ _ [.v _]=_;unfold zg;have r:cK (aj 0) [.v (bP (bq n d))]=.ok _:=rfl;rw[r,R.aq,fi (by simp[bq,fN];exact bI b (by decide))];have g:rm (vw (dC 0) (aT ni (ai (aj 0) af)) (c3 [.v (bP (bq n d))] [] 1)) ((bq n d).map iL)=.ok ((bq n d).map fun x=>x):=by refine Px _ _ _ fun l _=>?_;have fl:ni [iL l]=some (iL l):=rfl;have a:tK (iL l)=some l:=r6 _;have e:c3 [.v (bP (bq n d))] [] 1=[.no]:=rfl;rw[e];simp[vw,dC,aT,ai,af,aj,fl,a]
 simp_all
theorem zrO(c:i0 n B d)(b:n<=100):HI [bP (bq n d)]=.ok (t_ (bP (bq n d))):=by
 have a:=Pe b c;have cp:=PR (d:=d) b;have h:HH [.no,.v (bP (bq n d))] [] []=.ok (["lengths"],[bP (bq n d)]):=by unfold HH fD tQ vA;simp[oE,BD,ai,af,ag,a,cp,putN,fC]
 show R.bind _ _=_;simp[bJ,jA];rw[h];rfl
theorem zrA(c:i0 n B d)(b:n<=100):HK [bP (bq n d),.int k]=.ok (ua (bP (bq n d)) k):=by
 have a:=Pe b c;have cp:=PR (d:=d) b;have h:HJ [.no,.v (bP (bq n d)),.v (.int k)] [] []=.ok (["lengths","many"],[bP (bq n d),.int k]):=by unfold HJ fD tQ vA lX;simp[oE,BD,ai,af,ag,a,cp,putN,fC,nZ,zAw]
 show R.bind _ _=_;simp[bJ,jA];rw[h];rfl
def Rg(a:Int)(m:Nat):List Int:=(List.range m).map fun k:Nat=>a+(k:Int)
theorem p8:x∈Rg a m↔a<=x/\x<a+m:=by
 unfold Rg;rw[hI];constructor;.rintro⟨k,b,rfl⟩;have:=iE.mp b;lia
 .intro h;exact⟨(x-a).toNat,iE.mpr (by lia),by lia⟩
theorem yq(a:Int)(m:Nat):(Rg a m).length=m:=by simp[Rg]
def rW(n:Nat)(cs:List Int):List Int:=(Rg 1 (n-1)).filter fun p=>decide (p∉cs)
theorem zzT{n:Nat}(h1:1<=n)(a:n<=1000):lP [.int 1,.int n]=some ((Rg 1 (n-1)).map .int):=by rw[Gm (by lia) (by lia)];unfold Rg vh;simp
theorem zyl:zc (.int x) (encC cs)=some (.bl (!decide (x∈cs))):=by simp[zc,encC,r6]
theorem zxz(h1:1<=n)(c:n<=100):zG [t_ (bP (bq n d)),encC cs]=.ok (iL (rW n cs)):=by
 have a:aJ [bP (bq n d)]=some _:=zM;have b:=zzT h1 (by lia);have fl:=PL (bP (bq n d));have k:HU [.v (t_ (bP (bq n d))),.v (encC cs)]=.ok (iL (rW n cs)):=by refine lh (l:=(Rg 1 (n-1)).map .int) (by simp[bS,ai,af,mC,aT,aj,fl,a,b]) (by rw[aN,yq];lia) ?_;have s:c3 [.v (t_ (bP (bq n d))),.v (encC cs)] [1] 1=[.v _,.no]:=rfl;rw[s];refine Bm _ _ _ fun x _=>?_;by_cases e:x∈cs<;>simp[jE,dC,bf,aj,ag,zyl,e]
 refine oa ?_;show ft HU [.v _,.v _]=_;unfold ft;simp_all
theorem zzA(h:a.length+b.length<=1000):cW (iL a) (iL b)=some (iL (a++b)):=by unfold cW iL;simp only;rw[fi (by rw[aN,aN];exact bI h (by decide)),gZ]
theorem zy1(δ:En)(x:Int):bC (ai (mC (.int x)) af) δ=.ok (iL [x]):=by simp[bC,ai,af,mC,sizeLine,iL]
theorem ztz(h:cs.length<=100):DW [t_ T,encC cs]=.ok (iL (0::cs)):=by refine oa ?_;show ft _ [.v _,.v _]=_;unfold ft;have e:aT ni (ai (aj 1) af) [.v (t_ T),.v (encC cs)]=.ok (iL _):=rfl;rw[fk,zy1,R.aq,e,R.aq,zzA (by grind)];rfl
theorem zzr(f:i0 n B d)(h0:0<n)(h:cs.length<=90)(b:∀v∈cs,0<=v/\v<(n:Int)):B2 [t_ (bP (bq n d)),encC cs]=.ok (.int (B' d (0::cs))):=by
 have c:=ztz (T:=bP (bq n d)) (cs:=cs) (by lia);have e:=zk3 f (l:=0::cs) (by simp) (by grind) (fun v hv=>by
  rcases aU.mp hv with z|z;.lia
  simp_all);refine gO ?_;show aH _ [.v _,.v _]=_;have a:b3 11 "answer" DW (ag 0) (ai (ag 1) _) [.v _,.v _]=.ok _:=zxF rfl rfl rfl c;unfold aH;rw[zvC (rfl) a e];rfl
def bl(cs:List Int):Int:=match cs.getLast? with|none=>0|some w=>w+1
theorem IB(l:List Int)(w:Int):bl (l++[w])=w+1:=by unfold bl;simp
theorem PU:e_ (encC (l++[w])) (.int (-1))=some (.int w):=PD
theorem IC(cs:List Int):aJ [encC cs]=some (.int cs.length):=by unfold encC aJ;simp
theorem PV(cs:List Int):ya [encC cs]=.ok (.int (bl cs)):=by
  refine gO ?_;show aH _ [.v _]=_;have b:=IC cs;rcases sH cs with e|⟨l,w,e⟩;.subst e;rfl
  . rw[List.concat_eq_append] at e;subst e;have a:=PU (l:=l) (w:=w);rw[IB];have t:bf (m2 qY (aT aJ (ai (aj 0) af)) (mC (.int 0))) [.v (encC (l++[w]))]=.ok true:=by simp[bf,aT,ai,af,aj,mC,b]
    unfold aH FO;rw[t];simp[aj,mC,a]
def pW(n b t:Nat):List Int:=Rg b (n-b-t+1)
theorem zxE{b t m:Nat}(k:bl cs=b)(s:m=cs.length+t)(r:1<=t)(l:b+t<=n)(q:n<=100):zF [ua (bP (bq n d)) m,encC cs]=.ok (iL (pW n b t)):=by
 have h:aJ [bP (bq n d)]=some _:=zM;have f:=PN (bP (bq n d)) m;have g:=PQ (bP (bq n d)) m;have e:=PV cs;rw[k] at e;have j:=IC cs;obtain⟨a,p⟩:=xz (ua (bP (bq n d)) m);rw[<-p] at f g⊢;refine oa ?_;have o:az (m2 jN (m1 (bp se "many") (aj 0)) (aT aJ (ai (aj 1) af))) (aQ 2) [.v a,.v (encC cs),.no]=.nx [.v a,.v (encC cs),.v (.int t)]:=by refine ew ?_ rfl;simp[fk,vd,aT,ai,af,aj,List.getElem?_cons_succ,List.getElem?_cons_zero,R.aq,g,j,R.aF,Dq];rw[show(m:Int)-cs.length=t by lia]
 refine(bB o).trans ?_;have c:bw _ (ai (ag 1) _) [.v a,.v _,.v (.int t)]=.ok _:=PJ rfl e;have i:wx [.int b,.int (n-t+1)]=some (iL (pW n b t)):=by unfold wx;simp only;rw[fi (by lia)];unfold pW Rg iL;rw[cM,show((n:Int)-t+1-b).toNat=n-b-t+1 by lia];rfl
 unfold ft xQ;simp[ai];rw[c];simp only[fk,vd,aT,ai,af,aj,mC,List.getElem?_cons_succ,List.getElem?_cons_zero,R.aq,f,h,R.aF,Dq,wo,i];rfl
def mn:List Int->Int |[]=>0 |a::l=>jQ l a
def mx:List Int->Int |[]=>0 |a::l=>dM l a
theorem zxr(h:l≠[]):uw jQ [iL l]=some (.int (mn l)):=by cases l with |nil=>simp_all |cons a l=>show(dE _).map _=_;rw[r6];rfl
theorem zyw(h:l≠[]):uw dM [iL l]=some (.int (mx l)):=by cases l with |nil=>simp_all |cons a l=>show(dE _).map _=_;rw[r6];rfl
def vH(n:Nat)(d:Int->Int->Int)(S:List Int):Int:=mx ((bz n).map fun a=>mn (S.map (d a)))
theorem zrX{n:Nat}{a:Int}(i:S≠[])(j:S.length<=1000)(c:∀v∈S,0<=v/\v<(n:Int))(h:0<=a)(g:a<n):HR [bP (bq n d),.int a,iL S]=.ok (.int (mn (S.map (d a)))):=by
 have t:=Eb (d:=d) h g;have k:OE [.v (bP (bq n d)),.v (.int a),.v (iL S)]=.ok (iL (S.map (d a))):=by unfold iL;rw[cM];refine lh rfl (by grind) ?_;have s:c3 [.v (bP (bq n d)),.v (.int a),.v (.lst (S.map .int))] [0,1] 1=[.v _,.v _,.no]:=rfl;rw[s];refine qG _ _ _ fun x e=>?_;have r:=vF (f:=d a) (c x e).1 (c x e).2;simp[jE,dC,aj,t,r]
 refine gO ?_;show aH _ [.v _,.v _,.v _]=_;have b:=zxr (l:=S.map (d a)) (by simp_all);simp only[aH,aT,ai,af,k,R.aq,b];rfl
theorem zu4{n:Nat}(u:0<n)(w:n<=100)(q:S≠[])(r:S.length<=1000)(h:∀v∈S,0<=v/\v<(n:Int)):DU [bP (bq n d),iL S]=.ok (.int (vH n d S)):=by
 have i:aJ [bP (bq n d)]=some _:=zM;have t:=jS (show n<=1000 by lia);have o:=fun a g f=>zrX (d:=d) (a:=a) q r h g f;obtain⟨T,j⟩:=xz (bP (bq n d));rw[<-j] at i⊢;simp[<-j] at o;have k:OG [.v T,.v (iL S)]=.ok (iL ((bz n).map fun a=>mn (S.map (d a)))):=by unfold iL;rw[cM];refine lh (l:=(bz n).map .int) (by simp[bS,ai,af,aT,aj,i,t]) (by rw[aN,fN];lia) ?_;have s:c3 [.v T,.v (.lst (S.map .int))] [0,1] 1=[.v T,.v _,.no]:=rfl;rw[s];refine qG _ _ _ fun a p=>?_;obtain⟨g,f⟩:=bM.mp p;have c:=zvk (a:=ag 0) (b:=ag 2) (c:=ag 1) (δ:=[.v T,.v (.lst _),.v _]) rfl rfl rfl (o a g f);have b:dC 2 (.int a) [.v T,.v (.lst (S.map .int)),.no]=some [.v T,.v _,.v _]:=rfl;simp only[jE,b,c,R.bA];rfl
 refine gO ?_;show aH _ [.v T,.v _]=_;have b:=zyw (l:=(bz n).map fun a=>mn (S.map (d a))) (fun e=>by have:=c7 List.length e;rw[aN,fN] at this;simp_all);simp[aH,aT,ai,af,k,R.aq,b];rfl
def sm(n b t:Nat)(cs:List Int):List Int:=cs++(if t=0 then[] else Rg b (n-b))
theorem zzb{b t m:Nat}(r:bl cs=b)(q:b<=n)(C:m=cs.length+t)(h:0<n)(u:n<=100)(E:cs.length<=100)(k:sm n b t cs≠[])(f:∀v∈sm n b t cs,0<=v/\v<(n:Int)):BZ [ua (bP (bq n d)) m,encC cs]=.ok (.int (vH n d (sm n b t cs))):=by
  have B:aJ [bP (bq n d)]=some (.int n):=zM;have j:=PN (bP (bq n d)) m;have i:=PQ (bP (bq n d)) m;have p:=PV cs;rw[r] at p;have l:=IC cs;obtain⟨S,g⟩:=xz (sm n b t cs);have Sl:S.length<=1000:=by
    rw[g];unfold sm;rw[gX];split;.grind
    .rw[yq];lia
  rw[<-g] at k f⊢;have A:=zu4 (d:=d) h u k Sl f;obtain⟨a,y⟩:=xz (ua (bP (bq n d)) m);rw[<-y] at j i⊢;refine gO ?_;have s:az (aT ni (ai (aj 1) af)) (cZ 2) [.v a,.v (encC cs),.no]=.nx [.v a,.v (encC cs),.o (iL cs)]:=ew (d:=iL cs) (by rfl) rfl;have w:bj (bf (m2 oLt (aT aJ (ai (aj 1) af)) (m1 (bp se "many") (aj 0)))) (BE 2 (xQ (ai (bw ya (ai (ag 1) af)) (ai (aT aJ (ai (m1 (bp r_ "lengths") (aj 0)) af)) af)))) dq [.v a,.v (encC cs),.o (iL cs)]=.nx [.v a,.v (encC cs),.o (iL S)]:=by
    by_cases z:t=0;.rw[kH (by simp[bf,aT,ai,af,aj,l,i];lia),g];unfold sm;rw[ao z,dN];rfl
    . rw[tG (by simp[bf,aT,ai,af,aj,l,i];lia)];have x:wx [.int b,.int n]=some (iL (Rg b (n-b))):=by unfold wx;simp;rw[fi (by lia)];unfold Rg iL;simp
      have c:bw ya (ai (ag 1) _) [.v a,.v _,.o (iL cs)]=.ok _:=PJ rfl p;have e:xQ (ai (bw ya (ai (ag 1) af)) (ai (aT aJ (ai (m1 (bp r_ "lengths") (aj 0)) af)) af)) [.v a,.v (encC cs),.o (iL cs)]=.ok (iL (Rg b (n-b))):=by unfold xQ;simp[ai];rw[c];simp[vd,aT,ai,af,aj,List.getElem?_cons_zero,R.aq,j,B,R.aF,x]
      unfold BE;rw[e];show(if(cs.map _).length+((Rg b _).map D.int).length<=sizeLine then O.nx [.v _,.v _,.o _] else O.no)=_;rw[ao (by rw[aN,aN,yq];exact bI (show cs.length+(n-b)<=1000 by lia) (by decide)),<-gZ,g];unfold sm;rw[ak z];rfl
  refine(bB s).trans ((bB w).trans ?_);have c:Dl DU (ai (m1 (bp r_ "lengths") (aj 0)) (ai (aj 2) af)) [.v a,.v (encC cs),.o (iL S)]=.ok (.int (vH n d S)):=by simp[Dl,ai,af,aj,j,A,nZ]
  unfold aH;simp_all
abbrev gU:=Option (List Int×Int)
structure Qs where
 st:Nat
 low:List Int->Int
 wy:List Int->List Int
def uF(q:Qs)(b:gU)(c:List Int):Bool:=match b with|some (_,k)=>decide (k<=q.low c)|none=>false
def jb(q:Qs)(b:gU)(c:List Int):Bool:=uF q b c||decide (c.length=q.st)
def nb(q:Qs)(b:gU)(c:List Int):gU:=if uF q b c=true then b else if c.length=q.st then some (c,q.low c) else b
def nk(q:Qs)(b:gU)(c:List Int):List (List Int):=if jb q b c=true then[] else(q.wy c).map fun w=>c++[w]
def jZ(q:Qs)(b:gU)(c:List Int):List (List Int):=if jb q b c=true then[c] else[]
structure Rn where
 b:gU
 cl:List (List Int)vs:List (List Int)
def run(q:Qs):Nat->gU->List (List Int)->Option Rn |_,b,[]=>some ⟨b,[],[]⟩ |0,_,_::_=>none |n+1,b,c::W=>(run q n (nb q b c) (nk q b c++W)).map fun r=>⟨r.b,jZ q b c++r.cl,c::r.vs⟩
theorem wK(h:run q n b (c::W)=some r):∃m a,n=m+1/\run q m (nb q b c) (nk q b c++W)=some a/\r=⟨a.b,jZ q b c++a.cl,c::a.vs⟩:=by cases n with |zero=>cases h |succ m=> unfold run at h;cases z:run q m (nb q b c) (nk q b c++W) with |none=>simp_all |some a=>simp_all
theorem ID:∀{n:Nat}{b:gU}{W:List (List Int)}{r:Rn},run q n b W=some r->r.vs.length<=n:=by intro n;induction n using Nat.strongRecOn;rename_i n I;intro b W r h;cases W with |nil=>clear I;unfold run at h;grind |cons c W=> obtain⟨m,e,rfl,d,rfl⟩:=wK h;have:=I _ (Nat.lt.base _) d;clear I;simp_all
structure wL(q:Qs)(Ok:List Int->Prop)(S:Nat->Nat):Prop where
 more:∀c,Ok c->c.length<q.st->1+(q.wy c).length*S (c.length+1)<=S c.length
 one:∀k,1<=S k
 all:S 0<=2000
def jv(S:Nat->Nat)(W:List (List Int)):Nat:=(W.map fun c=>S c.length).sum
theorem IE(S:Nat->Nat)(c:List Int):∀l:List Int,jv S (l.map fun w=>c++[w])=l.length*S (c.length+1) |[]=>by simp[jv] |w::l=>by have b:=IE S c l;unfold jv at b⊢;grind
theorem PX(S:Nat->Nat)(a b:List (List Int)):jv S (a++b)=jv S a+jv S b:=by simp[jv]
structure Walk(q:Qs)(Ok:List Int->Prop):Prop where
 nil:Ok []len:∀c,Ok c->c.length<=q.st
 step:∀c,Ok c->c.length<q.st->∀w∈q.wy c,Ok (c++[w])wn:∀c,Ok c->c.length<q.st->q.wy c≠[]
theorem Walk.kids(h:Walk q Ok)(g:∀x∈c::W,Ok x):∀x∈nk q b c++W,Ok x:=fun x i=>by
  have a:=g c (by simp);rcases cO.mp i with z|z
  . unfold nk at z;split at z;.cases z
    .rename_i d;obtain⟨w,f,rfl⟩:=hI.mp z;have j:=h.len c a;have k:c.length≠q.st:=fun e=>d (by unfold jb;simp[e]);exact h.step c a (by lia) w f
  simp_all
theorem PY(h:Walk q Ok)(d:wL q Ok S):∀(n:Nat)(b:gU)(W:List (List Int)),(∀c∈W,Ok c)->jv S W<=n->∃r,run q n b W=some r:=by intro n;induction n using Nat.strongRecOn;rename_i n I;intro b W f p;cases W with |nil=>exact⟨_,by unfold run;rfl⟩ |cons c W=>
  have k:=f c (by simp);have t:=h.len c k;have m:1+jv S (nk q b c)<=S c.length:=by
   unfold nk;split;.have:=d.one c.length;simpa[jv] using this
   .rename_i o;have s:c.length≠q.st:=fun e=>o (by unfold jb;simp[e]);rw[IE];exact d.more c k (by lia)
  have e:jv S (c::W)=S c.length+jv S W:=by simp[jv]
  cases n with |zero=>lia |succ n=> obtain⟨r,l⟩:=I _ (Nat.lt.base _) (nb q b c) (nk q b c++W) (h.kids f) (by rw[PX];lia);exact⟨_,by unfold run;rw[l];rfl⟩
theorem PZ:∀{n:Nat}{b:gU}{W:List (List Int)}{r:Rn},run q n b W=some r->b≠none->r.b≠none:=by intro n;induction n using Nat.strongRecOn;rename_i n I;intro b W r h d;cases W with |nil=>clear I;unfold run at h;grind |cons c W=>
  obtain⟨m,e,rfl,f,rfl⟩:=wK h;show e.b≠none;refine I _ (Nat.lt.base _) f ?_;clear I;unfold nb;split;.exact d
  .grind
theorem P0(h:Walk q Ok):∀{n:Nat}{b:gU}{W:List (List Int)}{r:Rn},run q n b W=some r->(∀c∈W,Ok c)->(∀c∈r.cl,Ok c)/\(b=none->W≠[]->r.b≠none/\r.cl≠[])/\((∀c0 k0,b=some (c0,k0)->Ok c0)->∀c0 k0,r.b=some (c0,k0)->Ok c0):=by intro n;induction n using Nat.strongRecOn;rename_i n I;intro b W r d l;cases W with |nil=>clear I;unfold run at d;cases d;simp |cons c W=>
    obtain⟨m,t,rfl,g,rfl⟩:=wK d;have j:=l c (by simp);obtain⟨w,i2,v⟩:=I _ (Nat.lt.base _) g (h.kids l);clear I;refine⟨fun x s=>?_,fun f _=>?_,fun f=>v ?_⟩
    . rcases cO.mp s with z|z;.unfold jZ at z;simp_all
      simp_all
    . subst f;by_cases e:c.length=q.st
      . have k:jb q none c=true:=by unfold jb;simp[e]
        have i:nb q none c=some (c,q.low c):=by unfold nb;rw[ak (by simp[uF]),ao e]
        refine⟨show t.b≠none from PZ g (by simp_all),?_⟩;unfold jZ;grind
      . have k:¬jb q none c=true:=by unfold jb;simp[uF,e]
        have i:nb q none c=none:=by unfold nb;rw[ak (by simp[uF]),ak e]
        have o:nk q none c++W≠[]:=by unfold nk;rw[ak k];have:=h.wn c j (by have:=h.len c j;lia);simp_all
        obtain⟨u,p⟩:=i2 i o;refine⟨u,fun z=>?_⟩;exact p (List.append_eq_nil_iff.mp z).2
    . intro c0 k0 e;unfold nb at e;split at e;.exact f c0 k0 e
      . split at e;.grind
        .grind
def d_:gU->D |none=>.non |some (c,_)=>encC c
def dF:gU->D |none=>.non |some (_,k)=>.int k
abbrev uG(nm:Str)(a f2 b d f0 e c:List D->R D)(i:Nat)(ma:En->R (List D)):En->R D:=br i 8 (b3 8 nm a (ag i) ma) (br i 9 (b3 9 nm f2 (ag i) ma) (br i 7 (b3 7 nm b (ag i) ma) (br i 12 (b3 12 nm d (ag i) ma) (br i 6 (b3 6 nm f0 (ag i) ma) (br i 11 (b3 11 nm e (ag i) ma) (b3 10 nm c (ag i) ma))))))
noncomputable abbrev Ca(i:Nat)(ma:En->R D):En->R D:=uG "low" BV BX BY BZ DV B2 B3 i (ai ma af)
noncomputable abbrev IF(i:Nat)(ma:En->R D):En->R D:=uG "ways" zB zC zE zF B4 zG zH i (ai ma af)
noncomputable abbrev zP(i:Nat):En->R D:=uG "steps" yb yc yd ye zz yf yg i af
structure oJ(q:D)(Q:Qs)(Ok:List Int->Prop):Prop extends Walk Q Ok where pT:Q.st<=6wl:∀c,Ok c->c.length<Q.st->(Q.wy c).length<=10low:∀(c:List Int)(i:Nat)(ma:En->R D)(δ:En),Ok c->δ[i]?=some (.v q)->ma δ=.ok (encC c)->Ca i ma δ=.ok (.int (Q.low c))steps:∀(i:Nat)(δ:En),δ[i]?=some (.v q)->zP i δ=.ok (.int Q.st)yr:∀(c:List Int)(i:Nat)(ma:En->R D)(δ:En),Ok c->c.length<Q.st->δ[i]?=some (.v q)->ma δ=.ok (encC c)->IF i ma δ=.ok (iL (Q.wy c))
theorem zzy(h:oJ q Q Ok)(b:gU)(a:Ok c):(nk Q b c).length<=10:=by
 unfold nk;split;.simp
 .rename_i d;have f:=h.len c a;have g:c.length≠Q.st:=fun e=>d (by unfold jb;simp[e]);rw[aN];exact h.wl c a (by omega)
theorem yt(h:cs.length+ws.length<=1000):qI (encC cs) (encC ws)=some (encC (cs++ws)):=by show cN _ _ _=_;rw[fi (by simp[aN];exact small (by lia)),<-gZ];rfl
theorem zx7(b:IF 0 (ag 1) [.v q,.v (encC c)]=.ok (iL ws))(d:c.length<=100)(e:ws.length<=100):wD [q,encC c]=.ok (.lst ((ws.map fun w=>c++[w]).reverse.map encC)):=by
 refine oa ?_;show ft _ [.v q,.v _]=_;have k:OL [.v q,.v (encC c)]=.ok (.lst ((ws.map fun w=>c++[w]).reverse.map encC)):=by
  refine gW (lh (l:=ws.reverse.map .int) (r:=ws.reverse.map fun w=>encC (c++[w])) ?_ (by rw[aN,ka];lia) ?_) ?_;.simp[rj,ai,b];show R.of (some (ws.map _).reverse)=_;simp
  .refine qG .int _ _ fun w _=>?_;have a:qI (encC c) (.tup [.int w])=some _:=yt (ws:=[w]) (by grind);simp[jE,c3,nY,dC,aj,cf,ai,af,ag,sizeLine,a]
  simp
 simp[ft,k]
theorem oJ.gone(h:oJ q Q Ok)(c:List Int)(b:Ok c)(a:c.length<Q.st):wD [q,encC c]=.ok (.lst (((Q.wy c).map fun w=>c++[w]).reverse.map encC)):=by have f:=h.pT;have w:=h.wl c b a;exact zx7 (h.yr c 0 _ _ b a rfl rfl) (by lia) (by lia)
def dS(q:D)(M:Int)(b:gU)(cl:List (List Int))(k:Nat)(W:List (List Int))(s7 s8:Sl):En:=[.v q,.v (.int M),.v (d_ b),.v (dF b),.o (.lst (cl.map encC)),.v (.int k),.o (.lst (W.reverse.map encC)),s7,s8]
theorem zyz(h:oJ q Q Ok){k:Nat}{o7 o8:Option D}(a:Ok c)(hM:(k:Int)+1<=M)(G:cl.length<=100000)(L:W.length<=100000): DZ (dS q M b cl k (c::W) (sv o7) (sv o8))=.nx (dS q M (nb Q b c) (cl++jZ Q b c) (k+1) (nk Q b c++W) (.v (encC c)) (.v (.int (Q.low c)))):=by
  have cast:((k+1:Nat):Int)=(k:Int)+1:=by lia
  have J:vj (fun i j=>i+j) 5 (mC (.int 1)) (dS q M b cl k (c::W) (sv o7) (sv o8))=.nx [.v q,.v (.int M),.v (d_ b),.v (dF b),.o (.lst (cl.map encC)),.v (.int (k+1)),.o (.lst ((c::W).reverse.map encC)),sv o7,sv o8]:=rfl;have t:bj (bf (m2 qY (aj 5) (aj 1))) (xM 3 (ai (mC (.str "more cases than may be looked at")) af)) dq [.v q,.v (.int M),.v (d_ b),.v (dF b),.o (.lst (cl.map encC)),.v (.int (k+1)),.o (.lst ((c::W).reverse.map encC)),sv o7,sv o8]=.nx [.v q,.v (.int M),.v (d_ b),.v (dF b),.o (.lst (cl.map encC)),.v (.int (k+1)),.o (.lst ((c::W).reverse.map encC)),sv o7,sv o8]:=by
    rw[kH];.rfl
    . have:¬M<(k:Int)+1:=by lia
      simp[bf,aj,this]
  have u:wt 6 (aQ 7) [.v q,.v (.int M),.v (d_ b),.v (dF b),.o (.lst (cl.map encC)),.v (.int (k+1)),.o (.lst ((c::W).reverse.map encC)),sv o7,sv o8]=.nx [.v q,.v (.int M),.v (d_ b),.v (dF b),.o (.lst (cl.map encC)),.v (.int (k+1)),.o (.lst (W.reverse.map encC)),.v (encC c),sv o8]:=by
    have e:(c::W).reverse.map encC=W.reverse.map encC++[encC c]:=by simp
    rw[e];unfold wt;dsimp only[List.getElem?_cons_succ,List.getElem?_cons_zero];rw[show(W.reverse.map encC++[encC c])[(W.reverse.map encC++[encC c]).length-1]?=some (encC c) by simp,List.dropLast_concat];dsimp only;rcases o7 with _|o7<;>rfl
  have I:az (Ca 0 (ag 7)) (aQ 8) [.v q,.v (.int M),.v (d_ b),.v (dF b),.o (.lst (cl.map encC)),.v (.int (k+1)),.o (.lst (W.reverse.map encC)),.v (encC c),sv o8]=.nx [.v q,.v (.int M),.v (d_ b),.v (dF b),.o (.lst (cl.map encC)),.v (.int (k+1)),.o (.lst (W.reverse.map encC)),.v (encC c),.v (.int (Q.low c))]:=ew (h.low c 0 (ag 7) _ a rfl rfl) (kG rfl);have p:k_ (bf (m2 F7 (aj 3) (mC .non))) (bf (m2 y9 (aj 8) (aj 3))) [.v q,.v (.int M),.v (d_ b),.v (dF b),.o (.lst (cl.map encC)),.v (.int (k+1)),.o (.lst (W.reverse.map encC)),.v (encC c),.v (.int (Q.low c))]=.ok (uF Q b c):=by cases b with |none=> rfl |some x=> rfl
  have m:qD 4 (ag 7) [.v q,.v (.int M),.v (d_ b),.v (dF b),.o (.lst (cl.map encC)),.v (.int (k+1)),.o (.lst (W.reverse.map encC)),.v (encC c),.v (.int (Q.low c))]=.nx [.v q,.v (.int M),.v (d_ b),.v (dF b),.o (.lst ((cl++[c]).map encC)),.v (.int (k+1)),.o (.lst (W.reverse.map encC)),.v (encC c),.v (.int (Q.low c))]:=by have:=B6 (i:=4) (me:=ag 7) (δ:=[.v q,.v (.int M),.v (d_ b),.v (dF b),.o (.lst (cl.map encC)),.v (.int (k+1)),.o (.lst (W.reverse.map encC)),.v (encC c),.v (.int (Q.low c))]) (l:=cl.map encC) (d:=encC c) rfl rfl (by simp_all);simp_all
  unfold DZ;refine(bB J).trans ((bB t).trans ((bB u).trans ((bB I).trans ?_)));by_cases z:uF Q b c=true
  . rw[tG (p.trans (by rw[z])),m];have e:jb Q b c=true:=by unfold jb;simp_all
    unfold dS nb jZ nk;rw[ao z,ao e,ao e,cast];rfl
  . have H:uF Q b c=false:=by simp_all
    rw[kH (p.trans (by rw[H]))];have E:aJ [encC c]=some (.int c.length):=by simp[encC]
    have r:bf (m2 oEq (aT aJ (ai (aj 7) af)) (zP 0)) [.v q,.v (.int M),.v (d_ b),.v (dF b),.o (.lst (cl.map encC)),.v (.int (k+1)),.o (.lst (W.reverse.map encC)),.v (encC c),.v (.int (Q.low c))]=.ok (decide (c.length=Q.st)):=by have s:=h.steps 0 [.v q,.v (.int M),.v (d_ b),.v (dF b),.o (.lst (cl.map encC)),.v (.int (k+1)),.o (.lst (W.reverse.map encC)),.v (encC c),.v (.int (Q.low c))] rfl;simp only[bf,fk,aT,ai,af,aj,List.getElem?_cons_succ,List.getElem?_cons_zero,R.aq,E,R.aF,s,xF,uv];congr 1;grind
    by_cases y:c.length=Q.st
    . rw[tG (r.trans (by simp_all))];have e:jb Q b c=true:=by unfold jb;simp_all
      refine(bB m).trans ?_;have C:az (ag 7) (aQ 2) [.v q,.v (.int M),.v (d_ b),.v (dF b),.o (.lst ((cl++[c]).map encC)),.v (.int (k+1)),.o (.lst (W.reverse.map encC)),.v (encC c),.v (.int (Q.low c))]=.nx [.v q,.v (.int M),.v (encC c),.v (dF b),.o (.lst ((cl++[c]).map encC)),.v (.int (k+1)),.o (.lst (W.reverse.map encC)),.v (encC c),.v (.int (Q.low c))]:=rfl;refine(bB C).trans ?_;unfold dS nb jZ nk;rw[ak z,ao y,ao e,ao e,cast];rfl
    . rw[kH (r.trans (by simp_all))];have e:¬jb Q b c=true:=by unfold jb;simp_all
      have B:=h.len c a;have g:=h.gone c a (by lia);have K:=h.wl c a (by lia);have A:x5 6 (bw wD (ai (ag 0) (ai (ag 7) af))) [.v q,.v (.int M),.v (d_ b),.v (dF b),.o (.lst (cl.map encC)),.v (.int (k+1)),.o (.lst (W.reverse.map encC)),.v (encC c),.v (.int (Q.low c))]=.nx [.v q,.v (.int M),.v (d_ b),.v (dF b),.o (.lst (cl.map encC)),.v (.int (k+1)),.o (.lst ((((Q.wy c).map fun w=>c++[w])++W).reverse.map encC)),.v (encC c),.v (.int (Q.low c))]:=by
        unfold x5;dsimp only[List.getElem?_cons_succ,List.getElem?_cons_zero];have f:bw wD (ai (ag 0) (ai (ag 7) af)) [.v q,.v (.int M),.v (d_ b),.v (dF b),.o (.lst (cl.map encC)),.v (.int (k+1)),.o (.lst (W.reverse.map encC)),.v (encC c),.v (.int (Q.low c))]=.ok (.lst (((Q.wy c).map fun w=>c++[w]).reverse.map encC)):=by simp only[bw,ai,af,ag,List.getElem?_cons_succ,List.getElem?_cons_zero,R.aq,g,R.bA]
        rw[f,R.gH];dsimp only;rw[fi (by simp only[aN,ka];rw[dP];lia),List.reverse_append,gZ];rfl
      rw[A];unfold dS nb jZ nk;rw[ak z,ak y,ak e,ak e,cast,dN]
theorem P1(h1:c δ=.ok true)(h2:m δ=.nx a):jX c m (n+1) δ=jX c m n a:=by show(c _).ij _ _=_;simp_all
theorem P2:DY (dS q M b cl k W s7 s8)=.ok (decide (0<W.length)):=by
 have a:aJ [.lst (W.reverse.map encC)]=some (.int W.length):=by simp
 unfold dS DY;simp only[bf,fk,aT,ai,af,aj,mC,Mh];simp
theorem P4(h:oJ q Q Ok):∀(n:Nat)(b:gU)(W cl:List (List Int))(k:Nat)(r:Rn)(o7 o8:Option D),run Q n b W=some r->(∀c∈W,Ok c)->W.length+10*n<=50000->cl.length+n<=50000->(k:Int)+r.vs.length<=M-> ∃f i,jX DY DZ (r.vs.length+1) (dS q M b cl k W (sv o7) (sv o8))=.nx (dS q M r.b (cl++r.cl) (k+r.vs.length) [] (sv f) (sv i)):=by intro n;induction n using Nat.strongRecOn;rename_i n I;intro b W cl k r o7 o8 d o p u hM;cases W with |nil=>clear I;unfold run at d;cases d;refine⟨o7,o8,?_⟩;unfold jX;rw[P2];simp |cons c W=>
  obtain⟨m,g,rfl,s,rfl⟩:=wK d;have l:=o c (by simp);have v:=zzy h b l;have j:(jZ Q b c).length<=1:=by unfold jZ;grind
  simp[gY] at p hM⊢;have t:=zyz h (M:=M) (b:=b) (cl:=cl) (W:=W) (k:=k) (o7:=o7) (o8:=o8) l (by lia) (by lia) (by lia);rw[P1 (by rw[P2];simp) t];obtain⟨f,i,e⟩:=I m (Nat.lt.base _) (nb Q b c) (nk Q b c++W) (cl++jZ Q b c) (k+1) g (some (encC c)) (some (.int (Q.low c))) s (h.kids o) (by grind) (by grind) (by lia);refine⟨f,i,?_⟩;rw[show k+(g.vs.length+1)=k+1+g.vs.length by lia,<-nF];exact e
theorem zry(h:av OM (qX 4 (aH (cf (ai (ag 2) (ai (ag 3) (ai (ag 4) af)))))) (dS q M none [] 0 [[]] .no .no)=o):HW [.v q,.v (.int M),.no,.no,.no,.no,.no,.no,.no]=o:=by have d:az (mC .non) (aQ 2) [.v q,.v (.int M),.no,.no,.no,.no,.no,.no,.no]=.nx _:=rfl;have a:az (mC .non) (aQ 3) [.v q,.v (.int M),.v .non,.no,.no,.no,.no,.no,.no]=.nx _:=rfl;have e:az (bC af) (cZ 4) [.v q,.v (.int M),.v .non,.v .non,.no,.no,.no,.no,.no]=.nx [.v q,.v _,.v _,.v _,.o (.lst []),.no,.no,.no,.no]:=ew (by simp[bC,af]) rfl;have b:az (mC (.int 0)) (aQ 5) [.v q,.v (.int M),.v .non,.v .non,.o (.lst []),.no,.no,.no,.no]=.nx _:=rfl;have c:az (bC (ai (cf af) af)) (cZ 6) [.v q,.v (.int M),.v .non,.v .non,.o (.lst []),.v (.int 0),.no,.no,.no]=.nx [.v q,.v _,.v _,.v _,.o _,.v _,.o (.lst [.tup []]),.no,.no]:=ew (by simp[bC,cf,ai,af,sizeLine]) rfl;exact(bB d).trans ((bB a).trans ((bB e).trans ((bB b).trans ((bB c).trans h))))
def rJ(r:Rn):D:=.tup [d_ r.b,dF r.b,.lst (r.cl.map encC)]
theorem zx3(h:oJ q Q Ok)(f:run Q n none [[]]=some r)(g:n<=2000)(hM:(r.vs.length:Int)<=M):B5 [q,.int M]=.ok (rJ r):=by refine gO (zry ?_);obtain⟨d,b,e⟩:=P4 (M:=M) h n _ _ [] 0 r none none f (fun c a=>by rw[cY.mp a];exact h.nil) (by simp;lia) (by grind) (by lia);have w:=Dp e (fun z=>by cases z);refine(bB w).trans ?_;have z:cf (ai (ag 2) (ai (ag 3) (ai (ag 4) af))) [.v q,.v (.int M),.v _,.v (dF _),.v _,.v (.int (0+r.vs.length:Int)),.o (.lst []),sv d,sv b]=.ok (rJ r):=fi (show 3<=sizeLine by decide);show(cf _ [.v q,.v _,.v _,.v _,.v _,.v _,.o _,sv _,sv _]).ij _ _=_;simp_all
def eF(q:Qs)(c:List Int):List (List Int):=(q.wy c).map fun w=>c++[w]
def kN(g:List Int->List (List Int)->Option (List (List Int))):List (List Int)->List (List Int)->Option (List (List Int)) |[],L=>some L |k::b,L=>(g k L).bind (kN g b)
def iz(q:Qs):Nat->List Int->List (List Int)->Option (List (List Int)) |0,_,_=>none |_+1,_,[]=>none |f+1,c,x::L=>if x=c then some L else if q.st<=c.length\/x.take c.length≠c then none else kN (iz q f) (eF q c) (x::L)
def pull(q:Qs):Nat->List Int->List (List Int)->Option (List (List Int)) |0,_,_=>none |_+1,_,[]=>none |f+1,x,c::W=>if c=x then some W else if c.length=q.st\/x.take c.length≠c then none else pull q f x (eF q c++W)
def pa(q:Qs):List (List Int)->List (List Int)->Bool |[],[]=>true |[],_::_=>false |_::_,[]=>false |x::L,c::W=>match pull q (q.st+1) x (c::W) with|none=>false|some a=>pa q L a
theorem Walk.uH(h:Walk q Ok)(d:Ok c)(a:c.length<q.st)(e:k∈eF q c):Ok k/\k.length=c.length+1:=by obtain⟨w,b,rfl⟩:=hI.mp e;exact⟨h.step c d a w b,by simp⟩
theorem Walk.gR(h:Walk q Ok)(f:Ok c)(b:c.length<q.st):∃k ks,eF q c=k::ks:=by cases e:eF q c with |nil=>exact absurd (List.map_eq_nil_iff.mp e) (h.wn c f b) |cons k ks=>simp
theorem P5(h:Walk q Ok)(x:List Int):∀(m:Nat)(f g:Nat)(c:List Int)(W:List (List Int)),Ok c->q.st-c.length<=m->m+1<=f->m+1<=g->pull q f x (c::W)=pull q g x (c::W)
  |m,0,g,c,W,_,_,o,_=>by lia |m,f,0,c,W,_,_,_,l=>by lia |m,f+1,g+1,c,W,b,p,o,l=>by
    unfold pull;have s:=h.len c b;split;.rfl
    . split;.rfl
      . have d:c.length<q.st:=by lia
        obtain⟨k,r,e⟩:=h.gR b d;obtain⟨n,t⟩:=h.uH b d (show k∈eF q c by simp_all);rw[e];cases m with |zero=>lia |succ m=>exact P5 h x m f g k _ n (by lia) (by lia) (by lia)
theorem P6(h:Walk q Ok)(a:Ok c)(b:c.length<q.st)(g:¬c=x)(d:x.take c.length=c):pa q (x::L) (c::W)=pa q (x::L) (eF q c++W):=by
 obtain⟨k,i,e⟩:=h.gR a b;obtain⟨f,j⟩:=h.uH a b (show k∈eF q c by simp_all);have p:pull q (q.st+1) x (c::W)=pull q (q.st+1) x (eF q c++W):=by
  conv=>lhs;unfold pull
  rw[ak g,ak (fun z=>z.elim (fun z=>by lia) fun z=>z d),e];exact P5 h x (q.st-k.length) _ _ k _ f (by lia) (by lia) (by lia)
 rw[e] at p⊢;show(match pull q _ x _ with|none=>false|some _=>pa q L _)=(match pull q _ x _ with|none=>false|some _=>pa q L _);simp_all
def zQ(q:Qs)(o:Option (List (List Int)))(W:List (List Int)):Bool:=match o with|none=>false|some L=>pa q L W
theorem P7(W:List (List Int)):∀(ks:List (List Int)),(∀k∈ks,∀L W,pa q L (k::W)=zQ q (g k L) W)->∀L,pa q L (ks++W)=zQ q (kN g ks L) W |[],_,L=>rfl |k::ks,b,L=>by show pa q L (k::(ks++W))=zQ q ((g k L).bind _) W;rw[b k (by simp)];cases g k L with |none=>rfl |some e=>exact P7 W _ (fun d c=>b _ (by simp_all)) _
theorem P8(h:Walk q Ok):∀(m f:Nat)(c:List Int),Ok c->q.st-c.length<=m->m+1<=f->∀L W,pa q L (c::W)=zQ q (iz q f c L) W
  |m,0,c,_,_,l,L,W=>by lia |m,f+1,c,d,o,l,[],W=>rfl |m,f+1,c,d,o,l,x::L,W=>by
    have u:=h.len c d;unfold iz;by_cases g:x=c;.rw[ao g];show(match pull q _ x _ with|none=>false|some _=>pa q L _)=pa q L W;unfold pull;simp_all
    . rw[ak g];have a:¬c=x:=fun z=>g z.symm;by_cases e:q.st<=c.length\/x.take c.length≠c;.rw[ao e];show(match pull q _ x _ with|none=>false|some _=>pa q L _)=false;unfold pull;rw[ak a,ao (e.imp (fun z=>by lia) id)]
      . rw[ak e];have n:c.length<q.st:=by lia
        have p:x.take c.length=c:=by simp_all
        rw[P6 h d n a p];refine P7 W _ (fun k s L W=>?_) _;obtain⟨r,t⟩:=h.uH d n s;cases m with |zero=>lia |succ m=>exact P8 h m f k r (by lia) (by lia) L W
def yu(Ok:List Int->Prop)(L:List (List Int))(o:Option (List (List Int))):Prop:=∀b,o=some b->∃a,L=a++b/\∀x∈a,Ok x
theorem P9:∀(ks:List (List Int)),(∀k∈ks,∀L,yu Ok L (g k L))->∀L,yu Ok L (kN g ks L) |[],_,L=>fun i e=>by cases e;simp |k::ks,b,L=>fun i e=>by have e:(g k L).bind _=some _:=e;cases z:g k L with |none=>rw[z] at e;cases e |some o=> rw[z] at e;obtain⟨j,l,d⟩:=b k (by simp) L _ z;obtain⟨n,m,h⟩:=P9 _ (fun p f=>b _ (by simp_all)) _ _ e;exact⟨_,by simp_all,fun x c=>(cO.mp c).elim (d x) (h x)⟩
theorem Cb(h:Walk q Ok):∀(f:Nat)(c:List Int),Ok c->∀L,yu Ok L (iz q f c L)
  |0,c,_,L=>fun a e=>by cases e |f+1,c,b,[]=>fun a e=>by cases e |f+1,c,b,x::L=>fun a e=>by
    unfold iz at e;split at e;.cases e;exact⟨[x],rfl,fun y j=>by simp_all⟩
    . split at e;.cases e
      . have i:c.length<q.st:=by lia
        exact P9 _ (fun k g L=>Cb h f k (h.uH b i g).1 L) _ _ e
theorem IG(h:Walk q Ok):∀{n:Nat}{b:gU}{c:List Int}{W:List (List Int)}{r:Rn},run q n b (c::W)=some r->(∀x∈c::W,Ok x)->∃x L,r.cl=x::L/\c<+:x:=by
    intro n;induction n using Nat.strongRecOn;rename_i n I;intro b c W r p g
    obtain⟨m,A,rfl,d,rfl⟩:=wK p;have i:=g c (by simp);by_cases e:jb q b c=true;.unfold jZ;simp_all
    . have t:c.length<q.st:=by have v:=h.len c i;have:c.length≠q.st:=fun z=>e (by unfold jb;simp[z]);lia
      have f:=h.kids (b:=b) g;have l:nk q b c=eF q c:=by unfold nk;rw[ak e];rfl
      rw[l] at d f;obtain⟨k,y,o⟩:=h.gR i t;have kc:c<+:k:=by
        have:k∈eF q c:=by simp_all
        obtain⟨w,_,rfl⟩:=hI.mp this;simp
      rw[o] at d f;obtain⟨x,L,u,s⟩:=I _ (Nat.lt.base _) d f;clear I;refine⟨x,L,?_,kc.trans s⟩;unfold jZ;simp_all
theorem P_(h:Walk q Ok):∀{n:Nat}{b:gU}{W:List (List Int)}{r:Rn},run q n b W=some r->(∀x∈W,Ok x)->pa q r.cl W=true:=by intro n;induction n using Nat.strongRecOn;rename_i n I;intro b W r a o;cases W with |nil=>clear I;unfold run at a;cases a;rfl |cons c W=>
    have p:=IG h a o;obtain⟨m,i,rfl,d,rfl⟩:=wK a;have l:=o c (by simp);have j:=h.kids (b:=b) o;have g:=I _ (Nat.lt.base _) d j;clear I;by_cases e:jb q b c=true
    . have u:jZ q b c=[c]:=by unfold jZ;simp_all
      have s:nk q b c=[]:=by unfold nk;rw[ao e]
      show pa q (jZ q b c++i.cl) (c::W)=true;rw[u];rw[s] at g;show(match pull q (q.st+1) c (c::W) with|none=>false|some E=>pa q i.cl _)=true;unfold pull;simp_all
    . have t:c.length<q.st:=by have J:=h.len c l;have:c.length≠q.st:=fun z=>e (by unfold jb;simp[z]);omega
      have u:jZ q b c=[]:=by unfold jZ;rw[ak e]
      have s:nk q b c=eF q c:=by unfold nk;rw[ak e];rfl
      obtain⟨k,G,C⟩:=h.gR l t;obtain⟨I,H⟩:=h.uH l t (show k∈eF q c by simp_all);rw[s] at g d j;have B:∃x L,i.cl=x::L/\k<+:x:=by rw[C] at d j;exact IG h d j
      obtain⟨x,L,v,y⟩:=B;show pa q (jZ q b c++i.cl) (c::W)=true;rw[u,List.nil_append,v];rw[v] at g;have w:=y.length_le;have A:c<+:x:=by (first|rfl|omega|simp|simp_all|grind)
      rw[P6 h l t (fun z=>by rw[<-z] at w;lia) (List.prefix_iff_eq_take.mp A).symm];exact g
theorem IH:∀{n:Nat}{b:gU}{W:List (List Int)}{r:Rn},run q n b W=some r->r.cl.length<=r.vs.length:=by intro n;induction n using Nat.strongRecOn;rename_i n I;intro b W r h;cases W with |nil=>clear I;unfold run at h;grind |cons c W=>
  obtain⟨m,f,rfl,d,rfl⟩:=wK h;have:=I _ (Nat.lt.base _) d;clear I;have e:(jZ q b c).length<=1:=by unfold jZ;grind
  grind
def Cc:D->Int |.int i=>i |_=>0
theorem Qa:encC a=encC b↔a=b:=by
  constructor
  . intro h;have h:D.tup _=.tup _:=h;have c:a.map D.int=b.map D.int:=by simp_all
    have d:=c7 (List.map Cc) c;rwa[cM,cM,show Cc∘D.int=id from rfl,List.map_id,List.map_id] at d
  simp_all
theorem yx(c:List Int)(k:Nat):ja (k+2) (encC c)=true:=by show(c.map _).all _=true;rw[qf,lG];intro x _;rfl
theorem Qb(l:List (List Int)):ja 8 (.lst (l.map encC))=true:=by show(l.map _).all _=true;rw[qf,lG];intro x _;exact yx x 5
theorem eqC(a b:List Int):mT (encC a) (encC b)=some (.bl (decide (a=b))):=by unfold mT;rw[fi ⟨yx a 6,yx b 6⟩];congr 2;rw[l_];exact Qa
theorem Qd(a b:List Int):jO (encC a) (encC b)=some (.bl (!decide (a=b))):=by unfold jO;rw[fi ⟨yx a 6,yx b 6⟩];congr 3;rw[l_];exact Qa
theorem vI(c:List Int):aJ [encC c]=some (.int c.length):=by simp[encC]
theorem II(x:List Int)(n:Nat):cutD (x.map D.int) none (some (n:Int))=(x.take n).map .int:=by show(List.drop 0 _).take (min n _-0)=_;simp
theorem slC{n:Nat}(h:m δ=.ok (encC x))(b:mh δ=.ok (some (n:Int))):lj m cC mh δ=.ok (encC (x.take n)):=by have a:Bb (encC x)=some _:=rfl;simp only[lj,h,b,R.aq,cC,a,R.aF,II];rfl
theorem zvn(W:List (List Int))(c:List Int):aO (.lst ((c::W).reverse.map encC)) (.int (-1))=some (encC c):=by
 have e:(c::W).reverse.map encC=W.reverse.map encC++[encC c]:=by simp
 rw[e];exact O6
def fE(q C:D)(W:List (List Int))(b a:Sl):En:=[.v q,.v C,.o (.lst (W.reverse.map encC)),b,a]
theorem IJ:zI (fE q C (c::W) (.v (encC x)) a)=.ok (!decide (c=x)):=by have i:=zvn W c;unfold zI fE;simp only[bf,fk,vd,aj,mC,List.getElem?_cons_succ,List.getElem?_cons_zero,R.aq,za,R.aF,i,Qd,uv]
theorem zs2(h:oJ q Q Ok)(a:Ok c)(p:W.length<=2000): D1 (fE q C (c::W) (.v (encC x)) (sv o4))=if c.length=Q.st\/x.take c.length≠c then .rt (.bl false) else .nx (fE q C (eF Q c++W) (.v (encC x)) (.v (encC c))):=by
  have j:wt 2 (aQ 4) (fE q C (c::W) (.v (encC x)) (sv o4))=.nx (fE q C W (.v (encC x)) (.v (encC c))):=by
    have e:(c::W).reverse.map encC=W.reverse.map encC++[encC c]:=by simp
    unfold fE;rw[e];unfold wt;dsimp only[List.getElem?_cons_succ,List.getElem?_cons_zero];rw[show(W.reverse.map _++[encC c])[(W.reverse.map encC++[encC c]).length-1]?=some (encC c) by simp,List.dropLast_concat];rcases o4 with _|o4<;>rfl
  refine(bB j).trans ?_;have s:=h.steps 0 (fE q C W (.v (encC x)) (.v (encC c))) rfl;have n:bf (m2 oEq (aT aJ (ai (aj 4) af)) (zP 0)) (fE q C W (.v (encC x)) (.v (encC c)))=.ok (decide (c.length=Q.st)):=by simp[bf,fk,s,aT,ai,af,show aj 4 (fE q C W _ (.v _))=.ok _ from rfl,R.aq,vI,R.aF,xF,uv];congr 1;grind
  have k:dV (aT aJ (ai (aj 4) af)) (fE q C W (.v (encC x)) (.v (encC c)))=.ok (some c.length):=by simp[dV,aT,ai,af,show aj 4 (fE q C W _ (.v _))=.ok _ from rfl,R.aq,vI,R.aF,xG]
  have i:bf (m2 jO (lj (aj 3) cC (dV (aT aJ (ai (aj 4) af)))) (aj 4)) (fE q C W (.v (encC x)) (.v (encC c)))=.ok (!decide (x.take c.length=c)):=by have o:=slC (m:=aj 3) rfl k;simp only[bf,fk,o,show aj 4 (fE q C W _ (.v (encC c)))=.ok (encC c) from rfl,R.aq,Qd,R.aF,uv]
  have f:oC (bf (m2 oEq (aT aJ (ai (aj 4) af)) (zP 0))) (bf (m2 jO (lj (aj 3) cC (dV (aT aJ (ai (aj 4) af)))) (aj 4))) (fE q C W (.v (encC x)) (.v (encC c)))=.ok (decide (c.length=Q.st\/x.take c.length≠c)):=by simp only[oC,n,i];by_cases l:c.length=Q.st<;>by_cases r:x.take c.length=c<;>simp[l]
  by_cases e:c.length=Q.st\/x.take c.length≠c;.rw[ao e];exact wG ((tG (f.trans (by simp_all))).trans rfl)
  . rw[ak e];refine(bB ((kH (f.trans (by simp_all))).trans rfl)).trans ?_;have d:c.length<Q.st:=by have:=h.len c a;lia
    have g:=h.gone c a d;have t:=h.wl c a d;unfold x5;rw[show(fE q C W _ _)[2]?=some _ from rfl];dsimp;have b:bw wD (ai (ag 0) (ai (ag 4) af)) (fE q C W (.v (encC x)) (.v (encC c)))=.ok (.lst (((Q.wy c).map fun w=>c++[w]).reverse.map encC)):=by simp[bw,ai,af,show ag 0 (fE q C W _ _)=.ok q from rfl,show ag 4 (fE q C W _ (.v _))=.ok _ from rfl,R.aq,g,R.bA]
    rw[b,R.gH];dsimp;rw[fi (by simp only[aN,ka];rw[dP];lia)];unfold fE eF;simp
theorem Qe(h:oJ q Q Ok)(r:wL Q Ok S):∀(f:Nat)(c:List Int)(W:List (List Int))(o4:Option D),(∀y∈c::W,Ok y)->jv S (c::W)<=2000->Q.st-c.length+1<=f-> (pull Q f x (c::W)=none/\jX zI D1 f (fE q C (c::W) (.v (encC x)) (sv o4))=.rt (.bl false))\/(∃W' u,pull Q f x (c::W)=some W'/\jX zI D1 f (fE q C (c::W) (.v (encC x)) (sv o4))=.nx (fE q C (x::W') (.v (encC x)) (sv u))/\(∀y∈W',Ok y)/\jv S W'<=2000)
  |0,c,W,o4,_,_,A=>by lia |f+1,c,W,o4,p,H,A=>by
    have g:=p c (by simp);have e:jv S (c::W)=S _+jv S W:=rfl;have J:W.length<=jv S W:=by
      have:∀l,l.length<=jv S l:=fun l=>by induction l with |nil=>simp |cons a l K=> have m:jv S (a::l)=S _+jv S l:=rfl;have:=r.one a.length;grind
      simp_all
    unfold pull;by_cases d:c=x;.rw[ao d];refine .inr ⟨W,o4,rfl,?_,fun y s=>p y (by simp[s]),by lia⟩;unfold jX;rw[IJ,eY d,d];rfl
    . rw[ak d];have n:=zs2 (C:=C) h (x:=x) (W:=W) (o4:=o4) g (by lia);by_cases m:c.length=Q.st\/x.take c.length≠c;.rw[ao m] at n;rw[ao m];refine .inl ⟨rfl,?_⟩;unfold jX;rw[IJ,cV d,n];rfl
      . rw[ak m] at n;rw[ak m];have o:c.length<Q.st:=by have:=h.len c g;lia
        obtain⟨k,L,w⟩:=h.toWalk.gR g o;obtain⟨G,I⟩:=h.toWalk.uH g o (show k∈eF Q c by simp_all);have j:jv S (eF Q c++W)<=2000:=by rw[PX];have:=IE S c (Q.wy c);have:=r.more c g o;unfold eF;lia
        have i:∀y∈eF Q c++W,Ok y:=fun y s=>(cO.mp s).elim (fun z=>(h.toWalk.uH g o z).1) fun z=>p y (by simp[z]);have B:jX zI _ _ _=jX _ _ f (fE q C _ _ (sv (some _))):=P1 (by rw[IJ,cV d];rfl) n;rw[B];rw[w] at j i⊢;exact Qe h r f k _ _ i j (by lia)
theorem Qf(h:oJ q Q Ok)(l:wL Q Ok S):∀(L W:List (List Int))(o3 o4:Option D),(∀y∈W,Ok y)->jv S W<=2000-> (pa Q L W=true/\∃g b,iS (aQ 3) zJ (L.map encC) (fE q C W (sv o3) (sv o4))=.nx (fE q C [] (sv g) (sv b)))\/(pa Q L W=false/\(iS (aQ 3) zJ (L.map encC) (fE q C W (sv o3) (sv o4))=.rt (.bl false)\/∃c W' g b,iS (aQ 3) zJ (L.map encC) (fE q C W (sv o3) (sv o4))=.nx (fE q C (c::W') (sv g) (sv b))))
  |[],[],o3,o4,_,_=>.inl ⟨rfl,o3,o4,rfl⟩ |[],c::W,o3,o4,_,_=>.inr ⟨rfl,.inr ⟨c,W,o3,o4,rfl⟩⟩ |x::L,W,o3,o4,A,r=>by
    have p:aQ 3 (encC x) (fE q C W (sv o3) (sv o4))=some (fE q C W (.v (encC x)) (sv o4)):=kG (o:=o3) rfl;have s:aJ [.lst (W.reverse.map encC)]=some (.int W.length):=by simp
    have n:bf (m2 oEq (aT aJ (ai (aj 2) af)) (mC (.int 0))) (fE q C W (.v (encC x)) (sv o4))=.ok (decide ((W.length:Int)=0)):=by simp[bf,fk,aT,ai,af,mC,show aj 2 (fE q C W (.v (encC x)) (sv o4))=.ok _ from rfl,R.aq,s,R.aF,xF,uv]
    rw[bJ];unfold iS;rw[p];dsimp;cases W with |nil=> refine .inr ⟨rfl,.inl ?_⟩;rfl |cons c W=>
      have k:bj _ (aH (mC (.bl false))) _ _=.nx (fE q C _ (.v (encC x)) (sv o4)):=(kH (n.trans rfl)).trans rfl;rcases Qe (C:=C) h l (x:=x) (Q.st+1) c W o4 A r (by lia) with⟨d,f⟩|⟨W',b,d,f,t,m⟩;.have w:=Dp f (fun z=>by cases z);have i:zJ _=.rt (.bl _):=(bB k).trans (wG w);rw[i];refine .inr ⟨?_,.inl rfl⟩;show(match pull Q (Q.st+1) x (c::W) with|none=>false|some W'=>pa Q L W')=false;rw[d]
      . have w:=Dp f (fun z=>by cases z);have B:BJ 2 (fE q C (x::W') (.v (encC x)) (sv b))=.nx (fE q C W' (.v (encC x)) (sv b)):=by unfold fE;unfold BJ;simp
        have i:zJ (fE q C (c::W) _ _)=.nx (fE q C _ _ (sv _)):=(bB k).trans ((bB w).trans B);have E:=Qf (C:=C) h l L _ (some (encC x)) b t m;have e:pa Q (x::L) (c::W)=pa Q L W':=by show(match pull Q _ x _ with|none=>false|some _=>pa Q L _)=_;rw[d]
        simp_all
theorem Qg(h:oJ q Q Ok)(l:wL Q Ok S)(cl:List (List Int)):wF [q,.lst (cl.map encC)]=.ok (.bl (pa Q cl [[]])):=by
 obtain⟨C,k⟩:=xz (D.lst (cl.map encC));have r:az (bC (ai (cf af) af)) (cZ 2) [.v q,.v C,.no,.no,.no]=.nx (fE q C [[]] _ _):=ew (d:=.lst [.tup _]) (by simp[bC,cf,ai,af,sizeLine]) rfl;have j:∀o,iS _ _ _ (fE q C [[]] (sv none) (sv none))=o->OP _=o:=fun o e=>(kU (by rw[k];rfl)).trans e;have i:∀(W:List _)(g b:Option D),aH (m2 oEq (aT aJ (ai (aj 2) af)) (mC (.int 0))) (fE q C W (sv g) (sv b))=.rt _:=fun W g b=>by
  have p:aJ [.lst (W.reverse.map encC)]=some (.int W.length):=by simp
  simp only[aH,fk,aT,ai,af,mC,show aj 2 (fE q C W _ _)=.ok _ from rfl,R.aq,p,R.aF,xF];rfl
 rw[<-k];refine gO ((bB r).trans ?_);have n:jv S [[]]<=2000:=by have:=l.all;simpa[jv] using this
 rcases Qf h l _ _ _ _ (fun y s=>by rw[cY.mp s];exact h.nil) n with⟨f,g,b,a⟩|⟨f,a|⟨c,t,g,b,a⟩⟩;.rw[f];exact(bB (j _ a)).trans rfl
 .rw[f];exact wG (j _ a)
 .rw[f];refine(bB (j _ a)).trans ((i _ _ _).trans ?_);rfl
theorem zAQ{n:Nat}(k:cs.Nodup)(i:∀v∈cs,1<=v/\v<(n:Int))(j:cs.length+1<n):rW n cs≠[]:=fun e=>by
 have d:∀x∈Rg 1 _,x∈cs:=fun x g=>by apply Classical.byContradiction;intro z;have:x∈rW n cs:=hG.mpr ⟨g,by simp_all⟩;simp_all
 have c:(Rg 1 (n-1)).Nodup:=by refine List.Pairwise.map _ (fun a b h e=>h ?_) qs;lia
 have:=vV c d;rw[yq] at this;lia
theorem rK(h:δ[i]?=some (.v S))(a:PM.isObj c m S=some ())(b:ma δ=.ok x)(e:f [S,x]=.ok d):b3 c m f (ag i) (ai ma af) δ=.ok d:=by unfold b3 ai;simp[ag,h,R.aq,a,R.aF,b,af,e,R.bA]
theorem yy(h:δ[i]?=some (.v S))(a:PM.isObj c m S=some ())(b:f [S]=.ok d):b3 c m f (ag i) af δ=.ok d:=by unfold b3;simp[ag,h,R.aq,a,R.aF,af,b,R.bA]
theorem zR(h:δ[i]?=some (.v (.obj c ks l))):br i c x y δ=x δ:=by unfold br;simp_all
theorem ly(h:δ[i]?=some (.v (.obj c ks l)))(b:c≠a):br i a x y δ=y δ:=by unfold br;simp_all
theorem IK(h:δ[i]?=some (.v (.obj 8 ks l))):uG nm a f2 b d f0 e c i ma δ=b3 8 nm a (ag i) ma δ:=zR h
theorem IL(h:δ[i]?=some (.v (.obj 9 ks l))):uG nm a f2 b d f0 e c i ma δ=b3 9 nm f2 (ag i) ma δ:=(ly h (by decide)).trans (zR h)
theorem IM(h:δ[i]?=some (.v (.obj 7 ks l))):uG nm b f2 a d f0 e c i ma δ=b3 7 nm a (ag i) ma δ:=(ly h (by decide)).trans ((ly h (by decide)).trans (zR h))
theorem yz(h:δ[i]?=some (.v (.obj 12 ks l))):uG nm b f2 d a f0 e c i ma δ=b3 12 nm a (ag i) ma δ:=(ly h (by decide)).trans ((ly h (by decide)).trans ((ly h (by decide)).trans (zR h)))
theorem Qh(h:δ[i]?=some (.v (.obj 6 ks l))):uG nm a f2 b d f0 e c i ma δ=b3 6 nm f0 (ag i) ma δ:=((ly h (by decide)).trans ((ly h (by decide)).trans ((ly h (by decide)).trans ((ly h (by decide)).trans (zR h)))))
theorem yA(h:δ[i]?=some (.v (.obj 11 ks l))):uG nm b f2 e d f0 a c i ma δ=b3 11 nm a (ag i) ma δ:=((ly h (by decide)).trans ((ly h (by decide)).trans ((ly h (by decide)).trans ((ly h (by decide)).trans ((ly h (by decide)).trans (zR h))))))
theorem yB(h:δ[i]?=some (.v (.obj 10 ks l))):uG nm b f2 c d f0 e a i ma δ=b3 10 nm a (ag i) ma δ:=((ly h (by decide)).trans ((ly h (by decide)).trans ((ly h (by decide)).trans ((ly h (by decide)).trans ((ly h (by decide)).trans (ly h (by decide)))))))
theorem zAW{T:List Nat}(h:T.all (fun x=>decide (1<=x))=true)(k:Nat):1<=T.getD k 1:=by rw[du];cases e:T[k]? with |none=>simp |some x=>exact decide_eq_true_eq.mp (lG.mp h x (jB e))
theorem zS(B T:List Nat)(f:∀c,Ok c->c.length<Q.st->(Q.wy c).length<=B.getD c.length 0)(a:∀k,k<Q.st->1+B.getD k 0*T.getD (k+1) 1<=T.getD k 1)(d:T.all (fun x=>decide (1<=x))=true)(b:T.getD 0 1<=2000):wL Q Ok (fun k=>T.getD k 1):= ⟨fun c g e=>bI (Nat.add_le_add_left (Nat.mul_le_mul_right _ (f c g e)) 1) (a _ e),fun k=>zAW d k,b⟩
theorem rL{P:Nat->Prop}(h0:P 0)(h1:P 1)(h2:P 2)(h3:P 3)(b:P 4)(a:k<5):P k:=by grind
theorem six{P:Nat->Prop}(h0:P 0)(h1:P 1)(h2:P 2)(h3:P 3)(b:P 4)(a:P 5)(c:k<6):P k:=by grind
structure oA(q:D)(Q:Qs)(Ok:List Int->Prop):Prop where
 ok:oJ q Q Ok
 sz:∃S,wL Q Ok S
def zzF(n:Nat)(sets:List Ps):Qs:=⟨sets.length,yk n sets,wy n sets⟩
theorem zyL(l:fY n sets)(m:sets.length<=6)(p:∀t∈fQ n,∃s∈sets,t∈s.2):oA (uD n sets) (zzF n sets) (fun c=>c.length<=sets.length/\B9 n sets c):=by
 refine⟨⟨⟨⟨bR _,ZR p⟩,fun c h=>h.1,fun c h d w q=>⟨by simp at d⊢;exact d,ZQ d h.2 q⟩,fun c _ _ e=>?_⟩,m,fun c _ _=>?_,fun c i o g h b f=>?_,fun i g b=>?_,fun c i o g h d b f=>?_⟩,_,zS [2,2,2,2,2,2] [127,63,31,15,7,3] (fun c _ d=>?_) (fun k j=>?_) rfl (by decide)⟩;.have:=(Im n sets c).1;have e:wy n _ c=[]:=e;simp_all
 .have:=(Im n sets c).2;show(wy n _ c).length<=10;lia
 .exact(IM b).trans (rK b rfl f (ZN l h.1 (by lia) h.2))
 .exact(IM b).trans (yy b rfl ZH)
 .exact(IM b).trans (rK b rfl f (ZK l d (by lia)))
 .have:=(Im n sets c).2;have d:c.length<sets.length:=d;exact six (P:=fun k=>(wy n _ c).length<=[2,2,2,2,2,2].getD k 0) this this this this this this (by lia)
 .have j:k<sets.length:=j;exact six (P:=fun k=>1+[2,2,2,2,2,2].getD k 0*[127,63,31,15,7,3].getD (k+1) 1<=[127,63,31,15,7,3].getD k 1) (by decide) (by decide) (by decide) (by decide) (by decide) (by decide) (by lia)
def Ee(r:Int)(ts:List Fr):Qs:=⟨ts.length,fun c=>Ir ts (fj c 1),fun c=>if ym ts (fj c 0)+(th ts c.length).2<=r then[0,1] else[1]⟩
theorem zzj(m:ts.length<=6):oA (uE r ts) (Ee r ts) (fun c=>c.length<=ts.length):=by
 have g:∀c,0<((Ee r ts).wy c).length/\((Ee r _).wy c).length<=2:=fun c=>by show 0<(if ym _ (fj c 0)+(th _ _).2<=r then[0,1] else[1]).length/\(if ym ts (fj c 0)+(th ts c.length).2<=r then[0,1] else[1]).length<=2;split<;>decide
 refine⟨⟨⟨bR _,fun c h=>h,fun c h d w o=>by have d:c.length<ts.length:=d;grind,fun c _ _ e=>?_⟩,m,fun c _ _=>?_,fun c i n l h b f=>?_,fun i l b=>?_,fun c i n l h d b f=>?_⟩,_,zS [2,2,2,2,2,2] [127,63,31,15,7,3] (fun c _ d=>?_) (fun k j=>?_) rfl (by decide)⟩;. (grind)
 .grind
 .exact(yB b).trans (rK b rfl f (ZX h (by lia)))
 .exact(yB b).trans (yy b rfl ZW)
 .exact(yB b).trans (rK b rfl f (ZY d (by lia)))
 .have:=(g c).2;have d:c.length<ts.length:=d;exact six (P:=fun k=>((Ee r _).wy c).length<=[2,2,2,2,2,2].getD k 0) this this this this this this (by lia)
 .have j:k<ts.length:=j;exact six (P:=fun k=>1+[2,2,2,2,2,2].getD k 0*[127,63,31,15,7,3].getD (k+1) 1<=[127,63,31,15,7,3].getD k 1) (by decide) (by decide) (by decide) (by decide) (by decide) (by decide) (by lia)
def zz4(m:Nat)(ws:List Int):Qs:=⟨ws.length,yn m ws,lr m⟩
theorem zxx{m:Nat}(r:0<m)(p:m<=4)(s:ws.length<=5):oA (sf m ws) (zz4 m ws) (fun c=>c.length<=ws.length/\∀x∈c,0<=x/\x<(m:Int)):=by
  have d:∀c,(lr m c).length<=c.length+1/\(lr m c).length<=m/\0<(lr m c).length:=fun c=>by have:=Pk c;unfold lr;rw[fN];grind
  refine⟨⟨⟨⟨bR _,fun _ z=>(nomatch z)⟩,fun c h=>h.1,fun c h b w j=>⟨by have b:c.length<ws.length:=b;grind,fun x o=>?_⟩,fun c _ _ e=>?_⟩,Nat.le_succ_of_le s,fun c _ _=>?_,fun c i t g h a f=>?_,fun i g a=>?_,fun c i t g h b a f=>?_⟩,_,zS [1,2,3,4,5] [154,153,76,25,6] (fun c _ b=>?_) (fun k l=>?_) (by decide) (by decide)⟩
  . rcases cO.mp o with z|z;.exact h.2 x z
    .rw[cY.mp z];have n:=(d c).2.1;unfold lr at j n;rw[fN] at n;have:=bM.mp j;lia
  .have:=(d c).2.2;have e:lr m c=[]:=e;simp_all
  .have:=(d c).2.1;show(lr m c).length<=10;lia
  .exact(IK a).trans (rK a (zvg (by decide)) f (zsJ r (by lia) h.1 h.2))
  .exact(IK a).trans (yy a rfl zpb)
  .exact(IK a).trans (rK a rfl f (zrv (by lia) (by lia)))
  .have q:=(d c).1;have b:c.length<ws.length:=b;exact bI q (rL (P:=fun k=>k+1<=[1,2,3,4,5].getD k 0) (by decide) (by decide) (by decide) (by decide) (by decide) (by lia))
  .have l:k<ws.length:=l;exact rL (P:=fun k=>1+[1,2,3,4,5].getD k 0*[154,153,76,25,6].getD (k+1) 1<=[154,153,76,25,6].getD k 1) (by decide) (by decide) (by decide) (by decide) (by decide) (by lia)
def IP(r:Int)(ws:List Int):Qs:=⟨ws.length,vG r ws,oz r ws⟩
theorem zAF(v:0<r)(f:r<=1000000000000000000)(u:ws.length<=5):oA (lx r ws) (IP r ws) (fun c=>c.length<=ws.length/\Cn c):=by
  have n:∀c,(oz r ws c).length<=c.length+1:=fun c=>by have j:=IA c;have o:=qj (fun k=>decide (cS ((di ws).zip c) k+gA (di ws) c.length<=r)) (bz (nB c));rw[fN] at o;unfold oz;simp[gX,gY,List.length_nil];lia
  refine⟨⟨⟨⟨bR _,fun p c q e=>by simp at e⟩,fun c h=>h.1,fun c h b w s=>⟨by have b:c.length<ws.length:=b;simp;lia,?_⟩,fun c _ _ e=>?_⟩,Nat.le_succ_of_le u,fun c h _=>?_,fun c i t m h a d=>?_,fun i m a=>?_,fun c i t m h b a d=>?_⟩,_,zS [1,2,3,4,5] [154,153,76,25,6] (fun c _ b=>?_) (fun k l=>?_) rfl (by decide)⟩
  . rcases cO.mp s with z|z;.have:=bM.mp (hG.mp z).1;exact Pt h.2 this.1 (by lia)
    .rw[cY.mp z];exact Pt h.2 (by lia) (lE _)
  .have e:oz r ws c=[]:=e;unfold oz at e;simp at e
  .have:=n c;show(oz r _ c).length<=10;lia
  .exact(IL a).trans (rK a rfl d (zyr v f (by lia) h.1 h.2))
  .exact(IL a).trans (yy a rfl zse)
  .exact(IL a).trans (rK a rfl d (zv1 (by lia) b h.2))
  .have j:=n c;have b:c.length<ws.length:=b;exact bI j (rL (P:=fun k=>k+1<=[1,2,3,4,5].getD k 0) (by decide) (by decide) (by decide) (by decide) (by decide) (by lia))
  .have l:k<ws.length:=l;exact rL (P:=fun k=>1+[1,2,3,4,5].getD k 0*[154,153,76,25,6].getD (k+1) 1<=[154,153,76,25,6].getD k 1) (by decide) (by decide) (by decide) (by decide) (by decide) (by lia)
theorem zvs(h0:0<n):yf [t_ (bP (bq n d))]=.ok (.int ((n-1:Nat):Int)):=by have a:aJ [bP (bq n d)]=some (.int n):=zM;have b:=PL (bP (bq n d));refine gO ?_;show aH _ [.v _]=_;rw[show((n-1:Nat):Int)=n-1 by lia];simp[aH,aT,ai,af,aj,mC,b,a]
def zzV(n:Nat)(d:Int->Int->Int):Qs:=⟨n-1,fun c=>B' d (0::c),rW n⟩
theorem zxO(C:i0 n B d)(h0:0<n)(E:n<=5):oA (t_ (bP (bq n d))) (zzV n d) (fun c=>c.length<=n-1/\c.Nodup/\∀v∈c,1<=v/\v<(n:Int)):=by
  have m:∀c,(rW n c).length<=4:=fun c=>by have:=qj (fun p=>decide (p∉c)) (Rg 1 (n-1));rw[yq] at this;unfold rW;lia
  refine⟨⟨⟨⟨bR _,by simp,fun _ z=>(nomatch z)⟩,fun c h=>h.1,fun c h f w q=>?_,fun c h f=>?_⟩,show n-1<=6 by lia,fun c _ _=>?_,fun c i A j h b g=>?_,fun i j b=>?_,fun c i A j h f b g=>?_⟩,_,zS [4,4,4,4,4] [1365,341,85,21,5] (fun c _ f=>?_) (fun k l=>?_) (by decide) (by decide)⟩
  . have f:c.length<n-1:=f;obtain⟨u,G⟩:=hG.mp q;have r:=p8.mp u;have o:w∉c:=by simp_all
    refine⟨by grind,?_,fun v hv=>?_⟩;.rw[lO];exact⟨h.2.1,by simp,fun x s y t=>by rw[cY.mp t];exact fun e=>o (e▸s)⟩
    . rcases cO.mp hv with z|z;.simp_all
      .rw[cY.mp z];lia
  .have f:c.length<n-1:=f;exact zAQ h.2.1 h.2.2 (by omega)
  .have:=m c;show(rW n c).length<=10;lia
  .exact(yA b).trans (rK b (yo _ (by decide)) g (zzr C h0 (by have:=h.1;lia) fun v hv=>by have:=h.2.2 v hv;lia))
  .exact(yA b).trans (yy b (yo _ (by decide)) (zvs h0))
  .exact(yA b).trans (rK b (yo _ (by decide)) g (zxz (by lia) (by lia)))
  .have:=m c;exact rL (P:=fun k=>(rW n c).length<=[4,4,4,4,4].getD k 0) this this this this this (by lia)
  .have l:k<n-1:=l;exact rL (P:=fun k=>1+[4,4,4,4,4].getD k 0*[1365,341,85,21,5].getD (k+1) 1<=[1365,341,85,21,5].getD k 1) (by decide) (by decide) (by decide) (by decide) (by decide) (by lia)
theorem zu7:ye [ua T m]=.ok (.int m):=rfl
def IQ(n m:Nat)(d:Int->Int->Int):Qs:=⟨m,fun c=>vH n d (sm n (bl c).toNat (m-c.length) c),fun c=>pW n (bl c).toNat (m-c.length)⟩
structure vJ(n m:Nat)(c:List Int):Prop where
 le:c.length<=m
 b1:(c.length:Int)<=bl c
 b2:bl c+((m-c.length:Nat):Int)<=n
 mem:∀v∈c,0<=v/\v<(n:Int)
theorem zyt(U:1<=m)(m1:m<=n)(Q:n<=5):oA (ua (bP (bq n d)) m) (IQ n m d) (vJ n m):=by
  have u:∀c,vJ n m c->c.length<m->0<(pW n (bl c).toNat (m-c.length)).length/\(pW n (bl c).toNat (m-c.length)).length<=n-m+1:=fun c h a=>by have:=h.b1;have:=h.b2;unfold pW;rw[yq];lia
  have y:oJ (ua (bP (bq n d)) m) (IQ n m d) (vJ n m):=by
    refine⟨⟨⟨bR _,by show(0:Int)<=0;decide,by show(0:Int)+((m-0:Nat):Int)<=n;lia,fun _ z=>(nomatch z)⟩,fun c h=>h.le,fun c h a w q=>?_,fun c h a e=>?_⟩,show m<=6 by lia,fun c h a=>?_,fun c i I G h l A=>?_,fun i G l=>?_,fun c i I G h a l A=>?_⟩
    . have a:c.length<m:=a;have q:w∈pW n (bl c).toNat (m-c.length):=q;unfold pW at q;have r:=p8.mp q;have:=h.b1;have:=h.b2;refine⟨by grind,?_,?_,fun v hv=>?_⟩;.rw[IB];simp;omega
      .rw[IB];simp;omega
      . rcases cO.mp hv with z|z;.exact h.mem v z
        .rw[cY.mp z];omega
    .have:=(u c h a).1;have e:pW n (bl c).toNat (m-c.length)=[]:=e;rw[e] at this;exact absurd this (by decide)
    .have:=(u c h a).2;show(pW n (bl c).toNat (m-c.length)).length<=10;omega
    . have E:=h.b1;have C:=h.b2;have N:=h.le;refine(yz l).trans (rK l (yp _ _ (by decide)) A (zzb (b:=(bl c).toNat) (t:=m-c.length) (by omega) (by omega) (by lia) (by lia) (by lia) (by lia) (fun z=>?_) fun v hv=>?_));.unfold sm at z;obtain⟨K,s⟩:=List.append_eq_nil_iff.mp z;rw[K] at s E C;simp only[List.length_nil] at s C;rw[ak (by omega)] at s;have:=c7 List.length s;rw[yq] at this;have H:bl []=0:=rfl;simp[H] at this;lia
      . unfold sm at hv;rcases cO.mp hv with z|z;.exact h.mem v z
        . split at z;.cases z
          .have:=p8.mp z;lia
    .exact(yz l).trans (yy l (yp _ _ (by decide)) zu7)
    .have E:=h.b1;have C:=h.b2;have a:c.length<m:=a;exact(yz l).trans (rK l (yp _ _ (by decide)) A (zxE (b:=(bl c).toNat) (t:=m-c.length) (by lia) (by lia) (by lia) (by lia) (by lia)))
  refine⟨y,?_⟩;have g:∀(B T:List Nat),(∀k,k<m->n-m+1<=B.getD k 0)->(∀k,k<m->1+B.getD k 0*T.getD (k+1) 1<=T.getD k 1)->T.all (fun x=>decide (1<=x))=true->T.getD 0 1<=2000->∃S,wL (IQ n m d) (vJ n m) S:=fun B T l L J M=>⟨_,zS B T (fun c h a=>bI (u c h a).2 (l _ a)) L J M⟩;have o:∀{P:Nat->Prop}(j:Nat),(∀k,k<j->P k)->m=j->∀k,k<m->P k:=fun j h e k p=>h k (by lia);rcases(show m=1\/m=2\/m=3\/m=4\/m=5 by lia) with e|e|e|e|e;.exact g [5] [6] (fun k p=>by rcases(show k=0 by lia) with rfl;show n-m+1<=5;omega) (o 1 (by decide) e) (by decide) (by decide)
  .exact g [4,4] [21,5] (fun k p=>by rcases(show k=0\/k=1 by omega) with z|z<;>subst z<;>(show n-m+1<=4;lia)) (o 2 (by decide) e) (by decide) (by decide)
  .exact g [3,3,3] [40,13,4] (fun k p=>by rcases(show k=0\/k=1\/k=2 by omega) with z|z|z<;>subst z<;>(show n-m+1<=3;lia)) (o 3 (by decide) e) (by decide) (by decide)
  .exact g [2,2,2,2] [31,15,7,3] (fun k p=>by rcases(show k=0\/k=1\/k=2\/k=3 by lia) with z|z|z|z<;>subst z<;>(show n-m+1<=2;lia)) (o 4 (by decide) e) (by decide) (by decide)
  .exact g [1,1,1,1,1] [6,5,4,3,2] (fun k p=>by rcases(show k=0\/k=1\/k=2\/k=3\/k=4 by lia) with z|z|z|z|z<;>subst z<;>(show n-m+1<=1;lia)) (o 5 (by decide) e) (by decide) (by decide)
def q0:D:=.obj 6 [] []
theorem zxG:oA q0 ⟨0,fun _=>0,fun _=>[]⟩ (fun c=>c=[]):=by
 have e:∀{m:Str},PM.isObj 6 m q0=some _:=fun{m}=>rfl;refine⟨⟨⟨rfl,fun c h=>by simp_all,fun c _ a=>absurd a (ke _),fun c _ a=>absurd a (ke _)⟩,by decide,fun c _ a=>absurd a (ke _),fun c i f d _ b g=>?_,fun i d b=>?_,fun c i f d _ a=>absurd a (ke _)⟩,_,fun c _ a=>absurd a (ke _),fun _=>aC _,by decide⟩;.exact(Qh b).trans (rK b e g rfl)
 .exact(Qh b).trans (yy b e rfl)
theorem zv7(h:Walk q Ok)(d:Ok c)(g:c.length<q.st)(e:¬x=c):iz q (f+2) c (x::L)=kN (iz q (f+1)) (eF q c) (x::L):=by
  by_cases b:x.take c.length=c
  . conv=>lhs;unfold iz
    rw[ak e,ak (fun z=>z.elim (fun z=>by lia) fun z=>z b)]
  . obtain⟨k,j,i⟩:=h.gR d g;obtain⟨w,_,rfl⟩:=hI.mp (show k∈eF q c by simp_all);have n2:∀n,x.take n=c++[w]->False:=fun n z=>b (by
      have:=c7 (List.take c.length) z;rw[List.take_take] at this;have o:c.length<=n:=by grind
      simp_all);have m:iz q (f+2) c (x::L)=none:=by unfold iz;simp_all
    have l:iz q (f+1) (c++[w]) (x::L)=none:=by unfold iz;rw[ak (fun z=>n2 x.length (by simp_all)),ao (.inr fun z=>n2 _ z)]
    rw[i];show _=(iz q _ _ _).bind _;simp_all
def bN(n:Nat):Option (List (List Int))->D |none=>.non |some L=>.int ((n:Int)-L.length)
def jc(q C i:D)(c:List Int)(s:Int)(w:Sl):En:=[.v q,.v C,.v i,.v (encC c),.v (.int s),w]
theorem Qi(k:n=cl.length)(A:c.length<=100):∀(ws:List Int)(L pre:List (List Int))(o:Option D),cl=pre++L-> (∀w∈ws,∀L pre,cl=pre++L->oy f [q,C,.int pre.length,encC (c++[w]),.int s]=.ok (bN n (iz Q f (c++[w]) L))/\∀L',iz Q f (c++[w]) L=some L'->∃p,L=p++L')-> (kN (iz Q f) (ws.map fun w=>c++[w]) L=none/\iS (aQ 5) (zK (oy f)) (ws.map .int) (jc q C (.int pre.length) c s (sv o))=.rt .non)\/ ∃L' t,kN (iz Q f) (ws.map fun w=>c++[w]) L=some L'/\iS (aQ 5) (zK (oy f)) (ws.map .int) (jc q C (.int pre.length) c s (sv o))=.nx (jc q C (bN n (some L')) c s (sv t))
 |[],L,pre,o,e,_=>.inr ⟨L,o,rfl,by show O.nx _=O.nx _;unfold bN;rw[k,e,show((pre.length:Int))=((pre++L).length:Int)-L.length by simp]⟩ |w::ws,L,pre,o,e,m=>by
  obtain⟨call,g⟩:=m w (by simp) L pre e;have y:aQ 5 (.int w) (jc q C (.int pre.length) c s (sv o))=some (jc q C (.int pre.length) c s (.v (.int w))):=kG (o:=o) rfl;have H:qI (encC c) (.tup [.int w])=some (encC (c++[w])):=yt (cs:=c) (ws:=[w]) (by grind);have G:m2 qI (aj 3) (cf (ai (ag 5) af)) (jc q C (.int pre.length) c s (.v (.int w)))=.ok (encC (c++[w])):=by
   have:cf (ai (ag 5) af) (jc q C (.int pre.length) c s (.v (.int w)))=.ok (.tup [.int w]):=by exact fi (show 1<=sizeLine by decide)
   simp only[fk,show aj 3 (jc q C (.int pre.length) c s (.v (.int w)))=.ok (encC c) from rfl,this,R.aq,H,R.aF]
  have b:az (bw (oy f) (ai (ag 0) (ai (ag 1) (ai (ag 2) (ai (m2 qI (aj 3) (cf (ai (ag 5) af))) (ai (ag 4) af)))))) (aQ 2) (jc q C (.int pre.length) c s (.v (.int w)))=.nx (jc q C (bN n (iz Q f (c++[w]) L)) c s (.v (.int w))):=by refine ew ?_ rfl;simp only[bw,ai,af,G,show∀i x,ag 0 (jc q C i c s x)=.ok q from fun _ _=>rfl,show∀i x,ag 1 (jc q C i c s x)=.ok C from fun _ _=>rfl,show∀i x,ag 2 (jc q C i c s x)=.ok i from fun _ _=>rfl,show∀i x,ag 4 (jc q C i c s x)=.ok _ from fun _ _=>rfl,R.aq,call,R.bA]
  rw[bJ,bJ];unfold iS;rw[y];dsimp only;have u:kN _ ((c++[w])::ws.map fun w=>c++[w]) L=(iz Q f _ L).bind (kN _ _):=rfl;rw[u];cases z:iz Q f (c++[w]) L with |none=> rw[z] at b;have j:zK _ (jc q C _ c s _)=.rt .non:=(bB b).trans rfl;rw[j];exact .inl ⟨rfl,rfl⟩ |some d=>
   rw[z] at b;have j:zK _ _=.nx (jc q C (bN n (some d)) c s (.v (.int w))):=(bB b).trans ((kH rfl).trans rfl);rw[j];obtain⟨p,E⟩:=g _ z;have l:cl=(pre++p)++d:=by rw[e,E,nF]
   have B:bN n (some d)=.int (pre++p).length:=by unfold bN;rw[k,l];simp;lia
   rw[B];exact Qi k A _ d (pre++p) (some _) l fun I h=>m _ (by simp[h])
theorem Qj(h:oJ q Q Ok):∀(f:Nat)(c:List Int)(L pre:List (List Int)),Ok c->Q.st-c.length+1<=f->cl=pre++L-> oy f [q,.lst (cl.map encC),.int pre.length,encC c,.int Q.st]=.ok (bN cl.length (iz Q f c L)):=by
    intro f;induction f using Nat.strongRecOn;rename_i f I;intro c L pre g X e;cases f with|zero=>clear I;lia|succ f=>?_
    have:oy (f+1) [q,.lst (cl.map encC),.int pre.length,encC c,.int Q.st]=bF 5 1 (D3 (oy f)) [q,.lst (cl.map encC),.int pre.length,encC c,.int Q.st]:=rfl;rw[this];have d:aJ [.lst (cl.map encC)]=some (.int cl.length):=by simp
    have T:cl.length=pre.length+L.length:=by simp_all
    obtain⟨C,u⟩:=xz (D.lst (cl.map encC));rw[<-u] at d⊢;refine gO ?_;show av _ _ (jc q C (.int pre.length) c Q.st .no)=_;have E:aj 1 (jc q C (.int pre.length) c Q.st .no)=.ok C:=rfl;have t:aj 2 (jc q C (.int pre.length) c Q.st .no)=.ok (.int pre.length):=rfl;have J:aj 3 (jc q C (.int pre.length) c Q.st .no)=.ok (encC c):=rfl;have N:aj 4 (jc q C (.int pre.length) c Q.st .no)=.ok (.int Q.st):=rfl;have v:oC (bf (m2 y_ (aj 2) (mC .non))) (bf (m2 y9 (aj 2) (aT aJ (ai (aj 1) af)))) (jc q C (.int pre.length) c Q.st .no)=.ok (decide (L=[])):=by
      have U:bf (m2 y_ (aj 2) (mC .non)) (jc q C (.int pre.length) c Q.st .no)=.ok false:=rfl;unfold oC;rw[U,R.aq,ak eN];simp only[bf,fk,aT,ai,af,E,t,R.aq,d,R.aF,US,uv];congr 1;rw[l_];constructor;.intro z;exact lJ.mp (by lia)
      .intro z;simp_all
    cases L with |nil=>exact wG ((tG v).trans rfl) |cons x L=>
      refine(bB ((kH (v.trans (by simp))).trans rfl)).trans ?_;have Z:aO C (.int pre.length)=some (encC x):=by rw[u];exact xH (by lia) (by rw[Int.toNat_natCast,bY,e,iC (aC _),Nat.sub_self];rfl)
      have G:bf (m2 mT (m2 aO (aj 1) (aj 2)) (aj 3)) (jc q C (.int pre.length) c Q.st .no)=.ok (decide (x=c)):=by simp only[bf,fk,E,t,J,R.aq,Z,R.aF,eqC,uv]
      have B:bf (m2 oEq (aT aJ (ai (aj 3) af)) (aj 4)) (jc q C (.int pre.length) c Q.st .no)=.ok (decide (c.length=Q.st)):=by simp only[bf,fk,aT,ai,af,J,N,R.aq,vI,R.aF,xF,uv];congr 1;grind
      have l1:=h.len c g;by_cases r:x=c;.unfold iz;rw[ao r];refine wG ((tG (G.trans (by simp_all))).trans ?_);simp only[aH,fk,mC,t,R.aq,wo,R.aF];show O.rt (.int _)=O.rt (.int _);congr 2;simp only[gY] at T;lia
      . refine(bB ((kH (G.trans (by simp_all))).trans rfl)).trans ?_;by_cases y:c.length=Q.st;.unfold iz;rw[ak r,ao (.inl (by lia))];exact wG ((tG (B.trans (by rw[eY y]))).trans rfl)
        . refine(bB ((kH (B.trans (by rw[cV y]))).trans rfl)).trans ?_;have m:c.length<Q.st:=by lia
          have wy:=h.yr c 0 (ag 3) (jc q C (.int pre.length) c Q.st .no) g m rfl rfl;have pT:=h.pT;obtain⟨a,rfl⟩:∃a,f=a+1:=⟨f-1,by lia⟩;rw[zv7 h.toWalk g m r];have Y:=Qi (q:=q) (C:=C) (Q:=Q) (c:=c) (n:=cl.length) (f:=a+1) (s:=Q.st) rfl (by lia) (Q.wy c) (x::L) pre none e fun w M L pre e=>by have i:=h.toWalk.uH g m (k:=c++[w]) (hI.mpr ⟨w,M,rfl⟩);refine⟨by rw[u];exact I _ (Nat.lt.base _) (c++[w]) L pre i.1 (by rw[i.2];lia) e,fun j z=>?_⟩;obtain⟨p,K,_⟩:=Cb h.toWalk _ _ i.1 L j z;exact⟨p,K⟩
          have A:OS (oy (a+1)) (jc q C (.int pre.length) c Q.st .no)=iS (aQ 5) (zK (oy (a+1))) ((Q.wy c).map .int) (jc q C (.int pre.length) c Q.st .no):=kU (by have:=wy;simp only[cK,wy,R.aq];rfl);rcases Y with⟨l,o⟩|⟨j,p',l,o⟩;.rw[show kN (iz Q (a+1)) (eF Q c) (x::L)=none from l];exact wG (A.trans o)
          .rw[show kN (iz Q (a+1)) (eF Q c) (x::L)=some j from l];exact(bB (A.trans o)).trans rfl
theorem zzk(h:Walk q Ok)(cl:List (List Int))(f:Nat)(b:q.st+1<=f):pa q cl [[]]=true↔iz q f [] cl=some []:=by
 have e:=P8 h _ f _ h.nil (by simp) b cl [];have a:∀L,pa q L []=true↔L=[]:=fun L=>by cases L<;>simp[pa]
 rw[e];cases z:iz q f _ _ with |none=>simp[zQ] |some L=> have k:zQ q (some L) []=pa q L _:=rfl;simp_all
theorem zvb(h:oJ q Q Ok)(o:wL Q Ok S)(cl:List (List Int)):D4 [q,.lst (cl.map encC)]=.ok (.bl true):=by
 have g:=Qg h o cl;have i:=Qj h (cl:=cl) 8 [] cl [] h.nil (by have:=h.pT;lia) rfl;have u:=zzk h.toWalk cl 8 (by have:=h.pT;lia);have a:aJ [.lst (cl.map encC)]=some (.int cl.length):=by simp
 have fl:ni [.lst (cl.map encC)]=some (.lst (cl.map encC)):=rfl;have c:mT (.lst (cl.map encC)) (.lst (cl.map encC))=some (.bl true):=by unfold mT;rw[fi ⟨Qb cl,Qb cl⟩];simp
 obtain⟨C,j⟩:=xz (D.lst (cl.map encC));rw[<-j] at g i a fl c⊢;refine gO ?_;have k:az (aT ni (ai (aj 1) af)) (aQ 2) [.v q,.v C,.no,.no,.no]=.nx [.v q,.v C,.v C,.no,.no]:=ew (d:=C) (by simp[aT,ai,af,aj,fl]) rfl;have n:az (bw wF (ai (ag 0) (ai (ag 2) af))) (aQ 3) [.v q,.v C,.v C,.no,.no]=.nx [.v q,.v C,.v C,.v (.bl (pa Q cl [[]])),.no]:=ew (d:=.bl (pa Q cl [[]])) (by simp[bw,ai,af,ag,g]) rfl;have r:=h.steps 0 [.v q,.v C,.v C,.v (.bl (pa Q cl [[]])),.no] rfl;have l:cf af [.v q,.v C,.v C,.v (.bl (pa Q cl [[]])),.no]=.ok (encC []):=by exact fi (show 0<=sizeLine by decide)
 have b:uB [q,C,.int 0,encC [],.int Q.st]=.ok (bN cl.length (iz Q 8 [] cl)):=i;have m:oEq (bN cl.length (iz Q 8 [] cl)) (.int cl.length)=some (.bl (pa Q cl [[]])):=by cases z:iz Q 8 [] cl with
  |none=>
   have:pa Q cl [[]]=false:=by simp_all
   rw[this];rfl |some L=> show oEq (.int ((cl.length:Int)-L.length)) (.int cl.length)=_;rw[xF];cases y:pa Q cl [[]] with |true=> simp_all |false=> rw[cV];intro e;have:L=[]:=lJ.mp (by lia);simp_all
 have t:az (m2 oEq (bw uB (ai (ag 0) (ai (ag 1) (ai (mC (.int 0)) (ai (cf af) (ai (zP 0) af)))))) (aT aJ (ai (aj 1) af))) (aQ 4) [.v q,.v C,.v C,.v (.bl (pa Q cl [[]])),.no]=.nx [.v q,.v C,.v C,.v _,.v (.bl (pa Q cl [[]]))]:=ew (by simp[fk,bw,ai,af,mC,l,r,show ag 0 [.v q,.v C,.v C,.v _,.no]=.ok q from rfl,show ag 1 [.v q,.v C,.v C,.v _,.no]=.ok C from rfl,aT,show aj 1 [.v q,.v C,.v C,.v _,.no]=.ok C from rfl,R.aq,b,R.bA,a,R.aF,m]) rfl;refine(bB k).trans ((bB n).trans ((bB t).trans ?_));have p:oEq (.bl (pa Q cl [[]])) (.bl (pa Q cl [[]]))=some (.bl true):=by cases pa Q _ _<;>rfl
 have s:jP "bool" (.bl (pa Q cl [[]]))=some (.bl true):=rfl;simp[aH,yX,aj,p,s,c]
theorem zxP(x:List Int):cutD (x.map D.int) none (some (-1))=(x.dropLast).map .int:=by
 unfold cutD;have e:HT.dn (x.map D.int).length (x.map D.int).length (some (-1))=x.length-1:=by show(if-1<0 then((-1:Int)+(x.map D.int).length).toNat else min (-1).toNat (x.map D.int).length)=_;rw[ao (by decide),aN];lia
 rw[e];show(List.drop 0 _).take (x.length-1-0)=_;rw[List.drop_zero,Nat.sub_zero,sF,List.map_take]
theorem Qk(h:m δ=.ok (encC x)):lj m cC (dV (m1 gh (mC (.int 1)))) δ=.ok (encC x.dropLast):=by have a:Bb (encC x)=some _:=rfl;simp only[lj,h,R.aq,cC,dV,vd,mC,za,R.aF,xG,a,zxP];rfl
theorem Cd(h:m δ=.ok d):cf (ai m af) δ=.ok (.tup [d]):=by simp[cf,ai,h];exact fi (show 1<=sizeLine by decide)
theorem Ce(h:c.length<=500):qI (encC c) (.tup [.int i])=some (encC (c++[i])):=yt (ws:=[i]) (by grind)
def jw(l:List (List Int)):D:=.lst (l.map encC)
theorem rM(h1:m δ=.ok (jw a))(h2:n δ=.ok (jw b))(h:a.length+b.length<=50000):m2 cW m n δ=.ok (jw (a++b)):=by
 have c:cW (jw a) (jw b)=some (jw (a++b)):=by unfold jw;rw[gZ];exact fi (by rw[dP];grind)
 simp[fk,h1,h2,R.aq,c,R.aF]
theorem yC(h:m δ=.ok (encC c)):bC (ai m af) δ=.ok (jw [c]):=by simp[bC,ai,h];exact fi (show 1<=sizeLine by decide)
theorem Cf(h:m δ=.ok d):ft m δ=.ro d:=by simp only[ft,h];rfl
theorem IS{k:Nat}(h:l[k]?=some c):aO (jw l) (.int k)=some (encC c):=xH (by lia) (by rw[Int.toNat_natCast,bY,h];rfl)
theorem Ef(h:m δ=.ok (jw l))(b:ml δ=.ok lo)(c:mh δ=.ok hi):∃a:List (List Int),a.length<=l.length/\gj m ml mh δ=.ok (jw a):= ⟨(l.drop (HT.dn l.length 0 lo)).take (HT.dn l.length l.length hi-HT.dn l.length 0 lo),by simp[lK,nJ];lia,by simp[gj,h,b,c,R.aq,jw,vf,R.aF,cutD,aN,List.map_take,List.map_drop]⟩
def RO(m:En->O)(δ:En):Prop:=∃a:List (List Int),m δ=.ro (jw a)
theorem RO.if'(c:n δ=.ok b)(d:b=true->∃l:List (List Int),e δ=.ok (jw l))(f:RO m δ):RO (av (bj n (ft e) dq) m) δ:=by cases b with |true=> obtain⟨l,a⟩:=d rfl;exact⟨l,by unfold av;rw[tG c,Cf a]⟩ |false=> obtain⟨l,a⟩:=f;exact⟨l,(bB ((kH c).trans rfl)).trans a⟩
theorem RO.seq(h:m δ=.nx a)(c:RO n a):RO (av m n) δ:=let⟨l,b⟩:=c;⟨l,(bB h).trans b⟩
theorem zrH(ne:cl≠[])(hc:∀x∈cl,x.length<=100)(uj:cl.length<=5000)(n:Int)(n0:0<=n):∃I:List (List Int),D2 [jw cl,.int n]=.ok (jw I):=by
  have f8:eI 8:=c_ 100 (by decide);have f4:eI 4:=c_ 100 (by decide);have L:eI 8000:=c_ 10000 (by decide);have E:0<(cl.length:Int):=by have:=sP.mpr ne;lia
  have o:aJ [jw cl]=some (.int cl.length):=by simp[jw]
  obtain⟨a,ea⟩:∃a:Nat,(a:Int)=n/8%cl.length:=⟨(n/8%cl.length).toNat,by have:=wH (n/8) E;lia⟩;have a1:a<cl.length:=by have:=wI (n/8) E;lia
  obtain⟨c,U⟩:∃c,cl[a]?=some c:=⟨_,b7 a1⟩;have lc:=hc c (jB U);have X:=IS U;obtain⟨z,ez⟩:∃z,cl[cl.length-1]?=some z:=⟨_,b7 (by lia)⟩;have N:aO (jw cl) (.int (-1))=some (encC z):=by show hV (cl.map encC) (-1)=_;unfold hV iv;rw[ak (by decide),aN,ao (by lia)];show(cl.map encC)[((-1:Int)+cl.length).toNat]?=_;rw[show((-1:Int)+(cl.length:Int)).toNat=cl.length-1 by lia,bY,ez];rfl
  obtain⟨p,ep⟩:=xz (n/8000);obtain⟨C,eC⟩:=xz (jw cl);obtain⟨O,J⟩:=xz (encC c);rw[<-eC] at o X N⊢;obtain⟨b,g⟩:=xz ([.v C,.v (.int n),.v (.int a),.v (.int p),.v O,.v (.int (n%8))]:En);have r:aj 0 b=.ok (jw cl):=by rw[g,<-eC];rfl
  have y:aj 0 b=.ok C:=by simp_all
  have r2:aj 2 b=.ok (.int a):=by rw[g];rfl
  have v2:ag 2 b=.ok (.int a):=by rw[g];rfl
  have S:aj 3 b=.ok (.int p):=by rw[g];rfl
  have j:aj 4 b=.ok (encC c):=by rw[g,<-J];rfl
  have Z:ag 4 b=.ok (encC c):=by rw[g,<-J];rfl
  have r5:aj 5 b=.ok (.int (n%8)):=by rw[g];rfl
  have pa:dV (ag 2) b=.ok (some (a:Int)):=by simp only[dV,v2,R.aq,xG,R.aF]
  have bg:dV (m2 bO (aj 2) (mC (.int 1))) b=.ok (some ((a:Int)+1)):=by simp only[dV,fk,r2,mC,R.aq,wo,xG,R.aF]
  have pn:dV (m1 gh (mC (.int 1))) b=.ok (some (-1)):=by rfl
  obtain⟨A,lA,K⟩:=Ef r (show cC b=.ok none from rfl) pa;obtain⟨B,u,s⟩:=Ef r bg (show cC b=.ok none from rfl);obtain⟨G,T,sG⟩:=Ef r pa (show cC b=.ok none from rfl);obtain⟨M,lM,sM⟩:=Ef r bg pn;have h:∀k:Int,bf (m2 oEq (aj 5) (mC (.int k))) b=.ok (decide (n%8=k)):=fun k=>by simp only[bf,fk,r5,mC,R.aq,xF,R.aF,uv]
  have i:∀{e:En->R D}{x:List Int},e b=.ok (encC x)->∀{f:En->R D}{Y:List (List Int)},f b=.ok (jw Y)->Y.length<=cl.length->∃l:List (List Int),m2 cW (m2 cW (gj (aj 0) cC (dV (ag 2))) (bC (ai e af))) f b=.ok (jw l):=fun he f Y hf hY=>⟨_,rM (rM K (yC he) (by simp;lia)) hf (by simp;lia)⟩;have q1:az (m2 oMod (m2 oDiv (aj 1) (mC (.int 8))) (aT aJ (ai (aj 0) af))) (aQ 2) [.v C,.v (.int n),.no,.no,.no,.no]=.nx [.v C,.v (.int n),.v (.int a),.no,.no,.no]:=ew (d:=.int a) (by simp[aj,mC,aT,ai,af,mU,f8,o,iy E,ea]) rfl;have q2:az (m2 oDiv (aj 1) (mC (.int 8000))) (aQ 3) [.v C,.v (.int n),.v (.int a),.no,.no,.no]=.nx [.v C,.v (.int n),.v (.int a),.v (.int p),.no,.no]:=ew (d:=.int p) (by simp[aj,mC,mU,L,ep]) rfl;have q3:az (m2 aO (aj 0) (aj 2)) (aQ 4) [.v C,.v (.int n),.v (.int a),.v (.int p),.no,.no]=.nx [.v C,.v (.int n),.v (.int a),.v (.int p),.v O,.no]:=ew (d:=O) (by simp[aj,X,J]) rfl;have q4:az (m2 oMod (aj 1) (mC (.int 8))) (aQ 5) [.v C,.v (.int n),.v (.int a),.v (.int p),.v O,.no]=.nx b:=ew (d:=.int (n%8)) (by simp[aj,mC,iy]) (by rw[g];rfl);have H:RO OR [.v C,.v (.int n),.no,.no,.no,.no]:=by
    refine .seq q1 (.seq q2 (.seq q3 (.seq q4 ?_)));refine .if' (h 0) (fun _=>⟨_,rM K s (by lia)⟩) ?_;refine .if' (h 1) (fun _=>i Z sG T) ?_;refine .if' (h 2) (fun _=>⟨_,rM (rM (rM K (yC (c:=z) (by simp only[fk,vd,y,mC,R.aq,za,R.aF,N])) (by simp;lia)) sM (by simp;lia)) (yC Z) (by simp;lia)⟩) ?_;refine .if' (h 3) (fun _=>i (Qk j) s u) ?_;refine .if' (h 4) (fun _=>i (x:=c++[p%3]) ?_ s u) ?_;.have t:=Cd (m:=m2 oMod (aj 3) (mC (.int 3))) (δ:=b) (d:=.int (p%3)) (by simp only[fk,S,mC,R.aq,iy (show(0:Int)<3 by decide),R.aF]);rw[fk,j,R.aq,t,R.aq,Ce (by lia)];rfl
    have t5:k_ (bf (m2 oEq (aj 5) (mC (.int 5)))) (bf (m2 qY (aT aJ (ai (aj 4) af)) (mC (.int 0)))) b=.ok (decide (n%8=5)&&decide (0<c.length)):=by
      have:bf (m2 qY (aT aJ (ai (aj 4) af)) (mC (.int 0))) b=.ok (decide (0<c.length)):=by simp only[bf,fk,aT,ai,af,j,mC,R.aq,vI,R.aF,Mh,uv];congr 1;rw[l_];lia
      unfold k_;rw[h 5,R.aq,this];cases decide (n%8=5)<;>rfl
    refine .if' t5 (fun hb=>?_) ?_
    . have cp:0<c.length:=by have:=(jH _ _▸hb).2;exact of_decide_eq_true this
      obtain⟨l,w,e⟩:∃l w,c=l++[w]:=⟨c.dropLast,c.getLast (sP.mp cp),(vW _).symm⟩;have ix:e_ (encC c) (.int (-1))=some (.int w):=by rw[e];exact PU
      refine i (x:=c.dropLast++[w+1]) ?_ s u;have t:=Cd (m:=m2 bO (m2 e_ (aj 4) (m1 gh (mC (.int 1)))) (mC (.int 1))) (δ:=b) (d:=.int (w+1)) (by simp only[fk,vd,j,mC,R.aq,za,R.aF,ix,wo]);rw[fk,Qk j,R.aq,t,R.aq,Ce (by rw[List.length_dropLast];lia)];rfl
    refine .if' (h 6) (fun _=>?_) ⟨[],Cf (fi (show 0<=sizeLine by decide))⟩;have p0:=wH p (show(0:Int)<4 by decide);have p1:=wI p (show(0:Int)<4 by decide);obtain⟨m,em⟩:∃m:Nat,(m:Int)=p%4:=⟨(p%4).toNat,by lia⟩;have kk:OQ b=.ok (iL ((bz m).map fun _=>p/4%3)):=by
      have Q:=jS (show m<=1000 by lia);rw[em] at Q;have rg:bS (ai (m2 oMod (aj 3) (mC (.int 4))) af) b=.ok ((bz m).map .int):=by simp only[bS,ai,af,fk,S,mC,R.aq,iy (show(0:Int)<4 by decide),R.aF,Q]
      unfold iL;rw[cM];refine lh (l:=(bz m).map .int) rg (by rw[aN,fN];lia) ?_;have sd:c3 b [3] 1=[.v (.int p),.no]:=by rw[g];rfl
      rw[sd];refine qG .int _ _ fun k _=>?_;simp[jE,dC,aj,mC,mU,f4,iy]
    refine i (x:=(bz m).map fun _=>p/4%3) ?_ sG T;simp only[aT,ai,af,kk,R.aq];rfl
  obtain⟨l,hl⟩:=H;exact⟨l,oa hl⟩
theorem zqI(cl:List (List Int))(f:∀x∈cl,x.length<=100):D0 [jw cl]=.ok (.bl true):=by
 obtain⟨C,a⟩:=xz (jw cl);have h:jP "list" C=some (.bl true):=by rw[a];rfl
 obtain⟨c,k,o,rfl⟩:=kW (b:=aQ 1) (m:=OO) encC (fun _ c=>∃o,c=[.v C,sv o]) cl (by
  rintro j x e c d ⟨o,rfl⟩;have l:=f x (by simp_all);refine⟨[.v C,.v _],[.v C,.v (encC x)],kG rfl,.inl ?_,some _,rfl⟩;have g:ON [.v C,.v (encC x)]=.ok (.lst []):=by exact gW (lh (r:=(x.filter fun _=>false).map .int) rfl (by rw[aN];omega) (Bm _ _ _ fun y _=>rfl)) (by simp)
  refine(bB rfl).trans ((kH ?_).trans rfl);simp[bf,aT,ai,af,g,mC]) _ ⟨none,rfl⟩;rw[<-a];refine gO ?_;have i:jn (bf (m1 (jP "list") (aj 0))) [.v C,.no]=.ok false:=by simp[jn,bf,aj,h]
 exact(bB ((kH i).trans rfl)).trans ((bB ((kU (by rw[a];rfl)).trans k)).trans rfl)
def ub(g:gU->List Int->gU×List (List Int)):List (List Int)->gU->gU×List (List Int) |[],b=>(b,[]) |k::c,b=>((ub g c (g b k).1).1,(g b k).2++(ub g c (g b k).1).2)
def gk(q:Qs):Nat->gU->List Int->gU×List (List Int) |0,b,_=>(b,[]) |n+1,b,c=>if jb q b c=true then(nb q b c,[c]) else ub (gk q n) (eF q c) b
theorem Ql:∀(ks:List (List Int))(b:gU)(m:Nat)(r:Rn),(∀k∈ks,∀(b:gU)(W:List (List Int))(m:Nat)(r:Rn),run q m b (k::W)=some r->∃m' a,run q m' (g b k).1 W=some a/\r.cl=(g b k).2++a.cl/\r.b=a.b)->run q m b (ks++W)=some r->∃m' a,run q m' (ub g ks b).1 W=some a/\r.cl=(ub g ks b).2++a.cl/\r.b=a.b |[],b,m,r,_,h=>⟨m,r,h,rfl,rfl⟩ |k::ks,b,m,r,d,h=>by obtain⟨m1,p,j,f,l⟩:=d k (by simp) b _ m r h;obtain⟨m2,s,e,o,n⟩:=Ql ks _ _ _ (fun x i=>d x (by simp[i])) j;exact⟨_,_,e,by rw[f,o];exact(nF _ _ _).symm,l.trans n⟩
theorem Qm(h:Walk q Ok):∀(n:Nat)(c:List Int),Ok c->q.st-c.length+1<=n->∀(b:gU)(W:List (List Int))(m:Nat)(r:Rn),run q m b (c::W)=some r->∃m' f,run q m' (gk q n b c).1 W=some f/\r.cl=(gk q n b c).2++f.cl/\r.b=f.b
  |0,c,_,l,_,_,_,_,_=>by lia |n+1,c,i,l,b,W,m,r,g=>by
    obtain⟨m1,w,rfl,a,rfl⟩:=wK g;unfold gk;have B:=h.len c i;by_cases e:jb q b c=true;.rw[ao e];unfold nk at a;rw[ao e] at a;exact⟨_,_,a,by unfold jZ;simp_all,rfl⟩
    . rw[ak e];have y:c.length≠q.st:=fun z=>e (by unfold jb;simp[z]);have s:nb q b c=b:=by unfold nb;simp_all
      have t:nk q b c=eF q c:=by unfold nk;rw[ak e];rfl
      have A:jZ q b c=[]:=by unfold jZ;simp_all
      rw[s,t] at a;have u:c.length<q.st:=by lia
      obtain⟨m2,x,v,C,p⟩:=Ql _ b _ _ (fun k o b W m r g=>by have j:=h.uH i u o;exact Qm h n k j.1 (by lia) b W m r g) a;exact⟨_,_,v,by simp_all,p⟩
abbrev uc(b:gU)(cl:List (List Int)):Kp:=(d_ b,dF b,cl.map encC)
theorem Qn:∀(ws:List Int)(b:gU)(cl:List (List Int)),(∀w∈ws,∀(b:gU)(cl:List (List Int)),cl.length+(gk Q n b (c++[w])).2.length<=10000->lk t8 t9 q s n ((c++[w]).map .int) (uc b cl)=.ok (uc (gk Q n b (c++[w])).1 (cl++(gk Q n b (c++[w])).2)))-> cl.length+(ub (gk Q n) (ws.map fun w=>c++[w]) b).2.length<=10000->x9 (lk t8 t9 q s n) (c.map .int) (ws.map .int) (uc b cl)=.ok (uc (ub (gk Q n) (ws.map fun w=>c++[w]) b).1 (cl++(ub (gk Q n) (ws.map fun w=>c++[w]) b).2)) |[],b,cl,_,_=>by show R.ok _=R.ok (uc b (cl++[]));simp |w::ws,b,cl,e,d=>by have h:ub _ ((w::ws).map fun w=>c++[w]) b=((ub _ _ _).1,(gk Q n b _).2++(ub _ _ _).2):=rfl;rw[h] at d⊢;simp[gX] at d;have g:=e w (by simp) b cl (by lia);have i:=Qn ws (gk Q n b (c++[w])).1 (cl++(gk Q n b (c++[w])).2) (fun x f=>e x (by simp[f])) (by grind);show(lk _ _ q s n _ _).bind _=_;rw[show c.map D.int++[.int w]=(c++[w]).map .int by simp,g,R.aq,i,nF]
theorem Qo(h:oJ q Q Ok):∀(n:Nat)(c:List Int)(b:gU)(cl:List (List Int)),Ok c->Q.st-c.length+1<=n->cl.length+(gk Q n b c).2.length<=10000->lk t8 t9 q Q.st n (c.map .int) (uc b cl)=.ok (uc (gk Q n b c).1 (cl++(gk Q n b c).2))
  |0,c,_,_,_,m,_=>by lia |n+1,c,b,cl,a,m,f=>by
    have o:t8 (PM.r9 q (c.map .int) Q.st .no)=.ok (.int (Q.low c)):=h.low c 0 (ag 1) (PM.r9 q (c.map .int) Q.st .no) a rfl rfl;have y:=h.len c a;have u:=h.pT;have v:BO (dF b) (Q.low c)=some (uF Q b c):=by cases b with |none=>rfl |some p=>rfl
    have r:(cl.map encC).length<sizeLine↔True:=⟨fun _=>trivial,fun _=>by rw[aN,dP];lia⟩;unfold lk;rw[o,R.aq];dsimp only;rw[v];unfold gk at f⊢;have d:(cl++[c]).map encC=cl.map encC++[.tup (c.map .int)]:=by rw[gZ];rfl
    cases z:uF Q b c with |true=>
      have e:jb Q b c=true:=by unfold jb;simp_all
      rw[ao e];show cN ((cl.map encC).length<sizeLine) _ _=_;show _=R.ok (uc (nb Q b c) (cl++[c]));unfold nb uc;simp_all |false=>
      dsimp only;by_cases i:c.length=Q.st
      . have e:jb Q b c=true:=by unfold jb;simp[i]
        rw[ao e,ao (by simp_all),fi (r.mpr trivial)];unfold nb uc;rw[ak (by grind),ao i,d];rfl
      . have e:¬jb Q b c=true:=by unfold jb;simp_all
        rw[ak e] at f⊢;have j:c.length<Q.st:=by lia
        have wy:=h.yr c 0 (ag 1) (PM.r9 q (c.map .int) Q.st .no) a j rfl rfl;have t:t9 (PM.r9 q (c.map .int) Q.st .no)=.ok ((Q.wy c).map .int):=by show cK (aT ni (ai (IF 0 (ag 1)) af)) _=_;simp only[cK,aT,ai,af,wy,R.aq];rfl
        rw[ak (by rw[aN];lia),fi (by rw[aN,dP];lia),t,R.aq];exact Qn (Q.wy c) b cl (fun w x b cl s=>by have l:=h.toWalk.uH a j (k:=c++[w]) (hI.mpr ⟨w,x,rfl⟩);exact Qo h n (c++[w]) b cl l.1 (by lia) s) f
theorem zvF(h:oJ q Q Ok)(d:run Q 2000 none [[]]=some r):lk t8 t9 q Q.st 8 [] (.non,.non,[])=.ok (uc r.b r.cl):=by
 have i:=h.pT;obtain⟨m,j,f,b,e⟩:=Qm h.toWalk 8 _ h.nil (by lia) _ _ _ r d;have g:j=⟨(gk Q 8 none []).1,[],[]⟩:=by unfold run at f;simp_all
 rw[g] at b e;rw[dN] at b;have c:=IH d;have v:=ID d;have:=Qo h 8 _ none [] h.nil (by lia) (by grind);rw[<-b,<-(show r.b=(gk Q 8 _ _).1 from e)] at this;exact this
theorem IT:gg (.int 10) (.int 12)=some (.int 1000000000000):=Bj ⟨by decide,by decide,by decide⟩
theorem IU(c n:Int):∃p:Int,(0<=p/\p<=1000000000000000000)/\uz [.int c,.int n]=.ok (.int p):=by
  have a:eI 5:=c_ 1000 (by decide);by_cases d:n%5=0;.exact⟨n/5%4,by lia,by simp[uz,bF,mR,BS,av,bj,bf,aH,aj,mC,az,aQ,iy,mU,a,d]⟩
  . by_cases b:n%5=1;.exact⟨c%1000000000000000001,by lia,by simp[uz,bF,mR,BS,av,bj,bf,aH,aj,mC,dq,az,aQ,iy,mU,a,D5,b]⟩
    . by_cases e:n%5=2;.exact⟨1000000000000000000-n/5%3,by lia,by simp[uz,bF,mR,BS,av,bj,bf,aH,aj,mC,dq,az,aQ,iy,mU,a,D5,e]⟩
      .exact⟨n/5%30,by lia,by simp[uz,bF,mR,BS,av,bj,bf,aH,aj,mC,dq,az,aQ,iy,mU,a,d,b,e]⟩
theorem zyJ(cs:List Int)(n:Nat)(hn:n<=8)(Qp:cs.length<=63):∃sets:List Ps,Hi [iL cs,.int n]=.ok (bu sets)/\(∀s∈sets,Good n s)/\sets.length=cs.length+1/\∀t∈fQ n,∃s∈sets,t∈s.2:=by
  have X:eI 16:=c_ 2000 (by decide);have L:eI 1024:=c_ 2000 (by decide);obtain⟨N,h1,S,u,r,q,w,rfl,Z,K⟩:=kW (b:=dZ 2 (fA (aQ 3) (fA (aQ 4) eL))) (m:=Hf) (fun p:Int×Nat=>D.tup [.int (p.2:Int),.int p.1]) (fun a N=>∃(S:List Ps) (u r q w:Option D),N=[.v (iL cs),.v (.int n),.o (bu S),sv u,sv r,sv q,sv w,.no,.no,.no]/\S.length=a.length/\∀s∈S,Good n s) cs.zipIdx (by
      rintro a ⟨c,k⟩ Q N x ⟨S,u,r,q,w,rfl,hl,hg⟩;obtain⟨z1,z2,z3⟩:=Gn x;dsimp only at z1 z2 z3;have hk:k<cs.length:=(b_.mp z2).1;have nm:=B7 c (k:Int) (by lia) (by lia);obtain⟨y,U⟩:=xz (num c k/16);obtain⟨B,M⟩:=xz ((fQ n).filter fun t=>decide (y/2^t.toNat%2=1):List Int);obtain⟨p,⟨p0,p1⟩,hp⟩:=IU c (y/1024);have q1:az (m2 oDiv (bw t7 (ai (ag 4) (ai (ag 3) af))) (mC (.int 16))) (aQ 5) [.v (iL cs),.v (.int n),.o (bu S),.v (.int k),.v (.int c),sv q,sv w,.no,.no,.no]=.nx [.v (iL cs),.v (.int n),.o (bu S),.v (.int k),.v (.int c),.v (.int y),sv w,.no,.no,.no]:=by refine ew (d:=.int y) ?_ (kG rfl);simp[bw,ai,af,ag,mC,nm,mU,X,U]
      have k1:He [.v (iL cs),.v (.int n),.o (bu S),.v (.int k),.v (.int c),.v (.int y),sv w,.no,.no,.no]=.ok (iL B):=by
        refine lh (l:=(fQ n).map .int) (by simp[bS,ai,af,ag,yi (show n<=1000 by lia)]) (by rw[aN,H_];lia) ?_;rw[M];refine Bm .int _ _ fun t A=>?_;have ht':=cw.mp A;have sh:=Zk (t:=t) (by lia) (by lia);rw[Int.one_mul] at sh;have p2:(0:Int)<2^t.toNat:=Int.pow_pos (by decide);have f:eI (2^t.toNat:Int):=by refine c_ (2^40) ?_;rw[Int.natAbs_pow];exact Nat.pow_le_pow_right (by decide) (by lia)
        have dv:=mU (i:=y) p2 f;simp only[jE,c3,nY,dC,bf,ag,aj,mC,fk];simp[sh,dv,iy];by_cases Y:y/2^t.toNat%2=1<;>simp[dv,iy,Y]
      have q2:az He (aQ 6) [.v (iL cs),.v (.int n),.o (bu S),.v (.int k),.v (.int c),.v (.int y),sv w,.no,.no,.no]=.nx [.v (iL cs),.v (.int n),.o (bu S),.v (.int k),.v (.int c),.v (.int y),.v (iL B),.no,.no,.no]:=ew k1 (kG rfl);have q3:qD 2 (cf (ai (bw uz (ai (ag 4) (ai (m2 oDiv (aj 5) (mC (.int 1024))) af))) (ai (ag 6) af))) [.v (iL cs),.v (.int n),.o (bu S),.v (.int k),.v (.int c),.v (.int y),.v (iL B),.no,.no,.no]=.nx [.v (iL cs),.v (.int n),.o (bu (S++[(p,B)])),.v (.int k),.v (.int c),.v (.int y),.v (iL B),.no,.no,.no]:=by refine(B6 (l:=S.map fc) (d:=fc (p,B)) rfl (by simp[cf,bw,ai,af,ag,aj,mC,mU,L,hp,fc,sizeLine]) (by grind)).trans ?_;simp[bu]
      refine⟨[.v (iL cs),.v (.int n),.o (bu S),.v (.int k),.v (.int c),sv q,sv w,.no,.no,.no],[.v (iL cs),.v (.int n),.o (bu (S++[(p,B)])),.v (.int k),.v (.int c),.v (.int y),.v (iL B),.no,.no,.no],?_,.inl ?_,S++[(p,B)],some _,some _,some _,some _,rfl,by simp[hl],fun s H=>?_⟩;.rcases u with _|u<;>rcases r with _|r<;>rfl
      .unfold Hf;exact(bB q1).trans ((bB q2).trans q3)
      . rcases cO.mp H with z|z;.simp_all
        .rw[cY.mp z];refine⟨p0,p1,by rw[M];exact(O1 n).filter _,fun t A=>?_⟩;rw[M] at A;exact cw.mp (hG.mp A).1) [.v (iL cs),.v (.int n),.o (bu []),.no,.no,.no,.no,.no,.no,.no] ⟨[],none,none,none,none,rfl,rfl,fun s H=>by cases H⟩;have sl:S.length=cs.length:=by rw[Z];simp
  have T:fY n S:=⟨K,by lia,by lia⟩;obtain⟨oG,h2,E,I,C,rfl⟩:=kW (b:=dZ 2 (fA (aQ 8) (fA (aQ 6) eL))) (m:=Hg) fc (fun a N=>∃E I C,N=[.v (iL cs),.v (.int n),.l (bu S),sv u,sv r,sv q,sv E,.o (dk (d7 [] (things a))),sv I,sv C]) S (by
      rintro a s Q N x ⟨E,I,C,rfl⟩;have H:s∈S:=by rw[x];simp
      have g:=T.good s H;obtain⟨o',h⟩:=D9 (i:=9) (j:=7) (by decide) T.n1 s.2 [.v (iL cs),.v (.int n),.l (bu S),sv u,sv r,sv q,.v (iL s.2),.o (dk (d7 [] (things a))),.v (.int s.1),sv C] (d7 [] (things a)) C rfl rfl (zL (by simp)) (fun t A=>by
          rcases bV.mp A with z|z;.cases z
          .obtain⟨s',hs',h'⟩:=nK.mp z;exact cw.mpr ((T.good s' (by rw[x];exact lL _ hs')).mem t h')) (fun t A=>cw.mpr (g.mem t A));refine⟨[.v (iL cs),.v (.int n),.l (bu S),sv u,sv r,sv q,.v (iL s.2),.o (dk (d7 [] (things a))),.v (.int s.1),sv C],[.v (iL cs),.v (.int n),.l (bu S),sv u,sv r,sv q,.v (iL s.2),.o (dk (d7 (d7 [] (things a)) s.2)),.v (.int s.1),sv o'],?_,.inl ?_,some (iL s.2),some (.int s.1),o',?_⟩;.rcases E with _|E<;>rcases I with _|I<;>rfl
      .unfold Hg NV NU;exact(kU (by simp[cK,ag])).trans h
      . rw[<-D8];have e:things (a++[s])=things a++s.2:=by simp[things]
        rw[e];rfl) [.v (iL cs),.v (.int n),.l (bu S),sv u,sv r,sv q,sv w,.o (dk []),.no,.no] ⟨w,none,none,rfl⟩;have l3:Hh [.v (iL cs),.v (.int n),.o (bu S),sv u,sv r,sv q,sv w,.o (dk []),.no,.no]=.nx [.v (iL cs),.v (.int n),.o (bu S),sv u,sv r,sv q,sv E,.o (dk (d7 [] (things S))),sv I,sv C]:=by unfold Hh C';show xr 2 (iS _ _ (S.map fc) [.v (iL cs),.v (.int n),.l (bu S),sv u,sv r,sv q,sv w,.o (dk []),.no,.no])=_;rw[h2];rfl
  obtain⟨G,J⟩:=xz ((fQ n).filter fun t=>!decide (t∈d7 [] (things S)));have k2:DM [.v (iL cs),.v (.int n),.o (bu S),sv u,sv r,sv q,sv E,.o (dk (d7 [] (things S))),sv I,sv C]=.ok (iL G):=by refine lh (l:=(fQ n).map .int) (by simp[bS,ai,af,ag,yi T.n1]) (by rw[aN,H_];lia) ?_;rw[J];refine Bm .int _ _ fun t _=>?_;simp[jE,c3,nY,dC,bf,ag,aj];by_cases Y:t∈d7 [] (things S)<;>simp[Y]
  refine⟨S++[(7,G)],oa ?_,fun s H=>?_,by simp[sl],fun t A=>?_⟩
  . show av _ _ [.v (iL cs),.v (.int n),.no,.no,.no,.no,.no,.no,.no,.no]=_;have e1:az (bC af) (cZ 2) [.v (iL cs),.v (.int n),.no,.no,.no,.no,.no,.no,.no,.no]=.nx [.v (iL cs),.v (.int n),.o (bu []),.no,.no,.no,.no,.no,.no,.no]:=ew (d:=bu []) (by simp[bC,af,bu,sizeLine]) rfl;have e2:NT [.v (iL cs),.v (.int n),.o (bu []),.no,.no,.no,.no,.no,.no,.no]=.nx [.v (iL cs),.v (.int n),.o (bu S),sv u,sv r,sv q,sv w,.no,.no,.no]:=(kU (by simp[rY,ai,af,ag,iL,vi,qW,Bl,oO])).trans h1;have e3:az (mC (.dc [] [])) (cZ 7) [.v (iL cs),.v (.int n),.o (bu S),sv u,sv r,sv q,sv w,.no,.no,.no]=.nx [.v (iL cs),.v (.int n),.o (bu S),sv u,sv r,sv q,sv w,.o (dk []),.no,.no]:=rfl;refine(bB e1).trans ((bB e2).trans ((bB e3).trans ((bB l3).trans ?_)));have ct:cW (.lst (S.map fc)) (.lst [fc (7,G)])=some (bu (S++[(7,G)])):=by rw[Mn (by simp;lia)];simp[bu]
    have ls:bC (ai (cf (ai (mC (.int 7)) (ai DM af))) af) [.v (iL cs),.v (.int n),.o (bu S),sv u,sv r,sv q,sv E,.o (dk (d7 [] (things S))),sv I,sv C]=.ok (.lst [fc (7,G)]):=by simp[bC,cf,ai,af,mC,k2,sizeLine,fc]
    have:m2 cW (aj 2) (bC (ai (cf (ai (mC (.int 7)) (ai DM af))) af)) [.v (iL cs),.v (.int n),.o (bu S),sv u,sv r,sv q,sv E,.o (dk (d7 [] (things S))),sv I,sv C]=.ok (bu (S++[(7,G)])):=by rw[fk,ls];show((R.ok (D.lst (S.map fc))).bind _)=_;rw[R.aq,R.aq,ct];rfl
    unfold ft;rw[this];rfl
  . rcases cO.mp H with z|z;.exact K s z
    .rw[cY.mp z];refine⟨show(0:Int)<=7 by decide,show(7:Int)<=1000000000000000000 by decide,by rw[J];exact(O1 n).filter _,fun t A=>?_⟩;rw[J] at A;exact cw.mp (hG.mp A).1
  . by_cases z:t∈d7 [] (things S)
    . rcases bV.mp z with z|z;.cases z
      .obtain⟨s,H,h⟩:=nK.mp z;exact⟨s,by simp[H],h⟩
    .exact⟨(7,G),by simp,by rw[J];exact hG.mpr ⟨A,by simpa using z⟩⟩
theorem zxA(c:Int)(k0:0<=k)(k1:k<=1000):∃s:Int,(0<=s/\s<=10000000000000000000)/\DO [.int c,.int k]=.ok (.int s):=by
 have d:=B7 c k k0 k1;have i:=O2 c k;have h:num c k<2147483647:=j_ _ (by decide);have a:eI k:=c_ 2000 (by lia);have f:eI (num c k):=c_ (10^30) (by lia);have b:eI 2147483629:=c_ (10^30) (by decide);have g:eI 11:=c_ 100 (by decide);refine⟨num c k*2147483629+11*k,by lia,gO ?_⟩;show aH _ [.v _,.v _]=_;have e:bw t7 (ai (ag 0) (ai (ag 1) af)) [.v (.int c),.v (.int k)]=.ok (.int (num c k)):=by simp[bw,ai,af,ag,d]
 simp only[aH,fk,e,aj,mC,List.getElem?_cons_succ,List.getElem?_cons_zero,R.aq,xE f b,xE g a,R.aF];rfl
theorem Cg(h0:0<=k)(h1:k<l.length):aO (iL l) (.int k)=some (.int (l.getD k.toNat 0)):=by show hV _ k=_;unfold hV iv;simp_all
theorem Qq(f:0<=a)(h:a<S.length)(c:0<=b)(e:b<S.length)(d:0<top):zv [iL S,.int a,.int b,.int top]=.ok (.int ((S.getD a.toNat 0%top-S.getD b.toNat 0%top).natAbs:Int)):=by have g:=Cg f h;have i:=Cg c e;refine gO ?_;show aH _ [.v _,.v _,.v _,.v _]=_;simp only[aH,aT,ai,af,fk,aj,List.getElem?_cons_succ,List.getElem?_cons_zero,R.aq,g,i,R.aF,iy d,Dq,zzC];rfl
def dA(a:Bool)(top:Int)(p q:Int->Int)(w:Int->Int->Int)(x y:Int):Int:= if a=true then(if x=y then 0 else if y<x then top+w x y else top+w y x) else((p x-p y).natAbs:Int)+((q x-q y).natAbs:Int)
theorem zAD{n:Nat}{d:Bool}{top:Int}{w:Int->Int->Int}(i:0<top)(e:∀x:Int,0<=p x/\p x<top)(g:∀x:Int,0<=q x/\q x<top)(f:∀x y:Int,0<=w x y/\w x y<=top):i0 n (2*top) (dA d top p q w):=by
  unfold dA;refine⟨fun a b _ _ _ _=>?_,fun a _ _=>?_,fun a b _ _ _ _=>?_,fun a b c _ _ _ _ _ _=>?_⟩;.have:=e a;have:=e b;have:=g a;have:=g b;have:=f a b;have:=f b a;lia
  .simp
  .cases d;.simp;omega
   .grind
  . cases d;.simp;omega
    .grind
def part(d:Int->Int->Int)(a b:Int)(x y:Int):Int:=if(x<a/\y<a)\/(x=a/\y<b)\/(y=a/\x<b) then d x y else 0
theorem zqJ(ns:List Int)(h63:ns.length<=63)(hn1:1<=n)(hn:n<=9):∃d:Int->Int->Int,i0 n 800000000000000000 d/\DQ [.cB ns,.int n]=.ok (bP (bq n d)):=by
  obtain⟨c,ec⟩:=xz (ns.getD 0 0%1000000000000);have c0:0<=c:=by omega
  have hc:ny [.cB ns,.int 0]=.ok (.int (ns.getD 0 0)):=HY ns 0;have IT:gg (.int 10) (.int 12)=some (.int 1000000000000):=Bj ⟨by decide,by decide,by decide⟩;have p17:gg (.int 10) (.int 17)=some (.int 100000000000000000):=Bj ⟨by decide,by decide,by decide⟩;have f2:eI 2:=c_ 10 (by decide);have f4:eI 4:=c_ 10 (by decide);have f17:eI 100000000000000000:=c_ (10^17) (by decide);have f31:eI 31:=c_ 100 (by decide);have fn:eI (n:Int):=c_ 100 (by omega);obtain⟨f,⟨X,t1⟩,Z⟩:∃f:Int,(0<f/\f<=400000000000000000)/\aO (.lst [.int 5,.int 50,.int 400000000000000000]) (.int (c/2%3))=some (.int f):=by
    have h0:0<=c/2%3:=j' _ (by decide);have T:c/2%3<3:=j_ _ (by decide);rcases(show c/2%3=0\/c/2%3=1\/c/2%3=2 by omega) with e|e|e<;>rw[e];.exact⟨5,by decide,rfl⟩
    .exact⟨50,by decide,rfl⟩
    .exact⟨400000000000000000,by decide,rfl⟩
  obtain⟨C,eC⟩:=xz (ns.drop 1++[c]);have Cl:0<C.length:=by rw[eC];simp
  obtain⟨F,hF⟩:=Classical.axiomOfChoice (r:=fun(k:Nat) (s:Int)=>k<=1000->(0<=s/\s<=10000000000000000000)/\DO [.int (C.getD (k%C.length) 0),.int k]=.ok (.int s)) (fun k=>by
    by_cases hk:k<=1000;.obtain⟨s,a,b⟩:=zxA (C.getD (k%C.length) 0) (k:=k) (by lia) (by lia);exact⟨s,fun _=>⟨a,b⟩⟩
    .exact⟨0,fun z=>absurd z hk⟩);obtain⟨S,eS⟩:=xz ((List.range (2*n)).map F);have Sl:S.length=2*n:=by rw[eS];simp
  have Sg:∀k:Int,0<=k->k<2*n->S.getD k.toNat 0=F k.toNat:=fun k k0 k1=>by rw[eS,du,bY,List.getElem?_range (by omega)];rfl
  obtain⟨d,ed⟩:=xz (dA (decide (c%2=1)) f (fun x=>F x.toNat%f) (fun x=>F (n+x).toNat%f) (fun x y=>(F y.toNat+31*F (n+x).toNat)%(f+1)));have Q:i0 n (2*f) d:=by rw[ed];exact zAD X (fun x=>⟨j' _ (by omega),j_ _ X⟩) (fun x=>⟨j' _ (by omega),j_ _ X⟩) fun x y=>⟨j' _ (by lia),by have:=j_ (F y.toNat+31*F (n+x).toNat) (show 0<f+1 by lia);lia⟩
  refine⟨d,⟨fun a b B J I b1=>by have:=Q.nn a b B J I b1;omega,Q.self,Q.sym,Q.Pd⟩,oa ?_⟩;have rn:=jS (show n<=1000 by omega);show av _ _ [.v (.cB ns),.v (.int n),.no,.no,.no,.no,.no,.no,.no,.no,.no]=_;have q1:az (m2 oMod (bw ny (ai (ag 0) (ai (mC (.int 0)) af))) (m2 gg (mC (.int 10)) (mC (.int 12)))) (aQ 2) [.v (.cB ns),.v (.int n),.no,.no,.no,.no,.no,.no,.no,.no,.no]=.nx [.v (.cB ns),.v (.int n),.v (.int c),.no,.no,.no,.no,.no,.no,.no,.no]:=ew (d:=.int c) (by simp[bw,ai,af,ag,mC,hc,IT,iy,ec]) rfl;have q2:az (m2 aO (bC (ai (mC (.int 5)) (ai (mC (.int 50)) (ai (m2 iU (mC (.int 4)) (m2 gg (mC (.int 10)) (mC (.int 17)))) af)))) (m2 oMod (m2 oDiv (aj 2) (mC (.int 2))) (mC (.int 3)))) (aQ 3) [.v (.cB ns),.v (.int n),.v (.int c),.no,.no,.no,.no,.no,.no,.no,.no]=.nx [.v (.cB ns),.v (.int n),.v (.int c),.v (.int f),.no,.no,.no,.no,.no,.no,.no]:=ew (d:=.int f) (by simp[bC,ai,af,aj,mC,sizeLine,p17,xE f4 f17,iy,mU,f2,Z]) rfl;have q3:az (m2 cW (gj (aj 0) (dV (mC (.int 1))) cC) (bC (ai (ag 2) af))) (aQ 4) [.v (.cB ns),.v (.int n),.v (.int c),.v (.int f),.no,.no,.no,.no,.no,.no,.no]=.nx [.v (.cB ns),.v (.int n),.v (.int c),.v (.int f),.v (iL C),.no,.no,.no,.no,.no,.no]:=by
    refine ew (d:=iL C) ?_ rfl;have cd:cutD (ns.map D.int) (some 1) none=(ns.drop 1).map .int:=by cases ns with |nil=>rfl |cons a r=> have:=Mm (l:=(a::r).map D.int) (k:=1) (by simp);rw[<-List.map_drop] at this;exact this
    have s1:gj (aj 0) (dV (mC (.int 1))) cC [.v (.cB ns),.v (.int n),.v (.int c),.v (.int f),.no,.no,.no,.no,.no,.no,.no]=.ok (iL (ns.drop 1)):=by simp[gj,aj,cC,dV,mC,vf,iL,cd]
    have s2:bC (ai (ag 2) af) [.v (.cB ns),.v (.int n),.v (.int c),.v (.int f),.no,.no,.no,.no,.no,.no,.no]=.ok (iL [c]):=by simp[bC,ai,af,ag,sizeLine,iL]
    have ct:cW (iL (ns.drop 1)) (iL [c])=some (iL C):=by rw[eC];unfold cW iL;simp only;rw[fi (by rw[aN,aN,nJ];exact bI (show ns.length-1+1<=100 by omega) (by decide)),gZ]
    rw[fk,s1,R.aq,s2,R.aq,ct];rfl
  have q4:az Od (aQ 5) [.v (.cB ns),.v (.int n),.v (.int c),.v (.int f),.v (iL C),.no,.no,.no,.no,.no,.no]=.nx [.v (.cB ns),.v (.int n),.v (.int c),.v (.int f),.v (iL C),.v (iL S),.no,.no,.no,.no,.no]:=by
    refine ew (d:=iL S) ?_ rfl;have r2:=jS (show 2*n<=1000 by lia);unfold iL;rw[eS,cM];refine lh (l:=(List.range (2*n)).map fun k:Nat=>.int k) ?_ (by simp;omega) ?_;.simp only[bS,ai,af,fk,aj,mC,List.getElem?_cons_succ,List.getElem?_cons_zero,R.aq,xE f2 fn,R.aF];rw[show(2:Int)*n=((2*n:Nat):Int) by omega];refine(c7 R.of r2).trans ?_;unfold bz;rw[cM];rfl
    . have s:c3 [.v (.cB ns),.v (.int n),.v (.int c),.v (.int f),.v (iL C),.no,.no,.no,.no,.no,.no] [4] 1=[.v (iL C),.no]:=rfl;unfold iL at s;rw[s];refine qG (fun k:Nat=>.int k) _ _ fun k hk=>?_;have kl:=iE.mp hk;have h:=(hF k (by lia)).2;have m0:(0:Int)<=(k:Int)%(C.length:Int):=j' _ (by lia);have m1:(k:Int)%(C.length:Int)<(C.length:Int):=j_ _ (by omega);have ix:=Cg (l:=C) m0 m1;have et:((k:Int)%(C.length:Int)).toNat=k%C.length:=by rw[<-Int.natCast_emod];rfl
      rw[et] at ix;unfold iL at ix;have lC:aJ [D.lst (C.map D.int)]=some (.int C.length):=by unfold aJ;simp
      have om:oMod (.int k) (.int C.length)=some (.int ((k:Int)%(C.length:Int))):=iy (by omega);have b:dC 1 (.int k) [.v (.lst (C.map .int)),.no]=some [.v (.lst (C.map .int)),.v (.int k)]:=rfl;simp only[jE,b,bw,ai,af,ag,fk,aj,aT,List.getElem?_cons_succ,List.getElem?_cons_zero,R.aq,lC,R.aF,om,ix,h,R.bA];rfl
  have k3:DP [.v (.cB ns),.v (.int n),.v (.int c),.v (.int f),.v (iL C),.v (iL S),.no,.no,.no,.no,.no]=.ok (bq n fun _ _=>0):=by
    unfold DP zg;have r:bS (ai (ag 1) af) [.v (.cB ns),.v (.int n),.v (.int c),.v (.int f),.v (iL C),.v (iL S),.no,.no,.no,.no,.no]=.ok ((bz n).map .int):=by simp[bS,ai,af,ag,rn]
    rw[r,R.aq,fi (by rw[aN,fN];exact bI hn (by decide))];have g:rm (vw (dC 1) HD (c3 [.v (.cB ns),.v (.int n),.v (.int c),.v (.int f),.v (iL C),.v (iL S),.no,.no,.no,.no,.no] [1] 1)) ((bz n).map .int)=.ok ((bz n).map fun _=>(bz n).map fun _=>(0:Int)):=by
      refine Px .int _ _ fun a _=>?_;have k1:HD [.v (.int n),.v (.int a)]=.ok (iL ((bz n).map fun _=>(0:Int))):=by refine gW (lh (l:=(bz n).map .int) (r:=(bz n).map fun _=>.int 0) (by simp[bS,ai,af,ag,rn]) (by rw[aN,fN];omega) ?_) (by simp[iL]);exact qG .int (fun _=>.int 0) _ fun k _=>by simp[jE,c3,dC,mC]
      have e:c3 [.v (.cB ns),.v (.int n),.v (.int c),.v (.int f),.v (iL C),.v (iL S),.no,.no,.no,.no,.no] [1] 1=[.v (.int n),.no]:=rfl;have al:tK (iL ((bz n).map fun _=>(0:Int)))=some ((bz n).map fun _=>(0:Int)):=r6 _;rw[e];simp[vw,dC,k1,al]
    rw[g];rfl
  have q5:Dy DP 6 [.v (.cB ns),.v (.int n),.v (.int c),.v (.int f),.v (iL C),.v (iL S),.no,.no,.no,.no,.no]=.nx [.v (.cB ns),.v (.int n),.v (.int c),.v (.int f),.v (iL C),.v (iL S),.p (cG n (part d 0 0)),.no,.no,.no,.no]:=by
    unfold Dy;rw[k3];have e:cG n (part d 0 0)=ip (bq n fun _ _=>0):=by unfold cG;rw[Ed (e:=fun _ _=>0) fun a b B J I b1=>?_];unfold part;rw[ak (by omega)]
    rw[e];rfl
  have M:∀(a:Int)(H E q:Option D),0<=a->a<n->∃K G o,Of [.v (.cB ns),.v (.int n),.v (.int c),.v (.int f),.v (iL C),.v (iL S),.p (cG n (part d a 0)),.v (.int a),sv H,sv E,sv q]=.nx [.v (.cB ns),.v (.int n),.v (.int c),.v (.int f),.v (iL C),.v (iL S),.p (cG n (part d a a)),.v (.int a),sv K,sv G,sv o]:=fun a H E q B J=>by obtain⟨N,T,K,G,o,rfl⟩:=kW (b:=aQ 8) (m:=Oe) D.int (fun j N=>∃K G o:Option D,N=[.v (.cB ns),.v (.int n),.v (.int c),.v (.int f),.v (iL C),.v (iL S),.p (cG n (part d a j.length)),.v (.int a),sv K,sv G,sv o]) (bz a.toNat) (by
        rintro j b U N t ⟨K,G,o,rfl⟩;obtain⟨eb,_,_⟩:=Pw t;obtain⟨I,b1⟩:=bM.mp (show b∈bz a.toNat by rw[t];simp);have ba:b<a:=by omega
        have fa:=(hF (n+a).toNat (by omega)).1;have fb:=(hF b.toNat (by omega)).1;have f1:eI (F (n+a).toNat):=c_ (10^30) (by omega);have g1:=Sg a B (by lia);have g2:=Sg b I (by omega);have g3:=Sg (n+a) (by omega) (by omega);have g4:=Sg (n+b) (by omega) (by omega);have A1:=Qq (S:=S) (a:=a) (b:=b) (top:=f) B (by omega) I (by omega) X;have A2:=Qq (S:=S) (a:=n+a) (b:=n+b) (top:=f) (by omega) (by omega) (by omega) (by lia) X;rw[g1,g2] at A1;rw[g3,g4] at A2;have I1:=Cg (l:=S) (k:=b) I (by omega);have I2:=Cg (l:=S) (k:=n+a) (by omega) (by omega);rw[g2] at I1;rw[g3] at I2;obtain⟨u,eu⟩:=xz (((F a.toNat%f-F b.toNat%f).natAbs:Int));obtain⟨L,Qr⟩:=xz (((F (n+a).toNat%f-F (n+b).toNat%f).natAbs:Int));rw[<-eu] at A1;rw[<-Qr] at A2;obtain⟨v,ev⟩:=xz (d a b);have ev2:v=d b a:=ev.trans (Q.sym a b B J I (by omega));have s1:az (bw zv (ai (ag 5) (ai (ag 7) (ai (ag 8) (ai (ag 3) af))))) (aQ 9) [.v (.cB ns),.v (.int n),.v (.int c),.v (.int f),.v (iL C),.v (iL S),.p (cG n (part d a j.length)),.v (.int a),.v (.int b),sv G,sv o]=.nx [.v (.cB ns),.v (.int n),.v (.int c),.v (.int f),.v (iL C),.v (iL S),.p (cG n (part d a j.length)),.v (.int a),.v (.int b),.v (.int u),sv o]:=by refine ew (d:=.int u) ?_ (kG rfl);simp[bw,ai,af,ag,A1]
        have s2:az (m2 bO (aj 9) (bw zv (ai (ag 5) (ai (m2 bO (aj 1) (aj 7)) (ai (m2 bO (aj 1) (aj 8)) (ai (ag 3) af)))))) (aQ 9) [.v (.cB ns),.v (.int n),.v (.int c),.v (.int f),.v (iL C),.v (iL S),.p (cG n (part d a j.length)),.v (.int a),.v (.int b),.v (.int u),sv o]=.nx [.v (.cB ns),.v (.int n),.v (.int c),.v (.int f),.v (iL C),.v (iL S),.p (cG n (part d a j.length)),.v (.int a),.v (.int b),.v (.int (u+L)),sv o]:=by refine ew (d:=.int (u+L)) ?_ rfl;simp[bw,ai,af,ag,aj,A2]
        have s3:∃A:Option D,bj (bf (m2 oEq (m2 oMod (aj 2) (mC (.int 2))) (mC (.int 1)))) (av (az (m2 bO (m2 aO (aj 5) (aj 8)) (m2 iU (mC (.int 31)) (m2 aO (aj 5) (m2 bO (aj 1) (aj 7))))) (aQ 10)) (az (m2 bO (aj 3) (m2 oMod (aj 10) (m2 bO (aj 3) (mC (.int 1))))) (aQ 9))) dq [.v (.cB ns),.v (.int n),.v (.int c),.v (.int f),.v (iL C),.v (iL S),.p (cG n (part d a j.length)),.v (.int a),.v (.int b),.v (.int (u+L)),sv o]=.nx [.v (.cB ns),.v (.int n),.v (.int c),.v (.int f),.v (iL C),.v (iL S),.p (cG n (part d a j.length)),.v (.int a),.v (.int b),.v (.int v),sv A]:=by
          by_cases w:c%2=1
          . refine⟨some (.int (F b.toNat+31*F (n+a).toNat)),?_⟩;rw[tG (by simp[bf,aj,mC,iy,w])];have r1:az (m2 bO (m2 aO (aj 5) (aj 8)) (m2 iU (mC (.int 31)) (m2 aO (aj 5) (m2 bO (aj 1) (aj 7))))) (aQ 10) [.v (.cB ns),.v (.int n),.v (.int c),.v (.int f),.v (iL C),.v (iL S),.p (cG n (part d a j.length)),.v (.int a),.v (.int b),.v (.int (u+L)),sv o]=.nx [.v (.cB ns),.v (.int n),.v (.int c),.v (.int f),.v (iL C),.v (iL S),.p (cG n (part d a j.length)),.v (.int a),.v (.int b),.v (.int (u+L)),.v (.int (F b.toNat+31*F (n+a).toNat))]:=by refine ew (d:=.int (F b.toNat+31*F (n+a).toNat)) ?_ (kG rfl);simp only[fk,aj,mC,List.getElem?_cons_succ,List.getElem?_cons_zero,R.aq,I1,R.aF,wo,I2,xE f31 f1]
            refine(bB r1).trans (ew (d:=.int v) ?_ rfl);have e:v=f+(F b.toNat+31*F (n+a).toNat)%(f+1):=by rw[ev,ed];unfold dA;rw[eY w,ao rfl,ak (by lia),ao ba]
            rw[e];simp[aj,mC,iy (show 0<f+1 by lia)]
          . refine⟨o,?_⟩;rw[kH (by simp[bf,aj,mC,iy,w])];have e:v=u+L:=by rw[ev,ed,eu,Qr];unfold dA;rw[cV w,ak (by simp)]
            rw[e];rfl
        obtain⟨A,s3⟩:=s3;have s4:=Pc (i:=6) (mk:=ag 7) (mj:=ag 8) (me:=ag 9) (δ:=[.v (.cB ns),.v (.int n),.v (.int c),.v (.int f),.v (iL C),.v (iL S),.p (cG n (part d a j.length)),.v (.int a),.v (.int b),.v (.int v),sv A]) (n:=n) (d:=part d a j.length) rfl rfl rfl rfl B J I (by omega);have s5:=Pc (i:=6) (mk:=ag 8) (mj:=ag 7) (me:=ag 9) (δ:=[.v (.cB ns),.v (.int n),.v (.int c),.v (.int f),.v (iL C),.v (iL S),.p (cG n (mX (part d a j.length) a b v)),.v (.int a),.v (.int b),.v (.int v),sv A]) (n:=n) (d:=mX (part d a j.length) a b v) rfl rfl rfl rfl I (by omega) B J;have e:cG n (mX (mX (part d a j.length) a b v) b a v)=cG n (part d a (j++[b]).length):=by
          unfold cG;rw[Ed fun x y x0 x1 y0 y1=>?_];have pl:((j++[b]).length:Int)=b+1:=by simp;lia
          unfold mX part;rw[pl,<-eb];by_cases z1:x=b/\y=a;.rw[ao z1,z1.1,z1.2,ao (by lia)];exact ev2
          . rw[ak z1];by_cases z2:x=a/\y=b;.rw[ao z2,z2.1,z2.2,ao (by lia)];exact ev
            . rw[ak z2];by_cases z3:(x<a/\y<a)\/(x=a/\y<b)\/(y=a/\x<b);.rw[ao z3,ao (by lia)]
              .rw[ak z3,ak (by lia)]
        refine⟨[.v (.cB ns),.v (.int n),.v (.int c),.v (.int f),.v (iL C),.v (iL S),.p (cG n (part d a j.length)),.v (.int a),.v (.int b),sv G,sv o],[.v (.cB ns),.v (.int n),.v (.int c),.v (.int f),.v (iL C),.v (iL S),.p (cG n (part d a (j++[b]).length)),.v (.int a),.v (.int b),.v (.int v),sv A],kG rfl,.inl ?_,some (.int b),some (.int v),A,rfl⟩;rw[<-e];exact(bB s1).trans ((bB s2).trans ((bB s3).trans ((bB s4).trans s5)))) [.v (.cB ns),.v (.int n),.v (.int c),.v (.int f),.v (iL C),.v (iL S),.p (cG n (part d a 0)),.v (.int a),sv H,sv E,sv q] ⟨H,E,q,rfl⟩;rw[fN,show((a.toNat:Nat):Int)=a by lia] at T;refine⟨K,G,o,(kU (l:=(bz a.toNat).map .int) ?_).trans T⟩;have ra:=jS (show a.toNat<=1000 by lia);rw[show((a.toNat:Nat):Int)=a by lia] at ra;simp[bS,ai,af,ag,ra]
  obtain⟨N,T,o7,H,E,q,rfl⟩:=kW (b:=aQ 7) (m:=Og) D.int (fun j N=>∃o7 H E q:Option D,N=[.v (.cB ns),.v (.int n),.v (.int c),.v (.int f),.v (iL C),.v (iL S),.p (cG n (part d j.length 0)),sv o7,sv H,sv E,sv q]) (bz n) (by
      rintro j a U N t ⟨o7,H,E,q,rfl⟩;obtain⟨ea,_,_⟩:=Pw t;obtain⟨B,J⟩:=bM.mp (show a∈bz n by rw[t];simp);obtain⟨K,G,o,e1⟩:=M a H E q B J;have e:cG n (part d a a)=cG n (part d (j++[a]).length 0):=by
        unfold cG;rw[Ed fun x y x0 x1 y0 y1=>?_];have pl:((j++[a]).length:Int)=a+1:=by simp;lia
        rw[pl];unfold part;by_cases z:x=a/\y=a;.rw[ak (by lia),ao (by lia),z.1,z.2];exact(Q.self a B J).symm
        . by_cases z3:(x<a/\y<a)\/(x=a/\y<a)\/(y=a/\x<a);.rw[ao z3,ao (by lia)]
          .rw[ak z3,ak (by lia)]
      rw[e] at e1;refine⟨[.v (.cB ns),.v (.int n),.v (.int c),.v (.int f),.v (iL C),.v (iL S),.p (cG n (part d j.length 0)),.v (.int a),sv H,sv E,sv q],_,kG rfl,.inl ?_,some (.int a),K,G,o,rfl⟩;rw[<-ea];exact e1) [.v (.cB ns),.v (.int n),.v (.int c),.v (.int f),.v (iL C),.v (iL S),.p (cG n (part d 0 0)),.no,.no,.no,.no] ⟨none,none,none,none,rfl⟩;rw[fN] at T;have q6:Oh [.v (.cB ns),.v (.int n),.v (.int c),.v (.int f),.v (iL C),.v (iL S),.p (cG n (part d 0 0)),.no,.no,.no,.no]=_:=(kU (l:=(bz n).map .int) (by simp[bS,ai,af,ag,rn])).trans T;refine(bB q1).trans ((bB q2).trans ((bB q3).trans ((bB q4).trans ((bB q5).trans ((bB q6).trans ?_)))));have e:cG n (part d n 0)=cG n d:=by unfold cG;rw[Ed fun x y x0 x1 y0 y1=>?_];unfold part;rw[ao (by lia)]
  rw[e];simp[Dz,cG]
theorem Qt:∀(l:List Int)(a:Int),a<=dM l a/\(∀x∈l,x<=dM l a)/\(dM l a=a\/dM l a∈l)
  |[],a=>⟨lE _,fun _ z=>(nomatch z),.inl rfl⟩ |x::l,a=>by
    have f:=Qt l (if x>a then x else a);have e:dM (x::l) a=dM l _:=rfl;rw[e];obtain⟨g,i2,d⟩:=f;refine⟨?_,fun y c=>?_,?_⟩;.lia
    . rcases aU.mp c with z|z;.lia
      simp_all
    . rcases d with z|z
      . rw[z];split;.simp
        lia
      .simp_all
theorem zAs(h:∀s∈c,1<=s/\s<=1000000000000000000):∃r:Int,vp [iL c] (.int 1)=some (.int r)/\1<=r/\r<=1000000000000000000/\∀s∈c,s<=r:=by cases c with |nil=>exact⟨1,rfl,by decide,by decide,fun _ z=>(nomatch z)⟩ |cons a l=>
    obtain⟨d,b,f⟩:=Qt l a;have e:vp [iL (a::l)] (.int 1)=some (.int (dM l a)):=by show(dE _).map _=_;rw[r6];rfl
    refine⟨_,e,by grind,?_,fun s i=>?_⟩
    . rcases f with z|z;.simp_all
      .exact(h _ (bK _ z)).2
    . rcases aU.mp i with z|z;.rw[z];exact d
      .exact b s z
theorem zvI(cs:List Int)(w:cs.length<=63):∃zs:List Int,DN [iL cs]=.ok (iL zs)/\zs.length=cs.length/\∀s∈zs,1<=s/\s<=1000000000000000000:=by
  have i:eI 64:=c_ 1000 (by decide);obtain⟨h,t,Z,g,a,rfl,q,l⟩:=kW (b:=dZ 2 (fA (aQ 2) (fA (aQ 3) eL))) (m:=N4) (fun p:Int×Nat=>D.tup [.int (p.2:Int),.int p.1]) (fun e h=>∃(Z:List Int) (g a:Option D),h=[.v (iL cs),.o (iL Z),sv g,sv a]/\Z.length=e.length/\∀s∈Z,1<=s/\s<=1000000000000000000) cs.zipIdx (by
      rintro e ⟨c,k⟩ n h f ⟨Z,g,a,rfl,q,l⟩;obtain⟨C,x,B⟩:=Gn f;have A:k<cs.length:=(b_.mp x).1;have n1:=B7 c (k:Int) (by lia) (by lia);obtain⟨p,_,u⟩:=IU c (num c k/64);refine⟨[.v (iL cs),.o (iL Z),.v (.int k),.v (.int c)],[.v (iL cs),.o (iL (Z++[1+p%1000000000000000000])),.v (.int k),.v (.int c)],?_,.inl ?_,Z++[1+p%1000000000000000000],some _,some _,rfl,by simp[q],fun s j=>?_⟩;.rcases g with _|g<;>rcases a with _|a<;>rfl
      .refine(B6 (d:=.int (1+p%1000000000000000000)) rfl (by simp[bw,ai,af,ag,mC,n1,mU,i,u,D5,iy]) (by grind)).trans ?_;simp[iL]
      . rcases cO.mp j with z|z;.simp_all
        .grind) [.v (iL cs),.o (iL []),.no,.no] ⟨_,none,none,rfl,rfl,fun s j=>by cases j⟩;refine⟨Z,oa ?_,by simp_all,l⟩;show av _ _ _=_;have y:az (bC af) (cZ 1) [.v (iL cs),.no,.no,.no]=.nx [.v _,.o (iL []),.no,.no]:=ew (by simp[bC,af,iL]) rfl;have r:N5 _=.nx _:=(kU (by simp[rY,ai,af,ag,iL,vi,qW,Bl,oO])).trans t;exact(bB y).trans ((bB r).trans rfl)
theorem Qu(ns:List Int)(a b:Nat):∃cs:List Int,cutD (ns.map D.int) (some (a:Int)) (some (b:Int))=cs.map D.int/\cs.length<=ns.length/\cs.length<=b-a:=by obtain⟨cs,d,e⟩:=U0 _ _ _;refine⟨_,d,e,?_⟩;have:=c7 List.length d;rw[aN] at this;rw[<-this];unfold cutD;have f:HT.dn (ns.map D.int).length 0 (some a)=min a _:=rfl;have g:HT.dn (ns.map D.int).length (ns.map D.int).length (some b)=min b _:=rfl;rw[lK];omega
theorem zpq(ns:List Int)(h63:ns.length<=63)(k0:0<=kind)(k1:kind<7):∃q Q Ok,oA q Q Ok/\DS [.cB ns,.int kind]=.ok q:=by
  have f7:eI 7:=c_ 1000 (by decide);have f5:eI 5:=c_ 1000 (by decide);have f2:eI 2:=c_ 1000 (by decide);have f64:eI 64:=c_ 1000 (by decide);have hc:ny [.cB ns,.int 0]=.ok (.int (ns.getD 0 0)):=HY ns 0;obtain⟨f,ef⟩:=xz (ns.getD 0 0/7%1000000000000);have f0:0<=f:=by lia
  obtain⟨c5,B,uj,hc5⟩:=Qu ns 2 7;obtain⟨Z,hz,zl,zok⟩:=zvI c5 (by lia);have g7:=wH f (show(0:Int)<7 by decide);have g7':=wI f (show(0:Int)<7 by decide);obtain⟨X,eX⟩:=xz (D.cB ns);have aX:vf X=some (ns.map .int):=by rw[eX];rfl
  obtain⟨g,A⟩:=xz (iL Z);rw[<-eX] at hc⊢;have sl:∀(z:En)(j:Nat)(cs:List Int),z[0]?=some (.v X)->cutD (ns.map D.int) (some 2) (some (j:Int))=cs.map D.int->gj (aj 0) (dV (mC (.int 2))) (dV (mC (.int j))) z=.ok (iL cs):=fun z j cs h Qp=>by
    have r:aj 0 z=.ok X:=by unfold aj;rw[h]
    simp only[gj,r,dV,mC,R.aq,xG,R.aF,aX,Qp,iL]
  have ret:∀{m:En->R D}{z:En}{d:D},m z=.ok d->aH m z=.rt d:=fun{m z d} h=>by simp only[aH,h];rfl
  have U:∀(j:Int)(t:En),bf (m2 oEq (aj 1) (mC (.int j))) (.v X::.v (.int kind)::t)=.ok (decide (kind=j)):=fun j t=>by simp[bf,aj,mC]
  have a:∀(j:Int){Y:En->O}(t:En),kind≠j->bj (bf (m2 oEq (aj 1) (mC (.int j)))) Y dq (.v X::.v (.int kind)::t)=.nx (.v X::.v (.int kind)::t):=fun j Y t ne=>(kH ((U j t).trans (by rw[cV ne]))).trans rfl;have i:∀(j:Int){Y N:En->O}(t:En){d:D},kind=j->Y (.v X::.v (.int kind)::t)=.rt d->av (bj (bf (m2 oEq (aj 1) (mC (.int j)))) Y dq) N (.v X::.v (.int kind)::t)=.rt d:=fun j Y N t d e h=>wG ((tG ((U j t).trans (by rw[eY e]))).trans h);have H:az (m2 oMod (m2 oDiv (bw ny (ai (ag 0) (ai (mC (.int 0)) af))) (mC (.int 7))) (m2 gg (mC (.int 10)) (mC (.int 12)))) (aQ 2) [.v X,.v (.int kind),.no,.no,.no,.no,.no,.no,.no]=.nx [.v X,.v (.int kind),.v (.int f),.no,.no,.no,.no,.no,.no]:=ew (d:=.int f) (by simp[bw,ai,af,ag,mC,hc,IT,mU,f7,iy,ef]) rfl;have q2:az (bw DN (ai (gj (aj 0) (dV (mC (.int 2))) (dV (mC (.int 7)))) af)) (aQ 3) [.v X,.v (.int kind),.v (.int f),.no,.no,.no,.no,.no,.no]=.nx [.v X,.v (.int kind),.v (.int f),.v g,.no,.no,.no,.no,.no]:=ew (d:=g) (by have s:=sl [.v X,.v (.int kind),.v (.int f),.no,.no,.no,.no,.no,.no] 7 c5 rfl B;simp only[bw,ai,af,show((7:Nat):Int)=7 from rfl] at s⊢;simp only[s,R.aq,hz,R.bA,A]) rfl;by_cases E:kind=0;.exact⟨_,_,_,zxG,gO ((bB H).trans (i 0 _ E rfl))⟩
  by_cases K:kind=1
  . obtain⟨n,en⟩:∃n:Nat,(n:Int)=f%7:=⟨(f%7).toNat,by lia⟩;obtain⟨sets,es,sg,sln,cv⟩:=zyJ c5 n (by lia) (by lia);have ok:fY n sets:=⟨sg,by lia,by lia⟩;refine⟨_,_,_,zyL ok (by lia) cv,gO ((bB H).trans ((bB (a 0 _ E)).trans (i 1 _ K (ret ?_))))⟩;have s:=sl [.v X,.v (.int kind),.v (.int f),.no,.no,.no,.no,.no,.no] 7 c5 rfl B;have md:m2 oMod (aj 2) (mC (.int 7)) [.v X,.v (.int kind),.v (.int f),.no,.no,.no,.no,.no,.no]=.ok (.int n):=by simp[aj,mC,iy,en]
    have u:=ZE ok cv;simp only[show((7:Nat):Int)=7 from rfl] at s;simp only[bw,ai,af,md,s,R.aq,es,R.bA,u]
  by_cases M:kind=2
  . have S:=wH f (show(0:Int)<4 by decide);have h2:=wI f (show(0:Int)<4 by decide);obtain⟨m,em⟩:∃m:Nat,(m:Int)=1+f%4:=⟨(1+f%4).toNat,by lia⟩;have u:=zq0 (m:=m) (ws:=Z) (by lia) (by lia) (by lia);rw[<-A] at u;refine⟨_,_,_,zxx (m:=m) (ws:=Z) (by lia) (by lia) (by lia),gO ((bB H).trans ((bB (a 0 _ E)).trans ((bB (a 1 _ K)).trans ((bB q2).trans (i 2 _ M (ret ?_))))))⟩;have ar:m2 bO (mC (.int 1)) (m2 oMod (aj 2) (mC (.int 4))) [.v X,.v (.int kind),.v (.int f),.v g,.no,.no,.no,.no,.no]=.ok (.int m):=by simp[mC,aj,iy,em]
    simp only[bw,ai,af,ar,show ag 3 [.v X,.v (.int kind),.v (.int f),.v g,.no,.no,.no,.no,.no]=.ok g from rfl,R.aq,u,R.bA]
  by_cases z3:kind=3
  . obtain⟨G,er,r1,r2,r3⟩:=zAs zok;rw[<-A] at er;have S:=wH f (show(0:Int)<3 by decide);have h2:=wI f (show(0:Int)<3 by decide);obtain⟨x,ex⟩:=xz (G+f%3*G/2);have fm:0<=f%3*G:=Int.mul_nonneg S (by lia);obtain⟨r,hr⟩:=xz (if x<1000000000000000000 then x else 1000000000000000000);have mn:xP [.int 1000000000000000000,.int x]=some (.int r):=by rw[hr];rfl
    have rr:G<=r/\r<=1000000000000000000:=by rw[hr];split<;>lia
    have u:=zvB (r:=r) (ws:=Z) (by lia) (fun w hw=>by have:=r3 w hw;lia);rw[<-A] at u;refine⟨_,_,_,zAF (r:=r) (ws:=Z) (by lia) rr.2 (by lia),gO ((bB H).trans ((bB (a 0 _ E)).trans ((bB (a 1 _ K)).trans ((bB q2).trans ((bB (a 2 _ M)).trans (i 3 _ z3 ?_))))))⟩;have w1:az (xD (ai (aj 3) af) (mC (.int 1))) (aQ 4) [.v X,.v (.int kind),.v (.int f),.v g,.no,.no,.no,.no,.no]=.nx [.v X,.v (.int kind),.v (.int f),.v g,.v (.int G),.no,.no,.no,.no]:=ew (d:=.int G) (by simp[xD,ai,af,aj,mC,er]) rfl;refine(bB w1).trans (ret ?_);have fa:eI (f%3):=c_ 1000 (by lia);have fb:eI G:=c_ (10^30) (by lia);simp only[bw,aT,ai,af,fk,ag,aj,mC,List.getElem?_cons_succ,List.getElem?_cons_zero,R.aq,D5,R.aF,iy (show(0:Int)<3 by decide),xE fa fb,mU (show(0:Int)<2 by decide) f2,wo,<-ex,mn,u,R.bA]
  by_cases z4:kind=4
  . obtain⟨c6,I,za_,hc6⟩:=Qu ns 2 8;obtain⟨z,S,y,L,J,rfl,hl⟩:=kW (b:=dZ 2 (fA (aQ 6) (fA (aQ 7) eL))) (m:=Ou) (fun p:Int×Nat=>D.tup [.int (p.2:Int),.int p.1]) (fun pre z=>∃(y:List Fr) (L J:Option D),z=[.v X,.v (.int kind),.v (.int f),.v g,.no,.o (kX y),sv L,sv J,.no]/\y.length=pre.length) c6.zipIdx (by
        rintro pre ⟨c,k⟩ post z T ⟨y,L,J,rfl,hl⟩;obtain⟨y1,y2,y3⟩:=Gn T;dsimp only at y1 y2 y3;have hk:k<c6.length:=(b_.mp y2).1;have n9:=B7 c ((k:Int)+9) (by lia) (by lia);obtain⟨p,_,hp⟩:=IU c (num c ((k:Int)+9)/64);refine⟨[.v X,.v (.int kind),.v (.int f),.v g,.no,.o (kX y),.v (.int k),.v (.int c),.no],[.v X,.v (.int kind),.v (.int f),.v g,.no,.o (kX (y++[(p,1+c%5)])),.v (.int k),.v (.int c),.no],?_,.inl ?_,y++[(p,1+c%5)],some _,some _,rfl,by simp[hl]⟩;.rcases L with _|L<;>rcases J with _|J<;>rfl
        .refine(B6 (l:=y.map lq) (d:=lq (p,1+c%5)) rfl (by simp[cf,bw,ai,af,ag,aj,mC,n9,mU,f64,iy,hp,lq,sizeLine]) (by rw[aN];lia)).trans ?_;simp[kX]) [.v X,.v (.int kind),.v (.int f),.v g,.no,.o (kX []),.no,.no,.no] ⟨[],none,none,rfl,rfl⟩;have tl:y.length=c6.length:=by rw[hl];simp
    refine⟨_,_,_,zzj (r:=f%12) (ts:=y) (by lia),gO ((bB H).trans ((bB (a 0 _ E)).trans ((bB (a 1 _ K)).trans ((bB q2).trans ((bB (a 2 _ M)).trans ((bB (a 3 _ z3)).trans (i 4 _ z4 ?_)))))))⟩;have e1:az (bC af) (cZ 5) [.v X,.v (.int kind),.v (.int f),.v g,.no,.no,.no,.no,.no]=.nx [.v X,.v (.int kind),.v (.int f),.v g,.no,.o (kX []),.no,.no,.no]:=ew (d:=kX []) (by simp[bC,af,kX,sizeLine]) rfl;have s:=sl [.v X,.v (.int kind),.v (.int f),.v g,.no,.o (kX []),.no,.no,.no] 8 c6 rfl I;simp only[show((8:Nat):Int)=8 from rfl] at s;have e2:Ov [.v X,.v (.int kind),.v (.int f),.v g,.no,.o (kX []),.no,.no,.no]=.nx [.v X,.v (.int kind),.v (.int f),.v g,.no,.o (kX y),sv L,sv J,.no]:=(kU (by simp[rY,ai,af,s,iL,vi,qW,Bl,oO])).trans S;refine(bB e1).trans ((bB e2).trans (ret ?_));have u:=ZU (r:=f%12) (ts:=y);simp[bw,ai,af,aj,mC,iy,u]
  have S:=wH f (show(0:Int)<5 by decide);have h2:=wI f (show(0:Int)<5 by decide);obtain⟨n,en⟩:∃n:Nat,(n:Int)=1+f%5:=⟨(1+f%5).toNat,by lia⟩;obtain⟨d,C,el⟩:=zqJ ns h63 (n:=n) (by lia) (by lia);rw[<-eX] at el;have q8:az (m2 bO (mC (.int 1)) (m2 oMod (aj 2) (mC (.int 5)))) (aQ 8) [.v X,.v (.int kind),.v (.int f),.v g,.no,.no,.no,.no,.no]=.nx [.v X,.v (.int kind),.v (.int f),.v g,.no,.no,.no,.no,.v (.int n)]:=ew (d:=.int n) (by simp[mC,aj,iy,en]) rfl;by_cases z5:kind=5;.have u:=zrO C (by lia);refine⟨_,_,_,zxO C (by lia) (by lia),gO ((bB H).trans ((bB (a 0 _ E)).trans ((bB (a 1 _ K)).trans ((bB q2).trans ((bB (a 2 _ M)).trans ((bB (a 3 _ z3)).trans ((bB (a 4 _ z4)).trans ((bB q8).trans (i 5 _ z5 (ret ?_))))))))))⟩;simp only[bw,ai,af,ag,List.getElem?_cons_succ,List.getElem?_cons_zero,R.aq,el,u,R.bA]
  . have n0:0<(n:Int):=by lia
    have g1:=wH (f/5) n0;have g2:=wI (f/5) n0;obtain⟨m,em⟩:∃m:Nat,(m:Int)=1+f/5%n:=⟨(1+f/5%n).toNat,by lia⟩;have u:=zrA (k:=(m:Int)) C (by lia);refine⟨_,_,_,zyt (d:=d) (n:=n) (m:=m) (by lia) (by lia) (by lia),gO ((bB H).trans ((bB (a 0 _ E)).trans ((bB (a 1 _ K)).trans ((bB q2).trans ((bB (a 2 _ M)).trans ((bB (a 3 _ z3)).trans ((bB (a 4 _ z4)).trans ((bB q8).trans ((bB (a 5 _ z5)).trans (ret ?_))))))))))⟩;have md:oMod (.int (f/5)) (.int n)=some (.int (f/5%n)):=iy n0;simp only[bw,ai,af,fk,ag,aj,mC,List.getElem?_cons_succ,List.getElem?_cons_zero,R.aq,el,mU (show(0:Int)<5 by decide) f5,R.aF,md,wo,<-em,u,R.bA]
theorem Qv (r:Rn):ja 8 (rJ r)=true:=by
 have p1:ja 7 (d_ r.b)=true:=by
  cases r.b with
  | none=>rfl
  | some p=>exact yx p.1 5
 have p2:ja 7 (dF r.b)=true:=by
  cases r.b with
  | none=>rfl
  | some p=>rfl
 have p3:ja 7 (.lst (r.cl.map encC))=true:=by
  show (r.cl.map encC).all (ja 6)=true
  rw[qf,lG]
  intro x _;exact yx x 4
 show ([d_ r.b,dF r.b,.lst (r.cl.map encC)]:List D).all (ja 7)=true
 simp[p1,p2,p3]
theorem ud (ns:List Int) (h:ns.length≤63):OV [.cB ns]=.ok (.bl true):=by
 have cell:∀k:Int,0≤k→ny [.cB ns,.int k]=.ok (.int (ns.getD k.toNat 0)):=fun k hk=>Zj ns hk
 have c0:=cell 0 (by decide)
 obtain⟨a0,e0⟩:∃a,a=ns.getD (0:Int).toNat 0:=⟨_,rfl⟩
 rw[← e0] at c0
 have k0:=wH a0 (show (0:Int)<7 by decide)
 have k1:=wI a0 (show (0:Int)<7 by decide)
 obtain⟨kd,ek⟩:=xz (a0%7)
 obtain⟨q,Q,Ok,as,hq⟩:=zpq ns h (kind:=kd) (by lia) (by lia)
 obtain⟨bD,S,hs⟩:=as
 have z0:jv S [[]]≤2000:=by
  have:=hs.all
  simpa[jv] using this
 have IV:∀x∈[([]:List Int)],Ok x:=fun x hx=>by rw[cY.mp hx];exact bD.nil
 obtain⟨r,hr⟩:=PY bD.toWalk hs 2000 none [[]] IV z0
 have rv:=ID hr
 have rc:=IH hr
 have bo:=zx3 bD hr (aC _) (M:=2000) (by lia)
 obtain⟨r1,r2,r3⟩:=P0 bD.toWalk hr IV
 obtain⟨rb,rn⟩:=r2 rfl (by simp)
 have pT:=bD.pT
 have Ci:∀x∈r.cl,x.length≤100:=fun x hx=>by have:=bD.len x (r1 x hx);lia
 have lk:=zvF bD hr
 have pl:=Qg bD hs
 have pt:=P_ bD.toWalk hr IV
 have il:=zqI r.cl Ci
 have IW:=pl r.cl
 rw[pt] at IW
 have pe:pa Q [[]] [[]]=true:=by
  show (match pull Q (Q.st+1) [] [[]] with|none=>false|some W'=>pa Q [] W')=true
  unfold pull
  rw[ao rfl];rfl
 have pn:pa Q [] [[]]=false:=rfl
 have p1:=pl [[]]
 have p0:=pl []
 rw[pe] at p1
 rw[pn] at p0
 have ne:jO (rJ r) (rJ r)=some (.bl false):=by
  unfold jO
  rw[fi ⟨Qv r,Qv r⟩];simp
 obtain⟨T,eT⟩:=xz (rJ r)
 obtain⟨C,eC⟩:=xz (jw r.cl)
 obtain⟨X,eX⟩:=xz (D.cB ns)
 obtain⟨KP,eK⟩:=xz (D.lst [d_ r.b,dF r.b,C])
 have i2:e_ T (.int 2)=some C:=by rw[eT,eC];rfl
 have kx0:aO KP (.int 0)=some (d_ r.b):=by rw[eK];rfl
 have kx1:aO KP (.int 1)=some (dF r.b):=by rw[eK];rfl
 have kx2:aO KP (.int 2)=some C:=by rw[eK];rfl
 have isT:jP "tuple" T=some (.bl true):=by rw[eT];rfl
 have lT:aJ [T]=some (.int 3):=by rw[eT];rfl
 have eA:D.tup [d_ r.b,dF r.b,C]=T:=by rw[eT,eC];rfl
 rw[← eT] at bo ne
 rw[show D.lst (r.cl.map encC)=C from eC.symm] at IW
 rw[← eC] at il
 rw[← eX] at hq ⊢
 have Cj:∀k:Int,0≤k→ny [X,.int k]=.ok (.int (ns.getD k.toNat 0)):=fun k hk=>by rw[eX];exact cell k hk
 have c0X:ny [X,.int 0]=.ok (.int a0):=by rw[eX];exact c0
 have q1:az (m2 oMod (bw ny (ai (ag 0) (ai (mC (.int 0)) af))) (mC (.int 7))) (aQ 1) [.v X,.no,.no,.no,.no,.no,.no,.no]=.nx [.v X,.v (.int kd),.no,.no,.no,.no,.no,.no]:=ew (d:=.int kd) (by simp[bw,ai,af,ag,mC,c0X,iy,ek]) rfl
 have q2:az (bw DS (ai (ag 0) (ai (ag 1) af))) (aQ 2) [.v X,.v (.int kd),.no,.no,.no,.no,.no,.no]=.nx [.v X,.v (.int kd),.v q,.no,.no,.no,.no,.no]:=ew (d:=q) (by simp[bw,ai,af,ag,hq]) rfl
 have q3:az (bw B5 (ai (ag 2) (ai (mC (.int 2000)) af))) (aQ 3) [.v X,.v (.int kd),.v q,.no,.no,.no,.no,.no]=.nx [.v X,.v (.int kd),.v q,.v T,.no,.no,.no,.no]:=ew (d:=T) (by simp only[bw,ai,af,ag,mC,List.getElem?_cons_succ,List.getElem?_cons_zero,R.aq,bo,R.bA]) rfl
 have t4:oC (jn (bf (m1 (jP "tuple") (aj 3)))) (oC (bf (m2 wk (aT aJ (ai (aj 3) af)) (mC (.int 3)))) (jn (bf (bw D0 (ai (m2 e_ (aj 3) (mC (.int 2))) af))))) [.v X,.v (.int kd),.v q,.v T,.no,.no,.no,.no]=.ok false:=by
  simp[oC,jn,bf,aT,bw,ai,af,aj,mC,isT,lT,i2,il]
 have q5:az (m2 e_ (aj 3) (mC (.int 2))) (aQ 4) [.v X,.v (.int kd),.v q,.v T,.no,.no,.no,.no]=.nx [.v X,.v (.int kd),.v q,.v T,.v C,.no,.no,.no]:=ew (d:=C) (by simp[aj,mC,i2]) rfl
 have st:=bD.steps 2 [.v X,.v (.int kd),.v q,.v T,.v C,.no,.no,.no] rfl
 have look:∀m:En→O,BP 5 (ag 2) (zP 2) t8 t9 8 m [.v X,.v (.int kd),.v q,.v T,.v C,.no,.no,.no]=m [.v X,.v (.int kd),.v q,.v T,.v C,.v KP,.no,.no]:=fun m=>by
  unfold BP
  rw[st,show ag 2 [.v X,.v (.int kd),.v q,.v T,.v C,.no,.no,.no]=.ok q from rfl,show ([.v X,.v (.int kd),.v q,.v T,.v C,.no,.no,.no]:En)[5]?=some .no from rfl]
  dsimp only
  rw[lk]
  show m [.v X,.v (.int kd),.v q,.v T,.v C,.v (.lst [d_ r.b,dF r.b,.lst (r.cl.map encC)]),.no,.no]=_
  rw[show D.lst (r.cl.map encC)=C from eC.symm,← eK]
 have t6:oC (bf (m2 jO (aj 3) (cf (ai (m2 aO (aj 5) (mC (.int 0))) (ai (m2 aO (aj 5) (mC (.int 1))) (ai (m2 aO (aj 5) (mC (.int 2))) af)))))) (bf (m2 BN (bw wF (ai (ag 2) (ai (ag 4) af))) (mC (.bl true)))) [.v X,.v (.int kd),.v q,.v T,.v C,.v KP,.no,.no]=.ok false:=by
  have tp:cf (ai (m2 aO (aj 5) (mC (.int 0))) (ai (m2 aO (aj 5) (mC (.int 1))) (ai (m2 aO (aj 5) (mC (.int 2))) af))) [.v X,.v (.int kd),.v q,.v T,.v C,.v KP,.no,.no]=.ok T:=by
   simp only[cf,ai,af,fk,aj,mC,List.getElem?_cons_succ,List.getElem?_cons_zero,R.aq,kx0,kx1,kx2,R.aF]
   rw[← eA]
   exact fi (show 3≤sizeLine by decide)
  have nb:BN (.bl true) (.bl true)=some (.bl false):=rfl
  unfold oC bf
  rw[fk,tp,show aj 3 [.v X,.v (.int kd),.v q,.v T,.v C,.v KP,.no,.no]=.ok T from rfl,R.aq,R.aq,ne]
  simp[bw,ai,af,ag,mC,IW,nb]
 have asked:∀n:Int,0≤n→∃L,D2 [C,.int n]=.ok L∧D4 [q,L]=.ok (.bl true):=fun n n0=>by
  obtain⟨Qw,uj⟩:=zrH rn Ci (by lia) n n0
  exact⟨jw Qw,by rw[eC];exact uj,zvb bD hs Qw⟩
 have rn4:lP [.int 4]=some ((bz 4).map .int):=jS (n:=4) (by decide)
 have f3:eI 3:=c_ 1000 (by decide)
 obtain⟨δ,hl,o6,o7,rfl⟩:=kW (b:=aQ 6) (m:=OT) D.int (fun _ δ=>∃o6 o7,δ=[.v X,.v (.int kd),.v q,.v T,.v C,.v KP,sv o6,sv o7]) (bz 4)
  (by
   rintro pre x post δ q9 ⟨o6,o7,rfl⟩
   obtain⟨x0,x1⟩:=bM.mp (show x∈bz 4 by rw[q9];simp)
   obtain⟨c,ec⟩:=xz (ns.getD (1+x).toNat 0)
   have cx:=Cj (1+x) (by lia)
   rw[← ec] at cx
   have nm:=B7 (c/3) (x+40) (by lia) (by lia)
   have n0:=O2 (c/3) (x+40)
   obtain⟨L,h1,h2⟩:=asked _ n0
   have w1:az (bw t7 (ai (m2 oDiv (bw ny (ai (ag 0) (ai (m2 bO (mC (.int 1)) (aj 6)) af))) (mC (.int 3))) (ai (m2 bO (aj 6) (mC (.int 40))) af))) (aQ 7) [.v X,.v (.int kd),.v q,.v T,.v C,.v KP,.v (.int x),sv o7]=.nx [.v X,.v (.int kd),.v q,.v T,.v C,.v KP,.v (.int x),.v (.int (num (c/3) (x+40)))]:=ew (d:=.int (num (c/3) (x+40))) (by simp[bw,ai,af,ag,aj,mC,cx,mU,f3,nm]) (kG (o:=o7) rfl)
   refine⟨[.v X,.v (.int kd),.v q,.v T,.v C,.v KP,.v (.int x),sv o7],_,kG (o:=o6) rfl,.inl ((bB w1).trans ((kH ?_).trans rfl)),some (.int x),some (.int (num (c/3) (x+40))),rfl⟩
   simp[jn,bf,bw,ai,af,ag,h1,h2])
  [.v X,.v (.int kd),.v q,.v T,.v C,.v KP,.no,.no] ⟨none,none,rfl⟩
 refine gO ?_
 show av _ _ [.v X,.no,.no,.no,.no,.no,.no,.no]=_
 refine (bB q1).trans ((bB q2).trans ((bB q3).trans ((bB ((kH t4).trans rfl)).trans ((bB q5).trans ?_))))
 refine (look _).trans ((bB ((kH t6).trans rfl)).trans ((bB ((kU (l:=(bz 4).map .int) (by simp[bS,ai,af,mC,rn4])).trans hl)).trans ?_))
 have l1:∀δ:En,bC (ai (cf af) af) δ=.ok (.lst ([[]].map encC)):=fun δ=>by
  have:cf af δ=.ok (encC []):=fi (show 0≤sizeLine by decide)
  simp only[bC,ai,af,this,R.aq]
  exact fi (show 1≤sizeLine by decide)
 have l0:∀δ:En,bC af δ=.ok (.lst (([]:List (List Int)).map encC)):=fun δ=>fi (show 0≤sizeLine by decide)
 have b1:rG (.bl true) (.bl true)=some (.bl true):=rfl
 have b2:rG (.bl false) (.bl false)=some (.bl true):=rfl
 obtain⟨δ,Qx⟩:=xz ([.v X,.v (.int kd),.v q,.v T,.v C,.v KP,sv o6,sv o7]:En)
 rw[← Qx]
 have v2:ag 2 δ=.ok q:=by rw[Qx];rfl
 simp only[aH,yX,fk,bw]
 rw[show ai (ag 2) (ai (bC (ai (cf af) af)) af) δ=.ok [q,.lst ([[]].map encC)] by simp only[ai,v2,l1,R.aq];rfl,show ai (ag 2) (ai (bC af) af) δ=.ok [q,.lst (([]:List (List Int)).map encC)] by simp only[ai,v2,l0,R.aq];rfl,R.aq,R.aq,p1,p0]
 simp[mC,b1,b2]
end My
namespace My
open PySem L2 PM PyProof.Rows
noncomputable def top (i:Nat):Stmt:=PySem.Challenge.pw_goodenough_k39_cases_part_all.main.body.getD i (.Pass ⟨0,0,0,0⟩)
abbrev XO0:cX:=fun _ _ _ _ _=>False
def Qy:Stmt→Stmt
 | .ClassDef _ _ _ b _ _ _ _ _ _ _=>b.getD 0 (.Pass ⟨0,0,0,0⟩)
 | s=>s
structure yD where
 a0:Addr
 a1:Addr
 a2:Addr
 a3:Addr
 a4:Addr
 a5:Addr
 a6:Addr
 a7:Addr
 a8:Addr
 a9:Addr
 kY:Addr
 j9:Addr
 kZ:Addr
 b0:Addr
 b1:Addr
def IX (ad:yD):Nat→Addr
 | 0=>ad.a0
 | 1=>ad.a1
 | 2=>ad.a2
 | 3=>ad.a3
 | 4=>ad.a4
 | 5=>ad.a5
 | 6=>ad.a6
 | 7=>ad.a7
 | 8=>ad.a8
 | 9=>ad.a9
 | 10=>ad.kY
 | 11=>ad.j9
 | 12=>ad.kZ
 | _=>0
def Ck (ad:yD) (c:Nat):Addr:=IX ad (c%16)
def Qz:Nat→Str
 | 4=>"thing"
 | 5=>"thing"
 | _=>Str.empty
def Cm (c:Nat):Str:=Qz (c%16)
abbrev KX (K:PySem.W.Frag) (ad:yD):Kx:=⟨K,Ck ad,Cm⟩
def Eg (K:PySem.W.Frag):Sp:=fun vs H Q _=>∃(a:Addr) (ns:List Int),vs=[.ref a]∧fz K H a (ns.map V.int)∧ns.length≤63∧∀H',Q (.bl true) H'
structure Txt (K:PySem.W.Frag) (mg:Str→Option Value) (ad:yD):Prop where
 xg:∃h:Heap,K.In h∧h.Ns mainGlobals mg
 fF:mg "len"=none
 IY:mg "abs"=none
 zT:mg "isinstance"=none
 si:mg "list"=none
 yE:mg "sum"=none
 qaf:mg "int"=none
 QA:mg "bool"=none
 IZ:mg "tuple"=none
 qai:mg "dict"=none
 jG:mg "range"=none
 zU:mg "enumerate"=none
 I0:mg "reversed"=none
 zV:mg "max"=none
 Eh:mg "min"=none
 qao:mg "sorted"=none
 QB:mg "zip"=none
 QC:mg "set"=none
 qar:mg "ValueError"=none
 qas:mg "Question"=some (.ref ad.a6)
 qat:mg "CoverQuestion"=some (.ref ad.a7)
 qau:mg "BenchQuestion"=some (.ref ad.a8)
 qav:mg "BinQuestion"=some (.ref ad.a9)
 qaw:mg "SackQuestion"=some (.ref ad.kY)
 qax:mg "RoundQuestion"=some (.ref ad.j9)
 qay:mg "PlaceQuestion"=some (.ref ad.kZ)
 I_:dI K ad.a6
 qa0:PySem.W.makesIn K ad.a6=true
 qa1:PySem.W.keepIn K (.ref ad.a6)=true
 qa2:PySem.W.findIn K (.ref ad.a6) "__init__"=some (some (.builtin "object.__init__"))
 uI:dI K ad.a7
 QD:aE K ad.a7 "cheapest"
 QE:aE K ad.a7 "many"
 QF:aE K ad.a7 "sets"
 ue:dI K ad.a8
 QG:aE K ad.a8 "falling"
 QH:aE K ad.a8 "least"
 QI:aE K ad.a8 "many"
 QJ:aE K ad.a8 "order"
 uJ:dI K ad.a9
 QK:aE K ad.a9 "falling"
 QL:aE K ad.a9 "order"
 QM:aE K ad.a9 "room"
 yF:dI K ad.kY
 QN:aE K ad.kY "room"
 QO:aE K ad.kY "things"
 zW:dI K ad.j9
 QP:aE K ad.j9 "lengths"
 yG:dI K ad.kZ
 QQ:aE K ad.kZ "lengths"
 QR:aE K ad.kZ "many"
 qbo:mg "EnoughError"=some (.ref ad.a0)
 qbp:mg "NoShare"=some (.ref ad.a1)
 Ja:mg "NoLengths"=some (.ref ad.a2)
 qbr:mg "TooMany"=some (.ref ad.a3)
 qbs:mg "NoCover"=some (.ref ad.a4)
 qbt:mg "NoRoom"=some (.ref ad.a5)
 qbu:zi K ad.a4 [.type "ValueError",.type "Exception",.type "BaseException",.type "object"] "ValueError.__new__" ad.b0=true
 qbv:PySem.W.isFn K (.ref ad.b0)=true
 QS:aE K ad.a4 "thing"
 qbx:zi K ad.a5 [.type "ValueError",.type "Exception",.type "BaseException",.type "object"] "ValueError.__new__" ad.b1=true
 qby:PySem.W.isFn K (.ref ad.b1)=true
 QT:aE K ad.a5 "thing"
 qb0:PySem.W.excIn K ad.a1 [.type "ValueError",.type "Exception",.type "BaseException",.type "object"] "ValueError.__new__"=true
 Jb:PySem.W.excIn K ad.a2 [.type "ValueError",.type "Exception",.type "BaseException",.type "object"] "ValueError.__new__"=true
 qb2:PySem.W.excIn K ad.a3 [.type "ValueError",.type "Exception",.type "BaseException",.type "object"] "ValueError.__new__"=true
 qb3:gF K ad.a1
 qb4:gF K ad.a2
 qb5:gF K ad.a3
 qb6:gF K ad.a4
 qb7:tL K ad.a4
 qb8:gF K ad.a5
 qb9:tL K ad.a5
 qca:PySem.W.makesIn K ad.a6=true∧PySem.W.keepIn K (.ref ad.a6)=true
 qcb:PySem.W.makesIn K ad.a7=true∧PySem.W.keepIn K (.ref ad.a7)=true
 qcc:PySem.W.makesIn K ad.a8=true∧PySem.W.keepIn K (.ref ad.a8)=true
 qcd:PySem.W.makesIn K ad.a9=true∧PySem.W.keepIn K (.ref ad.a9)=true
 qce:PySem.W.makesIn K ad.kY=true∧PySem.W.keepIn K (.ref ad.kY)=true
 qcf:PySem.W.makesIn K ad.j9=true∧PySem.W.keepIn K (.ref ad.j9)=true
 qcg:PySem.W.makesIn K ad.kZ=true∧PySem.W.keepIn K (.ref ad.kZ)=true
structure aB where
 P:Program
 w:World
 K:PySem.W.Frag
 mg:Str→Option Value
 base:Heap
 ad:yD
abbrev lz (c:aB):Kx:=(KX c.K c.ad)
abbrev bG (c:aB):Prop:=Txt c.K c.mg c.ad
abbrev dG (c:aB) (k:Nat) (x:Str) (ps:List Str) (sp:Sp):Prop:=uk c.P c.w c.K c.mg c.base jM k x ps sp
abbrev fe (c:aB) (k:Nat) (x:Str) (C:Addr) (ps:List Str) (sp:Sp):Prop:=oi c.P c.w c.K c.mg c.base jM k x C ps sp
abbrev Jc (c:aB) (k:Nat) (x:Str) (C:Addr) (ps:List Str) (sp:Sp):Prop:=tO c.P c.w c.K c.mg c.base jM k x C ps sp
abbrev vK (c:aB) (k:Nat) (x:Str) (ps:List Str) (sp:Sp):Prop:=uk c.P c.w c.K c.mg c.base (qU c.P c.w) k x ps sp
abbrev Jd (c:aB) (k:Nat) (x:Str) (C:Addr) (ps:List Str) (sp:Sp):Prop:=oi c.P c.w c.K c.mg c.base (qU c.P c.w) k x C ps sp
abbrev uf (c:aB) (k:Nat) (x:Str) (C:Addr) (ps:List Str) (sp:Sp):Prop:=tO c.P c.w c.K c.mg c.base (qU c.P c.w) k x C ps sp
abbrev cH (c:aB) (f:List D→R D):Sp:=qA (lz c) (jr (lz c)) f
abbrev gi (c:aB) (f:List D→R D):Sp:=vo (lz c) (jr (lz c)) f
abbrev rN (c:aB) (k:Nat) (f:List D→R D):Sp:=zo (lz c) k f
section
variable {P:Program} {w:World} {K:PySem.W.Frag} {mg:Str→Option Value} {base:Heap} {ad:yD}
theorem QU (T:Txt K mg ad):∀c,x_ c=true→dI (KX K ad).f ((KX K ad).ca c)∧aE (KX K ad).f ((KX K ad).ca c) "cheapest":=by
 intro c h
 match c,h with
 | 7,_=>exact⟨T.uI,T.QD⟩
theorem zfN (T:Txt K mg ad):dI (KX K ad).f ((KX K ad).ca 7)∧aE (KX K ad).f ((KX K ad).ca 7) "cheapest":=⟨T.uI,T.QD⟩
theorem zX (T:Txt K mg ad):∀c,oI c=true→dI (KX K ad).f ((KX K ad).ca c)∧aE (KX K ad).f ((KX K ad).ca c) "falling":=by
 intro c h
 match c,h with
 | 8,_=>exact⟨T.ue,T.QG⟩
 | 9,_=>exact⟨T.uJ,T.QK⟩
theorem zfW (T:Txt K mg ad):dI (KX K ad).f ((KX K ad).ca 8)∧aE (KX K ad).f ((KX K ad).ca 8) "falling":=⟨T.ue,T.QG⟩
theorem zgK (T:Txt K mg ad):dI (KX K ad).f ((KX K ad).ca 9)∧aE (KX K ad).f ((KX K ad).ca 9) "falling":=⟨T.uJ,T.QK⟩
theorem zwi (T:Txt K mg ad):∀c,DK c=true→dI (KX K ad).f ((KX K ad).ca c)∧aE (KX K ad).f ((KX K ad).ca c) "least":=by
 intro c h
 match c,h with
 | 8,_=>exact⟨T.ue,T.QH⟩
theorem zgT (T:Txt K mg ad):dI (KX K ad).f ((KX K ad).ca 8)∧aE (KX K ad).f ((KX K ad).ca 8) "least":=⟨T.ue,T.QH⟩
theorem zY (T:Txt K mg ad):∀c,r_ c=true→dI (KX K ad).f ((KX K ad).ca c)∧aE (KX K ad).f ((KX K ad).ca c) "lengths":=by
 intro c h
 match c,h with
 | 11,_=>exact⟨T.zW,T.QP⟩
 | 12,_=>exact⟨T.yG,T.QQ⟩
theorem zf2 (T:Txt K mg ad):dI (KX K ad).f ((KX K ad).ca 11)∧aE (KX K ad).f ((KX K ad).ca 11) "lengths":=⟨T.zW,T.QP⟩
theorem zf5 (T:Txt K mg ad):dI (KX K ad).f ((KX K ad).ca 12)∧aE (KX K ad).f ((KX K ad).ca 12) "lengths":=⟨T.yG,T.QQ⟩
theorem zZ (T:Txt K mg ad):∀c,se c=true→dI (KX K ad).f ((KX K ad).ca c)∧aE (KX K ad).f ((KX K ad).ca c) "many":=by
 intro c h
 match c,h with
 | 7,_=>exact⟨T.uI,T.QE⟩
 | 8,_=>exact⟨T.ue,T.QI⟩
 | 12,_=>exact⟨T.yG,T.QR⟩
theorem zg7 (T:Txt K mg ad):dI (KX K ad).f ((KX K ad).ca 7)∧aE (KX K ad).f ((KX K ad).ca 7) "many":=⟨T.uI,T.QE⟩
theorem zhr (T:Txt K mg ad):dI (KX K ad).f ((KX K ad).ca 8)∧aE (KX K ad).f ((KX K ad).ca 8) "many":=⟨T.ue,T.QI⟩
theorem zhi (T:Txt K mg ad):dI (KX K ad).f ((KX K ad).ca 12)∧aE (KX K ad).f ((KX K ad).ca 12) "many":=⟨T.yG,T.QR⟩
theorem QV (T:Txt K mg ad):∀c,BR c=true→dI (KX K ad).f ((KX K ad).ca c)∧aE (KX K ad).f ((KX K ad).ca c) "order":=by
 intro c h
 match c,h with
 | 8,_=>exact⟨T.ue,T.QJ⟩
 | 9,_=>exact⟨T.uJ,T.QL⟩
theorem zgI (T:Txt K mg ad):dI (KX K ad).f ((KX K ad).ca 8)∧aE (KX K ad).f ((KX K ad).ca 8) "order":=⟨T.ue,T.QJ⟩
theorem zhS (T:Txt K mg ad):dI (KX K ad).f ((KX K ad).ca 9)∧aE (KX K ad).f ((KX K ad).ca 9) "order":=⟨T.uJ,T.QL⟩
theorem Je (T:Txt K mg ad):∀c,x' c=true→dI (KX K ad).f ((KX K ad).ca c)∧aE (KX K ad).f ((KX K ad).ca c) "room":=by
 intro c h
 match c,h with
 | 9,_=>exact⟨T.uJ,T.QM⟩
 | 10,_=>exact⟨T.yF,T.QN⟩
theorem ziD (T:Txt K mg ad):dI (KX K ad).f ((KX K ad).ca 9)∧aE (KX K ad).f ((KX K ad).ca 9) "room":=⟨T.uJ,T.QM⟩
theorem zhQ (T:Txt K mg ad):dI (KX K ad).f ((KX K ad).ca 10)∧aE (KX K ad).f ((KX K ad).ca 10) "room":=⟨T.yF,T.QN⟩
theorem Ei (T:Txt K mg ad):∀c,uy c=true→dI (KX K ad).f ((KX K ad).ca c)∧aE (KX K ad).f ((KX K ad).ca c) "sets":=by
 intro c h
 match c,h with
 | 7,_=>exact⟨T.uI,T.QF⟩
theorem QW (T:Txt K mg ad):dI (KX K ad).f ((KX K ad).ca 7)∧aE (KX K ad).f ((KX K ad).ca 7) "sets":=⟨T.uI,T.QF⟩
theorem Ej (T:Txt K mg ad):∀c,zu c=true→dI (KX K ad).f ((KX K ad).ca c)∧aE (KX K ad).f ((KX K ad).ca c) "things":=by
 intro c h
 match c,h with
 | 10,_=>exact⟨T.yF,T.QO⟩
theorem zgN (T:Txt K mg ad):dI (KX K ad).f ((KX K ad).ca 10)∧aE (KX K ad).f ((KX K ad).ca 10) "things":=⟨T.yF,T.QO⟩
theorem zrj (k:Nat):Ck ad (4+16*(k+1))=ad.a4:=by
 unfold Ck
 rw[show (4+16*(k+1))%16=4 by lia];rfl
theorem zqP (k:Nat):Cm (4+16*(k+1)) = "thing":=by
 unfold Cm
 rw[show (4+16*(k+1))%16=4 by omega];rfl
theorem zt3 (k:Nat):Ck ad (5+16*(k+1))=ad.a5:=by
 unfold Ck
 rw[show (5+16*(k+1))%16=5 by lia];rfl
theorem zsF (k:Nat):Cm (5+16*(k+1)) = "thing":=by
 unfold Cm
 rw[show (5+16*(k+1))%16=5 by omega];rfl
theorem zAp (T:Txt K mg ad):∀c,Yq c=true→gF (KX K ad).f ((KX K ad).ca c)∧aE (KX K ad).f ((KX K ad).ca c) "thing"∧(KX K ad).an c = "thing":=by
 have key:∀r,NR r=true→gF K (IX ad r)∧aE K (IX ad r) "thing"∧Qz r = "thing":=by
  intro c h
  match c,h with
  | 4,_=>exact⟨T.qb6,T.QS,rfl⟩
  | 5,_=>exact⟨T.qb8,T.QT,rfl⟩
 exact fun c h=>key (c%16) h
abbrev Jf:Stmt:=Qy (top 5)
theorem zlC:bW ["self","thing"] ["self","thing"] (cQ Jf):=jt
theorem zkD {f:Addr} {fd:FuncData} (F:jD K "__init__" "NoCover.__init__" Jf f fd):cq P w K mg base jM 1 f fd ["self","thing"] (zj K "thing"):=by
 refine F.ok zlC (fun vs H Q E h=>M6 h) (fun qy A outer s H vs Q E hr h=>?_)
 obtain⟨e,C,xs,n,rfl,hH,zA,zN,q⟩:=h
 exact⟨_,cJ (M4 (pv 0) (pv 1) rfl),_,rfl,_,rfl,e,C,xs,rfl,hH,zA,zN,fun dx hd=>q dx hd⟩
abbrev QX (c:aB):Prop:=xS c.P c.w c.K c.mg c.base c.ad.b0 ["self","thing"] (zj c.K "thing")
abbrev Jg:Stmt:=Qy (top 6)
theorem zlV:bW ["self","thing"] ["self","thing"] (cQ Jg):=jt
theorem zlM {f:Addr} {fd:FuncData} (F:jD K "__init__" "NoRoom.__init__" Jg f fd):cq P w K mg base jM 1 f fd ["self","thing"] (zj K "thing"):=by
 refine F.ok zlV (fun vs H Q E h=>M6 h) (fun qy A outer s H vs Q E hr h=>?_)
 obtain⟨e,C,xs,n,rfl,hH,zA,zN,q⟩:=h
 exact⟨_,cJ (M4 (pv 0) (pv 1) rfl),_,rfl,_,rfl,e,C,xs,rfl,hH,zA,zN,fun dx hd=>q dx hd⟩
abbrev QY (c:aB):Prop:=xS c.P c.w c.K c.mg c.base c.ad.b1 ["self","thing"] (zj c.K "thing")
abbrev Ek (c:aB):Prop:=dG c 1 "_law_cell_at" ["_law_script","_law_k"] (cH c ny)
abbrev QZ:Stmt:=top 44
theorem zlN {c:aB} (T:bG c) (d:De c.K "_law_cell_at" QZ):Ek c:=hD T.xg d fun _ _ F=>iu ["_law_script","_law_k"] F fun _ _ _ _ _ _ hr hu nd=>⟨_,(bh (fg (pq CP (pv 1) (pB fP T.fF aV (bg (pv 0)))) (pR (pI (pv 0) (pv 1))) fH) (pR aS)),(bE (fu (dU (aG Dg ay (dJ fW (bL ay)).r)) (dD (aG eM ay ay)) fJ) (dD aL))⟩
abbrev z8 (c:aB):Prop:=dG c 1 "_law_number" ["_law_cell","_law_k"] (cH c t7)
abbrev Q0:Stmt:=top 45
theorem znu {c:aB} (T:bG c) (d:De c.K "_law_number" Q0):z8 c:=hD T.xg d fun _ _ F=>iu ["_law_cell","_law_k"] F fun _ _ _ _ _ _ hr hu nd=>⟨_,(pR (bx hU (bx u_ (bx f_ (bx f_ (bx hU (pv 0) (bx vZ aS aS)) (bx u_ (pv 1) (pv 1))) aS) (bx f_ aS (bx u_ aS (pv 1)))) aS)),(dD (aG hW (aG vm (aG gb (aG gb (aG hW ay (aG wj sI sI).r).r (aG vm ay ay).r).r sI).r (aG gb sI (aG vm sI ay).r).r).r sI))⟩
abbrev El (c:aB):Prop:=dG c 1 "_law_amount" ["_law_cell","_law_number_here"] (cH c uz)
abbrev Q1:Stmt:=top 46
theorem zmK {c:aB} (T:bG c) (d:De c.K "_law_amount" Q1):El c:=hD T.xg d fun _ _ F=>iu ["_law_cell","_law_number_here","_law_way","_law_part"] F fun _ _ _ _ _ _ hr hu nd=>⟨_,(bh (pS 2 nd (bx hU (pv 1) aS)) (bh (pS 3 nd (bx nV (pv 1) aS)) (bh (fg (pq iK (pv 2) aS) (pR (bx hU (pv 3) aS)) fH) (bh (fg (pq iK (pv 2) aS) (pR (bx hU (pv 0) (bx f_ (bx vZ aS aS) aS))) fH) (bh (fg (pq iK (pv 2) aS) (pR (bx wZ (bx vZ aS aS) (bx hU (pv 3) aS))) fH) (pR (bx hU (pv 3) aS))))))),(bE (dQ (aG hW ay sI) b8) (bE (dQ (aG nX ay sI) b8) (bE (fu (dU (aG i_ ay sI)) (dD (aG hW ay sI)) fJ) (bE (fu (dU (aG i_ ay sI)) (dD (aG hW ay (aG gb (aG wj sI sI).r sI).r)) fJ) (bE (fu (dU (aG i_ ay sI)) (dD (aG xu (aG wj sI sI).r (aG hW ay sI).r)) fJ) (dD (aG hW ay sI)))))))⟩
abbrev Q2 (c:aB):Prop:=dG c 2 "_law_sets" ["_law_cells","_law_many"] (gi c Hi)
abbrev Em:Stmt:=top 48
abbrev Jh:List Str:=["_law_cells","_law_many","_law_sets_here","_law_k","_law_cell","_law_bits","_law_things","_law_there","_law_price","_law_t"]
theorem zoS {c:aB} (T:bG c) (d:De c.K "_law_sets" Em) (g1:z8 c) (g2:El c):Q2 c:=hD T.xg d fun _ _ F=>oo Jh F fun _ _ _ _ _ _ hr hu nd=>⟨_,(bh (pS 2 nd (iN cn)) (bh (pF (A0 rfl T.zU (bg (pv 0))) (sX rfl (kQ (pN 3 nd) (kQ (pN 4 nd) sW))) (bh (pS 5 nd (bx nV (bU g1 hr bH (dh (pv 4) (pv 3))) aS)) (bh (BK 6 nd (k9 rfl T.jG (bg (pv 1))) (x6 (cQ Em) Jh ["_law_bits" ,"_law_t"] [5] 1 (fun _ _ _ _ _ _ nd=>⟨(pN 1 nd),(pv 1),(pq iK (bx hU (bx nV (pv 0) (bx S' aS (pv 1))) aS) aS)⟩))) (cJ (DJ (pv 2) (nO (dh (bU g2 hr bH (dh (pv 4) (bx nV (pv 5) aS))) (pv 6)))))))) (bh (pS 7 nd C2) (bh (pF (k8 (pv 2)) (sX rfl (kQ (pN 8 nd) (kQ (pN 6 nd) sW))) (cJ (pF (k8 (pv 6)) (pN 9 nd) (cJ (C1 hu (pv 7) (pv 9) pD rfl))))) (pR (bx nj (pv 2) (iN (bg (nO (dh aS (lU rfl (k9 rfl T.jG (bg (pv 1))) (x6 (cQ Em) Jh ["_law_there" ,"_law_t"] [7] 1 (fun _ _ _ _ _ _ nd=>⟨(pN 1 nd),(pv 1),(CG (C0 hu (pv 1) (pv 0)))⟩))))))))))))),(bE (qB (jm cg)) (bE (jo (C9 (cF aA)) (tw (kS b8 (kS b8 tu))) (bE (dQ (aG nX (gG (fw aA aA)).r sI) b8) (bE (dQ (kT (lg fB (cF aA)).c (by decide) i7 i9 (Or.inr ⟨_,_,rfl,rfl,(dU (aG i_ (aG hW (aG nX ay (aG VC sI ay).r).r sI).r sI))⟩) aA).e b8) (y6 (pX (fw (gG (fw aA (aG nX ay sI))) aA)))))) (bE (qB iR) (bE (UG (tw (kS b8 (kS b8 tu))) (jo (tD aA) b8 (Dd aA pV))) (jW (nh nq ay (jm (cF (pX (fw aL (kT (lg fB (cF aA)).c (by decide) i7 i9 (Or.inr ⟨_,_,rfl,rfl,(kF (Df aA ay))⟩) aA).e)))).e.r))))))⟩
abbrev Q3 (c:aB):Prop:=vK c 3 "refuse_missing" ["many","sets"] (cH c Hl)
abbrev Q4:Stmt:=top 21
theorem zjI {c:aB} (T:bG c) (d:De c.K "refuse_missing" Q4) (jx:QX c):Q3 c:=hD T.xg d fun _ _ F=>tX ["many","sets","held","one","thing"] F fun _ _ _ _ _ _ hr hu nd=>⟨_,(bh (pS 2 nd C2) (bh (qw eR rfl (k8 (pv 1)) (pN 3 nd) (cJ (qw eR rfl (k8 (pJ (pv 3) aS)) (pN 4 nd) (cJ (C1 hu (pv 2) (pv 4) pD rfl))))) (cJ (qw eR rfl (k9 rfl T.jG (bg (pv 0))) (pN 4 nd) (cJ (fg (CG (C0 hu (pv 4) (pv 2))) (cJ (M7 rfl rfl (by rfl) T.qbs T.qbu dy (by decide +kernel) dy M5 jx (hr.mono (by decide)) T.qbv (bg (pv 4)))) fH)))))),(bE (qB iR) (bE (jo (tD aA) b8 (jo (tD (aG qZ ay sI)) b8 (Dd aA pV))) (jo (lg fB (cF aA)) b8 (fu (kF (Df aA ay)) (M8 (c0:=4) (by decide) (fun k=>(zrj k).symm) zqP T.qb7 T.QS (cF aA)) fJ))))⟩
abbrev Q5 (c:aB):Prop:=dG c 1 "least_prices" ["sets"] (gi c Hm)
abbrev Q6:Stmt:=top 35
theorem zlG {c:aB} (T:bG c) (d:De c.K "least_prices" Q6):Q5 c:=hD T.xg d fun _ _ F=>oo ["sets","rows","price","things","row","thing"] F fun _ _ _ _ _ _ hr hu nd=>⟨_,(bh (pS 1 nd (iN (bg C2))) (bh (pF (Mv rfl T.I0 (bg (pv 0))) (sX rfl (kQ (pN 2 nd) (kQ (pN 3 nd) sW))) (bh (pS 4 nd (qx W3 (by rfl) T.qai boot_dict (bg (pI (pv 1) (rQ rR aS))))) (bh (pF (k8 (pv 3)) (pN 5 nd) (cJ (C1 hu (pv 4) (pv 5) (pB (EW rfl) T.Eh boot_min (dh (pv 2) (Ly hu (pv 4) (pv 5) (pv 2) MC))) rfl))) (cJ (DJ (pv 1) (pv 4)))))) (pR (V9 rfl (by rfl) T.si (by rfl) T.I0 (pv 1))))),(bE (qB (jm (cF iR.e))) (bE (jo (Vu (cF aA)) (tw (kS b8 (kS b8 tu))) (bE (qB (X8 (cF (aG eM ay (rV r0 sI).r)))) (bE (jo (tD aA) b8 (Dd aA (dJ Gx (tZ ay (MD ay aA aA).r)))) (LX (i:=4) (y6 aA))))) (jW (V_ ay))))⟩
abbrev Q7 (c:aB):Prop:=uf c 4 "CoverQuestion" c.ad.a7 ["self","many","sets"] (rN c 7 Hq)
abbrev Ji:Stmt:=iw (top 37) 0
abbrev Q8:List Str:=["self","many","sets"]
theorem zfJ {c:aB} (T:bG c) (d:Dm c.K c.ad.a7 "__init__" "CoverQuestion.__init__" Ji) (g4:Q3 c) (g5:Q5 c):Q7 c:=hC T.qcb T.qat d fun _ _ F=>tY Q8 F fun _ _ _ _ _ _ hr hu nd=>⟨_,(bh (qv (zt g4 hr yU (dh (pv 1) (pv 2)))) (bh (pL (pv 0) (pv 1) rfl) (bh (pL (pv 0) (lU rfl (k8 (pv 2)) (oj (cQ Ji) Q8 ["price" ,"things"] [] 2 (fun _ _ _ _ _ _ nd=>⟨(sX rfl (kQ (pN 0 nd) (kQ (pN 1 nd) sW))),(nO (dh (pv 0) (qx xc (by rfl) T.si eB (bg (pv 1)))))⟩))) rfl) (cJ (pL (pv 0) (bU g5 hr bH (bg (gB (pv 0) rfl))) rfl))))),(rE (DH (yY (fw aA aA))) (rE (zm (zg7 T) aA) (rE (X4 (QW T) (X0 (vg ay) (by decide) (tw (kS i7 (kS i7 tu))) (FQ (yZ i9 (yZ i9 FP))) (XX aA (xB xC (bL ay))))) (X7 (zfN T) (QW T)))))⟩
abbrev Q9 (c:aB):Prop:=dG c 2 "_law_sizes" ["_law_cells"] (gi c DN)
abbrev Q_:Stmt:=top 47
theorem zoH {c:aB} (T:bG c) (d:De c.K "_law_sizes" Q_) (g1:z8 c) (g2:El c):Q9 c:=hD T.xg d fun _ _ F=>oo ["_law_cells","_law_sizes_here","_law_k","_law_cell"] F fun _ _ _ _ _ _ hr hu nd=>⟨_,(bh (pS 1 nd (iN cn)) (bh (pF (A0 rfl T.zU (bg (pv 0))) (sX rfl (kQ (pN 2 nd) (kQ (pN 3 nd) sW))) (cJ (DJ (pv 1) (bx f_ aS (bx hU (bU g2 hr bH (dh (pv 3) (bx nV (bU g1 hr bH (dh (pv 3) (pv 2))) aS))) (bx vZ aS aS)))))) (pR (pv 1)))),(bE (qB (jm cg)) (bE (jo (C9 (cF aA)) (tw (kS b8 (kS b8 tu))) (y6 (aG gb sI (aG hW (gG (fw aA (aG nX (gG (fw aA aA)).r sI))).r (aG wj sI sI).r).r))) LW))⟩
abbrev Jj (c:aB):Prop:=dG c 1 "greatest_order" ["sizes"] (gi c vE)
abbrev sj:Stmt:=top 16
theorem zjK:bW ["sizes"] ["sizes"] (cQ sj):=jt
theorem zjm {f vL tP:Addr} {oc:Value} {od Eo:Option Addr} {uY:Array (Option Value)} {Ep vM Es Et:Value} (lk:K.lookup f=some ⟨oc,od,.func (PySem.W.fnOf "greatest_order" "greatest_order" (nU sj) (kR sj) (cQ sj) .none Ep vM Es Eo (.ref vL) Et),uY⟩) (DF:PySem.W.codeIn K (.ref vL) "greatest_order"=true) (T:Txt K mg ad) (hT:tabOf K=some (tP,#[.str ("greatest_order"++".<locals>."++"<lambda>") 0,rawInt ((74:Nat):Int),rawInt ((41:Nat):Int)])) (hC:PySem.W.codeHdIn K vL tP=true) (hB:mV mg base):cq P w K mg base jM 1 f (PySem.W.fnOf "greatest_order" "greatest_order" (nU sj) (kR sj) (cQ sj) .none Ep vM Es Eo (.ref vL) Et) ["sizes"] (vo (KX K ad) (jr (KX K ad)) vE):=by
 refine CS lk DF zjK (fun vs H Q E h=>Ma h) (fun A outer s H vs Q E hr h=>?_)
 have hu:=tf hr
 exact⟨_,(cJ (qO (WK rfl hr (by rfl) T.qao (bQ (ME (by rfl) T.jG (bQ (uZ fP (by rfl) T.fF aV (bQ (pv 0) cn)) cn)) cn) hT hC rfl hB (fun cc h=>by cases h;rfl) rfl (fun _ _ _ _ _ _=>rfl) rfl rfl rfl rfl rfl (by decide +kernel) rfl rfl (by decide) (by decide) (by decide)))),L_ (K:=(KX K ad)) (XO:=(jr (KX K ad))) (E:=E) (np:=1) (nv:=0) (m:=N6)
   (jW WU) rfl h⟩
abbrev Ra (c:aB):Prop:=dG c 1 "common_factor" ["one","other"] (cH c Ht)
abbrev Rb:Stmt:=top 12
theorem zkg {c:aB} (T:bG c) (d:De c.K "common_factor" Rb):Ra c:=hD T.xg d fun _ _ F=>iu ["one","other","great","small","rest"] F fun _ _ _ _ _ _ hr hu nd=>⟨_,(bh (pS 2 nd (pB EV T.IY boot_abs (bg (pv 0)))) (bh (pS 3 nd (pB EV T.IY boot_abs (bg (pv 1)))) (bh (EL jd (pq w8 (pv 3) aS) (bh (pS 4 nd (bx hU (pv 2) (pv 3))) (bh (pS 2 nd (pv 3)) (cJ (pS 3 nd (pv 4)))))) (pR (pv 2))))),(bE (dQ (dJ Gi (bL ay)) b8) (bE (dQ (dJ Gi (bL ay)) b8) (bE (FW (dU (aG xv ay sI)) (bE (dQ (aG hW ay ay) b8) (bE (dQ aA b8) (dQ aA b8)))) (dD aA))))⟩
abbrev Jk (c:aB):Prop:=vK c 2 "share" ["top","bottom"] (cH c uA)
abbrev Rc:Stmt:=top 13
theorem zve {c:aB} (T:bG c) (d:De c.K "share" Rc) (g9:Ra c):Jk c:=hD T.xg d fun _ _ F=>tX ["top","bottom","factor"] F fun _ _ _ _ _ _ hr hu nd=>⟨_,(bh (fg (pq iK (pv 1) aS) (cJ (A9 rfl (by rfl) T.qbp T.qb0 dy (by decide +kernel) dy A' (bg Ax))) fH) (bh (pS 2 nd (bU g9 hr bH (dh (pv 0) (pv 1)))) (bh (fg (pq CP (pv 1) aS) (cJ (pS 2 nd (rQ rR (pv 2)))) fH) (pR (nO (dh (bx nV (pv 0) (pv 2)) (bx nV (pv 1) (pv 2)))))))),(bE (fu (dU (aG i_ ay sI)) (Bq (c:=1) rfl (by decide) (cF Ba)) fJ) (bE (dQ (gG (fw aA aA)) b8) (bE (fu (dU (aG Dg ay sI)) (dQ (rV r0 ay) b8) fJ) (dD (pX (fw (aG nX ay ay) (aG nX ay ay)))))))⟩
abbrev Jl (c:aB):Prop:=dG c 1 "rounded_up" ["one"] (cH c wC)
abbrev Rf:Stmt:=top 14
theorem znj {c:aB} (T:bG c) (d:De c.K "rounded_up" Rf):Jl c:=hD T.xg d fun _ _ F=>iu ["one"] F fun _ _ _ _ _ _ hr hu nd=>⟨_,(pR (rQ rR (bx nV (rQ rR (pJ (pv 0) aS)) (pJ (pv 0) aS)))),(dD (rV r0 (aG nX (rV r0 (aG qZ ay sI).r).r (aG qZ ay sI).r).r))⟩
abbrev Rh (c:aB):Prop:=uf c 3 "BenchQuestion" c.ad.a8 ["self","works","many"] (rN c 8 Hw)
abbrev Jm:Stmt:=iw (top 38) 0
abbrev Ri:List Str:=["self","works","many"]
theorem zfL {c:aB} (T:bG c) (d:Dm c.K c.ad.a8 "__init__" "BenchQuestion.__init__" Jm) (g8:Jj c) (z9:Jk c) (z_:Jl c):Rh c:=hC T.qcc T.qau d fun _ _ F=>tY Ri F fun _ _ _ _ _ _ hr hu nd=>⟨_,(bh (pL (pv 0) (pv 2) rfl) (bh (pL (pv 0) (bU g8 hr bH (bg (pv 1))) rfl) (bh (pL (pv 0) (lU rfl (k8 (gB (pv 0) rfl)) (oj (cQ Jm) Ri ["works" ,"number"] [1] 1 (fun _ _ _ _ _ _ nd=>⟨(pN 1 nd),(pI (pv 0) (pv 1))⟩))) rfl) (cJ (pL (pv 0) (bU z_ hr bH (bg (zt z9 hr yU (dh (pB (xJ rfl) T.yE boot_sum (bg (pv 1))) (pv 2))))) rfl))))),(rE (zm (zhr T) aA) (rE (GZ (zgI T) (rf (cF aA))) (rE (Nm (zfW T) (kT (vg (gQ (QV T) ay).r) (by decide) i7 i9 (Or.inl ⟨rfl,rfl⟩) (aG eM ay ay))) (zm (zgT T) (gG (cF (yY (fw (dJ xI (bL ay)) aA))))))))⟩
abbrev Rj (c:aB):Prop:=vK c 3 "refuse_too_great" ["sizes","room"] (cH c BU)
abbrev Rk:Stmt:=top 19
theorem zin {c:aB} (T:bG c) (d:De c.K "refuse_too_great" Rk) (kO:QY c):Rj c:=hD T.xg d fun _ _ F=>tX ["sizes","room","number","size"] F fun _ _ _ _ _ _ hr hu nd=>⟨_,(cJ (qw eR rfl (A0 rfl T.zU (bg (pv 0))) (sX rfl (kQ (pN 2 nd) (kQ (pN 3 nd) sW))) (cJ (fg (pq w8 (pv 3) (pv 1)) (cJ (M7 rfl rfl (by rfl) T.qbt T.qbx dy (by decide +kernel) dy M5 kO (hr.mono (by decide)) T.qby (bg (pv 2)))) fH)))),(jo (C9 (cF aA)) (tw (kS b8 (kS b8 tu))) (fu (dU (aG xv ay ay)) (M8 (c0:=5) (by decide) (fun k=>(zt3 k).symm) zsF T.qb9 T.QT (cF aA)) fJ))⟩
abbrev Rl (c:aB):Prop:=uf c 4 "BinQuestion" c.ad.a9 ["self","sizes","room"] (rN c 9 Hz)
abbrev Jn:Stmt:=iw (top 39) 0
abbrev Rm:List Str:=["self","sizes","room"]
theorem zgf {c:aB} (T:bG c) (d:Dm c.K c.ad.a9 "__init__" "BinQuestion.__init__" Jn) (g8:Jj c) (Jo:Rj c):Rl c:=hC T.qcd T.qav d fun _ _ F=>tY Rm F fun _ _ _ _ _ _ hr hu nd=>⟨_,(bh (qv (zt Jo hr yU (dh (pv 1) (pv 2)))) (bh (pL (pv 0) (pv 2) rfl) (bh (pL (pv 0) (bU g8 hr bH (bg (pv 1))) rfl) (cJ (pL (pv 0) (lU rfl (k8 (gB (pv 0) rfl)) (oj (cQ Jn) Rm ["sizes" ,"number"] [1] 1 (fun _ _ _ _ _ _ nd=>⟨(pN 1 nd),(pI (pv 0) (pv 1))⟩))) rfl))))),(rE (DH (yY (fw aA aA))) (rE (zm (ziD T) aA) (rE (GZ (zhS T) (rf (cF aA))) (Nm (zgK T) (kT (vg (gQ (QV T) ay).r) (by decide) i7 i9 (Or.inl ⟨rfl,rfl⟩) (aG eM ay ay))))))⟩
abbrev Ro (c:aB):Prop:=Jc c 1 "SackQuestion" c.ad.kY ["self","room","things"] (rN c 10 HC)
abbrev Rp:Stmt:=iw (top 40) 0
theorem zga {c:aB} (T:bG c) (d:Dm c.K c.ad.kY "__init__" "SackQuestion.__init__" Rp):Ro c:=hC T.qce T.qaw d fun _ _ F=>Ya ["self","room","things"] F fun _ _ _ _ _ _ hr hu nd=>⟨_,(bh (pL (pv 0) (pv 1) rfl) (cJ (pL (pv 0) (qx xc (by rfl) T.si eB (bg (pv 2))) rfl))),(rE (zm (zhQ T) aA) (GZ (zgN T) (xB xC (bL ay))))⟩
abbrev Rq (c:aB):Prop:=dG c 2 "_law_spot" ["_law_cell","_law_k"] (cH c DO)
abbrev Rr:Stmt:=top 49
theorem zoY {c:aB} (T:bG c) (d:De c.K "_law_spot" Rr) (g1:z8 c):Rq c:=hD T.xg d fun _ _ F=>iu ["_law_cell","_law_k"] F fun _ _ _ _ _ _ hr hu nd=>⟨_,(pR (bx f_ (bx u_ (bU g1 hr bH (dh (pv 0) (pv 1))) aS) (bx u_ aS (pv 1)))),(dD (aG gb (aG vm (gG (fw aA aA)).r sI).r (aG vm sI ay).r))⟩
abbrev Rt (c:aB):Prop:=dG c 1 "_law_apart" ["_law_spots","_law_one","_law_other","_law_top"] (cH c zv)
abbrev Ru:Stmt:=top 50
theorem znK {c:aB} (T:bG c) (d:De c.K "_law_apart" Ru):Rt c:=hD T.xg d fun _ _ F=>iu ["_law_spots","_law_one","_law_other","_law_top"] F fun _ _ _ _ _ _ hr hu nd=>⟨_,(pR (pB EV T.IY boot_abs (bg (bx wZ (bx hU (pI (pv 0) (pv 1)) (pv 3)) (bx hU (pI (pv 0) (pv 2)) (pv 3)))))),(dD (dJ Gi (bL (aG xu (aG hW (aG eM ay ay).r ay).r (aG hW (aG eM ay ay).r ay).r).r)))⟩
abbrev Rv (c:aB):Prop:=dG c 3 "_law_lengths" ["_law_script","_law_many"] (gi c DQ)
abbrev Co:Stmt:=top 51
abbrev Jp:List Str:=["_law_script","_law_many","_law_first","_law_top","_law_cells","_law_spots","_law_lengths_here","_law_one","_law_other","_law_far","_law_number_here"]
theorem zl4 {c:aB} (T:bG c) (d:De c.K "_law_lengths" Co) (g0:Ek c) (Jq:Rq c) (Eu:Rt c):Rv c:=hD T.xg d fun _ _ F=>oo Jp F fun _ _ _ _ _ _ hr hu nd=>⟨_,(bh (pS 2 nd (bx hU (bU g0 hr bH (dh (pv 0) aS)) (bx vZ aS aS))) (bh (pS 3 nd (pI (iN (bQ aS (dh aS (bx u_ aS (bx vZ aS aS))))) (bx hU (bx nV (pv 2) aS) aS))) (bh (pS 4 nd (bx nj (kB lS (pv 0) (jk aS) mK) (iN (bg (pv 2))))) (bh (BK 5 nd (k9 rfl T.jG (bg (bx u_ aS (pv 1)))) (oj (cQ Co) Jp ["_law_cells" ,"_law_k"] [4] 1 (fun _ _ _ _ _ _ nd=>⟨(pN 1 nd),(bU Jq hr bH (dh (pI (pv 0) (bx hU (pv 1) (pB fP (by exact T.fF) aV (bg (pv 0))))) (pv 1)))⟩))) (bh (BK 6 nd (k9 rfl T.jG (bg (pv 1))) (oj (cQ Co) Jp ["_law_many" ,"_law_one"] [1] 1 (fun _ _ _ _ _ _ nd=>⟨(pN 1 nd),(lU rfl (k9 (by rfl) (by exact T.jG) (bg (pv 0))) (oj (Vt _ (cQ Co)) ["_law_many" ,"_law_one"] ["_law_other"] [] 1 (fun _ _ _ _ _ _ nd=>⟨(pN 0 nd),aS⟩)))⟩))) (bh (pF (k9 rfl T.jG (bg (pv 1))) (pN 7 nd) (cJ (pF (k9 rfl T.jG (bg (pv 7))) (pN 8 nd) (bh (pS 9 nd (bU Eu hr bH (bQ (pv 5) (bQ (pv 7) (dh (pv 8) (pv 3)))))) (bh (pS 9 nd (bx f_ (pv 9) (bU Eu hr bH (bQ (pv 5) (bQ (bx f_ (pv 1) (pv 7)) (dh (bx f_ (pv 1) (pv 8)) (pv 3))))))) (bh (fg (pq iK (bx hU (pv 2) aS) aS) (bh (pS 10 nd (bx f_ (pI (pv 5) (pv 8)) (bx u_ aS (pI (pv 5) (bx f_ (pv 1) (pv 7)))))) (cJ (pS 9 nd (bx f_ (pv 3) (bx hU (pv 10) (bx f_ (pv 3) aS)))))) fH) (bh (CL (pv 9) (CK (pI (pv 6) (pv 7)) (pv 8) yO)) (cJ (CL (pv 9) (CK (pI (pv 6) (pv 8)) (pv 7) yO)))))))))) (pR (pv 6)))))))),(bE (dQ (aG hW (gG (fw aA aL)).r (aG wj sI sI).r) b8) (bE (dQ (aG eM (jm (cz aL (fw aL (aG vm sI (aG wj sI sI).r)))).e.r (aG hW (aG nX ay sI).r sI).r) b8) (bE (dQ (nh nq (lW ay (jq aL) mS).e.r (jm (cF aA)).e.r).e b8) (bE (dQ (kT (lg fB (cF (aG vm sI ay))).c (by decide) i7 i9 (Or.inl ⟨rfl,rfl⟩) (gG (fw (aG eM ay (aG hW ay (dJ fW (bL ay)).r).r) aA))).e b8) (bE (V0 (MQ (lg fB (cF aA)).c (by decide) i7 i9 (kT (lg fB (cF aA)).c (by decide) i7 i9 (Or.inl ⟨rfl,rfl⟩) aL))) (bE (jo (lg fB (cF aA)) b8 (jo (lg fB (cF aA)) b8 (bE (dQ (gG (cz aA (cz aA (fw aA aA)))) b8) (bE (dQ (aG gb ay (gG (cz aA (cz (aG gb ay ay) (fw (aG gb ay ay) aA)))).r) b8) (bE (fu (dU (aG i_ (aG hW ay sI).r sI)) (bE (dQ (aG gb (aG eM ay ay).r (aG vm sI (aG eM ay (aG gb ay ay).r).r).r) b8) (dQ (aG gb ay (aG hW ay (aG gb ay sI).r).r) b8)) fJ) (bE (MT aA aA aA) (MT aA aA aA))))))) V3))))))⟩
abbrev Jr (c:aB):Prop:=vK c 1 "look_at" ["lengths"] (cH c DR)
abbrev Rw:Stmt:=top 24
theorem zrb {c:aB} (T:bG c) (d:De c.K "look_at" Rw):Jr c:=hD T.xg d fun _ _ F=>tX ["lengths","count","a","b","c"] F fun _ _ _ _ _ _ hr hu nd=>⟨_,(bh (pS 1 nd (pB fP T.fF aV (bg (pv 0)))) (bh (qw eR rfl (k9 rfl T.jG (bg (pv 1))) (pN 2 nd) (cJ (fg (pq ES (pI (pI (pv 0) (pv 2)) (pv 2)) aS) (cJ (A9 rfl (by rfl) T.Ja T.Jb dy (by decide +kernel) dy A' (bg Ax))) fH))) (bh (qw eR rfl (k9 rfl T.jG (bg (pv 1))) (pN 2 nd) (cJ (qw eR rfl (k9 rfl T.jG (bg (pv 2))) (pN 3 nd) (cJ (fg (pq ES (pI (pI (pv 0) (pv 2)) (pv 3)) (pI (pI (pv 0) (pv 3)) (pv 2))) (cJ (A9 rfl (by rfl) T.Ja T.Jb dy (by decide +kernel) dy A' (bg Ax))) fH))))) (cJ (qw eR rfl (k9 rfl T.jG (bg (pv 1))) (pN 2 nd) (cJ (qw eR rfl (k9 rfl T.jG (bg (pv 1))) (pN 3 nd) (cJ (qw eR rfl (k9 rfl T.jG (bg (pv 1))) (pN 4 nd) (cJ (fg (pq CP (bx f_ (pI (pI (pv 0) (pv 2)) (pv 3)) (pI (pI (pv 0) (pv 3)) (pv 4))) (pI (pI (pv 0) (pv 2)) (pv 4))) (cJ (A9 rfl (by rfl) T.Ja T.Jb dy (by decide +kernel) dy A' (bg Ax))) fH))))))))))),(bE (dQ (dJ fW (bL ay)) b8) (bE (jo (lg fB (cF aA)) b8 (fu (dU (aG FZ (aG eM (aG eM ay ay).r ay).r sI)) (Bq (c:=2) rfl (by decide) (cF Ba)) fJ)) (bE (jo (lg fB (cF aA)) b8 (jo (lg fB (cF aA)) b8 (fu (dU (aG FZ (aG eM (aG eM ay ay).r ay).r (aG eM (aG eM ay ay).r ay).r)) (Bq (c:=2) rfl (by decide) (cF Ba)) fJ))) (jo (lg fB (cF aA)) b8 (jo (lg fB (cF aA)) b8 (jo (lg fB (cF aA)) b8 (fu (dU (aG Dg (aG gb (aG eM (aG eM ay ay).r ay).r (aG eM (aG eM ay ay).r ay).r).r (aG eM (aG eM ay ay).r ay).r)) (Bq (c:=2) rfl (by decide) (cF Ba)) fJ)))))))⟩
abbrev Js (c:aB):Prop:=dG c 1 "copied_lengths" ["lengths"] (BC (lz c) (jr (lz c)) zw)
abbrev Ew:Stmt:=top 31
theorem zjt:bW ["lengths"] ["lengths"] (cQ Ew):=jt
theorem zjs {f:Addr} {fd:FuncData} (F:jD K "copied_lengths" "copied_lengths" Ew f fd) (T:Txt K mg ad)  : cq P w K mg base jM 1 f fd ["lengths"] (BC (KX K ad) (jr (KX K ad)) zw):=by
 refine F.ok zjt (fun vs H Q E h=>XI h) (fun qy A outer s H vs Q E hr h=>?_)
 have hu:=tf hr
 exact⟨_,(cJ (qO (lU rfl (k8 (pv 0)) (Fw (cQ Ew) ["lengths"] ["row"] [] 1 rfl rfl rfl (by decide +kernel) (by decide +kernel) (by decide +kernel) rfl (by decide +kernel) (fun cl C s H fp pins=>(AF (i:=0) (show List.Nodup (["row"]:List Str) by decide +kernel) rfl (Or.inl rfl))) (fun cl C s H fp pins=>(qx xc (by rfl) T.si eB (bQ (pv 0) cn))) (Or.inl ⟨rfl,rfl⟩))))),XJ (K:=(KX K ad)) (XO:=(jr (KX K ad))) (E:=E) (np:=1) (m:=Ot)
   (MQ (vg ay) (by decide) i7 i9 (xB xC (uq ay ve))) rfl h⟩
abbrev Rx (c:aB):Prop:=uf c 2 "RoundQuestion" c.ad.j9 ["self","lengths"] (rN c 11 HI)
abbrev Ry:Stmt:=iw (top 41) 0
theorem zfO {c:aB} (T:bG c) (d:Dm c.K c.ad.j9 "__init__" "RoundQuestion.__init__" Ry) (Aa:Jr c) (Ab:Js c):Rx c:=hC T.qcf T.qax d fun _ _ F=>tY ["self","lengths"] F fun _ _ _ _ _ _ hr hu nd=>⟨_,(bh (qv (zt Aa hr yU (bg (pv 1)))) (cJ (pL (pv 0) (bU Ab hr bH (bg (pv 1))) rfl))),(rE (DH (yY (cF aA))) (NA (zf2 T) (Nz (cF aA))))⟩
abbrev Rz (c:aB):Prop:=uf c 2 "PlaceQuestion" c.ad.kZ ["self","lengths","many"] (rN c 12 HK)
abbrev RA:Stmt:=iw (top 42) 0
theorem zfR {c:aB} (T:bG c) (d:Dm c.K c.ad.kZ "__init__" "PlaceQuestion.__init__" RA) (Aa:Jr c) (Ab:Js c):Rz c:=hC T.qcg T.qay d fun _ _ F=>tY ["self","lengths","many"] F fun _ _ _ _ _ _ hr hu nd=>⟨_,(bh (qv (zt Aa hr yU (bg (pv 1)))) (bh (pL (pv 0) (bU Ab hr bH (bg (pv 1))) rfl) (cJ (pL (pv 0) (pv 2) rfl)))),(rE (DH (yY (cF aA))) (rE (NA (zf5 T) (Nz (cF aA))) (zm (zhi T) aA)))⟩
abbrev RB (c:aB):Prop:=dG c 6 "_law_question" ["_law_script","_law_kind"] (cH c DS)
abbrev RC:Stmt:=top 52
theorem zk5 {c:aB} (T:bG c) (d:De c.K "_law_question" RC) (g0:Ek c) (g1:z8 c) (g2:El c) (g3:Q2 c) (g6:Q7 c) (g7:Q9 c) (Jt:Rh c) (Ju:Rl c) (Jv:Ro c) (Ex:Rv c) (Jw:Rx c) (Jx:Rz c):RB c:=hD T.xg d fun _ _ F=>iu ["_law_script","_law_kind","_law_first","_law_sizes_here","_law_most","_law_things","_law_k","_law_cell","_law_many"] F fun _ _ _ _ _ _ hr hu nd=>⟨_,(bh (pS 2 nd (bx hU (bx nV (bU g0 hr bH (dh (pv 0) aS)) aS) (bx vZ aS aS))) (bh (fg (pq iK (pv 1) aS) (pR (XU T.qa0 T.qa2 T.qa1 (by rfl) T.qas)) fH) (bh (fg (pq iK (pv 1) aS) (pR (zk g6 (hr.mono (by decide)) (by rfl) we (dh (bx hU (pv 2) aS) (bU g3 hr bH (dh (kB lS (pv 0) (jk aS) (jk aS)) (bx hU (pv 2) aS)))))) fH) (bh (pS 3 nd (bU g7 hr bH (bg (kB lS (pv 0) (jk aS) (jk aS))))) (bh (fg (pq iK (pv 1) aS) (pR (zk Jt (hr.mono (by decide)) (by rfl) we (dh (pv 3) (bx f_ aS (bx hU (pv 2) aS))))) fH) (bh (fg (pq iK (pv 1) aS) (bh (pS 4 nd (MA rfl (by rfl) T.zV (bg (pv 3)) aS)) (pR (zk Ju (hr.mono (by decide)) (by rfl) we (dh (pv 3) (pB (EW rfl) T.Eh boot_min (dh (bx vZ aS aS) (bx f_ (pv 4) (bx nV (bx u_ (bx hU (pv 2) aS) (pv 4)) aS)))))))) fH) (bh (fg (pq iK (pv 1) aS) (bh (pS 5 nd (iN cn)) (bh (pF (A0 rfl T.zU (bg (kB lS (pv 0) (jk aS) (jk aS)))) (sX rfl (kQ (pN 6 nd) (kQ (pN 7 nd) sW))) (cJ (DJ (pv 5) (nO (dh (bU g2 hr bH (dh (pv 7) (bx nV (bU g1 hr bH (dh (pv 7) (bx f_ (pv 6) aS))) aS))) (bx f_ aS (bx hU (pv 7) aS))))))) (pR (zk Jv (hr.mono (by decide)) (by rfl) bH (dh (bx hU (pv 2) aS) (pv 5)))))) fH) (bh (pS 8 nd (bx f_ aS (bx hU (pv 2) aS))) (bh (fg (pq iK (pv 1) aS) (pR (zk Jw (hr.mono (by decide)) (by rfl) we (bg (bU Ex hr bH (dh (pv 0) (pv 8)))))) fH) (pR (zk Jx (hr.mono (by decide)) (by rfl) we (dh (bU Ex hr bH (dh (pv 0) (pv 8))) (bx f_ aS (bx hU (bx nV (pv 2) aS) (pv 8))))))))))))))),(bE (dQ (aG hW (aG nX (gG (fw aA aL)).r sI).r (aG wj sI sI).r) b8) (bE (fu (dU (aG i_ ay sI)) (dD (XW rfl).e) fJ) (bE (fu (dU (aG i_ ay sI)) (dD (zp rfl (tF (aG hW ay sI) (tF (rf (fw (lW ay (jq aL) (jq aL)).e (aG hW ay sI))).e xy))).e) fJ) (bE (dQ (rf (cF (lW ay (jq aL) (jq aL)).e)).e b8) (bE (fu (dU (aG i_ ay sI)) (dD (zp rfl (tF aA (tF (aG gb sI (aG hW ay sI).r) xy))).e) fJ) (bE (fu (dU (aG i_ ay sI)) (bE (dQ (MB (bL ay) aL) b8) (dD (zp rfl (tF aA (tF (dJ Gx (tZ (aG wj sI sI).r (aG gb ay (aG nX (aG vm (aG hW ay sI).r ay).r sI).r).r)) xy))).e)) fJ) (bE (fu (dU (aG i_ ay sI)) (bE (qB (jm cg)) (bE (jo (C9 (cF (lW ay (jq aL) (jq aL)).e)) (tw (kS b8 (kS b8 tu))) (y6 (pX (fw (gG (fw aA (aG nX (gG (fw aA (aG gb ay sI))).r sI))) (aG gb sI (aG hW ay sI).r))))) (dD (zp rfl (tF (aG hW ay sI) (Mb xy))).e))) fJ) (bE (dQ (aG gb sI (aG hW ay sI).r) b8) (bE (fu (dU (aG i_ ay sI)) (dD (zp rfl (tF (rf (fw aA aA)).e xy)).e) fJ) (dD (zp rfl (tF (rf (fw aA aA)).e (tF (aG gb sI (aG hW (aG nX ay sI).r ay).r) xy))).e))))))))))⟩
abbrev RD (c:aB):Prop:=dG c 1 "heaviest" ["works","many","put"] (cH c HL)
abbrev Jy:Stmt:=top 17
abbrev RE:List Str:=["works","many","put","sums","work","bench"]
theorem zpB {c:aB} (T:bG c) (d:De c.K "heaviest" Jy):RD c:=hD T.xg d fun _ _ F=>iu RE F fun _ _ _ _ _ _ hr hu nd=>⟨_,(bh (BK 3 nd (k9 rfl T.jG (bg (pv 1))) (oj (cQ Jy) RE ["bench"] [] 1 (fun _ _ _ _ _ _ nd=>⟨(pN 0 nd),aS⟩))) (bh (pF (Nt rfl T.QB (dh (pv 0) (pv 2))) (sX rfl (kQ (pN 4 nd) (kQ (pN 5 nd) sW))) (cJ (Kw (pv 3) (pv 5) MN (pv 4) Ky yO))) (pR (pB (MI rfl) T.zV boot_max (bg (pv 3)))))),(bE (qB (kT (lg fB (cF aA)).c (by decide) i7 i9 (Or.inl ⟨rfl,rfl⟩) aL)) (bE (jo (Nu (fw aA aA)) (tw (kS b8 (kS b8 tu))) (L0 aA aA)) (dD (dJ Gy (bL ay)))))⟩
abbrev Jz (c:aB):Prop:=fe c 2 "low" c.ad.a8 ["self","case"] (cH c BV)
abbrev RF:Stmt:=iw (top 38) 3
theorem zhI {c:aB} (T:bG c) (d:Dm c.K c.ad.a8 "low" "BenchQuestion.low" RF) (JA:RD c):Jz c:=hM T.ue d fun _ _ F=>iu ["self","case","so_far"] F fun _ _ _ _ _ _ hr hu nd=>⟨_,(bh (pS 2 nd (kB lS (gB (pv 0) rfl) mK (jk (pB fP T.fF aV (bg (pv 1)))))) (pR (pB (KW rfl) T.zV boot_max (dh (gB (pv 0) rfl) (bU JA hr bH (bQ (pv 2) (dh (gB (pv 0) rfl) (pv 1)))))))),(bE (dQ (lW (gQ (zX T) ay).r mS (jq (dJ fW (bL ay)))).e b8) (dD (dJ MJ (tZ (gQ (zwi T) ay).r (gG (cz aA (fw (gQ (zZ T) ay) aA))).r))))⟩
abbrev JB (c:aB):Prop:=fe c 1 "free" c.ad.a9 ["self","case"] (gi c zx)
abbrev JC:Stmt:=iw (top 39) 1
abbrev RG:List Str:=["self","case","left","size","chosen"]
theorem zib {c:aB} (T:bG c) (d:Dm c.K c.ad.a9 "free" "BinQuestion.free" JC):JB c:=hM T.uJ d fun _ _ F=>oo RG F fun _ _ _ _ _ _ hr hu nd=>⟨_,(bh (BK 2 nd (k9 rfl T.jG (bg (pB MP T.fF aV (bg (qx (Nx rfl) (by rfl) T.QC boot_set (bg (pv 1))))))) (oj (cQ JC) RG ["self" ,"number"] [0] 1 (fun _ _ _ _ _ _ nd=>⟨(pN 1 nd),(gB (pv 0) rfl)⟩))) (bh (pF (Nt rfl T.QB (dh (gB (pv 0) rfl) (pv 1))) (sX rfl (kQ (pN 3 nd) (kQ (pN 4 nd) sW))) (cJ (Kw (pv 2) (pv 4) MN (pv 3) S3 yO))) (pR (pv 2)))),(bE (qB (kT (lg fB (cF (Ny (cF aA)))).c (by decide) i7 i9 (Or.inl ⟨rfl,rfl⟩) (gQ (Je T) ay))) (bE (jo (Nu (fw (gQ (zX T) ay) aA)) (tw (kS b8 (kS b8 tu))) (L0 aA aA)) LW))⟩
abbrev JD (c:aB):Prop:=Jd c 3 "low" c.ad.a9 ["self","case"] (cH c BX)
abbrev RH:Stmt:=iw (top 39) 4
theorem zjf {c:aB} (T:bG c) (d:Dm c.K c.ad.a9 "low" "BinQuestion.low" RH) (z9:Jk c) (z_:Jl c) (Ac:JB c):JD c:=hM T.uJ d fun _ _ F=>tX ["self","case","left","beyond"] F fun _ _ _ _ _ _ hr hu nd=>⟨_,(bh (pS 2 nd (pM Ac hr bH (pv 0) (bg (pv 1)))) (bh (pS 3 nd (bx wZ (pB (xJ rfl) T.yE boot_sum (bg (kB lS (gB (pv 0) rfl) (jk (pB fP T.fF aV (bg (pv 1)))) mK))) (pB (xJ rfl) T.yE boot_sum (bg (pv 2))))) (pR (bx f_ (pB fP T.fF aV (bg (pv 2))) (pB (KW rfl) T.zV boot_max (dh aS (bU z_ hr bH (bg (zt z9 hr yU (dh (pv 3) (gB (pv 0) rfl))))))))))),(bE (dQ (jF rfl aA (cF aA)).e b8) (bE (dQ (aG xu (dJ xI (bL (lW (gQ (zX T) ay).r (jq (dJ fW (bL ay))) mS).e.r)).r (dJ xI (bL ay)).r) b8) (dD (aG gb (dJ fW (bL ay)).r (dJ MJ (tZ sI (gG (cF (yY (fw aA (gQ (Je T) ay))))).r)).r))))⟩
abbrev Cp (c:aB):Prop:=dG c 1 "chosen_by" ["case","choice"] (gi c zy)
abbrev JE:Stmt:=top 33
abbrev RI:List Str:=["case","choice"]
theorem zoq {c:aB} (T:bG c) (d:De c.K "chosen_by" JE):Cp c:=hD T.xg d fun _ _ F=>oo RI F fun _ _ _ _ _ _ hr hu nd=>⟨_,(pR (lU rfl (Xd rfl T.zU (bg (pv 0))) (x6 (cQ JE) RI ["choice" ,"number" ,"made"] [1] 2 (fun _ _ _ _ _ _ nd=>⟨(sX rfl (kQ (pN 1 nd) (kQ (pN 2 nd) sW))),(pv 1),(pq iK (pv 2) (pv 0))⟩)))),(jW (kT (Xg (cF aA)).c (by decide) (tw (kS i7 (kS i7 tu))) (FQ (yZ i9 (yZ i9 FP))) (Or.inr ⟨_,_,rfl,rfl,(dU (aG i_ ay ay))⟩) aA))⟩
abbrev JF (c:aB):Prop:=fe c 2 "not_covered" c.ad.a7 ["self","case"] (gi c DT)
abbrev JG:Stmt:=iw (top 37) 1
abbrev RJ:List Str:=["self","case","held","number","thing"]
theorem zeN {c:aB} (T:bG c) (d:Dm c.K c.ad.a7 "not_covered" "CoverQuestion.not_covered" JG) (sk:Cp c):JF c:=hM T.uI d fun _ _ F=>oo RJ F fun _ _ _ _ _ _ hr hu nd=>⟨_,(bh (pS 2 nd C2) (bh (pF (k8 (bU sk hr bH (dh (pv 1) aS))) (pN 3 nd) (cJ (pF (k8 (pJ (pI (gB (pv 0) rfl) (pv 3)) aS)) (pN 4 nd) (cJ (C1 hu (pv 2) (pv 4) pD rfl))))) (pR (lU rfl (k9 rfl T.jG (bg (gB (pv 0) rfl))) (x6 (cQ JG) RJ ["held" ,"thing"] [2] 1 (fun _ _ _ _ _ _ nd=>⟨(pN 1 nd),(pv 1),(CG (C0 hu (pv 1) (pv 0)))⟩)))))),(bE (qB iR) (bE (jo (tD (rf (fw aA aL)).e) b8 (jo (tD (aG qZ (aG eM (gQ (Ei T) ay).r ay).r sI)) b8 (Dd aA pV))) (jW (kT (lg fB (cF (gQ (zZ T) ay))).c (by decide) i7 i9 (Or.inr ⟨_,_,rfl,rfl,(kF (Df aA ay))⟩) aA))))⟩
abbrev RK (c:aB):Prop:=dG c 1 "price_of" ["sets","chosen"] (cH c HP)
abbrev JH:Stmt:=top 22
abbrev RL:List Str:=["sets","chosen"]
theorem zpC {c:aB} (T:bG c) (d:De c.K "price_of" JH):RK c:=hD T.xg d fun _ _ F=>iu RL F fun _ _ _ _ _ _ hr hu nd=>⟨_,(pR (pB (xJ rfl) T.yE boot_sum (bg (lU rfl (k8 (pv 1)) (oj (cQ JH) RL ["sets" ,"number"] [0] 1 (fun _ _ _ _ _ _ nd=>⟨(pN 1 nd),(pJ (pI (pv 0) (pv 1)) aS)⟩)))))),(dD (dJ xI (bL (kT (vg ay) (by decide) i7 i9 (Or.inl ⟨rfl,rfl⟩) (aG qZ (aG eM ay ay).r sI)).e.r)))⟩
abbrev JI (c:aB):Prop:=fe c 3 "low" c.ad.a7 ["self","case"] (cH c BY)
abbrev JJ:Stmt:=iw (top 37) 4
abbrev RM:List Str:=["self","case","still","besides"]
theorem zhP {c:aB} (T:bG c) (d:Dm c.K c.ad.a7 "low" "CoverQuestion.low" JJ) (sk:Cp c) (Ad:JF c) (JK:RK c):JI c:=hM T.uI d fun _ _ F=>iu RM F fun _ _ _ _ _ _ hr hu nd=>⟨_,(bh (pS 2 nd (pI (gB (pv 0) rfl) (pB fP T.fF aV (bg (pv 1))))) (bh (pS 3 nd (MA rfl (by rfl) T.zV (bg (lU rfl (k8 (pM Ad hr bH (pv 0) (bg (pv 1)))) (oj (cQ JJ) RM ["still" ,"thing"] [2] 1 (fun _ _ _ _ _ _ nd=>⟨(pN 1 nd),(Ly (by exact hu) (pv 0) (pv 1) aS MC)⟩)))) aS)) (pR (bx f_ (bU JK hr bH (dh (gB (pv 0) rfl) (bU sk hr bH (dh (pv 1) aS)))) (pv 3))))),(bE (dQ (aG eM (gQ (QU T) ay).r (dJ fW (bL ay)).r) b8) (bE (dQ (MB (bL (kT (vg (jF rfl aA (cF aA)).e.r) (by decide) i7 i9 (Or.inl ⟨rfl,rfl⟩) (MD ay aA aL)).e.r) aL) b8) (dD (aG gb (gG (fw (gQ (Ei T) ay) (rf (fw aA aL)).e)).r ay))))⟩
abbrev JL (c:aB):Prop:=dG c 1 "behind_last" ["case"] (cH c ya)
abbrev RN:Stmt:=top 34
theorem zlQ {c:aB} (T:bG c) (d:De c.K "behind_last" RN):JL c:=hD T.xg d fun _ _ F=>iu ["case"] F fun _ _ _ _ _ _ hr hu nd=>⟨_,(pR (S2 (pq w8 (pB fP T.fF aV (bg (pv 0))) aS) (bx f_ (pJ (pv 0) (rQ rR aS)) aS) aS)),(dD (UB (dU (aG xv (dJ fW (bL ay)).r sI)) (aG gb (aG qZ ay (rV r0 sI).r).r sI) aL))⟩
abbrev RP (c:aB):Prop:=dG c 1 "nearest" ["lengths","place","some"] (cH c HR)
abbrev JM:Stmt:=top 28
abbrev RQ:List Str:=["lengths","place","some"]
theorem zrQ {c:aB} (T:bG c) (d:De c.K "nearest" JM):RP c:=hD T.xg d fun _ _ F=>iu RQ F fun _ _ _ _ _ _ hr hu nd=>⟨_,(pR (pB (VM rfl) T.Eh boot_min (bg (lU rfl (k8 (pv 2)) (oj (cQ JM) RQ ["lengths" ,"place" ,"other"] [0,1] 1 (fun _ _ _ _ _ _ nd=>⟨(pN 2 nd),(pI (pI (pv 0) (pv 1)) (pv 2))⟩)))))),(dD (dJ Gy (bL (kT (vg ay) (by decide) i7 i9 (Or.inl ⟨rfl,rfl⟩) (aG eM (aG eM ay ay).r ay)).e.r)))⟩
abbrev RS (c:aB):Prop:=dG c 2 "reach" ["lengths","some"] (cH c DU)
abbrev JN:Stmt:=top 29
abbrev RT:List Str:=["lengths","some"]
theorem zv2 {c:aB} (T:bG c) (d:De c.K "reach" JN) (JO:RP c):RS c:=hD T.xg d fun _ _ F=>iu RT F fun _ _ _ _ _ _ hr hu nd=>⟨_,(pR (pB (MI rfl) T.zV boot_max (bg (lU rfl (k9 rfl T.jG (bg (pB fP T.fF aV (bg (pv 0))))) (oj (cQ JN) RT ["lengths" ,"some" ,"place"] [0,1] 1 (fun _ _ _ _ _ _ nd=>⟨(pN 2 nd),(bU JO hr bH (bQ (pv 0) (dh (pv 2) (pv 1))))⟩)))))),(dD (dJ Gy (bL (kT (lg fB (cF (dJ fW (bL ay)))).c (by decide) i7 i9 (Or.inl ⟨rfl,rfl⟩) (gG (cz aA (fw aA aA)))).e.r)))⟩
abbrev JP (c:aB):Prop:=fe c 3 "low" c.ad.kZ ["self","case"] (cH c BZ)
abbrev RU:Stmt:=iw (top 42) 3
theorem zhO {c:aB} (T:bG c) (d:Dm c.K c.ad.kZ "low" "PlaceQuestion.low" RU) (Ae:JL c) (JQ:RS c):JP c:=hM T.yG d fun _ _ F=>iu ["self","case","some"] F fun _ _ _ _ _ _ hr hu nd=>⟨_,(bh (pS 2 nd (qx xc (by rfl) T.si eB (bg (pv 1)))) (bh (fg (pq CP (pB fP T.fF aV (bg (pv 1))) (gB (pv 0) rfl)) (cJ (Ku (i:=2) nd rfl xL (qx (MY rfl) (by rfl) T.si eB (bg (MW (by rfl) T.jG (dh (bU Ae hr bH (bg (pv 1))) (pB fP T.fF aV (bg (gB (pv 0) rfl))))))) XS)) fH) (pR (bU JQ hr bH (dh (gB (pv 0) rfl) (pv 2)))))),(bE (qB (xB xC (bL ay))) (bE (fu (dU (aG Dg (dJ fW (bL ay)).r (gQ (zZ T) ay).r)) (XT (MZ (fw (gG (cF aA)) (dJ fW (bL (gQ (zY T) ay).r))))) fJ) (dD (UP (tF (gQ (zY T) ay) (Mb xy))))))⟩
abbrev JR (c:aB):Prop:=fe c 1 "low" c.ad.a6 ["self","case"] (cH c DV)
abbrev RV:Stmt:=iw (top 36) 2
theorem zlo {c:aB} (T:bG c) (d:Dm c.K c.ad.a6 "low" "Question.low" RV):JR c:=hM T.I_ d fun _ _ F=>iu ["self","case"] F fun _ _ _ _ _ _ hr hu nd=>⟨_,(pR aS),(dD aL)⟩
abbrev RW (c:aB):Prop:=fe c 1 "answer" c.ad.j9 ["self","case"] (gi c DW)
abbrev RX:Stmt:=iw (top 41) 4
theorem zgs {c:aB} (T:bG c) (d:Dm c.K c.ad.j9 "answer" "RoundQuestion.answer" RX):RW c:=hM T.zW d fun _ _ F=>oo ["self","case"] F fun _ _ _ _ _ _ hr hu nd=>⟨_,(pR (bx nj (iN (bg aS)) (qx xc (by rfl) T.si eB (bg (pv 1))))),(jW (nh nq (jm (cF aL)).e.r (xB xC (bL ay)).e.r))⟩
abbrev RY (c:aB):Prop:=dG c 1 "way_length" ["lengths","way"] (cH c DX)
abbrev JS:Stmt:=top 25
abbrev RZ:List Str:=["lengths","way"]
theorem zm0 {c:aB} (T:bG c) (d:De c.K "way_length" JS):RY c:=hD T.xg d fun _ _ F=>iu RZ F fun _ _ _ _ _ _ hr hu nd=>⟨_,(pR (pB (xJ rfl) T.yE boot_sum (bg (lU rfl (k9 rfl T.jG (bg (bx wZ (pB fP T.fF aV (bg (pv 1))) aS))) (oj (cQ JS) RZ ["lengths" ,"way" ,"k"] [0,1] 1 (fun _ _ _ _ _ _ nd=>⟨(pN 2 nd),(pI (pI (pv 0) (pI (pv 1) (pv 2))) (pI (pv 1) (bx f_ (pv 2) aS)))⟩)))))),(dD (dJ xI (bL (kT (lg fB (cF (aG xu (dJ fW (bL ay)).r sI))).c (by decide) i7 i9 (Or.inl ⟨rfl,rfl⟩) (aG eM (aG eM ay (aG eM ay ay).r).r (aG eM ay (aG gb ay sI).r).r)).e.r)))⟩
abbrev R0 (c:aB):Prop:=dG c 2 "round_length" ["lengths","way"] (cH c HS)
abbrev R1:Stmt:=top 26
theorem zlI {c:aB} (T:bG c) (d:De c.K "round_length" R1) (JT:RY c):R0 c:=hD T.xg d fun _ _ F=>iu ["lengths","way"] F fun _ _ _ _ _ _ hr hu nd=>⟨_,(bh (fg (pq iK (pB fP T.fF aV (bg (pv 1))) aS) (pR aS) fH) (pR (bx f_ (bU JT hr bH (dh (pv 0) (pv 1))) (pI (pI (pv 0) (pI (pv 1) (rQ rR aS))) (pI (pv 1) aS))))),(bE (fu (dU (aG i_ (dJ fW (bL ay)).r sI)) (dD aL) fJ) (dD (aG gb (gG (fw aA aA)).r (aG eM (aG eM ay (aG eM ay (rV r0 sI).r).r).r (aG eM ay sI).r).r)))⟩
abbrev JU (c:aB):Prop:=fe c 3 "low" c.ad.j9 ["self","case"] (cH c B2)
abbrev R3:Stmt:=iw (top 41) 3
theorem zhL {c:aB} (T:bG c) (d:Dm c.K c.ad.j9 "low" "RoundQuestion.low" R3) (JV:RW c) (JW:R0 c):JU c:=hM T.zW d fun _ _ F=>iu ["self","case"] F fun _ _ _ _ _ _ hr hu nd=>⟨_,(pR (bU JW hr bH (dh (gB (pv 0) rfl) (pM JV hr bH (pv 0) (bg (pv 1)))))),(dD (gG (fw (gQ (zY T) ay) (jF rfl aA (cF aA)).e)))⟩
abbrev JX (c:aB):Prop:=fe c 2 "low" c.ad.kY ["self","case"] (cH c B3)
abbrev JY:Stmt:=iw (top 40) 3
abbrev R4:List Str:=["self","case"]
theorem zid {c:aB} (T:bG c) (d:Dm c.K c.ad.kY "low" "SackQuestion.low" JY) (sk:Cp c):JX c:=hM T.yF d fun _ _ F=>iu R4 F fun _ _ _ _ _ _ hr hu nd=>⟨_,(pR (pB (xJ rfl) T.yE boot_sum (bg (lU rfl (k8 (bU sk hr bH (dh (pv 1) aS))) (oj (cQ JY) R4 ["self" ,"number"] [0] 1 (fun _ _ _ _ _ _ nd=>⟨(pN 1 nd),(pJ (pI (gB (pv 0) rfl) (pv 1)) aS)⟩)))))),(dD (dJ xI (bL (kT (vg (rf (fw aA aL)).e.r) (by decide) i7 i9 (Or.inl ⟨rfl,rfl⟩) (aG qZ (aG eM (gQ (Ej T) ay).r ay).r sI)).e.r)))⟩
abbrev Cq (c:aB):Prop:=fe c 1 "steps" c.ad.a8 ["self"] (cH c yb)
abbrev zev:Stmt:=iw (top 38) 1
theorem zgR {c:aB} (T:bG c) (d:Dm c.K c.ad.a8 "steps" "BenchQuestion.steps" zev):Cq c:=hM T.ue d fun _ _ F=>iu ["self"] F fun _ _ _ _ _ _ hr hu nd=>⟨_,(pR (pB fP T.fF aV (bg (gB (pv 0) rfl)))),(dD (dJ fW (bL (gQ (zX T) ay).r)))⟩
abbrev Cr (c:aB):Prop:=fe c 1 "steps" c.ad.a9 ["self"] (cH c yc)
abbrev R5:Stmt:=iw (top 39) 2
theorem zhM {c:aB} (T:bG c) (d:Dm c.K c.ad.a9 "steps" "BinQuestion.steps" R5):Cr c:=hM T.uJ d fun _ _ F=>iu ["self"] F fun _ _ _ _ _ _ hr hu nd=>⟨_,(pR (pB fP T.fF aV (bg (gB (pv 0) rfl)))),(dD (dJ fW (bL (gQ (zX T) ay).r)))⟩
abbrev Cs (c:aB):Prop:=fe c 1 "steps" c.ad.a7 ["self"] (cH c yd)
abbrev R6:Stmt:=iw (top 37) 2
theorem zgP {c:aB} (T:bG c) (d:Dm c.K c.ad.a7 "steps" "CoverQuestion.steps" R6):Cs c:=hM T.uI d fun _ _ F=>iu ["self"] F fun _ _ _ _ _ _ hr hu nd=>⟨_,(pR (pB fP T.fF aV (bg (gB (pv 0) rfl)))),(dD (dJ fW (bL (gQ (Ei T) ay).r)))⟩
abbrev Ct (c:aB):Prop:=fe c 1 "steps" c.ad.kZ ["self"] (cH c ye)
abbrev R7:Stmt:=iw (top 42) 1
theorem zgM {c:aB} (T:bG c) (d:Dm c.K c.ad.kZ "steps" "PlaceQuestion.steps" R7):Ct c:=hM T.yG d fun _ _ F=>iu ["self"] F fun _ _ _ _ _ _ hr hu nd=>⟨_,(pR (gB (pv 0) rfl)),(dD (gQ (zZ T) ay))⟩
abbrev Cu (c:aB):Prop:=fe c 1 "steps" c.ad.a6 ["self"] (cH c zz)
abbrev R8:Stmt:=iw (top 36) 0
theorem zjB {c:aB} (T:bG c) (d:Dm c.K c.ad.a6 "steps" "Question.steps" R8):Cu c:=hM T.I_ d fun _ _ F=>iu ["self"] F fun _ _ _ _ _ _ hr hu nd=>⟨_,(pR aS),(dD aL)⟩
abbrev Cv (c:aB):Prop:=fe c 1 "steps" c.ad.j9 ["self"] (cH c yf)
abbrev R9:Stmt:=iw (top 41) 1
theorem zgO {c:aB} (T:bG c) (d:Dm c.K c.ad.j9 "steps" "RoundQuestion.steps" R9):Cv c:=hM T.zW d fun _ _ F=>iu ["self"] F fun _ _ _ _ _ _ hr hu nd=>⟨_,(pR (bx wZ (pB fP T.fF aV (bg (gB (pv 0) rfl))) aS)),(dD (aG xu (dJ fW (bL (gQ (zY T) ay).r)).r sI))⟩
abbrev Cw (c:aB):Prop:=fe c 1 "steps" c.ad.kY ["self"] (cH c yg)
abbrev R_:Stmt:=iw (top 40) 1
theorem zhk {c:aB} (T:bG c) (d:Dm c.K c.ad.kY "steps" "SackQuestion.steps" R_):Cw c:=hM T.yF d fun _ _ F=>iu ["self"] F fun _ _ _ _ _ _ hr hu nd=>⟨_,(pR (pB fP T.fF aV (bg (gB (pv 0) rfl)))),(dD (dJ fW (bL (gQ (Ej T) ay).r)))⟩
abbrev Ey (c:aB):Prop:=fe c 1 "ways" c.ad.a8 ["self","case"] (gi c zB)
abbrev R':Stmt:=iw (top 38) 2
theorem zgW {c:aB} (T:bG c) (d:Dm c.K c.ad.a8 "ways" "BenchQuestion.ways" R'):Ey c:=hM T.ue d fun _ _ F=>oo ["self","case","used"] F fun _ _ _ _ _ _ hr hu nd=>⟨_,(bh (pS 2 nd (pB MP T.fF aV (bg (qx (Nx rfl) (by rfl) T.QC boot_set (bg (pv 1)))))) (pR (qx (VG rfl) (by rfl) T.si eB (bg (ME (by rfl) T.jG (bg (pB (EW rfl) T.Eh boot_min (dh (bx f_ (pv 2) aS) (gB (pv 0) rfl))))))))),(bE (dQ (Ny (cF aA)) b8) (jW (VI (cF (dJ Gx (tZ (aG gb ay sI).r (gQ (zZ T) ay).r))))))⟩
abbrev Ez (c:aB):Prop:=fe c 2 "ways" c.ad.a9 ["self","case"] (gi c zC)
abbrev JZ:Stmt:=iw (top 39) 3
abbrev Sa:List Str:=["self","case","left","size"]
theorem ziB {c:aB} (T:bG c) (d:Dm c.K c.ad.a9 "ways" "BinQuestion.ways" JZ) (Ac:JB c):Ez c:=hM T.uJ d fun _ _ F=>oo Sa F fun _ _ _ _ _ _ hr hu nd=>⟨_,(bh (pS 2 nd (pM Ac hr bH (pv 0) (bg (pv 1)))) (bh (pS 3 nd (pI (gB (pv 0) rfl) (pB fP T.fF aV (bg (pv 1))))) (pR (bx nj (lU rfl (A0 rfl T.zU (bg (pv 2))) (x6 (cQ JZ) Sa ["size" ,"number" ,"space"] [3] 2 (fun _ _ _ _ _ _ nd=>⟨(sX rfl (kQ (pN 1 nd) (kQ (pN 2 nd) sW))),(pv 1),(pq KR (pv 0) (pv 2))⟩))) (iN (bg (pB fP T.fF aV (bg (pv 2))))))))),(bE (dQ (jF rfl aA (cF aA)).e b8) (bE (dQ (aG eM (gQ (zX T) ay).r (dJ fW (bL ay)).r) b8) (jW (nh nq (kT (UE (bL ay)) (by decide) (tw (kS i7 (kS i7 tu))) (FQ (yZ i9 (yZ i9 FP))) (Or.inr ⟨_,_,rfl,rfl,(dU (aG L4 ay ay))⟩) aA).e.r (jm (cF (dJ fW (bL ay)))).e.r))))⟩
abbrev EA (c:aB):Prop:=fe c 3 "ways" c.ad.a7 ["self","case"] (gi c zE)
abbrev Sb:Stmt:=iw (top 37) 3
theorem zgV {c:aB} (T:bG c) (d:Dm c.K c.ad.a7 "ways" "CoverQuestion.ways" Sb) (Ad:JF c):EA c:=hM T.uI d fun _ _ F=>oo ["self","case","later","here","thing"] F fun _ _ _ _ _ _ hr hu nd=>⟨_,(bh (pS 2 nd (pI (gB (pv 0) rfl) (bx f_ (pB fP T.fF aV (bg (pv 1))) aS))) (bh (pS 3 nd (pJ (pI (gB (pv 0) rfl) (pB fP T.fF aV (bg (pv 1)))) aS)) (bh (pF (k8 (pM Ad hr bH (pv 0) (bg (pv 1)))) (pN 4 nd) (cJ (fg (CI (mH TR (pv 4) (pv 3) (by with_unfolding_all rfl)) (CH (CG (C0 hu (pv 4) (pv 2))))).pt (pR (iN (bg aS))) fH))) (pR (iN (dh aS aS)))))),(bE (dQ (aG eM (gQ (QU T) ay).r (aG gb (dJ fW (bL ay)).r sI).r) b8) (bE (dQ (aG qZ (aG eM (gQ (Ei T) ay).r (dJ fW (bL ay)).r).r sI) b8) (bE (jo (tD (jF rfl aA (cF aA)).e) b8 (fu (FK (dU (aG VD ay ay)) (kF (Df aA ay))) (jW (jm (cF aL))) fJ)) (jW (jm (fw aL aL))))))⟩
abbrev EB (c:aB):Prop:=fe c 2 "ways" c.ad.kZ ["self","case"] (gi c zF)
abbrev Sd:Stmt:=iw (top 42) 2
theorem zhu {c:aB} (T:bG c) (d:Dm c.K c.ad.kZ "ways" "PlaceQuestion.ways" Sd) (Ae:JL c):EB c:=hM T.yG d fun _ _ F=>oo ["self","case","to_come"] F fun _ _ _ _ _ _ hr hu nd=>⟨_,(bh (pS 2 nd (bx wZ (gB (pv 0) rfl) (pB fP T.fF aV (bg (pv 1))))) (pR (qx (MY rfl) (by rfl) T.si eB (bg (MW (by rfl) T.jG (dh (bU Ae hr bH (bg (pv 1))) (bx f_ (bx wZ (pB fP T.fF aV (bg (gB (pv 0) rfl))) (pv 2)) aS))))))),(bE (dQ (aG xu (gQ (zZ T) ay).r (dJ fW (bL ay)).r) b8) (jW (MZ (fw (gG (cF aA)) (aG gb (aG xu (dJ fW (bL (gQ (zY T) ay).r)).r ay).r sI)))))⟩
abbrev EC (c:aB):Prop:=fe c 1 "ways" c.ad.a6 ["self","case"] (gi c B4)
abbrev Se:Stmt:=iw (top 36) 1
theorem zki {c:aB} (T:bG c) (d:Dm c.K c.ad.a6 "ways" "Question.ways" Se):EC c:=hM T.I_ d fun _ _ F=>oo ["self","case"] F fun _ _ _ _ _ _ hr hu nd=>⟨_,(pR (iN cn)),(jW (jm cg))⟩
abbrev ED (c:aB):Prop:=fe c 1 "ways" c.ad.j9 ["self","case"] (gi c zG)
abbrev J1:Stmt:=iw (top 41) 2
abbrev Sf:List Str:=["self","case"]
theorem zhd {c:aB} (T:bG c) (d:Dm c.K c.ad.j9 "ways" "RoundQuestion.ways" J1):ED c:=hM T.zW d fun _ _ F=>oo Sf F fun _ _ _ _ _ _ hr hu nd=>⟨_,(pR (lU rfl (S8 rfl T.jG (dh aS (pB fP T.fF aV (bg (gB (pv 0) rfl))))) (x6 (cQ J1) Sf ["case" ,"place"] [1] 1 (fun _ _ _ _ _ _ nd=>⟨(pN 1 nd),(pv 1),(mH TU (pv 1) (pv 0) (by with_unfolding_all rfl))⟩)))),(jW (kT (UD FR (fw aL (dJ fW (bL (gQ (zY T) ay).r)))).c (by decide) i7 i9 (Or.inr ⟨_,_,rfl,rfl,(dU (aG VE ay ay))⟩) aA))⟩
abbrev EE (c:aB):Prop:=fe c 2 "ways" c.ad.kY ["self","case"] (gi c zH)
abbrev J2:Stmt:=iw (top 40) 2
abbrev Sh:List Str:=["self","case","taken"]
theorem zhF {c:aB} (T:bG c) (d:Dm c.K c.ad.kY "ways" "SackQuestion.ways" J2) (sk:Cp c):EE c:=hM T.yF d fun _ _ F=>oo Sh F fun _ _ _ _ _ _ hr hu nd=>⟨_,(bh (pS 2 nd (pB (xJ rfl) T.yE boot_sum (bg (lU rfl (k8 (bU sk hr bH (dh (pv 1) aS))) (oj (cQ J2) Sh ["self" ,"number"] [0] 1 (fun _ _ _ _ _ _ nd=>⟨(pN 1 nd),(pJ (pI (gB (pv 0) rfl) (pv 1)) aS)⟩)))))) (bh (fg (pq KR (bx f_ (pv 2) (pJ (pI (gB (pv 0) rfl) (pB fP T.fF aV (bg (pv 1)))) aS)) (gB (pv 0) rfl)) (pR (iN (dh aS aS))) fH) (pR (iN (bg aS))))),(bE (dQ (dJ xI (bL (kT (vg (rf (fw aA aL)).e.r) (by decide) i7 i9 (Or.inl ⟨rfl,rfl⟩) (aG qZ (aG eM (gQ (Ej T) ay).r ay).r sI)).e.r)) b8) (bE (fu (dU (aG L4 (aG gb ay (aG qZ (aG eM (gQ (Ej T) ay).r (dJ fW (bL ay)).r).r sI).r).r (gQ (Je T) ay).r)) (jW (jm (fw aL aL))) fJ) (jW (jm (cF aL)))))⟩
abbrev J3 (c:aB):Prop:=dG c 4 "gone_on" ["question","case"] (gi c wD)
abbrev J5:Stmt:=top 8
abbrev Si:List Str:=["question","case"]
theorem zqN {c:aB} (T:bG c) (d:De c.K "gone_on" J5) (vN:Ey c) (vO:Ez c) (vP:EA c) (vQ:EB c) (vR:EC c) (vS:ED c) (vU:EE c):J3 c:=hD T.xg d fun _ _ F=>oo Si F fun _ _ _ _ _ _ hr hu nd=>⟨_,(pR (lU rfl (Mv rfl T.I0 (bg (dW (pM vN hr bH (pv 0) (bg (pv 1))) (dW (pM vO hr bH (pv 0) (bg (pv 1))) (dW (pM vP hr bH (pv 0) (bg (pv 1))) (dW (pM vQ hr bH (pv 0) (bg (pv 1))) (dW (pM vR hr bH (pv 0) (bg (pv 1))) (dW (pM vS hr bH (pv 0) (bg (pv 1))) (pM vU hr bH (pv 0) (bg (pv 1))))))))))) (oj (cQ J5) Si ["case" ,"way"] [1] 1 (fun _ _ _ _ _ _ nd=>⟨(pN 1 nd),(bx Bw (pv 0) (nO (bg (pv 1))))⟩)))),(jW (kT (Vv (bL (nu (jF rfl aA (cF aA)) (nu (jF rfl aA (cF aA)) (nu (jF rfl aA (cF aA)) (nu (jF rfl aA (cF aA)) (nu (jF rfl aA (cF aA)) (nu (jF rfl aA (cF aA)) (jF rfl aA (cF aA)))))))).e.r)) (by decide) i7 i9 (Or.inl ⟨rfl,rfl⟩) (aG By ay (pX (cF aA)).r)))⟩
abbrev Sj (c:aB):Prop:=xU c.P c.w c.K c.mg c.base (qU c.P c.w) 5 "best_by_cases" ["question","most"] (cH c B5) (.int 2000)
abbrev J6:Stmt:=top 9
theorem aZ:bW ["question","most","best","cost","closed","looked_at","waiting","case","least"] ["question","most"] (cQ J6):=jt
theorem zkm {f:Addr} {fd:FuncData} (F:rA K "best_by_cases" "best_by_cases" J6 f fd (.int 2000)) (T:Txt K mg ad) (Af:Jz ⟨P,w,K,mg,base,ad⟩) (Ag:JD ⟨P,w,K,mg,base,ad⟩) (Ah:JI ⟨P,w,K,mg,base,ad⟩) (Ai:JP ⟨P,w,K,mg,base,ad⟩) (Aj:JR ⟨P,w,K,mg,base,ad⟩) (Ak:JU ⟨P,w,K,mg,base,ad⟩) (Al:JX ⟨P,w,K,mg,base,ad⟩) (so:Cq ⟨P,w,K,mg,base,ad⟩) (sq:Cr ⟨P,w,K,mg,base,ad⟩) (sr:Cs ⟨P,w,K,mg,base,ad⟩) (su:Ct ⟨P,w,K,mg,base,ad⟩) (sx:Cu ⟨P,w,K,mg,base,ad⟩) (sy:Cv ⟨P,w,K,mg,base,ad⟩) (sA:Cw ⟨P,w,K,mg,base,ad⟩) (Am:J3 ⟨P,w,K,mg,base,ad⟩):cq P w K mg base (qU P w) 5 f fd ["question","most"] (qA (KX K ad) (jr (KX K ad)) B5):=by
 refine F.C5 aZ (fun vs H Q E h=>Dj h) (fun qy A outer s H vs Q E hr h=>?_)
 have hu:=tf hr
 exact⟨_,(bh (mZ (i:=2) aZ.nd rfl xL sU)
   (bh (mZ (i:=3) aZ.nd rfl xL sU)
   (bh (mZ (i:=4) aZ.nd rfl xL (iN cn))
   (bh (mZ (i:=5) aZ.nd rfl xL aS)
   (bh (mZ (i:=6) aZ.nd rfl xL (iN (bQ (nO cn) cn)))
   (bh (EL eR (mH w8 (uZ fP (by rfl) T.fF aV (bQ (pv 6) cn)) aS (lR _))
   (bh (Ku (i:=5) aZ.nd rfl xL aS Ky)
   (bh (fg (mH w8 (pv 5) (pv 1) (lR _))
   (cJ (A9 rfl (by rfl) T.qbr T.qb2 dy (by decide +kernel) dy A' (bQ Ax cn)))
   fH)
   (bh (mZ (i:=7) aZ.nd rfl xL (E_ fx oV oX Fd (pv 6)))
   (bh (mZ (i:=8) aZ.nd rfl xL (dW (iY Af (hr.mono (by decide)) bH (pv 0) (bQ (pv 7) cn)) (dW (iY Ag (hr.mono (by decide)) we (pv 0) (bQ (pv 7) cn)) (dW (iY Ah (hr.mono (by decide)) bH (pv 0) (bQ (pv 7) cn)) (dW (iY Ai (hr.mono (by decide)) bH (pv 0) (bQ (pv 7) cn)) (dW (iY Aj (hr.mono (by decide)) bH (pv 0) (bQ (pv 7) cn)) (dW (iY Ak (hr.mono (by decide)) bH (pv 0) (bQ (pv 7) cn)) (iY Al (hr.mono (by decide)) bH (pv 0) (bQ (pv 7) cn)))))))))
   (cJ (fg ((CI (mH KU (pv 3) sU (lR _)) (CH (mH ET (pv 8) (pv 3) (lR _))))).pt
   (cJ (qv (xk fx kg kh yQ (pv 4) (bQ (pv 7) cn))))
   (cJ (fg (mH iK (uZ fP (by rfl) T.fF aV (bQ (pv 7) cn)) (dW (pZ so (hr.mono (by decide)) bH (pv 0)) (dW (pZ sq (hr.mono (by decide)) bH (pv 0)) (dW (pZ sr (hr.mono (by decide)) bH (pv 0)) (dW (pZ su (hr.mono (by decide)) bH (pv 0)) (dW (pZ sx (hr.mono (by decide)) bH (pv 0)) (dW (pZ sy (hr.mono (by decide)) bH (pv 0)) (pZ sA (hr.mono (by decide)) bH (pv 0)))))))) (lR _))
   (bh (qv (xk fx kg kh yQ (pv 4) (bQ (pv 7) cn)))
   (bh (mZ (i:=2) aZ.nd rfl xL (pv 7))
   (cJ (mZ (i:=3) aZ.nd rfl xL (pv 8)))))
   (cJ (qv (xk fx PySem.F.slot_list_extend PySem.F.type_list_extend Lk (pv 6) (bQ (bU Am hr bH (bQ (pv 0) (bQ (pv 7) cn))) cn)))))))))))))
   (cJ (qO (nO (bQ (pv 2) (bQ (pv 3) (bQ (pv 4) cn)))))))))))),Bi (K:=(KX K ad)) (XO:=(jr (KX K ad))) (E:=E) (np:=2) (nv:=7) (m:=HW)
   (bE (dQ wg b8)
   (bE (dQ wg b8)
   (bE (qB (jm cg))
   (bE (dQ aL b8)
   (bE (qB (jm (cz (pX cg) cg)))
   (bE (FW (dU (aG xv ((dJ fW (uq ay ve))).r (aL).r))
   (bE (UI aL)
   (bE (fu (dU (aG xv ay ay))
   (Bq (c:=3) rfl (by decide) (cz Ba cg))
   fJ)
   (bE (ML b8)
   (bE (dQ (gm (fK rfl aA (cz aA cg)) (gm (fK rfl aA (cz aA cg)) (gm (fK rfl aA (cz aA cg)) (gm (fK rfl aA (cz aA cg)) (gm (fK rfl aA (cz aA cg)) (gm (fK rfl aA (cz aA cg)) (fK rfl aA (cz aA cg)))))))) b8)
   (fu (FK (dU (aG UJ ay (wg).r)) (dU (aG L5 ay ay)))
   (y6 aA)
   (fu (dU (aG i_ ((dJ fW (uq ay ve))).r ((gm (fK rfl aA cg) (gm (fK rfl aA cg) (gm (fK rfl aA cg) (gm (fK rfl aA cg) (gm (fK rfl aA cg) (gm (fK rfl aA cg) (fK rfl aA cg)))))))).r))
   (bE (y6 aA)
   (bE (dQ aA b8)
   (dQ aA b8)))
   (NJ (rf (cz aA (cz aA cg)))))))))))
   (LX (i:=4) (dD (pX (cz aA (cz aA (cz aA cg)))))))))))) rfl h⟩
abbrev Sk (c:aB):Prop:=dG c 1 "_law_is_list" ["_law_found"] (cH c D0)
abbrev J7:Stmt:=top 53
abbrev Sm:List Str:=["_law_found","_law_case"]
theorem zlW {c:aB} (T:bG c) (d:De c.K "_law_is_list" J7):Sk c:=hD T.xg d fun _ _ F=>iu Sm F fun _ _ _ _ _ _ hr hu nd=>⟨_,(bh (fg (yL (wU (pB yR T.zT jf (dh (pv 0) (yJ (v:=.ty "list") (by rfl) T.si eB rfl))))) (pR pD) fH) (bh (pF (k8 (pv 0)) (pN 1 nd) (bh (fg (yL (wU (pB yR T.zT jf (dh (pv 1) (yJ (v:=.ty "tuple") (by rfl) T.IZ boot_tuple rfl))))) (pR pD) fH) (cJ (fg (pq w8 (pB fP T.fF aV (bg (lU rfl (S7 (pv 1)) (x6 (cQ J7) Sm ["_law_one"] [] 1 (fun _ _ _ _ _ _ nd=>⟨(pN 0 nd),(pv 0),(yK (yL (wU (pB yR T.zT jf (dh (pv 0) (yJ (v:=.ty "int") (by rfl) T.qaf boot_int rfl))))) (AA (wU (pB yR T.zT jf (dh (pv 0) (yJ (v:=.ty "bool") (by rfl) T.QA boot_bool rfl)))))).pt⟩))))) aS) (pR pD) fH)))) (pR pD))),(bE (fu (yW (kF (zb Vq ay))) (dD pV) fJ) (bE (jo (tD aA) b8 (bE (fu (yW (kF (zb Mq ay))) (dD pV) fJ) (fu (dU (aG xv (dJ fW (bL (kT (UC aA).c (by decide) i7 i9 (Or.inr ⟨_,_,rfl,rfl,(yV (yW (kF (zb Vo ay))) (kF (zb Mp ay)))⟩) aA).e.r)).r sI)) (dD pV) fJ))) (dD pV)))⟩
abbrev So (c:aB):Prop:=dG c 12 "_law_look" ["_law_question_here","_law_case","_law_steps","_law_kept"] (oq (lz c) t8 t9 8)
abbrev J8:Stmt:=top 56
theorem gJ:bW ["_law_question_here","_law_case","_law_steps","_law_kept","_law_low","_law_way"] ["_law_question_here","_law_case","_law_steps","_law_kept"] (cQ J8):=jt
theorem zpG {n:Nat} {f:Addr} {fd:FuncData} (F:jD K "_law_look" "_law_look" J8 f fd) (T:Txt K mg ad) (Cy:uk P w K mg base jM (n+4) "_law_look" ["_law_question_here","_law_case","_law_steps","_law_kept"] (oq (KX K ad) t8 t9 n)) (Af:Jz ⟨P,w,K,mg,base,ad⟩) (Ag:JD ⟨P,w,K,mg,base,ad⟩) (Ah:JI ⟨P,w,K,mg,base,ad⟩) (Ai:JP ⟨P,w,K,mg,base,ad⟩) (Aj:JR ⟨P,w,K,mg,base,ad⟩) (Ak:JU ⟨P,w,K,mg,base,ad⟩) (Al:JX ⟨P,w,K,mg,base,ad⟩) (vN:Ey ⟨P,w,K,mg,base,ad⟩) (vO:Ez ⟨P,w,K,mg,base,ad⟩) (vP:EA ⟨P,w,K,mg,base,ad⟩) (vQ:EB ⟨P,w,K,mg,base,ad⟩) (vR:EC ⟨P,w,K,mg,base,ad⟩) (vS:ED ⟨P,w,K,mg,base,ad⟩) (vU:EE ⟨P,w,K,mg,base,ad⟩):cq P w K mg base jM (n+5) f fd ["_law_question_here","_law_case","_law_steps","_law_kept"] (oq (KX K ad) t8 t9 (n+1)):=by
 refine F.ok gJ (fun vs H Q E h=>Ye h) (fun qy A outer s H vs Q E hr h=>?_)
 have hu:=tf hr
 exact⟨_,(bh (mZ (i:=4) gJ.nd rfl xL (dW (iY Af (hr.mono (by lia)) bH (pv 0) (bQ (pv 1) cn)) (dW (iY Ag (hr.mono (by lia)) we (pv 0) (bQ (pv 1) cn)) (dW (iY Ah (hr.mono (by lia)) bH (pv 0) (bQ (pv 1) cn)) (dW (iY Ai (hr.mono (by lia)) bH (pv 0) (bQ (pv 1) cn)) (dW (iY Aj (hr.mono (by lia)) bH (pv 0) (bQ (pv 1) cn)) (dW (iY Ak (hr.mono (by lia)) bH (pv 0) (bQ (pv 1) cn)) (iY Al (hr.mono (by lia)) bH (pv 0) (bQ (pv 1) cn)))))))))
   (cJ (fg ((CI (mH KU (rT u5 (pv 3) aS (fun _ _=>rfl)) sU (lR _)) (CH (mH ET (pv 4) (rT u5 (pv 3) aS (fun _ _=>rfl)) (lR _))))).pt
   (cJ (qv (xk fx kg kh yQ (rT u5 (pv 3) aS (fun _ _=>rfl)) (bQ (pv 1) cn))))
   (cJ (fg (mH iK (uZ fP (by rfl) T.fF aV (bQ (pv 1) cn)) (pv 2) (lR _))
   (bh (qv (xk fx kg kh yQ (rT u5 (pv 3) aS (fun _ _=>rfl)) (bQ (pv 1) cn))) (bh (CL (pv 1) (CK (pv 3) aS yO)) (cJ (CL (pv 4) (CK (pv 3) aS yO)))))
   (cJ (qw jd rfl (k8 (qx xc (by rfl) T.si eB (bQ (dW (iY vN (hr.mono (by lia)) bH (pv 0) (bQ (pv 1) cn)) (dW (iY vO (hr.mono (by lia)) bH (pv 0) (bQ (pv 1) cn)) (dW (iY vP (hr.mono (by lia)) bH (pv 0) (bQ (pv 1) cn)) (dW (iY vQ (hr.mono (by lia)) bH (pv 0) (bQ (pv 1) cn)) (dW (iY vR (hr.mono (by lia)) bH (pv 0) (bQ (pv 1) cn)) (dW (iY vS (hr.mono (by lia)) bH (pv 0) (bQ (pv 1) cn)) (iY vU (hr.mono (by lia)) bH (pv 0) (bQ (pv 1) cn)))))))) cn))) (AF (i:=5) gJ.nd rfl xL)
   (cJ (qv (Fx Cy hr (by rfl) bH (bQ (pv 0) (bQ (bx Bw (pv 1) (nO (bQ (pv 5) cn))) (bQ (pv 2) (bQ (pv 3) cn)))))))))))))),(Yg (K:=(KX K ad)) (XO:=(jr (KX K ad))) (E:=fun _=>E) (gm (fK rfl aA (cz aA cg)) (gm (fK rfl aA (cz aA cg)) (gm (fK rfl aA (cz aA cg)) (gm (fK rfl aA (cz aA cg)) (gm (fK rfl aA (cz aA cg)) (gm (fK rfl aA (cz aA cg)) (fK rfl aA (cz aA cg)))))))) (tD ((xB xC (uq ((nu (jF rfl aA (cz aA cg)) (nu (jF rfl aA (cz aA cg)) (nu (jF rfl aA (cz aA cg)) (nu (jF rfl aA (cz aA cg)) (nu (jF rfl aA (cz aA cg)) (nu (jF rfl aA (cz aA cg)) (jF rfl aA (cz aA cg))))))))).e.r ve))).e) h ["_law_question_here","_law_case","_law_steps","_law_kept","_law_low","_law_way"] rfl)⟩
abbrev J9 (c:aB):Prop:=dG c 5 "parts_all" ["question","closed"] (cH c wF)
abbrev Sq:Stmt:=top 10
theorem znT {c:aB} (T:bG c) (d:De c.K "parts_all" Sq) (so:Cq c) (sq:Cr c) (sr:Cs c) (su:Ct c) (sx:Cu c) (sy:Cv c) (sA:Cw c) (Am:J3 c):J9 c:=hD T.xg d fun _ _ F=>iu ["question","closed","waiting","case","wide"] F fun _ _ _ _ _ _ hr hu nd=>⟨_,(bh (pS 2 nd (iN (bg (nO cn)))) (bh (pF (k8 (pv 1)) (pN 3 nd) (bh (fg (pq iK (pB fP T.fF aV (bg (pv 2))) aS) (pR pD) fH) (bh (EL jd (pq (Gp hr.units) (pI (pv 2) (rQ rR aS)) (pv 3)) (bh (pS 4 nd (E_ fx oV oX Fd (pv 2))) (bh (fg (yK (pq iK (pB fP T.fF aV (bg (pv 4))) (dW (qK so hr bH (pv 0)) (dW (qK sq hr bH (pv 0)) (dW (qK sr hr bH (pv 0)) (dW (qK su hr bH (pv 0)) (dW (qK sx hr bH (pv 0)) (dW (qK sy hr bH (pv 0)) (qK sA hr bH (pv 0))))))))) (AA (pq (Gp hr.units) (kB G6 (pv 3) mK (jk (pB fP T.fF aV (bg (pv 4))))) (pv 4)))).pt (pR pD) fH) (cJ (qv (xk fx PySem.F.slot_list_extend PySem.F.type_list_extend Lk (pv 2) (bg (bU Am hr bH (dh (pv 0) (pv 4)))))))))) (cJ (qv (E_ fx oV oX Fd (pv 2))))))) (pR (pr iK (pB fP T.fF aV (bg (pv 2))) aS)))),(bE (qB (jm (cF (pX cg)))) (bE (jo (tD aA) b8 (bE (fu (dU (aG i_ (dJ fW (bL ay)).r sI)) (dD pV) fJ) (bE (FW (dU (aG Gq (aG eM ay (rV r0 sI).r).r ay)) (bE (ML b8) (bE (fu (yV (dU (aG i_ (dJ fW (bL ay)).r (gm (fK rfl aA cg) (gm (fK rfl aA cg) (gm (fK rfl aA cg) (gm (fK rfl aA cg) (gm (fK rfl aA cg) (gm (fK rfl aA cg) (fK rfl aA cg))))))).r)) (dU (aG Gq (G7 ay mS (jq (dJ fW (bL ay)))).r ay))) (dD pV) fJ) (NJ (rf (fw aA aA)))))) X'))) (dD (aG i_ (dJ fW (bL ay)).r sI))))⟩
abbrev Sr (c:aB):Prop:=dG c 1 "_law_spoiled" ["_law_closed","_law_number_here"] (gi c D2)
abbrev J_:Stmt:=top 54
abbrev Ss:List Str:=["_law_closed","_law_number_here","_law_at","_law_part","_law_one","_law_way"]
theorem zlX {c:aB} (T:bG c) (d:De c.K "_law_spoiled" J_):Sr c:=hD T.xg d fun _ _ F=>oo Ss F fun _ _ _ _ _ _ hr hu nd=>⟨_,(bh (pS 2 nd (bx hU (bx nV (pv 1) aS) (pB fP T.fF aV (bg (pv 0))))) (bh (pS 3 nd (bx nV (pv 1) aS)) (bh (pS 4 nd (pI (pv 0) (pv 2))) (bh (pS 5 nd (bx hU (pv 1) aS)) (bh (fg (pq iK (pv 5) aS) (pR (bx nj (kB lS (pv 0) mK (jk (pv 2))) (kB lS (pv 0) (jk (bx f_ (pv 2) aS)) mK))) fH) (bh (fg (pq iK (pv 5) aS) (pR (bx nj (bx nj (kB lS (pv 0) mK (jk (pv 2))) (iN (bg (pv 4)))) (kB lS (pv 0) (jk (pv 2)) mK))) fH) (bh (fg (pq iK (pv 5) aS) (pR (bx nj (bx nj (bx nj (kB lS (pv 0) mK (jk (pv 2))) (iN (bg (pI (pv 0) (rQ rR aS))))) (kB lS (pv 0) (jk (bx f_ (pv 2) aS)) (jk (rQ rR aS)))) (iN (bg (pv 4))))) fH) (bh (fg (pq iK (pv 5) aS) (pR (bx nj (bx nj (kB lS (pv 0) mK (jk (pv 2))) (iN (bg (kB G6 (pv 4) mK (jk (rQ rR aS)))))) (kB lS (pv 0) (jk (bx f_ (pv 2) aS)) mK))) fH) (bh (fg (pq iK (pv 5) aS) (pR (bx nj (bx nj (kB lS (pv 0) mK (jk (pv 2))) (iN (bg (bx Bw (pv 4) (nO (bg (bx hU (pv 3) aS))))))) (kB lS (pv 0) (jk (bx f_ (pv 2) aS)) mK))) fH) (bh (fg (CI (pq iK (pv 5) aS) (CH (pq w8 (pB fP T.fF aV (bg (pv 4))) aS))).pt (pR (bx nj (bx nj (kB lS (pv 0) mK (jk (pv 2))) (iN (bg (bx Bw (kB G6 (pv 4) mK (jk (rQ rR aS))) (nO (bg (bx f_ (pJ (pv 4) (rQ rR aS)) aS))))))) (kB lS (pv 0) (jk (bx f_ (pv 2) aS)) mK))) fH) (bh (fg (pq iK (pv 5) aS) (pR (bx nj (bx nj (kB lS (pv 0) mK (jk (pv 2))) (iN (bg (qx TV (by rfl) T.IZ boot_tuple (bg (lU rfl (k9 rfl T.jG (bg (bx hU (pv 3) aS))) (oj (cQ J_) Ss ["_law_part" ,"_law_k"] [3] 1 (fun _ _ _ _ _ _ nd=>⟨(pN 1 nd),(bx hU (bx nV (pv 0) aS) aS)⟩)))))))) (kB lS (pv 0) (jk (pv 2)) mK))) fH) (pR (iN cn))))))))))))),(bE (dQ (aG hW (aG nX ay sI).r (dJ fW (bL ay)).r) b8) (bE (dQ (aG nX ay sI) b8) (bE (dQ (aG eM ay ay) b8) (bE (dQ (aG hW ay sI) b8) (bE (fu (dU (aG i_ ay sI)) (jW (nh nq (lW ay mS (jq aA)).e.r (lW ay (jq (aG gb ay sI)) mS).e.r)) fJ) (bE (fu (dU (aG i_ ay sI)) (jW (nh nq (nh nq (lW ay mS (jq aA)).e.r (jm (cF aA)).e.r).e.r (lW ay (jq aA) mS).e.r)) fJ) (bE (fu (dU (aG i_ ay sI)) (jW (nh nq (nh nq (nh nq (lW ay mS (jq aA)).e.r (jm (cF (aG eM ay (rV r0 sI).r))).e.r).e.r (lW ay (jq (aG gb ay sI)) (jq (rV r0 sI))).e.r).e.r (jm (cF aA)).e.r)) fJ) (bE (fu (dU (aG i_ ay sI)) (jW (nh nq (nh nq (lW ay mS (jq aA)).e.r (jm (cF (G7 ay mS (jq (rV r0 sI))))).e.r).e.r (lW ay (jq (aG gb ay sI)) mS).e.r)) fJ) (bE (fu (dU (aG i_ ay sI)) (jW (nh nq (nh nq (lW ay mS (jq aA)).e.r (jm (cF (aG By ay (pX (cF (aG hW ay sI))).r))).e.r).e.r (lW ay (jq (aG gb ay sI)) mS).e.r)) fJ) (bE (fu (FK (dU (aG i_ ay sI)) (dU (aG xv (dJ fW (bL ay)).r sI))) (jW (nh nq (nh nq (lW ay mS (jq aA)).e.r (jm (cF (aG By (G7 ay mS (jq (rV r0 sI))).r (pX (cF (aG gb (aG qZ ay (rV r0 sI).r).r sI))).r))).e.r).e.r (lW ay (jq (aG gb ay sI)) mS).e.r)) fJ) (bE (fu (dU (aG i_ ay sI)) (jW (nh nq (nh nq (lW ay mS (jq aA)).e.r (jm (cF (dJ Yd (bL (kT (lg fB (cF (aG hW ay sI))).c (by decide) i7 i9 (Or.inl ⟨rfl,rfl⟩) (aG hW (aG nX ay sI).r sI)).e.r)))).e.r).e.r (lW ay (jq aA) mS).e.r)) fJ) (jW (jm cg)))))))))))))⟩
abbrev Su (c:aB):Prop:=dG c 12 "_law_behind" ["_law_question_here","_law_closed","_law_at","_law_case","_law_steps"] (cH c uB)
abbrev J':Stmt:=top 55
theorem fG:bW ["_law_question_here","_law_closed","_law_at","_law_case","_law_steps","_law_way"] ["_law_question_here","_law_closed","_law_at","_law_case","_law_steps"] (cQ J'):=jt
theorem zmU {n:Nat} {f:Addr} {fd:FuncData} (F:jD K "_law_behind" "_law_behind" J' f fd) (T:Txt K mg ad) (Cz:uk P w K mg base jM (n+4) "_law_behind" ["_law_question_here","_law_closed","_law_at","_law_case","_law_steps"] (qA (KX K ad) (jr (KX K ad)) (oy n))) (vN:Ey ⟨P,w,K,mg,base,ad⟩) (vO:Ez ⟨P,w,K,mg,base,ad⟩) (vP:EA ⟨P,w,K,mg,base,ad⟩) (vQ:EB ⟨P,w,K,mg,base,ad⟩) (vR:EC ⟨P,w,K,mg,base,ad⟩) (vS:ED ⟨P,w,K,mg,base,ad⟩) (vU:EE ⟨P,w,K,mg,base,ad⟩):cq P w K mg base jM (n+5) f fd ["_law_question_here","_law_closed","_law_at","_law_case","_law_steps"] (qA (KX K ad) (jr (KX K ad)) (oy (n+1))):=by
 rw[show oy (n+1)=bF 5 1 (D3 (oy n)) from rfl]
 refine F.ok fG (fun vs H Q E h=>Dj h) (fun qy A outer s H vs Q E hr h=>?_)
 have hu:=tf hr
 exact⟨_,(bh (fg ((yK (mH KS (pv 2) sU (lR _)) (AA (mH ET (pv 2) (uZ fP (by rfl) T.fF aV (bQ (pv 1) cn)) (lR _))))).pt
   (cJ (qO sU))
   fH)
   (bh (fg (mH (Mt hr.units) (rT u5 (pv 1) (pv 2) (fun _ _=>rfl)) (pv 3) (lR _))
   (cJ (qO (bx f_ (pv 2) aS)))
   fH)
   (bh (fg (mH iK (uZ fP (by rfl) T.fF aV (bQ (pv 3) cn)) (pv 4) (lR _))
   (cJ (qO sU))
   fH)
   (bh (qw jd rfl (k8 (dW (iY vN (hr.mono (by omega)) bH (pv 0) (bQ (pv 3) cn)) (dW (iY vO (hr.mono (by omega)) bH (pv 0) (bQ (pv 3) cn)) (dW (iY vP (hr.mono (by omega)) bH (pv 0) (bQ (pv 3) cn)) (dW (iY vQ (hr.mono (by omega)) bH (pv 0) (bQ (pv 3) cn)) (dW (iY vR (hr.mono (by omega)) bH (pv 0) (bQ (pv 3) cn)) (dW (iY vS (hr.mono (by omega)) bH (pv 0) (bQ (pv 3) cn)) (iY vU (hr.mono (by omega)) bH (pv 0) (bQ (pv 3) cn))))))))) (AF (i:=5) fG.nd rfl xL)
   (bh (mZ (i:=2) fG.nd rfl xL (Fx Cz hr (by rfl) bH (bQ (pv 0) (bQ (pv 1) (bQ (pv 2) (bQ (bx Bw (pv 3) (nO (bQ (pv 5) cn))) (bQ (pv 4) cn)))))))
   (cJ (fg (mH KS (pv 2) sU (lR _))
   (cJ (qO sU))
   fH))))
   (cJ (qO (pv 2))))))),Bi (K:=(KX K ad)) (XO:=(jr (KX K ad))) (E:=E) (np:=5) (nv:=1) (m:=D3 (oy n))
   (bE (fu (yV (dU (aG L7 ay (wg).r)) (dU (aG L5 ay ((dJ fW (uq ay ve))).r)))
   (dD wg)
   fJ)
   (bE (fu (dU (aG Mu ((aG eM ay ay)).r ay))
   (dD (aG gb ay (aL).r))
   fJ)
   (bE (fu (dU (aG i_ ((dJ fW (uq ay ve))).r ay))
   (dD wg)
   fJ)
   (bE (jo (tD ((nu (jF rfl aA (cz aA cg)) (nu (jF rfl aA (cz aA cg)) (nu (jF rfl aA (cz aA cg)) (nu (jF rfl aA (cz aA cg)) (nu (jF rfl aA (cz aA cg)) (nu (jF rfl aA (cz aA cg)) (jF rfl aA (cz aA cg))))))))).e) b8
   (bE (dQ (gG (cz aA (cz aA (cz aA (cz (aG By ay ((pX (cz aA cg))).r) (cz aA cg)))))) b8)
   (fu (dU (aG L7 ay (wg).r))
   (dD wg)
   fJ)))
   (dD aA))))) rfl h⟩
abbrev Sv (c:aB):Prop:=dG c 13 "_law_asked" ["_law_question_here","_law_closed"] (cH c D4)
abbrev Sw:Stmt:=top 57
theorem znW {c:aB} (T:bG c) (d:De c.K "_law_asked" Sw) (so:Cq c) (sq:Cr c) (sr:Cs c) (su:Ct c) (sx:Cu c) (sy:Cv c) (sA:Cw c) (wM:J9 c) (Cz:Su c):Sv c:=hD T.xg d fun _ _ F=>iu ["_law_question_here","_law_closed","_law_handed","_law_found","_law_due"] F fun _ _ _ _ _ _ hr hu nd=>⟨_,(bh (pS 2 nd (qx xc (by rfl) T.si eB (bg (pv 1)))) (bh (pS 3 nd (bU wM hr bH (dh (pv 0) (pv 2)))) (bh (pS 4 nd (pr iK (bU Cz hr bH (bQ (pv 0) (bQ (pv 1) (bQ aS (dh (nO cn) (dW (qK so hr bH (pv 0)) (dW (qK sq hr bH (pv 0)) (dW (qK sr hr bH (pv 0)) (dW (qK su hr bH (pv 0)) (dW (qK sx hr bH (pv 0)) (dW (qK sy hr bH (pv 0)) (qK sA hr bH (pv 0))))))))))))) (pB fP T.fF aV (bg (pv 1))))) (pR (EJ (pB yR T.zT jf (dh (pv 3) (yJ (v:=.ty "bool") (by rfl) T.QA boot_bool rfl))) (EJ (pr iK (pv 3) (pv 4)) (Kq (pr (Mt hr.units) (pv 2) (pv 1))))))))),(bE (dQ (xB xC (bL ay)).e b8) (bE (dQ (gG (fw aA aA)) b8) (bE (dQ (aG i_ (gG (cz aA (cz aA (cz aL (fw (pX cg) (gm (fK rfl aA cg) (gm (fK rfl aA cg) (gm (fK rfl aA cg) (gm (fK rfl aA cg) (gm (fK rfl aA cg) (gm (fK rfl aA cg) (fK rfl aA cg)))))))))))).r (dJ fW (bL ay)).r) b8) (dD (FN (zb Mp ay) (FN (aG i_ ay ay) (aG Mu ay ay)))))))⟩
abbrev Ao:Stmt:=top 58
theorem gK:bW ["_law_script","_law_kind","_law_question_here","_law_found","_law_closed","_law_kept","_law_k","_law_number_here"] ["_law_script"] (cQ Ao):=jt
theorem zz5 {c:aB} {f:Addr} {fd:FuncData} (F:jD c.K "law" "law" Ao f fd) (T:bG c) (g0:Ek c) (g1:z8 c) (Ka:RB c) (so:Cq c) (sq:Cr c) (sr:Cs c) (su:Ct c) (sx:Cu c) (sy:Cv c) (sA:Cw c) (Kb:Sj c) (Kc:Sk c) (Cy:So c) (wM:J9 c) (Kd:Sr c) (Ke:Sv c):cq c.P c.w c.K c.mg c.base jM 14 f fd ["_law_script"] (Eg c.K):=by
 refine F.ok gK (fun vs H Q E h=>?_) (fun qy A outer s H vs Q E hr h=>?_)
 ·obtain⟨a,ns,rfl,_⟩:=h
  rfl
 ·obtain⟨a,ns,rfl,hS,hlen,hq⟩:=h
  have hu:=tf hr
  exact⟨_,(bh (mZ (i:=1) gK.nd rfl xL (bx hU (bU g0 hr bH (bQ (pv 0) (bQ aS cn))) aS))
   (bh (mZ (i:=2) gK.nd rfl xL (bU Ka hr bH (bQ (pv 0) (bQ (pv 1) cn))))
   (bh (mZ (i:=3) gK.nd rfl xL (X9 Kb (hr.mono (by decide)) (by rfl) we (pv 2)))
   (bh (fg ((yK (yL (wU (uZ yR (by rfl) T.zT jf (bQ (pv 3) (bQ (yJ (v:=.ty "tuple") (by rfl) T.IZ boot_tuple rfl) cn))))) (yK (mH ES (uZ fP (by rfl) T.fF aV (bQ (pv 3) cn)) aS (lR _)) (AA (yL (wU (bU Kc hr bH (bQ (rT E8 (pv 3) aS (fun _ _=>rfl)) cn)))))))).pt
   (cJ (qO pD))
   fH)
   (bh (mZ (i:=4) gK.nd rfl xL (rT E8 (pv 3) aS (fun _ _=>rfl)))
   (bh (mZ (i:=5) gK.nd rfl xL (iN (bQ sU (bQ sU (bQ (iN cn) cn)))))
   (bh (qv (bU Cy hr bH (bQ (pv 2) (bQ (nO cn) (bQ (dW (pZ so (hr.mono (by decide)) bH (pv 2)) (dW (pZ sq (hr.mono (by decide)) bH (pv 2)) (dW (pZ sr (hr.mono (by decide)) bH (pv 2)) (dW (pZ su (hr.mono (by decide)) bH (pv 2)) (dW (pZ sx (hr.mono (by decide)) bH (pv 2)) (dW (pZ sy (hr.mono (by decide)) bH (pv 2)) (pZ sA (hr.mono (by decide)) bH (pv 2)))))))) (bQ (pv 5) cn))))))
   (bh (fg ((yK (mH (Gp hr.units) (pv 3) (nO (bQ (rT u5 (pv 5) aS (fun _ _=>rfl)) (bQ (rT u5 (pv 5) aS (fun _ _=>rfl)) (bQ (rT u5 (pv 5) aS (fun _ _=>rfl)) cn)))) (lR _)) (AA (mH Yb (bU wM hr bH (bQ (pv 2) (bQ (pv 4) cn))) pD (lR _))))).pt
   (cJ (qO pD))
   fH)
   (bh (qw jd rfl (k9 rfl T.jG (bQ aS cn)) (AF (i:=6) gK.nd rfl xL)
   (bh (mZ (i:=7) gK.nd rfl xL (bU g1 hr bH (bQ (bx nV (bU g0 hr bH (bQ (pv 0) (bQ (bx f_ aS (pv 6)) cn))) aS) (bQ (bx f_ (pv 6) aS) cn))))
   (cJ (fg (yL (wU (bU Ke hr bH (bQ (pv 2) (bQ (bU Kd hr bH (bQ (pv 4) (bQ (pv 7) cn))) cn)))))
   (cJ (qO pD))
   fH))))
   (cJ (qO (EJ (EU NK (bU wM hr bH (bQ (pv 2) (bQ (iN (bQ (nO cn) cn)) cn))) pD (lR _)) (Kq (EU NK (bU wM hr bH (bQ (pv 2) (bQ (iN cn) cn))) pD (lR _))))))))))))))),Bi (K:=(lz c)) (XO:=(jr (lz c))) (E:=E) (np:=1) (nv:=7) (m:=OU)
   (bE (dQ (aG hW ((gG (cz aA (cz aL cg)))).r (aL).r) b8)
   (bE (dQ (gG (cz aA (cz aA cg))) b8)
   (bE (dQ (gG (cz aA (cz aL cg))) b8)
   (bE (fu (yV (yW (kF (zb Mq ay))) (yV (dU (aG FZ ((dJ fW (uq ay ve))).r (aL).r)) (yW (kF (gG (cz (aG qZ ay (aL).r) cg))))))
   (dD pV)
   fJ)
   (bE (dQ (aG qZ ay (aL).r) b8)
   (Yp aA (gm (fK rfl aA cg) (gm (fK rfl aA cg) (gm (fK rfl aA cg) (gm (fK rfl aA cg) (gm (fK rfl aA cg) (gm (fK rfl aA cg) (fK rfl aA cg)))))))
   (bE (fu (yV (dU (aG Gq ay ((pX (cz (aG eM ay (aL).r) (cz (aG eM ay (aL).r) (cz (aG eM ay (aL).r) cg))))).r)) (dU (aG Yc ((gG (cz aA (cz aA cg)))).r (pV).r)))
   (dD pV)
   fJ)
   (bE (jo (lg fB (cz aL cg)) b8
   (bE (dQ (gG (cz (aG nX ((gG (cz aA (cz (aG gb (aL).r ay) cg)))).r (aL).r) (cz (aG gb ay (aL).r) cg))) b8)
   (fu (yW (kF (gG (cz aA (cz ((rf (cz aA (cz aA cg)))).e cg)))))
   (dD pV)
   fJ)))
   (dD (FN (aG NL ((gG (cz aA (cz ((jm (cz (pX cg) cg))).e cg)))).r (pV).r) (aG NL ((gG (cz aA (cz ((jm cg)).e cg)))).r (pV).r))))))))))) rfl (UM (f:=OV) (ud ns hlen) hS hq)⟩
end
theorem all_mk {l:PySem.W.OpenLaw} {w:World} {K:PySem.W.Frag} {h:Heap} {mg:Str→Option Value} {fa:Addr} {a0 a1 a2 a3 a4 a5 a6 a7 a8 a9 kY j9 kZ b0 b1:Addr} (X:K.In h) (G:h.Ns mainGlobals mg) (hfa:mg "law"=some (.ref fa)) (Ap:PySem.W.findIn K (.ref a4) "__init__"=some (some (.ref b0))) (CA:PySem.W.findIn K (.ref a5) "__init__"=some (some (.ref b1))) (T:Txt K mg ⟨a0,a1,a2,a3,a4,a5,a6,a7,a8,a9,kY,j9,kZ,b0,b1⟩)
  (d0:De K "_law_cell_at" QZ)
  (d1:De K "_law_number" Q0)
  (d2:De K "_law_amount" Q1)
  (d3:De K "_law_sets" Em)
  (d4:De K "refuse_missing" Q4)
  (d5:De K "least_prices" Q6)
  (d6:De K "_law_sizes" Q_)
  (d8:De K "common_factor" Rb)
  (d9:De K "share" Rc)
  (d10:De K "rounded_up" Rf)
  (d11:De K "refuse_too_great" Rk)
  (d12:De K "_law_spot" Rr)
  (d13:De K "_law_apart" Ru)
  (d14:De K "_law_lengths" Co)
  (d15:De K "look_at" Rw)
  (d16:De K "copied_lengths" Ew)
  (d17:De K "_law_question" RC)
  (d18:De K "heaviest" Jy)
  (d19:De K "chosen_by" JE)
  (d20:De K "price_of" JH)
  (d21:De K "behind_last" RN)
  (d22:De K "nearest" JM)
  (d23:De K "reach" JN)
  (d24:De K "way_length" JS)
  (d25:De K "round_length" R1)
  (d26:De K "gone_on" J5)
  (d27:∃f fd,mW K "best_by_cases" J6 f fd (.int 2000))
  (d28:De K "_law_is_list" J7)
  (d29:De K "_law_look" J8)
  (d30:De K "parts_all" Sq)
  (d31:De K "_law_spoiled" J_)
  (d32:De K "_law_behind" J')
  (d33:De K "_law_asked" Sw)
  (dL:De K "law" Ao)
  (rO:∃fd,jD K "__init__" "NoCover.__init__" Jf b0 fd)
  (ug:∃fd,jD K "__init__" "NoRoom.__init__" Jg b1 fd)
  {fM vL tP:Addr} {ocM oc2:Value} {odM Eo od2:Option Addr} {Kf Kg:Array (Option Value)} {vT:Array Value} {Ep vM Es Et:Value}
  (vn:PySem.W.nsIn K mainGlobals "greatest_order"=some (some (.ref fM)))
  (vl:K.lookup fM=some ⟨ocM,odM,.func (PySem.W.fnOf "greatest_order" "greatest_order" (nU sj) (kR sj) (cQ sj) .none Ep vM Es Eo (.ref vL) Et),Kf⟩)
  (vc:PySem.W.codeIn K (.ref vL) "greatest_order"=true)
  (vk:PySem.W.keepIn K (.ref fM)=true)
  (vv:K.lookup vL=some ⟨oc2,od2,.fields vT,Kg⟩)
  (vt:vT[11]?=some (Value.ref tP))
  (vT:tabOf K=some (tP,#[.str ("greatest_order"++".<locals>."++"<lambda>") 0,rawInt ((74:Nat):Int),rawInt ((41:Nat):Int)]))
  (vC:PySem.W.codeHdIn K vL tP=true)
  (e0:Dm K a7 "__init__" "CoverQuestion.__init__" Ji)
  (e1:Dm K a8 "__init__" "BenchQuestion.__init__" Jm)
  (e2:Dm K a9 "__init__" "BinQuestion.__init__" Jn)
  (e3:Dm K kY "__init__" "SackQuestion.__init__" Rp)
  (e4:Dm K j9 "__init__" "RoundQuestion.__init__" Ry)
  (e5:Dm K kZ "__init__" "PlaceQuestion.__init__" RA)
  (e6:Dm K a8 "low" "BenchQuestion.low" RF)
  (e7:Dm K a9 "free" "BinQuestion.free" JC)
  (e8:Dm K a9 "low" "BinQuestion.low" RH)
  (e9:Dm K a7 "not_covered" "CoverQuestion.not_covered" JG)
  (e10:Dm K a7 "low" "CoverQuestion.low" JJ)
  (e11:Dm K kZ "low" "PlaceQuestion.low" RU)
  (e12:Dm K a6 "low" "Question.low" RV)
  (e13:Dm K j9 "answer" "RoundQuestion.answer" RX)
  (e14:Dm K j9 "low" "RoundQuestion.low" R3)
  (e15:Dm K kY "low" "SackQuestion.low" JY)
  (e16:Dm K a8 "steps" "BenchQuestion.steps" zev)
  (e17:Dm K a9 "steps" "BinQuestion.steps" R5)
  (e18:Dm K a7 "steps" "CoverQuestion.steps" R6)
  (e19:Dm K kZ "steps" "PlaceQuestion.steps" R7)
  (e20:Dm K a6 "steps" "Question.steps" R8)
  (e21:Dm K j9 "steps" "RoundQuestion.steps" R9)
  (e22:Dm K kY "steps" "SackQuestion.steps" R_)
  (e23:Dm K a8 "ways" "BenchQuestion.ways" R')
  (e24:Dm K a9 "ways" "BinQuestion.ways" JZ)
  (e25:Dm K a7 "ways" "CoverQuestion.ways" Sb)
  (e26:Dm K kZ "ways" "PlaceQuestion.ways" Sd)
  (e27:Dm K a6 "ways" "Question.ways" Se)
  (e28:Dm K j9 "ways" "RoundQuestion.ways" J1)
  (e29:Dm K kY "ways" "SackQuestion.ways" J2)
  : ∃fd:FuncData,(∀(s:Shared) (v:Value),BindsTo s fd ⟨[v],[]⟩ [("_law_script",v)])∧∀base:Heap,K.In base→base.Ns mainGlobals mg→mV mg base→cq l.prog w K mg base jM 14 fa fd ["_law_script"] (Eg K):=by
 let ad:yD:=⟨a0,a1,a2,a3,a4,a5,a6,a7,a8,a9,kY,j9,kZ,b0,b1⟩
 obtain⟨fL,gL,DL⟩:=dL
 have e:=hfa.symm.trans (cU X G DL.ns)
 cases e
 have FL:=DL.fn
 obtain⟨oc,od,kV,doc,pm,an,qy,ct,uY,rfl,lk,DF⟩:=DL.fn.ex
 refine⟨PySem.W.fnOf "law" "law" (nU Ao) (kR Ao) (cQ Ao) .none kV doc pm an qy ct,fun s v=>.of_eq rfl,fun base _ _ KB=>?_⟩
 let c:aB:=⟨l.prog,w,K,mg,base,ad⟩
 have T:bG c:=T
 obtain⟨_,lZ⟩:=rO
 have jx:QX c:=⟨_,zkD lZ,lZ.binds tW⟩
 obtain⟨_,oB⟩:=ug
 have kO:QY c:=⟨_,zlM oB,oB.binds tW⟩
 obtain⟨f16,q16,Kh⟩:=d16
 obtain⟨f27,q27,Ki⟩:=d27
 obtain⟨f29,q29,CB⟩:=d29
 obtain⟨f32,q32,CC⟩:=d32
 have D7:nW K "greatest_order" sj fM _:=⟨vn,C3 (st:=sj) vl vc vk⟩
 have g0:=zlN T d0
 have g1:=znu T d1
 have g2:=zmK T d2
 have g3:=zoS T d3 g1 g2
 have g4:=zjI T d4 jx
 have g5:=zlG T d5
 have g6:=zfJ T e0 g4 g5
 have g7:=zoH T d6 g1 g2
 have g8:Jj c:=D7.has X G (zjm vl vc T vT vC KB) (D7.fn.binds tW)
 have g9:=zkg T d8
 have z9:=zve T d9 g9
 have z_:=znj T d10
 have Jt:=zfL T e1 g8 z9 z_
 have Jo:=zin T d11 kO
 have Ju:=zgf T e2 g8 Jo
 have Jv:=zga T e3
 have Jq:=zoY T d12 g1
 have Eu:=znK T d13
 have Ex:=zl4 T d14 g0 Jq Eu
 have Aa:=zrb T d15
 have Ab:Js c:=Kh.has X G (zjs Kh.fn T) (Kh.fn.binds tW)
 have Jw:=zfO T e4 Aa Ab
 have Jx:=zfR T e5 Aa Ab
 have Ka:=zk5 T d17 g0 g1 g2 g3 g6 g7 Jt Ju Jv Ex Jw Jx
 have JA:=zpB T d18
 have Af:=zhI T e6 JA
 have Ac:=zib T e7
 have Ag:=zjf T e8 z9 z_ Ac
 have sk:=zoq T d19
 have Ad:=zeN T e9 sk
 have JK:=zpC T d20
 have Ah:=zhP T e10 sk Ad JK
 have Ae:=zlQ T d21
 have JO:=zrQ T d22
 have JQ:=zv2 T d23 JO
 have Ai:=zhO T e11 Ae JQ
 have Aj:=zlo T e12
 have JV:=zgs T e13
 have JT:=zm0 T d24
 have JW:=zlI T d25 JT
 have Ak:=zhL T e14 JV JW
 have Al:=zid T e15 sk
 have so:=zgR T e16
 have sq:=zhM T e17
 have sr:=zgP T e18
 have su:=zgM T e19
 have sx:=zjB T e20
 have sy:=zgO T e21
 have sA:=zhk T e22
 have vN:=zgW T e23
 have vO:=ziB T e24 Ac
 have vP:=zgV T e25 Ad
 have vQ:=zhu T e26 Ae
 have vR:=zki T e27
 have vS:=zhd T e28
 have vU:=zhF T e29 sk
 have Am:=zqN T d26 vN vO vP vQ vR vS vU
 have Kb:Sj c:=Ki.has X G (zkm Ki.fn T Af Ag Ah Ai Aj Ak Al so sq sr su sx sy sA Am) (Ki.fn.binds (fun _ _ _ _ _ _ _ _ us hl=>match us,hl with|[_,_],_=>⟨_,rfl,rfl⟩) fun _ _ _ _ _ _ _ _ us hl=>match us,hl with|[_],_=>⟨_,rfl,rfl⟩)
 have Kc:=zlW T d28
 have mY:∀n,cq l.prog w K mg base jM (n+4) f29 q29 ["_law_question_here","_law_case","_law_steps","_law_kept"] (oq (KX K ad) t8 t9 n):=by
  intro n
  induction n with
  | zero=>exact⟨fun vs H Q E h=>by (obtain⟨_,_,_,_,_,_,_,_,_,_,_,_,_,_,_,z,_⟩:=h;cases z),fun A outer s H args us vs Q E hr e b v h=>by (obtain⟨_,_,_,_,_,_,_,_,_,_,_,_,_,_,_,z,_⟩:=h;cases z)⟩
  | succ n ih=>exact zpG CB.fn T (CB.has X G ih (CB.fn.binds tW)) Af Ag Ah Ai Aj Ak Al vN vO vP vQ vR vS vU
 have Cy:So c:=CB.has X G (mY 8) (CB.fn.binds tW)
 have wM:=znT T d30 so sq sr su sx sy sA Am
 have Kd:=zlX T d31
 have kP:∀n,cq l.prog w K mg base jM (n+4) f32 q32 ["_law_question_here","_law_closed","_law_at","_law_case","_law_steps"] (qA (KX K ad) (jr (KX K ad)) (oy n)):=by
  intro n
  induction n with
  | zero=>exact⟨fun vs H Q E h=>by obtain⟨_,_,_,_,z⟩:=h;exact (show False from z).elim,fun A outer s H args us vs Q E hr e b v h=>by obtain⟨_,_,_,_,z⟩:=h;exact (show False from z).elim⟩
  | succ n ih=>exact zmU CC.fn T (CC.has X G ih (CC.fn.binds tW)) vN vO vP vQ vR vS vU
 have Cz:Su c:=CC.has X G (kP 8) (CC.fn.binds tW)
 have Ke:=znW T d33 so sq sr su sx sy sA wM Cz
 exact zz5 (c:=c) FL T g0 g1 Ka so sq sr su sx sy sA Kb Kc Cy wM Kd Ke
theorem walk {l:PySem.W.OpenLaw} {q:Program} {loose:List Str} {XP:(Str→Option Value)→Heap→Prop} {YP:World→Heap→Prop} {d:DefRec} {K:Params→PySem.W.Frag} (hn:l.most=some 63) (hdf:d.params.defaults=[])
  (hY:∀(w:World) (h:Heap),YP w h→(K w.params).In h) {tP:Addr} (hY2:∀(w:World) (h:Heap),YP w h→∀t∈[tP],h.get? t=some (PySem.W.tabObj #[])) (hT:∀w:World,Bv (K w.params) tP=true)
  (F:∀(w:World) (mg:Str→Option Value) (fa:Addr) (h:Heap),(K w.params).In h→h.Ns mainGlobals mg→mg d.name=some (.ref fa) →
   ∃fd:FuncData,(∀(s:Shared) (u:Value),BindsTo s fd ⟨[u],[]⟩ [("_law_script",u)])∧∀base:Heap,(K w.params).In base→base.Ns mainGlobals mg→mV mg base→cq l.prog w (K w.params) mg base jM 14 fa fd ["_law_script"] (Eg (K w.params))) :
  PySem.W.WalkO q loose XP YP l.row.toRowW d [] (fun f vs=>PySem.call f vs):=
 L2.tM (n:=63) (k:=14) (x:="_law_script") (CX:=fun _=>jM) (sp:=fun w=>Eg (K w.params)) hn (by decide) hdf ⟨rfl,by decide,by decide⟩ hY hY2 hT F (fun _ _ a ns hl hS=>⟨a,ns,rfl,hS,hl,fun _=>rfl⟩) fun _ _ _ _ _ z=>z
end My
structure PySem.W.Fast:Prop where(tw1394874500976045959 tw1242657030089397622 tw14806721359443475499 tw2074897571315331336 tw6912279350594858262 tw12794281319695979294 tw12231629143043722919 tw12637919195494301787 tw7216765142404374605 tw8597857509039744779 tw11154124473701746824 tw12459121998603568076 tw7790417416676356898 tw14607800707679285993 tw2365371018846707388 tw8023136456861075834 tw8226514418315846485 tw6086271097837722177 tw12309420765022589272 tw3529846434655646522 tw16930585988009391258 tw4160769691749036056 tw6695902666999308865 tw2532458855884899196 tw9361524689569407368 tw11746805735793298707 tw2698296131843156856 tw11335408796603071633 tw4065591978557465770 tw9909051952807437753 tw383752121781080369 tw8726170497787064147 tw3553366889996993409 tw2836242831000054337 tw12657606689844608871 tw6774510480852201348 tw2060020094545022851 tw172542154756941187 tw16912412772197873522 tw4120227936405047985 tw18147457653931911733 tw17000841830727207409 tw1176907524991739053 tw6720472650280226059 tw4195832515888113630 tw17289707151858059936 tw16635694348174304705 tw2301209580891823330 tw9521937719087849594 tw8059535165002307350 tw1674897375308379438 tw10456516934017058903 tw8614346815610681648 tw5771356718781761446 tw1178982492622929904 tw7823665227058432997 tw7067795105057027124 tw5538009740299078189 tw9461294157166331064 tw1346990379136007902 tw4030115127924394640 tw12703572479349306971 tw16500792895343387397 tw6286809538282994695 tw4121945230794900819 tw17252861632580133891 tw11777066693917405727 tw5805057252020829677 tw962035971657662522 tw6241464025637376856 tw12584378408108482604 tw5925409928372638972 tw15787504019863936684 tw17764463370270236223 tw1786045658214315260 tw14038392558288886847 tw3689137059503354430 tw13135297882527960852 tw8602427664580580788 tw893060421079317612 tw3171738644141751371 tw2095587915470742319 tw1785453301864885445 tw209638592563804060 tw4091468084456096358 tw8567737125581598464 tw13683006604763537814 tw10828978445321188110 tw13426078621860915319 tw9173796330010322877 tw17110943647716102742 tw10381517886981759398 tw14480850530553602947 tw8329189709314370984 tw8755529255119021058 tw15962081762115850181 tw5999334032607874077 tw10586217154593693181 tw17368726176103200777 tw17385336635961974937 tw16144895485991305871 tw9495353140784302844 tw13555011343104040802 tw5570365350243855278 tw1923332297528771769 tw2224654793189202287 tw10508054728121481748 tw8858162591832111238 tw9694499472944362694 tw8742246752629719045 tw12208829508353063651 tw6947190088411019293 tw15988526796152194165 tw15252759683992833817 tw15057629122941963054 tw6244977216532884635 tw6056333008403155314 tw9037827733251202034 tw14895194943534338446 tw15176458308867563345 tw10918363480727834953 tw6512737797441271339 tw16574798950496456259 tw6778496828252900785 tw9670053435277268539 tw18269813277245347985 tw14371031099512594121 tw15651509835969551019 tw17564745103589206941 tw12050064127307797169 tw11661940674651842620 tw14022468687646604264 tw6992264486743629062 tw11485307396806734276 tw9521578485609429816 tw6945154047253082542 tw9213123128791923903 tw5422740587573706540 tw9048705056250945899 tw11771103517815631641 tw4893922338345224207 tw12478140941937152764 tw17060371624088198033 tw3884294513180454754 tw8983853165259450279 tw14140288574413458335 tw7020052662606679412 tw3326934913372602131 tw3138764071280380793 tw5808094483017353819 tw2642847240907481355 tw1985707301535771766 tw16055610273943941917 tw2678028284727090538 tw10599507906633589489 tw9506800021193735357 tw11804303485593253526 tw15346776644704134734 tw933124337670284613 tw12384992132763346989 tw17993863963916757092 tw9629070563168537466 tw4434871193735627470 tw14874252139932870720 tw8687797208331165439 tw12028422526515798489 tw1030592197266667180 tw18047687152822539194 tw13155999868013722201 tw17569623945620444497 tw11289288067236139414 tw10356380791781504411 tw13320321789800721222 tw12454450829588654710 tw17003269727227653259 tw8696514938448655685 tw9427621446561980366 tw11736144815390848720 tw4944403163536507855 tw4288640868510399926 tw11487716742519991512 tw3078794024408446580 tw7866900490024619112 tw11108631733489469233 tw2110081848044887503 tw6131988974183123958 tw17892697224203572624 tw9636832825898444432 tw7824207442228031708 tw17255877640429645836 tw17241992274669052455 tw10640574352786290112 tw13957536617083827645 tw5322617884856450567 tw3637015680952415509 tw16825749842995364123 tw8424313546753855635 tw5246817055671185458 tw2212843127712138124 tw11410760193506433541 tw8224445007018269085 tw10282885087451556605 tw11262752939337137140 tw9382327207967293175 tw16089586815699408410 tw17596252258314576852 tw4076895917192123701 tw11982331569101068454 tw17933892128573873190 tw16744384721956008924 tw17052981418194878328 tw15119566561753317792 tw5603244539263638261 tw5237976517049924021 tw3193316596619727600 tw3374042178783316718 tw12480166990467154168 tw16474393130608517419 tw12514799677818751540 tw4446784672875178475 tw9098407109379539771 tw17435973207201771832 tw4018590256139020057 tw567396135570061564 tw11999614502259100595 tw16927013130991677629 tw1834658488715764958 tw9616068913516074204 tw6750420759640761572 tw4768120935718054758 tw14513290037408658889 tw7766810655277273945 tw15458101811068799220 tw17412335449053261509 tw14981475632766351746 tw5966993126685660839 tw6314332235098355541 tw17054515689331748661 tw14206808186282027244 tw16928879080297063405 tw12652667986837316138 tw3483978136556210684 tw10765591774575014477 tw2662223609139143645 tw8529589528337679181 tw2364067786852641089 tw10492266611473839210 tw16983386445109797333 tw15923244309532044339 tw2858506464200929245 tw8816246584608702446 tw13891164837792602114 tw7532651985043020430 tw6374755158068110823 tw4855449000752459333 tw112643346597572059 tw2805236785792403672 tw627936206172996437 tw5798524850254751914 tw7565904310981473088 tw16549825433197849895 tw14381660376738939746 tw10925267409137468971 tw9235708776234817619 tw16616239852260810929 tw3035179852259089003 tw15251792351765970109 tw10803001160319176968 tw390380756677935601 tw16041216427151309873 tw6975865980255518144 tw7430317192697692364 tw17688159969861630901 tw11493612644303395225 tw3042804794382877866 tw2010918447791795848 tw9325993789473143607 tw15063580315027608870 tw16174483497581193001 tw7584757730404247182 tw9613098508812609585 tw5082491173758776703 tw981002091580572485 tw433820427873566255 tw1777540896556880444 tw2069058426009544011 tw1516829293184523284 tw15244167214179896039 tw2274406670280951203 tw13377136377709485270 tw11362305652520865468 tw6030855871472419176 tw5912233423461356925 tw13550105672497177634 tw3408556538444458548 tw17178397007105923979 tw2663744056195407931 tw17118092223868577417 tw13790307627362240449 tw6959985275680862793 tw6013010150547963687 tw936202566181889047 tw8686645699685624470 tw15738440220152925510 tw13541193344145688985 tw12030538338410359784 tw9782951399563269185 tw9592981234333463963 tw568097896729042609 tw13070405056545835308 tw11568323941537634307 tw4151604916135375634 tw15463854011402904990 tw10930467971075019106 tw18314482478008806565 tw11865978640418273928 tw14964572409569573035 tw7195068808068657579 tw4248567063652339313 tw13833387133815293299 tw13602726028992931007 tw2356967605947083637 tw15735539571165142956 tw3744336591426361618 tw16427339560687357221 tw16959319215448935710 tw16445922801995962304 tw3363834919793045003 tw4192611699768273698 tw8596388164977621513 tw17636655191118511439 tw6590783435576060807 tw8321935345539999603 tw9513489567963121432 tw5615428186901248191 tw8716119061136386174 tw13539036061970737487 tw15757093872725968061 tw664317869135017308 tw5302124943780990778 tw4214632694474096504 tw122145319377666147 tw1241853006681230740 tw8699388311198732253 tw4222531531742135172 tw14067595035358863274 tw3230192285093465102 tw17733644147343455672 tw1994247689085628373 tw10990451846324836906 tw15855235562970109114 tw3275058287858098640 tw3055954651010094118 tw10135357994629542908 tw12581135370584195605 tw3158163606336823244 tw15157170923409491891 tw9080734683838422233 tw11269633543580551416 tw6900149047369641671 tw6650310574059012904 tw747119334477994989 tw14663916457012950287 tw1973854464004151920 tw13595791450037460035 tw17477771833573119089 tw3876525691633932714 tw18137676703599299857 tw6540374483500440265 tw384731991704174053 tw17261237248348321821 tw3674885799937658256 tw17088589526670992109 tw6285866695260069959 tw15186598276117651648 tw8012807888644075167 tw12282229238541074213 tw3153373022460942741 tw8750785607632851037 tw10663128932495286090 tw6377324300163098307 tw12025200662149758853 tw4339833004369050144 tw16302761557041188488 tw17292210150091739450 tw124636114949005028 tw9124522423594413992 tw7627056847775825226 tw17374088948417568018 tw17286690308843199671 tw13588389171499485115 tw11411001716714634749 tw7483442662049962568 tw3200618330353192613 tw9094548446577827460 tw602124220851333792 tw8093126429369052644 tw14467550743935467798 tw253559956187611523 tw15635075840694638308 tw4735288124150236455 tw17183811916337060408 tw972636968399938148 tw10507291297536652049 tw12829694384239448840 tw7976294385387342088 tw17867334789073149770 tw1434917602780300754 tw11737615681960712708 tw157465139457582123 tw8634758690994265283 tw7511212553300149120 tw16074845871800006735 tw15207026538747070346 tw11123144600162693362 tw17310782359488659959 tw13360857669600704630 tw18415413591619081876 tw4689351314353840021 tw10054195891884702796 tw15052579032449013318 tw5650719961868908094 tw14685652407183293409 tw16415610709399388337 tw16933052639094856028 tw6374021932446379870 tw10269006590349800009 tw562766780365467260 tw645110719826591158 tw833137808059940024 tw16390167566909767055 tw16829172552448280941 tw14393230711887314038 tw1030869788291270730 tw16924703020832236285 tw13515903822511721712 tw4278760820837438697 tw10651599749222401057 tw712839392808487391 tw17177781304262897020 tw11414986770249286717 tw3747378557273019261 tw12559806583019444760 tw17359766057506473922 tw3167608163878890632 tw15444309589000635970 tw3160469471894010481 tw7390307795526349959 tw9790448819325056960 tw13293282443409007702 tw12095970641067632120 tw10367987732966325894 tw13666243012978256714 tw7549659874095577779 tw751429513191225506 tw15063947414608390149 tw4330252566260781901 tw12964824321832088699 tw9475010529917917692 tw11144153100415436917 tw17110201442024553115 tw8909898362413120714 tw14142485704430379244:True)
open PySem PySem.W PyProof.Rows
set_option maxRecDepth 100000 in
set_option maxHeartbeats 0 in
theorem PySem.Challenge.cw_goodenough_k39_cases_part_all_holds : PySem.Challenge.rw_goodenough_k39_cases_part_all.Holds := by
 w_on;o_law;k_head;(case hw=>w_witness2)
 k_fill
 refine My.walk (l:=PySem.Challenge.rw_goodenough_k39_cases_part_all) rfl rfl (fun w h Y=>by first|exact PySem.W.kIn_of Y|exact PySem.W.km_in_of Y) (fun w h Y=>PySem.W.km_tabs_of Y) ?tab ?F
 (case tab=>intro w;kernel_rfl)
 case F=>
  intro w mg fa h X G hmg
  refine' My.all_mk X G hmg ?_ ?_ ⟨⟨h,X,G⟩,cI X G ?_,cI X G ?_,cI X G ?_,cI X G ?_,cI X G ?_,cI X G ?_,cI X G ?_,cI X G ?_,cI X G ?_,cI X G ?_,cI X G ?_,cI X G ?_,cI X G ?_,cI X G ?_,cI X G ?_,cI X G ?_,cI X G ?_,cI X G ?_,cU X G ?h0,cU X G ?h1,cU X G ?h2,cU X G ?h3,cU X G ?h4,cU X G ?h5,cU X G ?h6,⟨?h16,?h9,?h17,?h18⟩,?h19,?h20,?h21,⟨?h22,?h10,?h23,?h24⟩,?h25,?h26,?h27,⟨?h30,?h11,?h31,?h32⟩,?h33,?h34,?h35,?h36,⟨?h39,?h12,?h40,?h41⟩,?h42,?h43,?h44,⟨?h47,?h13,?h48,?h49⟩,?h50,?h51,⟨?h54,?h14,?h55,?h56⟩,?h57,⟨?h60,?h15,?h61,?h62⟩,?h63,?h64,cU X G ?h67,cU X G ?h68,cU X G ?h69,cU X G ?h70,cU X G ?h71,cU X G ?h72,?h77,?h78,?h79,?h86,?h87,?h88,?h91,?h92,?h93,⟨?h108,?h109,?h97,?h110,?h94,?h95,?h117,?h118⟩,⟨?h120,?h121,?h98,?h122,?h94,?h95,?h129,?h130⟩,⟨?h132,?h133,?h99,?h134,?h94,?h95,?h141,?h142⟩,⟨?h144,?h145,?h100,?h146,?h94,?h95,?h153,?h154⟩,⟨⟨?h144,?h145,?h100,?h146,?h94,?h95,?h153,?h154⟩,?h80,?h81⟩,⟨?h156,?h157,?h101,?h158,?h94,?h95,?h165,?h166⟩,⟨⟨?h156,?h157,?h101,?h158,?h94,?h95,?h165,?h166⟩,?h89,?h90⟩,⟨?h19,?h20⟩,⟨?h28,?h29⟩,⟨?h37,?h38⟩,⟨?h45,?h46⟩,⟨?h52,?h53⟩,⟨?h58,?h59⟩,⟨?h65,?h66⟩⟩ ?_ ?_ ?_ ?_ ?_ ?_ ?_ ?_ ?_ ?_ ?_ ?_ ?_ ?_ ?_ ?_ ?_ ?_ ?_ ?_ ?_ ?_ ?_ ?_ ?_ ?_ ?_ ?_ ?_ ?_ ?_ ?_ ?_ ?_ ?_ ?_ ?_ ?_ ?_ ?_ ?_ ?vt ?_ ?_ ?_ ?_ ?_ ?_ ?_ ?_ ?_ ?_ ?_ ?_ ?_ ?_ ?_ ?_ ?_ ?_ ?_ ?_ ?_ ?_ ?_ ?_ ?_ ?_ ?_ ?_ ?_ ?_ ?_ ?_
  any_goals refine' L2.tm ?_ ?_ ?_ ?_
  any_goals refine' L2.rB ?_ ?_ ?_ ?_ ?_
  any_goals refine' L2.rD ?_ ?_ ?_ ?_ ?_
  any_goals refine' L2.BM ?_ ?_ ?_
  all_goals try first|k_is|(dsimp only;k_is)|(unfold L2.aE;dsimp only;k_is)
  (case vt=>rfl)
  all_goals try first|k_is|(dsimp only;k_is)
  all_goals first|k_exc|(dsimp only;k_exc)|kernel_rfl|(dsimp only;kernel_rfl)|rfl
#print axioms PySem.Challenge.cw_goodenough_k39_cases_part_all_holds
