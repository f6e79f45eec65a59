import PyProof.Rows.All
import Wide.All
import OpenK.AllK
import Wide.FinOn
import Lean
import PyProof.EqAt
import PyProof.EqKinds
import PyProof.TupleCall
import PySem.Challenge.RW_goodenough_k40_whole_best_of_any
set_option Elab.async false
set_option linter.all false
set_option maxRecDepth 100000
set_option maxHeartbeats 4000000
set_option bootstrap.genMatcherCode false
set_option compiler.extract_closed false
set_option backward.eqns.nonrecursive false
set_option backward.eqns.deepRecursiveSplit false
set_option genSizeOf false
noncomputable section
section
open PySem PySem.Spec PyProof.Rows
def zaa{α:Sort u}(a:α):∃x,x=a:=⟨_,rfl⟩
def zab{a:Prop}(h:a:=by first|exact Or.inl rfl|exact Or.inr rfl):a:=h
def zal(h:True:=by rfl):=h
def zak:=zal._auto_1
def zan(h:True:=by decide):=h
def zam:=zan._auto_1
def zap(h:True:=by decide+kernel):=h
def zao:=zap._auto_1
def zar(h:True:=by first|exact .inl rfl|exact .inr rfl|assumption):=h
def zaq:=zar._auto_1
def zat(h:True:=by intro _;rfl):=h
def zas:=zat._auto_1
def zau:=zab._auto_1
def zaw(h:True:=by exact fun _ _=>rfl):=h
def zav:=zaw._auto_1
def rM:=@PySem.Around.under_plainId
def og:=@Array.getD_eq_getD_getElem?
def ud:=@Array.getElem?_eq_some_iff
def ue:=@Array.getElem?_toList
def qG:=@Array.length_toList
def kQ:=@Bool.and_eq_true
def wm:=@Bool.eq_iff_iff
def uf:=@Bool.false_eq_true
def fw:=@Bool.false_ne_true
def wo:=@PySem.Calls.callWith_builtin
def pV:=@PySem.Calls.evalArgs_plain
def ng:=@PySem.Calls.spliced_cons
def pX:=@PySem.Calls.spliced_nil
def pY:=@Classical.axiomOfChoice
def nh:=@Classical.byContradiction
def rN:=@PySem.Code.quiet_builtin
def f7:=@Eq.trans
def jg:=@PySem.F.called_set
def k8:=@PySem.F.plain_max_loop
def pZ:=@PySem.F.slot_tuple_iterator_next
def p5:=@PySem.F.slot_zip_next
def nj:=@PySem.Heap.SameBut.update
def k9:=@PySem.Heap.get?_none_of_le
def aO:=@PySem.Heap.get?_push_of_some
def b7:=@PySem.Heap.get?_push_size
def fH:=@PySem.Heap.get?_update_other
def jh:=@PySem.Heap.get?_update_self
def aI:=@PySem.Heap.lt_size
def iC:=@PySem.Heap.size_push
def jN:=@Int.emod_lt_of_pos
def jO:=@Int.emod_nonneg
def p6:=@Int.le_antisymm
def gW:=@Int.le_refl
def ji:=@Int.le_trans
def rO:=@Int.natCast_add
def vw:=@List.Nodup.length_le_of_subset
def p7:=@List.Pairwise.map
def rP:=@List.Perm.eq_of_pairwise
def k_:=@List.all_cons
def jj:=@List.all_eq_true
def nq:=@List.all_map
def lg:=@List.any_cons
def p8:=@List.any_eq_true
def jP:=@List.append_assoc
def dg:=@List.append_nil
def lj:=@List.concat_eq_append
def jQ:=@List.cons_append
def rQ:=@List.dropLast_concat_getLast
def nr:=@List.drop_eq_getElem_cons
def p_:=@List.drop_length
def vx:=@List.eq_nil_of_length_eq_zero
def jR:=@List.eq_nil_or_concat
def rR:=@List.eraseIdx_eq_take_drop_succ
def jS:=@List.ext_getElem
def iD:=@List.ext_getElem?
def qc:=@List.filterMap_cons
def qf:=@List.filter_congr
def rT:=@List.forIn_cons
def cz:=@List.getD_eq_getElem?_getD
def fm:=@List.getElem?_append_left
def jk:=@List.getElem?_append_right
def b8:=@List.getElem?_eq_getElem
def fJ:=@List.getElem?_eq_none_iff
def bV:=@List.getElem?_eq_some_iff
def rV:=@List.getElem?_inj
def bX:=@List.getElem?_map
def lq:=@List.getElem?_replicate
def aL:=@List.getElem?_set_ne
def bf:=@List.getElem?_set_self
def ly:=@List.getElem_of_mem
def eJ:=@List.length_append
def fK:=@List.length_cons
def rX:=@List.length_drop
def lz:=@List.length_eq_zero_iff
def nu:=@List.length_filter_le
def aF:=@List.length_map
def qh:=@List.length_range
def lA:=@List.length_reverse
def ny:=@List.length_set
def jT:=@List.length_singleton
def qi:=@List.length_take
def fq:=@List.lookup_cons
def fN:=@List.map_append
def fO:=@List.map_congr_left
def bR:=@List.map_cons
def qj:=@List.map_const'
def nz:=@List.map_fst_zip
def cg:=@List.map_map
def bJ:=@List.mem_append
def gX:=@List.mem_append_left
def cN:=@List.mem_append_right
def aM:=@List.mem_cons
def bx:=@List.mem_cons_of_mem
def gY:=@List.mem_cons_self
def c9:=@List.mem_filter
def lB:=@List.mem_filterMap
def nC:=@List.mem_flatMap
def bT:=@List.mem_map
def eL:=@List.mem_of_getElem?
def gZ:=@List.mem_range
def bj:=@List.mem_singleton
def oh:=@List.mergeSort_perm
def el:=@List.nodup_append
def dQ:=@List.nodup_cons
def hU:=@List.nodup_range
def dw:=@List.not_mem_nil
def dR:=@List.of_mem_zip
def oi:=@List.pairwise_map
def oj:=@List.pairwise_mergeSort
def fU:=@List.perm_ext_iff_of_nodup
def lK:=@List.reverse_cons
def cV:=@List.size_toArray
def oo:=@List.sum_append
def lM:=@List.sum_cons
def oq:=@List.take_of_length_le
def ou:=@List.zipIdx_map
def lN:=@Nat.le_of_eq
def gm:=@Nat.le_of_lt
def aC:=@Nat.le_refl
def fV:=@Nat.le_succ
def bo:=@Nat.le_trans
def dI:=@Nat.lt_irrefl
def lO:=@Nat.lt_of_le_of_lt
def cW:=@Nat.lt_of_lt_of_le
def jU:=@Nat.lt_succ_of_lt
def fx:=@Nat.lt_succ_self
def fW:=@Nat.lt_trans
def eO:=@Nat.ne_of_gt
def aY:=@Nat.ne_of_lt
def bM:=@Nat.zero_le
def aN:=@Ne.symm
def jV:=@PySem.Obj.data_mapFields
def lP:=@PySem.Obj.isFreed_of_fields
def oy:=@Option.map_eq_some_iff
def oz:=@Option.map_some
def dU:=@Option.some.inj
def eP:=@PySem.PassesOwn.leaving
def jW:=@PySem.PassesOwn.never
def ew:=@PyProof.Rows.callWith_type1
def oA:=@PySem.F.args_tuple_add_2
def oB:=@PySem.F.entry_tuple_add
def dJ:=@PySem.F.excBase_ValueError
def iX:=@PySem.F.plainAttrs_list
def oC:=@PySem.F.slot_dict_get
def oE:=@PySem.F.slot_list_append
def oF:=@PySem.F.slot_tuple_add
def oG:=@PySem.F.type_list_append
def jX:=@W.KasT.kasWp_bind
def oH:=@W.any_some
def lQ:=@W.callWith_K
def oI:=@W.cellsFrom_some
def oJ:=@W.hideAll_get
def oK:=@W.isNs_of_in
def eQ:=@W.kia_one
def oM:=@W.looks_clsIn
def cJ:=@W.mg_none_of
def dy:=@W.mg_of
def oN:=@W.of_hideAll
def oO:=@W.plainGet_of
def az:=@PySem.boot_len
def fX:=@PySem.mem_of_lookup
def jY:=@beq_eq_false_iff_ne
def eR:=@beq_iff_eq
def gq:=@PyProof.Rows.boot_isinstance
def dM:=@PyProof.Rows.boot_list
def eU:=@PyProof.Rows.boot_sum
def jZ:=@PySem.call_meets
def iY:=@PySem.codeAny_builtin
def oP:=@PySem.codeAny_call_builtin
def gr:=@PySem.codeAny_mono
def cK:=@congrArg
def cX:=@decide_eq_false
def da:=@decide_eq_true
def hV:=@decide_eq_true_eq
def ak:=@if_neg
def ao:=@if_pos
def fy:=@not_or
def oQ:=@of_decide_eq_true
def eB:=@or_false
def j9:=@PySem.plainId_quiet
def lR:=@PySem.rangeSize_one
def lU:=@PySem.seqIndex_neg
def fz:=@PySem.sizeLine_eq
def oR:=@PySem.tupleKind_room_in1
def hW:=@PySem.wpAny_Call_Name_kw
def j_:=@PySem.wpAny_Name
def lV:=@PySem.wpAny_attempt
def ah:=@PySem.wpAny_bind
def gu:=@PySem.wpAny_call
def j':=@PySem.wpAny_callSpecial?_slot
def ka:=@PySem.wpAny_call_entry
def lX:=@PySem.wpAny_execs_nil
def cL:=@PySem.wpAny_field
def dV:=@PySem.wpAny_holding
def gv:=@PySem.wpAny_letGo
def oS:=@PySem.wpAny_loadName_local
def lY:=@PySem.wpAny_loadPart'
def dz:=@PySem.wpAny_mono
def lZ:=@PySem.wpAny_newObj_type
def l5:=@PySem.wpAny_onRaise
def hX:=@PySem.wpAny_passesOwn
def ax:=@PySem.wpAny_pure
def l7:=@PySem.wpAny_pyIter_enum
def oU:=@PySem.wpAny_pyIter_revIter
def oV:=@PySem.wpAny_pyIter_tuple
def l8:=@PySem.wpAny_pyIter_zip
def iZ:=@PySem.wpAny_rule
def eD:=@PySem.wpAny_seqItems
def ke:=@PySem.wpAny_setField
def i7:=@PySem.wpAny_setField_rec
def fY:=@PySem.wpAny_standAt
def l9:=@PySem.wpAny_truthy_bool
def kf:=@PySem.wpAny_tryCatch
def l_:=@PySem.wpAny_updateSeq
def oW:=@PySem.wpAny_updateSeq_pair
namespace L2
abbrev Key:=Sum Int Str
noncomputable def xR:Key->Value->Bool|.inl k,v=>Value.isInt k v|.inr x,v=>Value.isStrOf x v
def Ee(w:World):Key->Int|.inl k=>hashInt k|.inr x=>hashStr w x
def uh:∀{k:Key}{v:Value},xR k v=true->(∃i t,k=Sum.inl i/\v=Value.int i t)\/(∃x t,k=Sum.inr x/\v=Value.str x t)|.inl i,v,h=>by obtain⟨t,e⟩:=Value.isInt_shape h;simp_all|.inr x,v,h=>by obtain⟨t,e⟩:=Value.isStrOf_shape h;simp_all
def Uk(i:Int)(t:Tok):xR (.inl i) (.int i t)=true:=by simp[xR,Value.isInt]
def Ul(x:Str)(t:Tok):xR (.inr x) (.str x t)=true:=by simp[xR,Value.isStrOf]
def Um(a b:Int):decide ((Sum.inl a:Key)=Sum.inl b)=(a==b):=by
 by_cases e:a=b;.simp_all
 .have h:¬(Sum.inl a:Key)=Sum.inl b:=fun q=>e (Sum.inl.inj q);rw[cX h];exact(jY.mpr e).symm
def Uo(a b:Str):decide ((Sum.inr a:Key)=Sum.inr b)=decide (a=b):=by simp
def Up(a:Int)(b:Str):decide ((Sum.inl a:Key)=Sum.inr b)=false:=cX (fun q=>nomatch q)
def Uq(a:Str)(b:Int):decide ((Sum.inr a:Key)=Sum.inl b)=false:=cX (fun q=>nomatch q)
def qH(prog:Program)(w:World):PySem.KeyKind prog w Key where
 is:=xR;hash:=Ee w;inj:=fun v a b l f=>by
  rcases uh l with⟨i,t,rfl,rfl⟩|⟨x,t,rfl,rfl⟩
  . rcases uh f with⟨j,u,rfl,e⟩|⟨y,u,rfl,e⟩;.injection e with c _;rw[c]
    .exact nomatch e
  . rcases uh f with⟨j,u,rfl,e⟩|⟨y,u,rfl,e⟩;.exact nomatch e
    .injection e with c _;rw[c]
 byValue:=fun k v h=>by rcases uh h with⟨i,t,rfl,rfl⟩|⟨x,t,rfl,rfl⟩<;>rfl
 pyHash:=fun d h=>by
  rcases uh d with⟨i,t,rfl,rfl⟩|⟨x,t,rfl,rfl⟩;.exact wpAny_pyHash_int h
  .exact wpAny_pyHash_str h
 eqBool:=fun g d h=>by
  rcases uh g with⟨i,t,rfl,rfl⟩|⟨x,t,rfl,rfl⟩
  . rcases uh d with⟨j,u,rfl,rfl⟩|⟨y,u,rfl,rfl⟩;.rw[Um]at h;exact wpAny_eqBool_int h
    .rw[Up]at h;exact SeqAt.EqAt.int_str i t y u _ _ _ _ h
  . rcases uh d with⟨j,u,rfl,rfl⟩|⟨y,u,rfl,rfl⟩;.rw[Uq]at h;exact SeqAt.EqAt.str_int x t j u _ _ _ _ h
    .rw[Uo]at h;exact wpAny_eqBool_str h
 «strs»:=fun k x t v h=>by
  rcases uh h with⟨i,u,rfl,e⟩|⟨y,u,rfl,e⟩;.exact nomatch e
  .injection e with c _;subst c;cases v<;>rfl
def Ur(prog:Program)(w:World)(i:Int)(t:Tok):(qH prog w).is (.inl i) (.int i t)=true:=Uk i t
def Us(prog:Program)(w:World)(x:Str)(t:Tok):(qH prog w).is (.inr x) (.str x t)=true:=Ul x t
inductive V where|non|bl(b:Bool)|int(i:Int)|str(x:Str)|rg(b:Array UInt8)|wq(b:UInt64)|ref(a:Addr)|ty(n:String)deriving DecidableEq
def zaf:V->Value->Prop|.non,u=>u=Value.none|.bl b,u=>u=Value.bool b|.int i,u=>∃t,u=Value.int i t|.str x,u=>∃t,u=Value.str x t|.rg b,u=>∃t,u=Value.bytes b t|.wq b,u=>∃t,u=Value.float b t|.ref a,u=>u=Value.ref a|.ty n,u=>u=Value.type n
abbrev Vals:List V->List Value->Prop:=Paired zaf
theorem Vals.length(r:Vals xs us):xs.length=us.length:=Paired.length r
theorem Vals.get:∀{xs:List V}{us:List Value}{i:Nat}{x:V},Vals xs us->xs[i]?=some x->∃u,us[i]?=some u/\zaf x u|_,_,_,_,.nil,e=>by simp at e|_,_,0,_,.cons r _,e=>by simp_all|_,_,i+1,x,.cons _ t,e=>by obtain⟨u,a,b⟩:=Vals.get (i:=i) (x:=x) t (by simp_all);simp_all
theorem Vals.set(r:zaf x u):∀{xs:List V}{us:List Value}(i:Nat),Vals xs us->Vals (xs.set i x) (us.set i u)|_,_,_,.nil=>.nil|_,_,0,.cons _ t=>.cons r t|_,_,i+1,.cons q t=>.cons q (Vals.set r i t)
theorem Vals.append:∀{xs ys:List V}{us ws:List Value},Vals xs us->Vals ys ws->Vals (xs++ys) (us++ws)|_,_,_,_,.nil,s=>s|_,_,_,_,.cons r t,s=>.cons r (Vals.append t s)
theorem Vals.take:∀{xs:List V}{us:List Value}(n:Nat),Vals xs us->Vals (xs.take n) (us.take n)|_,_,0,_=>.nil|_,_,_+1,.nil=>.nil|_,_,n+1,.cons r t=>.cons r (Vals.take n t)
theorem Vals.drop:∀{xs:List V}{us:List Value}(n:Nat),Vals xs us->Vals (xs.drop n) (us.drop n)|_,_,0,r=>r|_,_,_+1,.nil=>.nil|_,_,n+1,.cons _ t=>Vals.drop n t
def gO:Option V->Option Value->Prop|some v,some u=>zaf v u|none,none=>True|_,_=>False
def KV{κ:Type}:List (κ×V)->List (κ×Value)->Prop:=Paired fun(p:κ×V)(q:κ×Value)=>p.1=q.1/\zaf p.2 q.2
noncomputable def kV:Key->V|.inl i=>.int i|.inr x=>.str x
inductive HO where|lst(xs:List V)|tup(xs:List V)|dK(bU:List (Key×V))|dT(bU:List (List Key×V))|set(S:Int->Bool)(n:Nat)|ins(C dx:Addr)(fs:List (Str×V))|own(x:Addr)|xd(fs:List (Str×V))|met(f x:Addr)|l'(lo hi:Int)|jr(o:Obj)(u:HO)|oX(ps:Array Value)|ext(φ:Heap->Prop)
abbrev Hp:=Addr->Option HO
noncomputable def upd(H:Hp)(a:Addr)(o:HO):Hp:=fun b=>if b=a then some o else H b
def cu:upd H a o a=some o:=by unfold upd;simp
def bz(h:b≠a):upd H a o b=H b:=by unfold upd;simp_all
def Ut{H:Hp}(h:H a=some o)(h':H b=some u)(d:o≠u):a≠b:=by intro e;simp_all
def d9{H:Hp}(h:H a=some o)(h':H b=none):a≠b:=by intro e;simp_all
noncomputable def Uu(fd:FuncData):Option Pos:=match fd.body with|.stmts [.Return (some (.Call _ _ [⟨_,.Lambda _ _ _ a,_⟩] _)) _]=>some a|_=>none
noncomputable def tabAt(K:W.Frag)(v:Value):Option Addr:=match v with
 |.ref c=>match K.lookup c with
  |some o=>match o.data with
   |.fields a=>match(a[11]?:Option Value)with|some (.ref P)=>some P|_=>none
   |_=>none
  |_=>none
 |_=>none
def tabOf(K:W.Frag):Option (Addr×Array Value):=K.findSome? fun p=>match p.2.data with
 |.func b=>match Uu b with|some a=>(tabAt K b.code).map fun P=>(P,#[.str (b.qualname++".<locals>."++"<lambda>") 0,rawInt a.line,rawInt a.col])|none=>none
 |_=>none
def iE(H:Hp)(h:Heap)(a:Addr)(ps:Array Value):Prop:=∃(q:Str)(t:Tok)(g e:Int)(d:List Value)(b:Array Value),ps.toList=.str q t::rawInt g::rawInt e::d/\h.get? a=some {cls:=.none,data:=.fields b}/\(b=#[]\/∃(c:Addr)(o:Obj)(f:Array Value)(u:Tok),b=#[rawInt g,rawInt e,.ref c]/\H c=some (.own a)/\h.get? c=some o/\o.data=.fields f/\f[1]?=some (.str q u))
def iE.lt(x:iE H h a ps):a<h.objs.size:=let⟨_,_,_,_,_,_,_,e,_⟩:=x;aI e
def iE.hZ(x:iE H h a ps)(k:∀b u,(b=a\/H b=some (.own a))->h.get? b=some u->h'.get? b=some u)(m:∀b,H b=some (.own a)->H' b=some (.own a)):iE H' h' a ps:=by
 obtain⟨q,t,r,s,d,e,n,p,g⟩:=x;refine⟨q,t,_,_,_,_,n,k _ _ (.inl rfl) p,?_⟩;rcases g with g|⟨c,o,v,u,l,f,i,j⟩;.simp_all
 .exact .inr ⟨c,o,_,u,l,m _ f,k _ _ (.inr f) i,j⟩
def qI(K:W.Frag)(H:Hp):Prop:=∀t,tabOf K=some t->∃a,H t.1=some (.oX (t.2++a))
def qI.grown{K:W.Frag}(x:qI K H)(g:∀b ps,H b=some (.oX ps)->∃more,H' b=some (.oX (ps++more))):qI K H':=fun t e=>by obtain⟨d,c⟩:=x t e;obtain⟨a,f⟩:=g _ _ c;exact⟨d++a,by simp_all⟩
section
variable(P:Program)(w:World)
def dE(H:Hp)(h:Heap)(a:Addr):HO->Prop|.lst d=>d.length<=sizeLine/\∃(b:List Value)(n:Nat),Vals d b/\h.get? a=some {cls:=.type "list",data:=.seq b.toArray n}|.tup d=>d.length<=sizeLine/\∃b:List Value,Vals d b/\IsTup h a b.toArray|.dK c=>c.length<=sizeLine/\(a==sysModules)=false/\∃s,KV c s/\h.DictOf (qH P w) a s|.dT c=>c.length<=sizeLine/\(a==sysModules)=false/\∃d:List (List Key×Addr×Value),Paired (fun(p:List Key×V)(q:List Key×Addr×Value)=>p.1=q.1/\H q.2.1=some (.tup (p.1.map kV))/\zaf p.2 q.2.2) c d/\∃o l y,h.get? a=some o/\o.ExactDict/\o.data=.dict l y/\l.toList=d.map (entryOfKey (tupleKind (qH P w)))/\(d.map (·.1)).Nodup|.set S n=>h.SetOf (intKind P w) a S n|.ins C i g=>H i=some (.own a)/\g.length<=1000/\i≠a/\h.get? a=some (W.instObj C i)/\∃e,h.Ns1 i e/\(∀f,gO (g.lookup f) (e f))/\PySem.Within e (g.map (·.1))|.own _=>∃o,h.get? a=some o|.xd g=>∃e,h.Ns1 a e/\∀f,gO (g.lookup f) (e f)|.l' lo z=>∃t u v,h.get? a=some {cls:=.type "range",data:=.fields #[.int lo t,.int z u,.int 1 v]}|.jr o u=>h.get? a=some o/\dE H h a u|.oX A=>iE H h a A|.met f x=>h.get? a=some (W.methodObj (.ref f) (.ref x))|.ext k=>k h/\(∃o,h.get? a=some o)/\∀m r:Heap,k m->(∀o,m.get? a=some o->r.get? a=some o)->k r
def g_(H:Hp)(h:Heap):Prop:=∀a o,H a=some o->dE P w H h a o
end
section
variable{P:Program}{w:World}{H H':Hp}{h h':Heap}{a:Addr}{o:HO}
theorem dE.lt(x:dE P w H h a o):a<h.objs.size:=by cases o with|lst j=>obtain⟨_,_,_,_,e⟩:=x;exact aI e|tup j=>obtain⟨_,_,_,p⟩:=x;exact p.lt|dK b=>obtain⟨_,_,_,_,o,_,_,e,_⟩:=x;exact aI e|dT b=>obtain⟨_,_,_,_,o,_,_,e,_⟩:=x;exact aI e|set S n=>obtain⟨o,_,_,_,e,_⟩:=x;exact aI e|ins C D d=>obtain⟨_,_,_,e,_⟩:=x;exact aI e|own y=>obtain⟨_,e⟩:=x;exact aI e|xd d=>obtain⟨_,⟨_,_,_,e,_⟩,_⟩:=x;exact aI e|l' lo z=>obtain⟨_,_,_,e⟩:=x;exact aI e|jr A u=>obtain⟨e,_⟩:=x;exact aI e|oX v=>exact iE.lt x|met f y=>exact aI x|ext t=>obtain⟨_,⟨_,e⟩,_⟩:=x;exact aI e
theorem Paired.wt:∀{l₁:List α}{l₂:List c},Paired F l₁ l₂->(∀a b,F a b->G a b)->Paired G l₁ l₂|_,_,.nil,_=>.nil|_,_,.cons r t,f=>.cons (f _ _ r) (Paired.wt t f)
theorem dE.hZ(x:dE P w H h a o)(k:∀b u,(b=a\/H b=some (.own a))->h.get? b=some u->h'.get? b=some u)(s:∀b,H b=some (.own a)->H' b=some (.own a))(J:∀b xs,H b=some (.tup xs)->H' b=some (.tup xs)):dE P w H' h' a o:=by induction o with|lst xs=>obtain⟨z,l,n,r,e⟩:=x;exact⟨z,_,n,r,k _ _ (.inl rfl) e⟩|tup xs=>obtain⟨z,l,r,g,e,c⟩:=x;exact⟨z,_,r,_,k _ _ (.inl rfl) e,c⟩|dK m=>obtain⟨z,y,vs,r,g,i,j,e,c⟩:=x;exact⟨z,y,_,r,_,_,_,k _ _ (.inl rfl) e,c⟩|dT m=>obtain⟨z,y,xs,r,g,i,j,e,c⟩:=x;exact⟨z,y,_,Paired.wt r fun p q z=>⟨z.1,J _ _ z.2.1,z.2.2⟩,_,_,_,k _ _ (.inl rfl) e,c⟩|set S n=>obtain⟨g,i,j,t,e,c⟩:=x;exact⟨_,_,_,t,k _ _ (.inl rfl) e,c⟩|ins C dx Q=>obtain⟨d,z,B,e,O,⟨L,i,j,D,c⟩,r⟩:=x;exact⟨s _ d,z,B,k _ _ (.inl rfl) e,_,⟨_,_,_,k _ _ (.inr d) D,c⟩,r⟩|own y=>obtain⟨g,e⟩:=x;exact⟨_,k _ _ (.inl rfl) e⟩|xd Q=>obtain⟨O,⟨L,i,j,e,c⟩,r⟩:=x;exact⟨_,⟨_,_,_,k _ _ (.inl rfl) e,c⟩,r⟩|l' lo hi=>obtain⟨t,u,v,e⟩:=x;exact⟨t,u,v,k _ _ (.inl rfl) e⟩|jr g u N=>obtain⟨e,q⟩:=x;exact⟨k _ _ (.inl rfl) e,N q⟩|oX ps=>exact iE.hZ x k s|met f y=>have e:h.get? a=some _:=x;show h'.get? a=some _;simp_all|ext Y=>obtain⟨p,⟨o,e⟩,st⟩:=x;exact⟨st _ _ p fun o q=>k _ _ (.inl rfl) q,⟨o,k _ _ (.inl rfl) e⟩,st⟩
theorem g_.lt(x:g_ P w H h)(e:H a=some o):a<h.objs.size:=(x a o e).lt
def g_.fresh(x:g_ P w H h)(e:h.objs.size<=a):H a=none:=by cases q:H a with|none=>rfl|some u=>exact absurd (cW (x.lt q) e) (dI _)
def g_.kept(x:g_ P w H h)(k:∀b u,h.get? b=some u->h'.get? b=some u):g_ P w H h':=fun a o e=>(x a o e).hZ (fun b u _ q=>k b u q) (fun _ q=>q) fun _ _ q=>q
def g_.laid(x:g_ P w H h)(k:∀b u,h.get? b=some u->h'.get? b=some u)(g:h.objs.size<=a)(i:dE P w (upd H a o) h' a o):g_ P w (upd H a o) h':=fun b u e=>by
 have f:=x.fresh g;by_cases d:b=a;.subst d;rw[cu]at e;simp_all
 .rw[bz d]at e;exact(x b u e).hZ (fun c v _ q=>k c v q) (fun c q=>by rwa[bz (d9 q f)]) fun c j q=>by rwa[bz (d9 q f)]
end
def Rd(H:Hp)(a:Addr)(u:HO):Prop:=H a=some u\/∃o,H a=some (.jr o u)
def Rd.ok(r:Rd H a u)(x:g_ P w H h):dE P w H h a u:=by
 rcases r with r|⟨o,r⟩;.exact x a u r
 .obtain⟨_,q⟩:=x a _ r;exact q
def zw:Option HO->Prop|some (.lst _)=>True|some (.dK _)=>True|some (.dT _)=>True|some (.set _ _)=>True|some (.ins _ _ _)=>True|some (.ext _)=>True|_=>False
section
variable{P:Program}{w:World}{H:Hp}{h h':Heap}{x e:Addr}{o':HO}
def g_.write(s:g_ P w H h)(o:zw (H x))(n:e=x\/H e=some (.own x))(k:∀b u,b≠e->h.get? b=some u->h'.get? b=some u)(j:∃u,h'.get? e=some u)(p:dE P w (upd H x o') h' x o'):g_ P w (upd H x o') h':=fun b u q=>by
 have a:∀c y,H c=some (.own y)->c≠x:=fun c y r z=>by subst z;rwa[r]at o
 have f:∀c l,H c=some (.tup l)->c≠x:=fun c l r z=>by subst z;rwa[r]at o
 by_cases i:b=x;.subst i;rw[cu]at q;grind
 . rw[bz i]at q;by_cases d:b=e
   . have m:H b=some (.own x):=by
       rcases n with z|z;.grind
       grind
     rw[q]at m;cases m;obtain⟨v,t⟩:=j;exact⟨v,by rwa[d]⟩
   . refine(s b u q).hZ (fun c v g r=>k c v ?_ r) (fun c r=>by rwa[bz (a c b r)]) fun c l r=>by rwa[bz (f c _ r)]
     rcases g with rfl|g;.exact d
     . rintro rfl;rcases n with z|z;.exact a c b g z
       .rw[g]at z;cases z;exact i rfl
end
structure Un(fs ex:List Addr)(H H':Hp)(h h':Heap):Prop where
 keep:∀b o,h.get? b=some o->H b=none->b∉fs->b∉ex->h'.get? b=some o
 slot:∀b o,h.get? b=some o->H b=none->b∈fs->b∉ex->∃sl,h'.get? b=some {o with slots:=sl}free:∀b o,h.get? b=some o->H b=none->b∉ex->H' b=none
 there:∀b o,h.get? b=some o->b∉ex->∃o',h'.get? b=some o'
 kg:∀b xs,H b=some (.tup xs)->H' b=some (.tup xs)js:∀b o u,H b=some (.jr o u)->H' b=some (.jr o u)h7:∀b ps,H b=some (.oX ps)->∃more,H' b=some (.oX (ps++more))
section
variable{fs Ef ex KC:List Addr}{H H1 H2:Hp}{h h1 h2 h':Heap}{a x e:Addr}{o:HO}
def Un.any(u:Un fs ex H H1 h h1)(q:h.get? b=some g)(n:H b=none)(d:b∉ex):∃f,h1.get? b=some {g with slots:=f}:=by
 by_cases c:b∈fs;.exact u.slot b _ q n c d
 .exact⟨_,u.keep b _ q n c d⟩
def Un.kept(k:∀b u,h.get? b=some u->h'.get? b=some u):Un fs ex H H h h':=⟨fun b c q _ _ _=>k b _ q,fun b c q _ _ _=>⟨_,k b _ q⟩,fun _ _ _ n _=>n,fun b c q _=>⟨_,k b _ q⟩,fun _ _ q=>q,fun _ _ _ q=>q,fun _ d q=>⟨#[],by simp_all⟩⟩
def Un.refl:Un fs ex H H h h:=Un.kept fun _ _ q=>q
def Un.laid(k:∀b u,h.get? b=some u->h'.get? b=some u)(d:h.objs.size<=a)(c:H a=none):Un fs ex H (upd H a o) h h' where
 keep:=fun b u q _ _ _=>k b u q;slot:=fun b u q _ _ _=>⟨_,k b u q⟩;free:=fun b u q n _=>by rwa[bz (aY (cW (aI q) d))]
 there:=fun b u q _=>⟨u,k b u q⟩;kg:=fun b f q=>by rwa[bz (d9 q c)]
 js:=fun b u f q=>by rwa[bz (d9 q c)]
 h7:=fun b g q=>⟨#[],by rw[bz (d9 q c),q];simp⟩
def Un.write(f:zw (H x))(r:e=x\/H e=some (.own x))(k:∀b u,b≠e->h.get? b=some u->h'.get? b=some u)(g:∃u,h'.get? e=some u):Un fs ex H (upd H x o) h h':=by
 have j:∀b,H b=none->b≠x:=fun b n z=>by subst z;rwa[n]at f
 have i:∀b,H b=none->b≠e:=fun b n z=>by simp_all
 have d:∀b u,H b=some u->¬zw (some u)->b≠x:=fun b u q m z=>by subst z;rw[q]at f;exact m f
 refine⟨fun b u q n _ _=>k b u (i b n) q,fun b u q n _ _=>⟨_,k b u (i b n) q⟩,fun b u q n _=>by rwa[bz (j b n)],fun b u q _=>?_,fun b l q=>by rwa[bz (d b _ q fun z=>z)],fun b u l q=>by rwa[bz (d b _ q fun z=>z)],fun b p q=>⟨#[],by rw[bz (d b _ q fun z=>z),q];simp⟩⟩;by_cases c:b=e;.subst c;exact g
 .exact⟨u,k b u c q⟩
def Un.mono(u:Un fs ex H H1 h h1)(i:∀b∈fs,b∈Ef)(d:∀b∈ex,b∈KC):Un Ef KC H H1 h h1:=⟨fun b f q n g c=>u.keep b _ q n (fun z=>g (i b z)) fun z=>c (d b z),fun _ _ q n _ c=>u.any q n fun z=>c (d _ z),fun b f q n c=>u.free b _ q n fun z=>c (d b z),fun b f q c=>u.there b _ q fun z=>c (d b z),u.kg,u.js,u.h7⟩
end
noncomputable def KD(h:Heap)(H:Hp):List Addr:=(List.range h.objs.size).filter fun a=>(H a).isSome
def mf(h:Heap)(H:Hp):Heap:=W.hideAll h (KD h H)
def Uv(h:Heap)(H:Hp):(mf h H).objs.size=h.objs.size:=W.hideAll_size _ _
def Eg(e:h.get? b=some o)(n:H b=none):(mf h H).get? b=some o:=oJ _ e fun a=>by have q:=(c9.mp a).2;simp_all
def Uw(e:(mf h H).get? b=some o):h.get? b=some o/\H b=none:=by have a:=oN _ e;refine⟨a,?_⟩;cases q:H b with|none=>rfl|some x=>have c:b∈KD h H:=c9.mpr ⟨gZ.mpr (aI a),by simp[q]⟩;have z:(mf h H).get? b=none:=W.hideAll_none _ c;simp_all
noncomputable def Ux(g h:Heap)(L:Addr):List (Addr×Obj):=(List.range h.objs.size).filterMap fun a=>if a=L\/(g.get? a).isSome=true then none else(h.get? a).map fun o=>(a,o)
def rest(g h:Heap)(L d:Addr):List (Addr×Obj):=(Ux g h L).filter fun p=>decide (p.1≠d)
structure Mod(K:W.Frag)(mg:Str->Option Value)(base:Heap):Prop where
 vy:K.In base
 glob:base.Ns mainGlobals mg
 blt:∃mb,base.Ns builtinsNs mb/\∀x:Str,x≠"__name__"->mb x=bootBuiltins x
 nolimit:base.NoLimit
structure Cx where
 prog:Program
 w:World
 K:W.Frag
 mg:Str->Option Value
 base:Heap
 A:Around
 N:List Str
 fA:Shared
 qJ:Hp
 env:Env
 outer:List Env
 stack:List Env
 ex:List Addr
 fn:Str->Bool
 calm:Bool
 pn:List (Addr×Obj)xe:Value->Shared->Prop
noncomputable def kR(l:List Env):List Addr:=l.filterMap (·.frame)
abbrev Cx.fs(X:Cx):List Addr:=kR X.outer
def zx(a:Scope)(x:Str):Prop:=a.names.lookup x=some .local\/a.names.lookup x=some .cell\/a.names.lookup x=some .free
def Loc(a:Scope)(x:Str):Prop:=a.names.lookup x=some .local\/a.names.lookup x=some .cell
def Look(env:Env)(h:Heap)(m:Str->Option Value)(x:Str)(u:Value):Prop:=(env.kindOf x=some .local/\m x=some u)\/((env.kindOf x=some .cell\/env.kindOf x=some .free)/\∃c,env.cells.lookup x=some c/\h.IsCell c (some u))
structure Cx.Ok(X:Cx):Prop where
 mod:Mod X.K X.mg X.base
 kind:X.env.scope.kind=.function
 glob:X.env.globals=mainGlobals
 blt:X.env.builtins=builtinsNs
 above:X.fA.heap.objs.size<=X.env.locals
 inj:∀x y c,X.env.cells.lookup x=some c->X.env.cells.lookup y=some c->x=y
 has:∀x,(X.env.kindOf x=some .cell\/X.env.kindOf x=some .free)->∃c,X.env.cells.lookup x=some c
 zy:∀x c,X.fn x=true->X.env.cells.lookup x=some c->X.fA.heap.objs.size<=c
 hd:X.calm=true->X.A.handled=none
 frames:X.A.frames=some X.stack
 BL:X.stack=X.outer\/(X.stack=X.env::X.outer/\X.env.frame=some X.env.locals)KG:∀b∈X.ex,b≠X.env.locals/\∀x c,X.env.cells.lookup x=some c->c≠b
 bs:∀b o,X.base.get? b=some o->X.fA.heap.get? b=some o/\X.qJ b=none
 ui:X.base.objs.size<=X.fA.heap.objs.size
 rY:∀b o,X.base.get? b=some o->b∉X.ex
 uj:∀b∈X.ex,b∉X.fs
 jt:X.fA.heap.FunFrames X.base X.outer
 tJ:∀b∈X.fs,X.qJ b=none
 tb:qI X.K X.qJ
structure Inv(X:Cx)(pins:List (Addr×Obj))(σ:List (Option V))(H:Hp)(s:Shared):Prop where
 ok:X.Ok
 os:s.os=X.fA.os
 bare:AllBare s.gens
 base:Un X.fs X.ex X.qJ H X.fA.heap s.heap
 loc:∃m,s.heap.Ns X.env.locals m/\∀(i:Nat)(x:Str)(v:V),X.N[i]?=some x->σ[i]?=some (some v)->zx X.env.scope x->∃u,zaf v u/\Look X.env s.heap m x u
 cell:∀x c,X.env.cells.lookup x=some c->∃v,s.heap.IsCell c v
 free:H X.env.locals=none
 gw:∀x c,X.env.cells.lookup x=some c->H c=none
 pin:∀p∈X.pn++pins,s.heap.get? p.1=some p.2/\H p.1=none/\p.1≠X.env.locals/\p.1∉X.fs/\∀v,p.2.data≠.cell v
 bB:g_ X.prog X.w H s.heap
 len:σ.length=X.N.length
section
variable{X:Cx}{pins:List (Addr×Obj)}{σ:List (Option V)}{H H':Hp}{s:Shared}{h':Heap}
def Cx.Ok.Eh(c:X.Ok)(e:X.base.get? b=some o):b∉X.fs:=fun a=>by have:=(c.jt.mem a).1;simp_all
theorem Inv.bs(I:Inv X pins σ H s):∀b o,X.base.get? b=some o->s.heap.get? b=some o/\H b=none:=fun b o e=>⟨I.base.keep b o (I.ok.bs b o e).1 (I.ok.bs b o e).2 (I.ok.Eh e) (I.ok.rY b o e),I.base.free b o (I.ok.bs b o e).1 (I.ok.bs b o e).2 (I.ok.rY b o e)⟩
def Inv.bk(I:Inv X pins σ H s):∀b o,X.base.get? b=some o->s.heap.get? b=some o:=fun b o e=>(I.bs b o e).1
theorem Inv.mod(I:Inv X pins σ H s):Mod X.K X.mg X.base:=I.ok.mod
def Inv.h_(I:Inv X pins σ H s):X.K.In s.heap:=I.ok.mod.vy.keeps I.bk
theorem Inv.nolimit(I:Inv X pins σ H s):s.heap.NoLimit:=I.ok.mod.nolimit.keeps I.bk
theorem Inv.lt(I:Inv X pins σ H s):X.env.locals<s.heap.objs.size:=let⟨_,a,_⟩:=I.loc;a.lt
def Inv.sz(I:Inv X pins σ H s):X.fA.heap.objs.size<=s.heap.objs.size:=bo I.ok.above (gm I.lt)
def Inv.zz(I:Inv X pins σ H s)(h:s.heap.objs.size<=a):a∉X.fs:=fun c=>let⟨_,o,b,_⟩:=I.ok.jt.mem c;absurd (cW (aI b) (bo I.sz h)) (dI _)
def Inv.rZ(I:Inv X pins σ H s):∀x c,X.env.cells.lookup x=some c->c≠X.env.locals:=fun x c e z=>by obtain⟨v,o,d,g⟩:=I.cell x c e;obtain⟨m,⟨i,h,f,b,a,_⟩,_⟩:=I.loc;simp_all
theorem Inv.jt(I:Inv X pins σ H s):s.heap.FunFrames X.base X.outer:=by
 have c:∀(l:List _),(∀b∈kR l,b∈X.fs)->X.fA.heap.FunFrames X.base l->s.heap.FunFrames X.base l:=by intro l;induction l with|nil=>intro _ _;trivial|cons i r q=>rintro g ⟨p,⟨L,o,f,m,t,k⟩,j⟩;have a:=g L (by unfold kR;rw[qc,f];simp);obtain⟨u,e⟩:=I.base.slot L o t (I.ok.tJ L a) a fun z=>I.ok.uj L z a;exact⟨p,⟨L,_,f,m,e,k⟩,q (fun b d=>g b (by unfold kR;rw[qc,f];exact bx _ d)) j⟩
 exact c _ (fun _ d=>d) I.ok.jt
theorem Inv.stack(I:Inv X pins σ H s):s.heap.FunFrames X.base X.stack:=by
 rcases I.ok.BL with e|⟨e,b⟩;.rw[e];exact I.jt
 .rw[e];obtain⟨m,a,_⟩:=I.loc;exact .cons (by rw[I.ok.kind];decide) b a (k9 (bo I.ok.ui I.ok.above)) I.jt
def Inv.gy(I:Inv X pins σ H s):∀b∈kR X.stack,b∈X.env.locals::X.fs:=fun b a=>by
 rcases I.ok.BL with e|⟨e,c⟩;.simp_all
 .rw[e]at a;unfold kR at a;rwa[qc,c]at a
def Inv.jG(I:Inv X pins σ H s):∀b∈kR X.stack,H b=none:=fun b a=>by
 rcases aM.mp (I.gy b a)with e|a;.rw[e];exact I.free
 .obtain⟨_,o,c,_⟩:=I.ok.jt.mem a;exact I.base.free b o c (I.ok.tJ b a) fun z=>I.ok.uj b z a
def Inv.step{g':Array GenState}{t':Nat}{d':Drawn}{ch:List Addr}(I:Inv X pins σ H s)(h:∀b∈ch,(b∈X.ex\/X.fA.heap.objs.size<=b)/\b≠X.env.locals/\(∀x c,X.env.cells.lookup x=some c->c≠b)/\∀p∈X.pn++pins,p.1≠b)(t:∀b o,b≠X.env.locals->b∉X.fs->b∉ch->s.heap.get? b=some o->H b=none->h'.get? b=some o)(A:∀b o,b≠X.env.locals->b∈X.fs->b∉ch->s.heap.get? b=some o->H b=none->∃Q,h'.get? b=some {o with slots:=Q})(f:∀b o,b∉ch->s.heap.get? b=some o->H b=none->H' b=none)(B:∀b o,b∉ch->s.heap.get? b=some o->∃O,h'.get? b=some O)(E:∀b xs,H b=some (.tup xs)->H' b=some (.tup xs))(J:∀b o u,H b=some (.jr o u)->H' b=some (.jr o u))(L:∀b ps,H b=some (.oX ps)->∃more,H' b=some (.oX (ps++more)))(ns:∀m,s.heap.Ns X.env.locals m->h'.Ns X.env.locals m)(N:g_ X.prog X.w H' h')(hg:AllBare g'):Inv X pins σ H' {s with heap:=h',gens:=g',drawn:=d',toks:=t'}:=by
 have M:∀b o,X.fA.heap.get? b=some o->b≠X.env.locals:=fun b o e=>aY (cW (aI e) I.ok.above);have y:∀b o,X.fA.heap.get? b=some o->b∉X.ex->b∉ch:=fun b o e a C=>by
   rcases(h b C).1 with z|z;.exact a z
   .exact absurd (cW (aI e) z) (dI _)
 have j:∀x c,X.env.cells.lookup x=some c->∀v,s.heap.IsCell c v->h'.IsCell c v:=fun x c e v ⟨o,D,R⟩=>by
   have g:=fun z=>(h c z).2.2.1 x c e rfl;by_cases S:c∈X.fs;.obtain⟨Q,q⟩:=A c o (I.rZ x c e) S g D (I.gw x c e);exact⟨_,q,R⟩
   .exact⟨o,t c o (I.rZ x c e) S g D (I.gw x c e),R⟩
 refine⟨I.ok,I.os,hg,⟨fun b o e n C a=>?_,fun b o e n C a=>?_,fun b o e n a=>?_,fun b o e a=>?_,fun b xs e=>E b _ (I.base.kg b _ e),fun b o xs e=>J b o _ (I.base.js b o _ e),fun b ps e=>?_⟩,?_,fun x c e=>?_,?_,fun x c e=>?_,fun p Y=>?_,N,I.len⟩;.exact t b o (M b o e) C (y b o e a) (I.base.keep b o e n C a) (I.base.free b o e n a)
 .obtain⟨Q,w⟩:=I.base.slot b o e n C a;obtain⟨sl',G⟩:=A b _ (M b o e) C (y b o e a) w (I.base.free b o e n a);exact⟨_,G⟩
 .obtain⟨O,w⟩:=I.base.there b o e a;exact f b _ (y b o e a) w (I.base.free b o e n a)
 .obtain⟨O,w⟩:=I.base.there b o e a;exact B b _ (y b o e a) w
 .obtain⟨m1,w⟩:=I.base.h7 b _ e;obtain⟨m2,G⟩:=L b _ w;exact⟨_,by rw[G,Array.append_assoc]⟩
 . obtain⟨m,Z,hl⟩:=I.loc;refine⟨m,ns m Z,fun i x v w G e3=>?_⟩;obtain⟨u,r,l⟩:=hl i x v w G e3;refine⟨u,r,?_⟩;rcases l with l|⟨k,c,e,z⟩;.exact .inl l
   .exact .inr ⟨k,c,e,j x c e _ z⟩
 .obtain⟨v,z⟩:=I.cell x c e;exact⟨v,j x c e v z⟩
 .obtain⟨m,⟨o,_,_,D,_⟩,_⟩:=I.loc;exact f _ o (fun z=>(h _ z).2.1 rfl) D I.free
 .obtain⟨v,o,D,R⟩:=I.cell x c e;exact f c o (fun z=>(h c z).2.2.1 x c e rfl) D (I.gw x c e)
 .obtain⟨e,n,T,U,d⟩:=I.pin p Y;have g:=fun z=>(h _ z).2.2.2 p Y rfl;exact⟨t _ _ T U g e n,f _ _ g e n,T,U,d⟩
def Inv.un(I:Inv X pins σ H s)(u:Un X.fs [] H H' s.heap h')(c:g_ X.prog X.w H' h'):Inv X pins σ H' {s with heap:=h',toks:=t'}:=by obtain⟨m,⟨o,p,v,f,r⟩,_⟩:=id I.loc;obtain⟨l,j⟩:=u.any f I.free (by simp);exact I.step (ch:=[]) (fun _ z=>nomatch z) (fun b o _ d _ e n=>u.keep b o e n d (by simp)) (fun b o _ d _ e n=>u.slot b o e n d (by simp)) (fun b o _ e n=>u.free b o e n (by simp)) (fun b o _ e=>u.there b o e (by simp)) u.kg u.js u.h7 (fun t k=>by obtain⟨q,i,h,a,g⟩:=k;rw[f]at a;cases a;exact⟨_,_,_,j,g⟩) c I.bare
def Inv.call(I:Inv X pins σ H s)(u:Un (kR X.stack) ch H H' s.heap h')(g:g_ X.prog X.w H' h')(v:AllBare g')(d:∀b∈ch,(b∈X.ex\/X.fA.heap.objs.size<=b)/\b≠X.env.locals/\(∀x c,X.env.cells.lookup x=some c->c≠b)/\∀p∈X.pn++pins,p.1≠b):Inv X pins σ H' {s with heap:=h',gens:=g',drawn:=d',toks:=t'}:=by obtain⟨m,⟨o,w,y,i,r⟩,_⟩:=id I.loc;obtain⟨C,h⟩:=u.any i I.free fun z=>(d _ z).2.1 rfl;exact I.step d (fun b o h k a e n=>u.keep b o e n (fun z=>(aM.mp (I.gy b z)).elim h k) a) (fun b o _ _ a e n=>u.any e n a) (fun b o a e n=>u.free b o e n a) (fun b o a e=>u.there b o e a) u.kg u.js u.h7 (fun B q=>by obtain⟨A,j,l,f,t⟩:=q;rw[i]at f;cases f;exact⟨_,_,_,h,t⟩) g v
def Inv.turned(I:Inv X pins σ H s)(k:∀b o,b≠a->s.heap.get? b=some o->h'.get? b=some o)(y:H a=none)(g:a≠X.env.locals)(h1:a∈X.ex\/X.fA.heap.objs.size<=a)(h2:∀x c,X.env.cells.lookup x=some c->c≠a)(h3:∀p∈X.pn++pins,p.1≠a):Inv X pins σ H {s with heap:=h',toks:=t'}:=by
 have f:∀b u,H b=some u->b≠a:=fun b u e z=>by simp_all
 refine I.step (ch:=[a]) (fun b j=>?_) (fun b o _ _ d e _=>k b o (fun z=>d (by simp[z])) e) (fun b o _ _ d e _=>⟨_,k b o (fun z=>d (by simp[z])) e⟩) (fun _ _ _ _ n=>n) (fun b o d e=>⟨o,k b o (fun z=>d (by simp[z])) e⟩) (fun _ _ e=>e) (fun _ _ _ e=>e) (fun b t e=>⟨#[],by rw[e];simp⟩) (fun m h=>?_) (fun b u e=>?_) I.bare
 . have e:=by simpa using j
   subst e;exact⟨h1,g,h2,h3⟩
 .obtain⟨o,w,l,i,r⟩:=h;exact⟨o,_,_,k _ o (aN g) i,r⟩
 . refine(I.bB b u e).hZ (fun c v d q=>k c v ?_ q) (fun _ q=>q) fun _ _ q=>q;rcases d with z|z;.rw[z];exact f b u e
   .exact f c _ z
def Inv.tok(I:Inv X pins σ H s)(t:Nat):Inv X pins σ H {s with toks:=t}:=I.un Un.refl I.bB
theorem Inv.kept(I:Inv X pins σ H s)(k:∀b u,s.heap.get? b=some u->h'.get? b=some u):Inv X pins σ H {s with heap:=h',toks:=t'}:=I.un (Un.kept k) (I.bB.kept k)
theorem Inv.laid(I:Inv X pins σ H s)(k:∀b u,s.heap.get? b=some u->h'.get? b=some u)(c:s.heap.objs.size<=a)(d:dE X.prog X.w (upd H a o) h' a o):Inv X pins σ (upd H a o) {s with heap:=h',toks:=t'}:=I.un (Un.laid k c (I.bB.fresh c)) (I.bB.laid k c d)
theorem Inv.write(I:Inv X pins σ H s)(d:zw (H x))(f:e=x\/H e=some (.own x))(k:∀b u,b≠e->s.heap.get? b=some u->h'.get? b=some u)(a:∃u,h'.get? e=some u)(c:dE X.prog X.w (upd H x o) h' x o):Inv X pins σ (upd H x o) {s with heap:=h',toks:=t'}:=I.un (Un.write d f k a) (I.bB.write d f k a c)
def Inv.qo(I:Inv X pins σ H s)(h:∀p∈a,s.heap.get? p.1=some p.2/\H p.1=none/\p.1≠X.env.locals/\p.1∉X.fs/\∀v,p.2.data≠.cell v):Inv X a σ H s:=⟨I.ok,I.os,I.bare,I.base,I.loc,I.cell,I.free,I.gw,fun p b=>(bJ.mp b).elim (fun z=>I.pin p (gX _ z)) (h p),I.bB,I.len⟩
def KH{N:List Str}(c:N.Nodup){i j:Nat}(a:N[i]?=some x)(b:N[j]?=some x):i=j:=by obtain⟨g,e⟩:=bV.mp a;obtain⟨f,d⟩:=bV.mp b;exact(List.getElem_inj c).mp (e.trans d.symm)
noncomputable def Uy(I:Inv X pins σ H s)(hN:X.N.Nodup)(hi:X.N[i]?=some x)(t:Loc X.env.scope x)(r:zaf v u)(h:∀s',Inv X pins (σ.set i (some v)) H s'->(∃a,Heap.SameBut a s.heap s'.heap/\(a=X.env.locals\/X.env.cells.lookup x=some a))->Q () s')(hf:autoParam (X.fn x=true\/X.env.scope.names.lookup x=some .local) zaq):wpAny M A (storeName X.env x u) Q E s:=by
 obtain⟨m,hn,hl⟩:=id I.loc;have R:(X.env.scope.kind==.class||(X.env.scope.kind==.module&&X.env.locals !=X.env.globals))=false:=by rw[I.ok.kind];rfl
 have C:i<σ.length:=by rw[I.len];exact(bV.mp hi).1
 have L:=I.rZ;have l:∀{a:Addr}{h':Heap},(∃o,s.heap.get? a=some o/\H a=none)->Heap.SameBut a s.heap h'->g_ X.prog X.w H h':=fun{a h'} ha f b ob e=>by refine(I.bB b ob e).hZ (fun c w' w q=>(f.2 c ?_).trans q) (fun _ q=>q) fun _ _ q=>q;rintro rfl;grind
 rcases t with N|N
 . refine wpAny_storeName_local N hn (fun h' Z f=>?_) R;obtain⟨oL,_,_,Uz,_⟩:=id hn;refine h _ ⟨I.ok,I.os,I.bare,⟨fun b o e n G t=>?_,fun b o e n G t=>?_,I.base.free,fun b o e t=>?_,I.base.kg,I.base.js,I.base.h7⟩,⟨_,Z,fun j y v' g B Y=>?_⟩,fun y c e=>?_,I.free,I.gw,fun p hp=>?_,l ⟨oL,Uz,I.free⟩ f,by simpa using I.len⟩ ⟨_,f,.inl rfl⟩;.exact(f.2 b (aY (cW (aI e) I.ok.above))).trans (I.base.keep b o e n G t)
   .obtain⟨sl,g⟩:=I.base.slot b o e n G t;exact⟨sl,(f.2 b (aY (cW (aI e) I.ok.above))).trans g⟩
   .obtain⟨o',g⟩:=I.base.there b o e t;exact⟨o',(f.2 b (aY (cW (aI e) I.ok.above))).trans g⟩
   . by_cases D:j=i;.subst D;rw[hi]at g;cases g;rw[bf C]at B;cases B;exact⟨u,r,.inl ⟨N,by simp⟩⟩
     . rw[aL (aN D)]at B;obtain⟨u',r',q⟩:=hl j y v' g B Y;refine⟨u',r',?_⟩;rcases q with⟨k,e⟩|⟨k,c,e,z⟩;.refine .inl ⟨k,?_⟩;have:y≠x:=fun e=>D (KH hN g (e▸hi));grind
       .exact .inr ⟨k,c,e,z.sameBut f (L y c e)⟩
   .obtain⟨w',z⟩:=I.cell y c e;exact⟨w',z.sameBut f (L y c e)⟩
   .obtain⟨e,n,U,nf,d⟩:=I.pin p hp;exact⟨(f.2 p.1 U).trans e,n,U,nf,d⟩
 . have J:X.fn x=true:=by
     rcases hf with z|z;.exact z
     grind
   obtain⟨c,w⟩:=I.ok.has x (.inl N);obtain⟨w',z⟩:=I.cell x c w;refine wpAny_storeName_cell I.ok.kind N w z (fun h' O f=>?_);obtain⟨oc,S,UA⟩:=id z;refine h {s with heap:=h'} ⟨I.ok,I.os,I.bare,⟨fun b o e n G t=>?_,fun b o e n G t=>?_,I.base.free,fun b o e t=>?_,I.base.kg,I.base.js,I.base.h7⟩,⟨m,hn.sameBut f (aN (L x c w)),fun j y v' g B Y=>?_⟩,fun y c' e=>?_,I.free,I.gw,fun p hp=>?_,l ⟨oc,S,I.gw x c w⟩ f,by simpa using I.len⟩ ⟨c,f,.inr w⟩;.exact(f.2 b (aY (cW (aI e) (I.ok.zy x c J w)))).trans (I.base.keep b o e n G t)
   .obtain⟨sl,g⟩:=I.base.slot b o e n G t;exact⟨sl,(f.2 b (aY (cW (aI e) (I.ok.zy x c J w)))).trans g⟩
   .obtain⟨o',g⟩:=I.base.there b o e t;exact⟨o',(f.2 b (aY (cW (aI e) (I.ok.zy x c J w)))).trans g⟩
   . by_cases D:j=i;.subst D;rw[hi]at g;cases g;rw[bf C]at B;cases B;exact⟨u,r,.inr ⟨.inl N,c,w,O⟩⟩
     . rw[aL (aN D)]at B;obtain⟨u',r',q⟩:=hl j y _ g B Y;refine⟨_,r',?_⟩;rcases q with q|⟨k,c',e,z'⟩;.exact .inl q
       .refine .inr ⟨k,_,e,z'.sameBut f ?_⟩;rintro rfl;exact D (KH hN g (I.ok.inj _ _ _ e w▸hi))
   . by_cases T:c'=c;.subst T;exact⟨_,O⟩
     .obtain⟨w2,z2⟩:=I.cell y _ e;exact⟨_,z2.sameBut f T⟩
   .obtain⟨e,n,U,nf,d⟩:=I.pin p hp;refine⟨(f.2 _ ?_).trans e,n,U,nf,d⟩;intro q;rw[q,S]at e;have q':=dU e;exact d _ (by rwa[<-q'])
def BM(I:Inv X pins σ H s)(a:X.N.Nodup)(hi:X.N[i]?=some x)(c:Loc X.env.scope x)(r:zaf v u)(h:∀s',Inv X pins (σ.set i (some v)) H s'->Q () s')(d:autoParam (X.fn x=true\/X.env.scope.names.lookup x=some .local) zaq):wpAny M A (storeName X.env x u) Q E s:=Uy I a hi c r (fun s' b _=>h _ b) d
end
abbrev XK:=Value->Option Addr->Hp->Prop
abbrev zag:=List (Option V)
abbrev VK:=V->Hp->Prop
abbrev TE:=zag->Hp->VK->Prop
abbrev zai:=zag->Hp->(Bool->Hp->Prop)->Prop
abbrev TA:=zag->Hp->(List V->Hp->Prop)->Prop
structure zae where
 nx:zag->Hp->Prop
 rt:VK
 bk:zag->Hp->Prop:=fun _ _=>False
 ct:zag->Hp->Prop:=fun _ _=>False
abbrev TS:=zae->zag->Hp->Prop
def EP(X:Cx)(pins:List (Addr×Obj))(σ:zag)(Q:VK)(u:Value)(s':Shared):Prop:=∃v a,Inv X pins σ a s'/\zaf v u/\Q v a
def TP(X:Cx)(pins:List (Addr×Obj))(σ:zag)(Q:Bool->Hp->Prop)(b:Bool)(s':Shared):Prop:=∃a,Inv X pins σ a s'/\Q b a
def AP(X:Cx)(pins:List (Addr×Obj))(σ:zag)(Q:List V->Hp->Prop)(us:List Value)(s':Shared):Prop:=∃a b,Inv X pins σ b s'/\Vals a us/\Q a b
def SP(X:Cx)(pins:List (Addr×Obj))(D:zae)(f:Flow)(s':Shared):Prop:=match f with|.next=>∃a b,Inv X pins a b s'/\D.nx a b|.brk=>∃a b,Inv X pins a b s'/\D.bk a b|.cont=>∃a b,Inv X pins a b s'/\D.ct a b|.ret u=>∃v a b,Inv X pins a b s'/\zaf v u/\D.rt v b
def PE(X:Cx)(e:Expr)(t:TE):Prop:=∀(a:List (Addr×Obj))(s:Shared)(b:zag)(H:Hp)(Q:VK),Inv X a b H s->t b H Q->wpAny (model X.prog X.w) X.A (eval e X.env) (EP X a b Q) X.xe s
def PT(X:Cx)(e:Expr)(t:zai):Prop:=∀(a:List (Addr×Obj))(s:Shared)(b:zag)(H:Hp)(Q:Bool->Hp->Prop),Inv X a b H s->t b H Q->wpAny (model X.prog X.w) X.A (isTrue e X.env (eval e X.env)) (TP X a b Q) X.xe s
def PW(X:Cx)(e:Expr)(t:zai):Prop:=∀(b:Sem Value)(a:List (Addr×Obj))(s:Shared)(c:zag)(H:Hp)(Q:Bool->Hp->Prop),Inv X a c H s->t c H Q->wpAny (model X.prog X.w) X.A (isTrue e X.env b) (TP X a c Q) X.xe s
def PW.pt(h:PW X e t):PT X e t:=h _
def PA(X:Cx)(es:List Expr)(t:TA):Prop:=∀(b:Pos)(a:List (Addr×Obj))(s:Shared)(c:zag)(H:Hp)(Q:List V->Hp->Prop),Inv X a c H s->t c H Q->wpAny (model X.prog X.w) X.A (spliced (backTo b (starEach es X.env))) (AP X a c Q) X.xe s
def PS(X:Cx)(st:Stmt)(t:TS):Prop:=∀(a:List (Addr×Obj))(s:Shared)(b:zag)(H:Hp)(D:zae),Inv X a b H s->t D b H->wpAny (model X.prog X.w) X.A (exec st X.env) (SP X a D) X.xe s
def mm(X:Cx)(st:List Stmt)(t:TS):Prop:=∀(a:List (Addr×Obj))(s:Shared)(b:zag)(H:Hp)(D:zae),Inv X a b H s->t D b H->wpAny (model X.prog X.w) X.A (execs st X.env) (SP X a D) X.xe s
def bK(h:wpAny M A t Q E s)(c:∀a s,Q a s->b a s):wpAny M A t b E s:=dz h c fun _ _ x=>x
section
variable {X : Cx}
def dh(i:Nat):TE:=fun a H Q=>∃v,a[i]?=some (some v)/\Q v H
def tC(v:V):TE:=fun _ H Q=>Q v H
noncomputable def UB(k:X.N[i]?=some x)(n:zx X.env.scope x)(hd:autoParam ((x==("__debug__":Str))=false) zam)(f:autoParam ((x==("__classdict__":Str))=false) zam):PE X (.Name x pos) (dh i):=by
 rintro j s t H Q I ⟨v,e,h⟩;obtain⟨m,o,p⟩:=I.loc;obtain⟨u,r,l⟩:=p i x v k e n;have b:EP X _ _ Q u s:=⟨v,H,I,r,h⟩;rcases l with⟨d,q⟩|⟨d,c,g,a⟩;.exact j_ (oS I.ok.kind d o q b) hd
 . rcases d with d|d;.exact j_ (wpAny_loadName_cell I.ok.kind d g a b) hd
   .exact j_ (wpAny_loadName_free I.ok.kind d g a b f) hd
def aT:PE X (.Constant (.int i) j pos) (tC (.int i)):=fun _ _ _ H _ I h=>wpAny_Constant_int ⟨.int i,H,I.tok _,⟨_,rfl⟩,h⟩
def vz:PE X (.Constant (.bool b) j pos) (tC (.bl b)):=fun _ _ _ H _ I h=>Constant_bool ⟨.bl b,H,I,rfl,h⟩
def qq:PE X (.Constant .none j pos) (tC .non):=fun _ _ _ H _ I h=>Constant_none ⟨.non,H,I,rfl,h⟩
def zB:PE X (.Constant (.str x) j pos) (tC (.str x)):=fun _ _ _ H _ I h=>Calls.Constant_str ⟨.str x,H,I.tok _,⟨_,rfl⟩,h⟩
def Gl(X:Cx)(x:Str):Prop:=X.env.kindOf x=some .globalImplicit
noncomputable def zC(I:Inv X pins σ H s)(b:Gl X x)(a:X.mg x=some u)(h:Q u s)(hd:autoParam ((x==("__debug__":Str))=false) zam):wpAny (model X.prog X.w) X.A (eval (.Name x pos) X.env) Q E s:=Calls.Name_function_global I.ok.kind b (Calls.loadGlobal_global (by rw[I.ok.glob];exact I.mod.glob.keeps I.bk) a h) hd
noncomputable def nV(I:Inv X pins σ H s)(e:Gl X x)(a:X.mg x=none)(c:bootBuiltins x=some u)(h:Q u s)(b:autoParam (x≠"__name__") zam)(hd:autoParam ((x==("__debug__":Str))=false) zam):wpAny (model X.prog X.w) X.A (eval (.Name x pos) X.env) Q E s:=let⟨_,d,f⟩:=I.mod.blt;Calls.Name_function_global I.ok.kind e (Calls.loadGlobal_builtin (by rw[I.ok.glob];exact I.mod.glob.keeps I.bk) a (by rw[I.ok.blt];exact d.keeps I.bk) ((f x b).trans c) h) hd
def vA(d:Gl X x)(a:X.mg x=none)(c:bootBuiltins x=some u)(r:zaf v u)(b:autoParam (x≠"__name__") zam)(hd:autoParam ((x==("__debug__":Str))=false) zam):PE X (.Name x pos) (tC v):=fun _ _ _ H _ I h=>nV I d a c ⟨v,H,I,r,h⟩ b hd
variable{a b:Expr}{ta tb:TE}{pos:Pos}
def PC(X:Cx)(op:CmpOp)(a b:Expr)(t:TE):Prop:=∀(c:List (Addr×Obj))(s:Shared)(f:zag)(H:Hp)(Q:VK),Inv X c f H s->t f H Q->wpAny (model X.prog X.w) X.A (eval a X.env) (fun v e=>wpAny (model X.prog X.w) X.A (eval b X.env) (fun u d=>wpAny (model X.prog X.w) X.A (compareOp op v u) (EP X c f Q) X.xe d) X.xe e) X.xe s
def tB(t:TE):zai:=fun d H Q=>t d H fun x e=>∃c,x=.bl c/\Q c e
noncomputable def zD(h:PC X op a b t)(h1:behindInMarks op b=false:=by first|exact zE _ (by decide) (by decide)|rfl):PT X (.Compare a [op] [b] pos) (tB t):=by intro e s m H Q I j;refine wpAny_isTrue_Compare1 (bK (h _ s _ H _ I j) fun v o h1=>bK h1 fun u n k=>bK k fun c l ⟨x,_,i,g,f⟩=>?_) h1;obtain⟨d,rfl,q⟩:=f;cases g;exact l9 ⟨_,i,q⟩
noncomputable def vB(h:PE X e t)(l:autoParam (∀c,isTrue e X.env c=(do let v<-c;standAt e.pos;holding [v] (truthy v))) zas):PT X e (tB t):=by intro f s n H Q I k;refine isTrue_plain (bK (h _ s _ H _ I k) fun v m ⟨x,_,j,i,g⟩=>?_) (l _);obtain⟨d,rfl,q⟩:=g;cases i;exact l9 ⟨_,j,q⟩
variable{tA uk:zai}{rest:List Expr}
def zF(t u:zai):zai:=fun d H Q=>t d H fun c e=>if c=true then u d e Q else Q false e
def KI(t u:zai):zai:=fun d H Q=>t d H fun c e=>if c=true then Q true e else u d e Q
def zG(t:zai):zai:=fun d H Q=>t d H fun c e=>Q (!c) e
def Ei(f:PT X a tA):PW X (.BoolOp .And [a] pos) tA:=by intro g d s i H Q I h;refine isTrue_and (bK (f _ s _ H Q I h) fun c j e=>?_);cases c with|true=>exact isTrue_and_nil e|false=>exact e
def qr(f:PT X a tA):PW X (.BoolOp .Or [a] pos) tA:=by intro g d s i H Q I h;refine isTrue_or (bK (f _ s _ H Q I h) fun c j e=>?_);cases c with|false=>exact isTrue_or_nil e|true=>exact e
def Ej(g:PT X a tA)(i:PW X (.BoolOp .And (b::rest) pos) uk):PW X (.BoolOp .And (a::b::rest) pos) (zF tA uk):=by intro j f s l H Q I h;refine isTrue_and (bK (g _ s _ H _ I h) fun c k ⟨_,d,e⟩=>?_);cases c with|true=>exact i _ _ _ _ _ Q d e|false=>exact⟨_,d,e⟩
def nE(g:PT X a tA)(i:PW X (.BoolOp .Or (b::rest) pos) uk):PW X (.BoolOp .Or (a::b::rest) pos) (KI tA uk):=by intro j f s l H Q I h;refine isTrue_or (bK (g _ s _ H _ I h) fun c k ⟨_,d,e⟩=>?_);cases c with|true=>exact⟨_,d,e⟩|false=>exact i _ _ _ _ _ Q d e
def xS(d:PT X a tA):PT X (.UnaryOp .Not a pos) (zG tA):=fun c s e H Q I h=>isTrue_not (d _ s _ H _ I h)
def KJ(t:zai)(ta tb:TE):TE:=fun d H Q=>t d H fun c e=>if c=true then ta d e Q else tb d e Q
def UC(j:PT X c tA)(k:PE X a ta)(i:PE X b tb):PE X (.IfExp c a b pos) (KJ tA ta tb):=by intro g s m H Q I h;refine wpAny_IfExp (bK (j _ s _ H _ I h) fun d l ⟨_,f,e⟩=>?_);cases d with|true=>exact k _ _ _ _ Q f e|false=>exact i _ _ _ _ Q f e
end
def eE(K:W.Frag)(H:Hp)(a:Addr)(xs:List V):Prop:=Rd H a (.lst xs)\/∃(o:Obj)(b:Array Value)(n:Nat),K.lookup a=some o/\o.cls=.type "list"/\o.dict=none/\o.data=.seq b n/\b.size<=sizeLine/\Vals xs b.toList
def kH(K:W.Frag)(H:Hp)(a:Addr)(xs:List V):Prop:=Rd H a (.tup xs)\/∃(o:Obj)(b:Array Value)(n:Nat),K.lookup a=some o/\o.cls=.type "tuple"/\o.data=.seq b n/\b.size<=sizeLine/\Vals xs b.toList
noncomputable def Ek:Value->Option V|.none=>some .non|.bool b=>some (.bl b)|.int i _=>some (.int i)|.str x _=>some (.str x)|.bytes b _=>some (.rg b)|.float b _=>some (.wq b)|.ref a=>some (.ref a)|.type n=>some (.ty n)|_=>none
def zaf.abs(r:zaf x u):Ek u=some x:=by cases x with|non=>cases r;rfl|bl _=>cases r;rfl|int _=>obtain⟨t,rfl⟩:=r;rfl|str _=>obtain⟨t,rfl⟩:=r;rfl|rg _=>obtain⟨t,rfl⟩:=r;rfl|wq _=>obtain⟨t,rfl⟩:=r;rfl|ref _=>cases r;rfl|ty _=>cases r;rfl
def zaf.inj(r:zaf x u)(q:zaf y u):x=y:=dU (r.abs.symm.trans q.abs)
theorem Vals.inj:∀{xs ys:List V}{us:List Value},Vals xs us->Vals ys us->xs=ys|_,_,_,.nil,.nil=>rfl|_,_,_,.cons r t,.cons a b=>by rw[r.inj a,Vals.inj t b]
section
variable{X:Cx}{pins:List (Addr×Obj)}{σ:zag}{H:Hp}{s:Shared}{a:Addr}{xs ys:List V}
def kH.of{K:W.Frag}(h:H a=some (.tup xs)):kH K H a xs:=.inl (.inl h)
def Inv.list(I:Inv X pins σ H s)(h:eE X.K H a xs):∃its:List Value,Vals xs its/\PlainL s.heap a its.toArray/\xs.length<=sizeLine:=by
 rcases h with h|⟨o,its,n,b,d,c,g,f,r⟩;.obtain⟨z,its,n,r,e⟩:=h.ok I.bB;exact⟨_,r,⟨_,n,e,rfl,rfl,rfl⟩,z⟩
 .refine⟨_,r,⟨o,n,I.h_ a o b,d,c,by omega⟩,?_⟩;have e:=r.length;simp at e;lia
def Inv.tuple(I:Inv X pins σ H s)(h:kH X.K H a xs):∃its:List Value,Vals xs its/\IsTup s.heap a its.toArray/\xs.length<=sizeLine:=by
 rcases h with h|⟨o,its,n,c,b,f,d,r⟩;.obtain⟨z,its,r,p⟩:=h.ok I.bB;exact⟨_,r,p,z⟩
 .refine⟨_,r,⟨o,I.h_ a o c,b,n,by omega⟩,?_⟩;have e:=r.length;simp at e;omega
def Inv.fP(I:Inv X pins σ H s)(h:eE X.K H a xs)(h':eE X.K H a ys):xs=ys:=by
 obtain⟨c,r,⟨o,n,e,_,_,d⟩,_⟩:=I.list h;obtain⟨b,g,⟨i,j,l,_,_,k⟩,_⟩:=I.list h';have:c=b:=by simp_all
 subst this;exact r.inj g
def Inv.qK(I:Inv X pins σ H s)(h:kH X.K H a xs)(h':kH X.K H a ys):xs=ys:=by
 obtain⟨c,r,⟨o,e,_,n,d⟩,_⟩:=I.tuple h;obtain⟨b,g,⟨i,l,_,j,k⟩,_⟩:=I.tuple h';have:c=b:=by simp_all
 subst this;exact r.inj g
end
noncomputable abbrev Cx.kS(X:Cx)(E:Value->Shared->Prop):Cx:={X with xe:=E}
abbrev Cx.zH(X:Cx):Cx:=X.kS fun _ _=>False
theorem Cx.Ok.kS{X:Cx}(a:X.Ok)(E:Value->Shared->Prop):(X.kS E).Ok:=⟨a.mod,a.kind,a.glob,a.blt,a.above,a.inj,a.has,a.zy,a.hd,a.frames,a.BL,a.KG,a.bs,a.ui,a.rY,a.uj,a.jt,a.tJ,a.tb⟩
def Cx.Ok.gz{X:Cx}(a:(X.kS E).Ok):X.Ok:=⟨a.mod,a.kind,a.glob,a.blt,a.above,a.inj,a.has,a.zy,a.hd,a.frames,a.BL,a.KG,a.bs,a.ui,a.rY,a.uj,a.jt,a.tJ,a.tb⟩
section
variable{X:Cx}{pins:List (Addr×Obj)}{σ:zag}{H:Hp}{s:Shared}{E:Value->Shared->Prop}
theorem Inv.kS(I:Inv X pins σ H s)(E:Value->Shared->Prop):Inv (X.kS E) pins σ H s:=⟨I.ok.kS E,I.os,I.bare,I.base,I.loc,I.cell,I.free,I.gw,I.pin,I.bB,I.len⟩
theorem Inv.gz(I:Inv (X.kS E) pins σ H s):Inv X pins σ H s:=⟨I.ok.gz,I.os,I.bare,I.base,I.loc,I.cell,I.free,I.gw,I.pin,I.bB,I.len⟩
theorem SP.gz(h:SP (X.kS E) pins D f s'):SP X pins D f s':=by cases f with|next=>obtain⟨a,b,I,q⟩:=h;exact⟨_,_,I.gz,q⟩|brk=>obtain⟨a,b,I,q⟩:=h;exact⟨_,_,I.gz,q⟩|cont=>obtain⟨a,b,I,q⟩:=h;exact⟨_,_,I.gz,q⟩|ret u=>obtain⟨v,a,b,I,r,q⟩:=h;exact⟨v,_,_,I.gz,r,q⟩
theorem mm.zH{st:List Stmt}(h:mm X.zH st t):mm X st t:=fun pins s σ H D I a=>dz (h _ s _ H D (I.kS _) a) (fun _ _ q=>q.gz) fun _ _ z=>False.elim z
end
section
variable{X:Cx}{st:Stmt}{rest:List Stmt}{t u:TS}{e:Expr}{te:TE}{pos:Pos}
def KL:TS:=fun D a H=>D.nx a H
def wu(t u:TS):TS:=fun D a H=>t {D with nx:=u D} a H
def ft:mm X [] KL:=fun _ _ a H _ I h=>lX ⟨_,H,I,h⟩
def a_(h1:PS X st t)(h2:mm X rest u):mm X (st::rest) (wu t u):=by intro c s j H D I h;refine wpAny_execs_cons (bK (h1 _ s _ H _ I h) fun f k q=>?_);cases f with|next=>obtain⟨g,l,i,q⟩:=q;exact h2 _ _ _ _ D i q|ret v=>exact q|brk=>exact q|cont=>exact q
def cR(h1:PS X st t):mm X [st] t:=by intro c s g H D I h;refine wpAny_execs_cons (bK (h1 _ s _ H D I h) fun f i q=>?_);cases f with|next=>exact lX q|ret v=>exact q|brk=>exact q|cont=>exact q
def Inv.quiet(I:Inv X pins σ H s):interactive X.env=false:=by simp[interactive,I.ok.kind]
def xT(te:TE):TS:=fun D a H=>te a H fun _ b=>D.nx a b
def vD(b:PE X e te)(f:autoParam (swapsWith e none pos.line X.env=pure false) zak):PS X (.Expr e pos) (xT te):=fun a s i H D I h=>wpAny_Expr_any (bK (b _ s _ H _ I h) fun v g ⟨x,_,c,_,d⟩=>⟨_,_,c,d⟩) I.quiet f
def oY(te:TE):TS:=fun D a H=>te a H D.rt
def um(f:PE X e te):PS X (.Return (some e) pos) (oY te):=fun a s i H D I h=>wpAny_Return_some (bK (f _ s _ H _ I h) fun v g ⟨x,_,d,c,b⟩=>⟨x,_,_,d,c,b⟩)
def zI(c:zai)(t u:TS):TS:=fun D a H=>c a H fun b d=>if b=true then t D a d else u D a d
def fg(k:PT X c l)(m:mm X a t)(j:mm X b u):PS X (.If c a b pos) (zI l t u):=by intro i s n H D I h;refine wpAny_If (bK (k _ s _ H _ I h) fun d o ⟨_,g,f⟩=>?_);cases d with|true=>exact m _ _ _ _ D g f|false=>exact j _ _ _ _ D g f
end
abbrev TG:=V->zag->Hp->(zag->Hp->Prop)->Prop
abbrev uo:=List V->zag->Hp->(zag->Hp->Prop)->Prop
def PG(X:Cx)(a:Expr)(t:TG):Prop:=∀(b:List (Addr×Obj))(s:Shared)(e:zag)(H:Hp)(v:V)(u:Value)(Q:zag->Hp->Prop),Inv X b e H s->zaf v u->t v e H Q->wpAny (model X.prog X.w) X.A (assign a X.env u) (fun _ f=>∃c d,Inv X b c d f/\Q c d) X.xe s
def zJ(X:Cx)(ts:List Expr)(t:uo):Prop:=∀(a:List (Addr×Obj))(s:Shared)(d:zag)(H:Hp)(f:List V)(e:List Value)(Q:zag->Hp->Prop),Inv X a d H s->Vals f e->t f d H Q->wpAny (model X.prog X.w) X.A (assignInOrder ((assignEach ts X.env).map (·.2)) e) (fun _ g=>∃b c,Inv X a b c g/\Q b c) X.xe s
abbrev wx:=V->V->V->Hp->(Hp->Prop)->Prop
def wz(X:Cx)(t:wx):Prop:=∀(a:List (Addr×Obj))(s:Shared)(d:zag)(H:Hp)(o i v:V)(b c u:Value)(Q:Hp->Prop),Inv X a d H s->zaf o b->zaf i c->zaf v u->t o i v H Q->wpAny (model X.prog X.w) X.A (setItem b c u) (fun _ f=>∃e,Inv X a d e f/\Q e) X.xe s
abbrev zK:=V->V->Hp->VK->Prop
def zL(X:Cx)(op:Operator)(t:zK):Prop:=∀(a:List (Addr×Obj))(s:Shared)(b:zag)(H:Hp)(x y:V)(v u:Value)(Q:VK),Inv X a b H s->zaf x v->zaf y u->t x y H Q->wpAny (model X.prog X.w) X.A (inplaceOp op v u) (EP X a b Q) X.xe s
section
variable {X : Cx} {pos : Pos}
def tK(i:Nat):TG:=fun v a H Q=>Q (a.set i (some v)) H
def uq(b:X.N.Nodup)(hi:X.N[i]?=some x)(d:Loc X.env.scope x)(c:autoParam (X.fn x=true\/X.env.scope.names.lookup x=some .local) zaq):PG X (.Name x pos) (tK i):=fun a s g H v u Q I r h=>wpAny_assign_Name (BM I b hi d r (fun f e=>⟨_,H,e,h⟩) c)
def zM:uo:=fun a b H Q=>a=[]/\Q b H
def KN(t:TG)(u:uo):uo:=fun b d H Q=>∃v r,b=v::r/\t v d H fun a c=>u r a c Q
def kT:zJ X [] zM:=by rintro a s c H b d Q I r ⟨e,h⟩;exact assignInOrder_nil ⟨_,H,I,h⟩
def fu(h1:PG X e t)(h2:zJ X es u)(f:autoParam ((assignEach (e::es) X.env).map (·.2)=assign e X.env::(assignEach es X.env).map (·.2)) zak):zJ X (e::es) (KN t u):=by rintro a s m H k l Q I r ⟨v,n,d,h⟩;subst d;cases r with|cons r i=>rw[f];exact assignInOrder_cons (bK (h1 _ s _ H _ _ _ I r h) fun _ j ⟨_,_,c,g⟩=>h2 _ _ _ _ _ _ Q c i g)
def zO(K:W.Frag)(n:Nat)(t:uo):TG:=fun v c H Q=>∃a b,v=.ref a/\kH K H a b/\b.length=n/\t b c H Q
noncomputable def oZ(y:X.calm=true)(h:zJ X es t)(l:autoParam ((assignEach es X.env).length=n) zak)(c:autoParam ((assignEach es X.env).findIdx? (·.1)=none) zak):PG X (.Tuple es k pos) (zO X.K n t):=by rintro d s B H v u Q I r ⟨a,C,j,z,x,f⟩;subst j;cases r;obtain⟨w,g,m,A⟩:=I.tuple z;refine assign_Tuple_tuple (I.ok.hd y) m (by simp[l,<-x,g.length]) c fun i q=>?_;have p:Inv X _ _ H {s with heap:=i}:=I.kept fun b o e=>q b o (aY (aI e)) e;exact h _ _ _ H _ _ Q p (by omega) f
def wA(e b:TE)(t:wx):TG:=fun v a H Q=>e a H fun o d=>b a d fun i f=>t o i v f fun c=>Q a c
noncomputable def zP(f:PE X o w)(hi:PE X i n)(j:wz X t)(C:autoParam (∀v,assign (.Subscript o i pos) X.env v=(do
 let a<-holding [v] (eval o X.env)let b<-holding [v,a] (eval i X.env)standAt pos
 holding [v,a,b] (setItem a b v)release [v,a,b] [])) zas):PG X (.Subscript o i pos) (wA w n t):=fun c s z H v u Q I r h=>ah (dV (bK (f _ s _ H _ I h) fun a D ⟨x,_,q,l,g⟩=>(ah (dV (bK (hi _ _ _ _ _ q g) fun b B ⟨y,_,e,m,d⟩=>ah (fY (ah (dV (bK (j _ _ _ _ x y v _ _ u _ e l m r d) fun _ A ⟨_,k,p⟩=>wpAny_release ⟨_,_,k,p⟩)))))))))
def kh(c:TE)(g:TG):TS:=fun D a H=>c a H fun x b=>g x a b D.nx
noncomputable def rh(m:PE X e c)(k:PG X a g)(j:autoParam (swapsWithSole [a] e pos.line X.env=pure false) zak)(l:autoParam (swappedStores [a] e X.env=pure none) zak)(h1:autoParam ((assignEach [a] X.env).map (·.2)=[assign a X.env]) zak):PS X (.Assign [a] e pos) (kh c g):=by intro b s o H D I h;refine wpAny_Assign_stores (bK (m _ s _ H _ I h) fun v p ⟨x,_,f,d,i⟩=>?_) j l;rw[h1];exact bK (k _ _ _ _ x v _ f d i) fun _ n q=>q
def ri(g:X.N.Nodup)(hi:X.N[i]?=some x)(j:Loc X.env.scope x)(l:PE X e o)(k:autoParam (swapsWith e (some (.Name x a)) pos.line X.env=pure false) zak)(m:autoParam (X.fn x=true\/X.env.scope.names.lookup x=some .local) zaq):PS X (.Assign [.Name x a] e pos) (kh o (tK i)):=fun b s q H D I h=>wpAny_Assign_Name (bK (l _ s _ H _ I h) fun v p ⟨y,t,f,d,c⟩=>BM f g hi j d (fun r n=>⟨_,_,n,c⟩) m) k
def wB(i:Nat)(e:TE)(b:zK):TS:=fun D a H=>∃x,a[i]?=some (some x)/\e a H fun y c=>b x y c fun z d=>D.nx (a.set i (some z)) d
def KO(Y:X.N.Nodup)(hi:X.N[i]?=some x)(g:Loc X.env.scope x)(R:PE X e G)(C:zL X op N)(T:autoParam (X.fn x=true\/X.env.scope.names.lookup x=some .local) zaq):PS X (.AugAssign (.Name x o) op e pos) (wB i G N):=by
 rintro p s σ H D I ⟨v,t,h⟩;obtain⟨m,O,S⟩:=I.loc;have f:zx X.env.scope x:=by rcases g with k|k;exact .inl k;exact .inr (.inl k)
 obtain⟨u,r,l⟩:=S i x v hi t f;refine wpAny_AugAssign_Name ?_;have go:wpAny _ _ _ (fun w j=>wpAny _ _ _ (fun r n=>wpAny (model X.prog X.w) X.A _ (fun _=>SP X _ D .next) X.xe _) _ _) _ s:=bK (R _ s _ H _ I h) fun w s1 ⟨y,H1,E,Q,U⟩=>bK (C _ _ _ _ v y u w _ E r Q U) fun z s2 ⟨_,_,L,B,q⟩=>BM L Y hi g B (fun Z J=>⟨_,_,J,q⟩) T;rcases l with⟨a,M⟩|⟨a,c,A,b⟩;.exact oS I.ok.kind a O M go
 . rcases a with a|a;.exact wpAny_loadName_cell I.ok.kind a A b go
   . rcases g with k|k;.have:X.env.scope.names.lookup x=some _:=a;simp_all
     .have:X.env.scope.names.lookup x=some _:=a;rw[k]at this;cases this
def KP(j h l:TE)(a:V->V->Hp->VK->Prop)(d:zK)(b:wx):TS:=fun D c H=>j c H fun o f=>h c f fun i k=>a o i k fun x g=>l c g fun y e=>d x y e fun z n=>b o i z n fun m=>D.nx c m
def zQ(X:Cx)(t:V->V->Hp->VK->Prop):Prop:=∀(a:List (Addr×Obj))(s:Shared)(c:zag)(H:Hp)(o i:V)(b d:Value)(Q:VK),Inv X a c H s->zaf o b->zaf i d->t o i H Q->wpAny (model X.prog X.w) X.A (getItem b d) (EP X a c Q) X.xe s
def KQ(N:PE X o R)(hi:PE X i z)(Q:zQ X f)(A:PE X e w)(n:zL X op g)(p:wz X b)(t:∀d c a,augStore i d c a=(do holding [a,d,c] (setItem d c a);release [a,d,c] [];pure .next):=by intros;rfl):PS X (.AugAssign (.Subscript o i l) op e pos) (KP R z w f g b):=by intro m s σ H D I h;exact wpAny_AugAssign_SubscriptAny (bK (N _ s _ H _ I h) fun d Y ⟨_,_,y,k,T⟩=>(bK (hi _ _ _ _ _ y T) fun c s2 ⟨_,_,G,j,x⟩=>bK (Q _ _ _ _ _ _ _ _ _ G k j x) fun B Z ⟨_,_,L,S,M⟩=>(bK (A _ _ _ _ _ L M) fun v s4 ⟨_,_,E,q,J⟩=>bK (n _ _ _ _ _ _ _ v _ E S q J) fun a s5 ⟨_,_,r,O,u⟩=>bK (p _ _ _ _ _ _ _ _ _ _ _ r k j O u) fun _ s6 ⟨_,C,U⟩=>⟨_,_,C,U⟩))) t
def BN(f:Int->Int->Int):zK:=fun x y H Q=>∃i j,x=.int i/\y=.int j/\Q (.int (f i j)) H
def KR:zL X .Add (BN fun i j=>i+j):=by rintro a s g H x y v u Q I b c ⟨i,j,d,e,q⟩;subst d;subst e;obtain⟨t,rfl⟩:=b;obtain⟨f,rfl⟩:=c;exact iadd_int ⟨.int _,H,I.tok _,⟨_,rfl⟩,q⟩
def UD:zL X .Sub (BN fun i j=>i-j):=by rintro a s g H x y v u Q I b c ⟨i,j,d,e,q⟩;subst d;subst e;obtain⟨t,rfl⟩:=b;obtain⟨f,rfl⟩:=c;exact isub_int ⟨.int _,H,I.tok _,⟨_,rfl⟩,q⟩
def KS(c:zai)(h:TS):TS:=fun D a H=>∃W:Nat->zag->Hp->Prop,(∃m,W m a H)/\∀m a H,W m a H->c a H fun b e=>if b=true then∃N:zag->Hp->Prop,(∀d g,N d g->∃f,f<m/\W f d g)/\h {D with nx:=N,ct:=N,bk:=D.nx} a e else D.nx a e
def BO(w:PassesOwn (model X.prog X.w) X.A X.env X.xe)(C:PT X c J)(x:mm X e G):PS X (.While c e [] pos) (KS J G):=by rintro t s T H D I ⟨W,⟨S,z⟩,d⟩;refine wpAny_While (codeAny_whileLoop (fun n O=>∃a u,Inv X _ a u O/\W n a u) ?_ _ ⟨_,H,I,z⟩);rintro n Q ⟨M,U,E,L⟩;refine hX w (bK (C _ _ _ _ _ E (d n _ _ L)) fun b R ⟨_,q,g⟩=>?_);cases b with
 |true=>obtain⟨N,o,g⟩:=g;refine hX w (bK (x _ _ _ _ _ q g) fun f Y h=>?_);cases f with|next=>obtain⟨m,B,j,k⟩:=h;obtain⟨y,l,i⟩:=o _ _ k;exact⟨_,l,_,_,j,i⟩|cont=>obtain⟨m,B,j,k⟩:=h;obtain⟨y,l,i⟩:=o _ _ k;exact⟨_,l,_,_,j,i⟩|brk=>exact h|ret v=>exact h
 |false=>exact lX ⟨_,_,q,g⟩
end
structure It where
 go:Nat->Hp->Prop
 zR:Nat->Hp->V->Hp->Prop
 stop:Nat->Hp->Prop
def i9(X:Cx)(pins:List (Addr×Obj))(H:Hp)(b:Addr):Prop:=H b=none/\b≠X.env.locals/\b∉X.fs/\(b∈X.ex\/X.fA.heap.objs.size<=b)/\(∀x c,X.env.cells.lookup x=some c->c≠b)/\∀p∈X.pn++pins,p.1≠b
def Inv.ki(I:Inv X pins σ H s)(a:s.heap.objs.size<=b)(f:H' b=none):i9 X pins H' b:=by
 refine⟨f,eO (cW I.lt a),I.zz a,.inr (bo I.sz a),fun x c e z=>?_,fun p d z=>?_⟩;.obtain⟨v,q⟩:=I.cell x c e;exact absurd (cW q.lt (by simp_all)) (dI _)
 .exact absurd (cW (aI (I.pin p d).1) (by simp_all)) (dI _)
structure Turn(P:Program)(w:World)(K:W.Frag)(tg:Expr)(J:It)(fp:List Addr)(it:Addr)(tn:Nat->Heap->Prop):Prop where
 mem:it∈fp
 obj:∀i h,tn i h->∀b∈fp,∃o,h.get? b=some o/\∀v,o.data≠.cell v
 keep:∀i h h',tn i h->(∀b∈fp,∀o,h.get? b=some o->h'.get? b=some o)->tn i h'
 item:∀(X:Cx),X.prog=P->X.w=w->X.K=K->X.calm=true->∀(i:Nat)(pins:List (Addr×Obj))(s:Shared)(σ:zag)(H:Hp)(E:Value->Shared->Prop),Inv X pins σ H s->(∀b∈fp,i9 X pins H b)->tn i s.heap->J.go i H->wpAny (model P w) X.A (pyNext (.ref it)) (fun r s1=>∃u,r=some u/\wpAny (model P w) X.A (letOwnedTupleGo tg (.ref it) u) (fun _ s2=>∃x H',Inv X pins σ H' s2/\zaf x u/\J.zR i H x H'/\tn (i+1) s2.heap/\∀b∈fp,H' b=none) E s1) E s
 done:∀(X:Cx),X.prog=P->X.w=w->X.K=K->X.calm=true->∀(i:Nat)(pins:List (Addr×Obj))(s:Shared)(σ:zag)(H:Hp)(E:Value->Shared->Prop),Inv X pins σ H s->(∀b∈fp,i9 X pins H b)->tn i s.heap->J.stop i H->wpAny (model P w) X.A (pyNext (.ref it)) (fun r s1=>r=none/\Inv X pins σ H s1) E s
 self:∀(A:Around)(i:Nat)(s:Shared)(Q:Value->Shared->Prop)(E:Value->Shared->Prop),tn i s.heap->Q (.ref it) s->wpAny (model P w) A (pyIter (.ref it)) Q E s
abbrev zah:=zag->Hp->(It->Hp->Prop)->Prop
def KU(X:Cx)(pins:List (Addr×Obj))(σ:zag)(h:Expr)(R:It->Hp->Prop)(a:Value)(e:Shared):Prop:=∃(f:Addr)(d:List Addr)(g:Nat->Heap->Prop)(J:It)(c:Hp),a=.ref f/\Inv X pins σ c e/\Turn X.prog X.w X.K h J d f g/\g 0 e.heap/\(∀b∈d,i9 X pins c b)/\R J c
def PI(X:Cx)(f b:Expr)(d:zah):Prop:=∀(a:List (Addr×Obj))(s:Shared)(c:zag)(H:Hp)(R:It->Hp->Prop),Inv X a c H s->d c H R->wpAny (model X.prog X.w) X.A (eval b X.env) (fun v e=>wpAny (model X.prog X.w) X.A (pyIter v) (KU X a c f R) X.xe e) X.xe s
def El(b:s.heap.get? d=some o)(e:o.cls=.type n)(hd:o.data=.fields vs)(f:["enumerate","zip","dict_itemiterator","dict_reverseitemiterator","odict_iterator","itertools.zip_longest","itertools.pairwise"].contains n=false)(a:Q () s):wpAny M A (letOwnedTupleGo c (.ref d) u) Q E s:=by cases c<;>first|exact ax a|(cases u<;>first|exact ax a|(refine ah (wpAny_load b ?_);rw[e,hd];show wpAny M A (if(["enumerate","zip","dict_itemiterator","dict_reverseitemiterator","odict_iterator","itertools.zip_longest","itertools.pairwise"].contains n&&vs[0]?==some _)=true then _ else _) Q E s;rw[ak (by grind)];exact ax a))
def Em(K:W.Frag)(a:Addr):It:=⟨fun i H=>∃b x,eE K H a b/\b[i]?=some x,fun i H x c=>c=H/\∀b,eE K H a b->b[i]?=some x,fun i H=>∃b,eE K H a b/\b.length<=i⟩
def zS(lo:Int)(n:Nat):It:=⟨fun i _=>i<n,fun i H x a=>a=H/\x=.int (lo+i),fun i _=>n<=i⟩
def UE{K:W.Frag}(a g:Addr):Turn P w K tg (Em K a) [g] g (fun i h=>h.IsListIter g a i)where
 mem:=by simp
 obj:=fun i h st b f=>by
  have e:b=g:=by simp_all
  subst e;obtain⟨o,e,c,d⟩:=st;exact⟨o,e,fun v z=>by grind⟩
 keep:=fun i h O st k=>st.at fun o e=>k _ (by simp) o e;item:=by intro X D r B N i l s R H E I n st L;subst D r B;obtain⟨xs,x,m,M⟩:=L;obtain⟨A,G,p,S⟩:=I.list m;obtain⟨u,hu,Q⟩:=G.get M;obtain⟨t,J,Y,y,q,C⟩:=n g (by simp);refine wpAny_pyNext_list_item st p.isList (x:=u) (by simp_all) fun O j U=>?_;obtain⟨o,e,c,d⟩:=id j;exact⟨u,rfl,El e c d rfl ⟨x,H,(I.turned (fun b o f e=>(U.2 b f).trans e) t J y q C),Q,⟨rfl,fun ys Z=>by rwa[I.fP Z m]⟩,j,fun b f=>(n b f).1⟩⟩
 done:=by intro X D r B N i l s R H E I n st L;subst D r B;obtain⟨xs,m,M⟩:=L;obtain⟨A,G,p,S⟩:=I.list m;obtain⟨t,J,Y,y,q,C⟩:=n g (by simp);have hl:=G.length;exact wpAny_pyNext_list_end (I.ok.hd N) st p.isList (by simp_all) fun O T=>⟨rfl,I.turned (fun b o f e=>T b o f e) t J y q C⟩
 self:=fun _ _ _ _ _ st h=>wpAny_pyIter_listiter st h
def UG{K:W.Frag}(a:Addr)(lo:Int)(n:Nat):Turn P w K O (zS lo n) [a] a (fun i h=>IsRangeIter h a (lo+(i:Nat)*1) ((n:Int)-(i:Nat)) 1)where
 mem:=by simp
 obj:=fun i h st b c=>by
  have e:b=a:=by grind
  subst e;exact⟨_,st,fun v z=>by trivial⟩
 keep:=fun i h p st k=>k _ (by simp) _ st;item:=by intro X A y B r i d s L H E I g st u;subst A y B;obtain⟨j,q,G,m,x,l⟩:=g a (by simp);refine(Walks.range (I.ok.hd r) _ _ 1 n).item i s _ _ u st fun v p M D f N=>?_;obtain⟨t,rfl⟩:=D;have C:Inv X _ _ H {s with heap:=p,toks:=M}:=I.turned (fun b o c e=>N b o (by grind) e) j q m x l;refine⟨_,rfl,El f rfl rfl (by decide) ⟨.int _,H,C,⟨t,?_⟩,⟨rfl,rfl⟩,f,fun b c=>(g b c).1⟩⟩;rw[Int.mul_one]
 done:=by intro X A y B r i d s L H E I g st u;obtain⟨j,q,G,m,x,l⟩:=g a (by simp);exact wpAny_pyNext_range_end (I.ok.hd r) st (by have:n<=i:=u;lia) fun p J=>⟨rfl,I.turned (fun b o c e=>J b o c e) j q m x l⟩
 self:=fun _ _ _ _ _ st h=>wpAny_pyIter_rangeiter st h
section
variable{X:Cx}{tg:Expr}
def BP(K:W.Frag)(c:TE):zah:=fun d H R=>c d H fun x b=>∃a,x=.ref a/\(∃e,eE K b a e)/\R (Em K a) b
def ia(f:PE X l k):PI X tg l (BP X.K k):=by
 intro d s w H R I h;refine bK (f _ s _ H _ I h) fun v n ⟨x,_,c,g,j⟩=>?_;obtain⟨a,e,⟨t,i⟩,q⟩:=j;subst e;cases g;obtain⟨m,u,p,y⟩:=c.list i;refine wpAny_pyIter_list p.isList (⟨_,_,_,_,_,rfl,c.kept fun b o e=>aO _ e,UE a _,⟨_,b7 _ rfl,rfl,rfl⟩,fun b r=>?_,q⟩);have e:b=n.heap.objs.size:=by simp_all
 subst e;exact c.ki (aC _) (c.bB.fresh (aC _))
def KW{H:Hp}{lo hi:Int}(I:Inv X pins σ H s)(h1:-(2^62)<=lo)(h2:lo<2^62)(h3:-(2^62)<=hi)(c:hi<2^62)(q:R (zS lo (hi-lo).toNat) H):wpAny (model X.prog X.w) X.A (pyIter (.ref s.heap.objs.size)) (KU X pins σ tg R) E {s with heap:=s.heap.push {cls:=.type "range",data:=.fields #[.int lo t,.int hi u,.int 1 v]},toks:=tk}:=by
 refine wpAny_pyIter_range (IsRange.new ..) (small_one h1 h2 h3 c) ?_;have a:Inv X _ _ H {s with heap:=s.heap.push {cls:=.type "range",data:=.fields #[.int lo t,.int hi u,.int 1 v]},toks:=tk}:=I.kept fun b o e=>aO _ e;refine⟨_,_,_,_,H,rfl,a.kept fun b o e=>aO _ e,UG _ _ _,?_,fun b g=>?_,q⟩
 . have d:lo+(0:Nat)*1=lo:=by simp
   have f:((hi-lo).toNat:Int)-(0:Nat)=Builtin.Range.rangeSize lo hi 1:=by rw[lR];lia
   rw[d,f];exact b7 _ rfl
 . have e:b=(s.heap.push {cls:=.type "range",data:=.fields #[.int lo t,.int hi u,.int 1 v]}).objs.size:=by simp_all
   subst e;exact a.ki (aC _) (a.bB.fresh (aC _))
def KY(c:TA):zah:=fun a H R=>c a H fun d b=>∃j:Int,d=[.int j]/\-(2^62)<=j/\j<2^62/\R (zS 0 j.toNat) b
def KZ(c:TA):zah:=fun d H R=>c d H fun a b=>∃i j:Int,a=[.int i,.int j]/\(-(2^62)<=i/\i<2^62/\-(2^62)<=j/\j<2^62)/\R (zS i (j-i).toNat) b
def iF(m:Gl X "range")(i:X.mg "range"=none)(n:PA X [a] f)(k:autoParam (starEach [a] X.env=[(false,eval a X.env)]) zak):PI X tg (.Call (.Name "range" p) [a] [] pos) (KY f):=by intro c s w H R I h;refine Call_ (nV I m i boot_range (ew (bK (n _ _ s _ H _ I h) fun x v ⟨_,_,g,o,b⟩=>?_) k rfl));obtain⟨j,e,b,u,q⟩:=b;subst e;cases o with|cons r l=>cases l;obtain⟨t,rfl⟩:=r;exact call_range_1 (KW g (by lia) (by lia) b u (by simp_all))
def UH(z:Gl X "range")(u:X.mg "range"=none)(o:PA X [a,b] v)(E:autoParam (starEach [a,b] X.env=[(false,eval a X.env),(false,eval b X.env)]) zak)(d:autoParam (starEach [b] X.env=[(false,eval b X.env)]) zak):PI X tg (.Call (.Name "range" p) [a,b] [] pos) (KZ v):=by intro k s B H R I h;refine Call_ (nV I z u boot_range (ew (bK (o _ _ s _ H _ I h) fun A C ⟨_,_,x,m,f⟩=>?_) (by simp_all) (by rw[d];rfl)));obtain⟨i,j,e,⟨f,l,y,n⟩,q⟩:=f;subst e;cases m with|cons r g=>cases g with|cons w g=>cases g;obtain⟨t,rfl⟩:=r;obtain⟨D,rfl⟩:=w;exact call_range_2 (KW x f l y n q)
def ur(h:zah)(g:TG)(k:TS):TS:=fun D a H=>h a H fun J f=>∃W:Nat->Nat->zag->Hp->Prop,(∃m,W 0 m a f)/\∀i m a H,W i m a H->(J.stop i H/\D.nx a H)\/(J.go i H/\∃N:zag->Hp->Prop,(∀b c,N b c->∃e,e<m/\W (i+1) e b c)/\∀x c,J.zR i H x c->g x a c fun d j=>k {D with nx:=N,ct:=N,bk:=D.nx} d j)
noncomputable def xU(fp:List Addr)(h:Heap):List (Addr×Obj):=fp.filterMap fun b=>(h.get? b).map fun o=>(b,o)
def zT(a:b∈fp)(e:h.get? b=some o):(b,o)∈xU fp h:=lB.mpr ⟨b,a,by simp_all⟩
def UI(a:p∈xU fp h):p.1∈fp/\h.get? p.1=some p.2:=by obtain⟨b,c,e⟩:=lB.mp a;cases q:h.get? b with|none=>simp_all|some o=>grind
def Inv.pinned(I:Inv X pins σ H s)(i:∀b∈fp,i9 X pins H b)(g:∀b∈fp,∃o,s.heap.get? b=some o/\∀v,o.data≠.cell v):Inv X (pins++xU fp s.heap) σ H s:=I.qo fun p f=>(bJ.mp f).elim (fun z=>I.pin p (cN _ z)) fun z=>by obtain⟨a,e⟩:=UI z;obtain⟨j,k,h,_⟩:=i _ a;obtain⟨o,c,d⟩:=g _ a;rw[e]at c;cases c;exact⟨e,j,k,h,d⟩
def Inv.gB(I:Inv X (pins++pl) σ H s):Inv X pins σ H s:=I.qo fun p a=>I.pin p (cN _ (gX _ a))
def rj(A:PassesOwn (model X.prog X.w) X.A X.env X.xe)(Z:X.calm=true)(hi:PI X tg t wi)(hg:PG X tg g)(j:mm X L tb)(hs:autoParam (∀x,foldedSetIterable t X.env x=pure x) zas):PS X (.For tg t L [] pos) (ur wi g tb):=by
 intro a s σ H D I h;refine wpAny_For (bK (hi a s σ H _ I h) fun v s1 h1=>bK h1 fun UJ s2 h2=>?_) hs;obtain⟨it,Q,tn,J,H2,e,I2,T,R,f2,W,⟨m0,w0⟩,M⟩:=h2;subst e;have l:∀{q:Hp},(∀b∈Q,q b=none)->∀b∈Q,i9 X a q b:=fun hn b j=>⟨hn b j,(f2 b j).2⟩;refine codeAny_forLoop_any (fun n s'=>∃i p q,Inv X a p q s'/\tn i s'.heap/\(∀b∈Q,q b=none)/\W i n p q) ?_ m0 ⟨0,σ,H2,I2,R,fun b j=>(f2 b j).1,w0⟩;rintro n s3 ⟨i,B,Y,I3,C,E,w3⟩;rcases M i n B Y w3 with⟨G,qn⟩|⟨go,N,hN,step⟩;.refine hX A (bK (T.done X rfl rfl rfl Z i a s3 B Y X.xe I3 (l E) C G) fun r s4 ⟨S,I4⟩=>?_);subst S;exact lX ⟨_,_,I4,qn⟩
 . refine hX A (bK (T.item X rfl rfl rfl Z i _ _ _ _ _ I3 (l E) C go) fun r s4 ⟨u,S,h4⟩=>?_);subst S;refine hX A (bK h4 fun _ s5 ⟨x,_,I5,r5,y5,y,U⟩=>?_);refine hX A (bK (hg _ _ _ _ x u _ (I5.pinned (l U) (T.obj _ _ y)) r5 (step x _ y5)) fun _ s6 ⟨_,_,I6,q6⟩=>(hX A (bK (j _ _ _ _ _ I6 q6) fun f s7 w=>?_)));have again:∀{c:zag}{z:Hp},Inv X (a++xU _ _) c z _->N _ _->∃m,m<n/\∃i p q,Inv X _ p q _/\tn i s7.heap/\(∀b∈Q,q b=none)/\W i m p q:=fun{c z} k O=>by obtain⟨m',hm,w7⟩:=hN _ _ O;refine⟨_,hm,_,_,_,k.gB,T.keep _ _ _ y fun b j o e=>(k.pin _ (cN _ (cN _ (zT j e)))).1,fun b j=>?_,w7⟩;obtain⟨o,e,d⟩:=T.obj _ _ y b j;exact(k.pin _ (cN _ (cN _ (zT j e)))).2.1
   cases f with|next=>obtain⟨c,z,k,O⟩:=w;exact again k O|cont=>obtain⟨c,z,k,O⟩:=w;exact again k O|brk=>obtain⟨c,z,k,w⟩:=w;exact⟨_,_,k.gB,w⟩|ret v=>obtain⟨x7,c,z,k,r7,w⟩:=w;exact⟨_,_,_,k.gB,r7,w⟩
end
abbrev R2:=V->V->Hp->VK->Prop
def iG(X:Cx)(f:Value->Value->Sem Value)(r:R2):Prop:=∀(a:List (Addr×Obj))(s:Shared)(b:zag)(H:Hp)(x y:V)(v u:Value)(Q:VK),Inv X a b H s->zaf x v->zaf y u->r x y H Q->wpAny (model X.prog X.w) X.A (f v u) (EP X a b Q) X.xe s
def Eo(X:Cx)(f:Value->Sem Value)(r:V->Hp->VK->Prop):Prop:=∀(a:List (Addr×Obj))(s:Shared)(b:zag)(H:Hp)(x:V)(v:Value)(Q:VK),Inv X a b H s->zaf x v->r x H Q->wpAny (model X.prog X.w) X.A (f v) (EP X a b Q) X.xe s
def lD(X:Cx)(f:Value)(r:List V->Hp->VK->Prop):Prop:=∀(a:List (Addr×Obj))(s:Shared)(d:zag)(H:Hp)(b:List V)(c:List Value)(Q:VK),Inv X a d H s->Vals b c->r b H Q->wpAny (model X.prog X.w) X.A (call f c) (EP X a d Q) X.xe s
def tL(r:R2)(e d:TE):TE:=fun a H Q=>e a H fun x c=>d a c fun y b=>r x y b Q
def K1(r:V->Hp->VK->Prop)(c:TE):TE:=fun a H Q=>c a H fun x b=>r x b Q
def rI(C:Int->Int->Prop)(g:Int->Int->V):R2:=fun x y H Q=>∃i j,x=.int i/\y=.int j/\C i j/\Q (g i j) H
def o3(g:Int->Int->V):R2:=fun x y H Q=>∃i j,x=.int i/\y=.int j/\Q (g i j) H
def rU(g:Int->V):V->Hp->VK->Prop:=fun x H Q=>∃i,x=.int i/\Q (g i) H
section
variable{X:Cx}{a b c:Expr}{ta tb tc:TE}{pos:Pos}
def wC(l:PE X a ta)(m:PE X b tb){R:V->V->Hp->Prop}(I:Inv X pins σ H s)(h:ta σ H fun x k=>tb σ k fun y g=>R x y g){f:Value->Value->Sem Value}(p:∀v u i x y g,Inv X pins σ g i->zaf x v->zaf y u->R x y g->wpAny (model X.prog X.w) X.A (f v u) Q X.xe i):wpAny (model X.prog X.w) X.A (eval a X.env) (fun v d=>wpAny (model X.prog X.w) X.A (eval b X.env) (fun u e=>wpAny (model X.prog X.w) X.A (f v u) Q X.xe e) X.xe d) X.xe s:=by refine bK (l _ s _ H _ I h) fun v o ⟨x,_,n,_,j⟩=>(bK (m _ _ _ _ _ n j) fun u i ⟨y,_,_,_,_⟩=>?_);grind
def bC(g:iG X (binaryOp op) r)(i:PE X a ta)(j:PE X b tb):PE X (.BinOp a op b pos) (tL r ta tb):=fun d s n H Q I h=>wpAny_BinOp (wC i j I h fun v u l x y m k f e q=>g _ _ _ _ x y v u Q k f e q)
def xV(e:Eo X (unaryOp op) r)(i:PE X a ta):PE X (.UnaryOp op a pos) (K1 r ta):=fun d s l H Q I h=>UnaryOp_ (bK (i _ s _ H _ I h) fun v k ⟨x,_,g,f,j⟩=>e _ _ _ _ x v Q g f j)
def zU{g:Int->Int->Int}(rule:∀(i j:Int)(t u:Tok)(s:Shared)(Q:Value->Shared->Prop)(E:Value->Shared->Prop),C i j->Q (.int (g i j) s.toks) {s with toks:=s.toks+1}->wpAny (model X.prog X.w) X.A (f (.int i t) (.int j u)) Q E s):iG X f (rI C fun i j=>.int (g i j)):=by rintro d s m H x y v u Q I e k ⟨i,j,rfl,rfl,h,q⟩;obtain⟨t,rfl⟩:=e;obtain⟨l,rfl⟩:=k;exact rule i j t _ s _ _ h ⟨.int _,H,I.tok _,⟨_,rfl⟩,q⟩
def zV{g:Int->Int->Int}(rule:∀(i j:Int)(t u:Tok)(s:Shared)(Q:Value->Shared->Prop)(E:Value->Shared->Prop),Q (.int (g i j) s.toks) {s with toks:=s.toks+1}->wpAny (model X.prog X.w) X.A (f (.int i t) (.int j u)) Q E s):iG X f (o3 fun i j=>.int (g i j)):=by rintro d s k H x y v u Q I h e ⟨i,j,rfl,rfl,q⟩;obtain⟨t,rfl⟩:=h;obtain⟨l,rfl⟩:=e;exact rule i j t _ s _ _ ⟨.int _,H,I.tok _,⟨_,rfl⟩,q⟩
def uu{g:Int->Int->Bool}(rule:∀(i j:Int)(t u:Tok)(s:Shared)(Q:Value->Shared->Prop)(E:Value->Shared->Prop),Q (.bool (g i j)) s->wpAny (model X.prog X.w) X.A (f (.int i t) (.int j u)) Q E s):iG X f (o3 fun i j=>.bl (g i j)):=by rintro d s k H x y v u Q I h e ⟨i,j,rfl,rfl,q⟩;obtain⟨t,rfl⟩:=h;obtain⟨l,rfl⟩:=e;exact rule i j t _ s _ _ ⟨.bl _,H,I,rfl,q⟩
def o4(i j:Int):Prop:=0<=j/\j<=1000000/\i.natAbs<2^64
def fQ:iG X (binaryOp .Add) (o3 fun i j=>.int (i+j)):=zV fun _ _ _ _ _ _ _ q=>add_int q
def uv:iG X (binaryOp .Sub) (o3 fun i j=>.int (i-j)):=zV fun _ _ _ _ _ _ _ q=>sub_int q
def gC:iG X (binaryOp .Mod) (rI (fun _ j=>0<j) fun i j=>.int (i%j)):=zU fun i j _ _ _ _ _ d q=>mod_int' (by lia) (by rwa[Int.fmod_eq_emod_of_nonneg i (by lia)])
def vE:iG X (binaryOp .Pow) (rI o4 fun i j=>.int (i^j.toNat)):=zU fun _ _ _ _ _ _ _ d q=>pow_int_small d.1 d.2.1 d.2.2 q
def UK:iG X (binaryOp .LShift) (rI o4 fun i j=>.int (i*2^j.toNat)):=zU fun _ _ _ _ _ _ _ hc q=>lshift_int_small hc.1 hc.2.1 hc.2.2 q
def UL{g:Int->Int}(rule:∀(i:Int)(t:Tok)(s:Shared)(Q:Value->Shared->Prop)(E:Value->Shared->Prop),Q (.int (g i) s.toks) {s with toks:=s.toks+1}->wpAny (model X.prog X.w) X.A (f (.int i t)) Q E s):Eo X f (rU fun i=>.int (g i)):=by rintro d s h H x v Q I e ⟨i,rfl,q⟩;obtain⟨t,rfl⟩:=e;exact rule i t s _ _ ⟨.int _,H,I.tok _,⟨_,rfl⟩,q⟩
def xW:Eo X (unaryOp .USub) (rU fun i=>.int (-i)):=UL fun _ _ _ _ _ q=>neg_int q
noncomputable def qL:V->V->Bool|.non,.non=>true|.non,.int _=>true|.int _,.non=>true|.non,.bl _=>true|.bl _,.non=>true|.non,.str _=>true|.str _,.non=>true|.int _,.int _=>true|.bl _,.bl _=>true|.str _,.str _=>true|.rg _,.rg _=>true|.int _,.str _=>true|.str _,.int _=>true|.bl _,.str _=>true|.str _,.bl _=>true|_,_=>false
def K3:R2:=fun x y H Q=>qL x y=true/\Q (.bl (decide (x=y))) H
def K4:R2:=fun x y H Q=>qL x y=true/\Q (.bl (!decide (x=y))) H
def K5:decide (V.int i=V.int j)=(i==j):=by grind
def K6:decide (V.bl i=V.bl j)=(i==j):=by grind
def K7:decide (V.str i=V.str j)=(i==j):=by grind
def K8:decide (V.rg i=V.rg j)=(i.toList==j.toList):=by rw[wm];simp
def ib(I:Inv X pins σ H s)(q:Q (.bl k) H)(e:k=d):EP X pins σ Q (.bool d) s:=by subst e;exact⟨.bl k,H,I,rfl,q⟩
def kU:iG X (compareOp .Eq) K3:=by rintro o s p H x y v u Q I l d ⟨k,q⟩;cases x with
 |non=>cases l;cases y with|non=>cases d;exact PySem.EqNone.eq_none_none (ib I q (by simp))|bl j=>cases d;exact PySem.EqNone.eq_none_bool (ib I q (by simp))|int j=>obtain⟨g,rfl⟩:=d;exact PySem.EqNone.eq_none_int (ib I q (by simp))|str j=>obtain⟨g,rfl⟩:=d;exact PySem.EqNone.eq_none_str (ib I q (by simp))|_=>exact absurd (show false=true from k) fw
 |bl i=>cases l;cases y with|non=>cases d;exact PySem.EqNone.eq_bool_none (ib I q (by simp))|bl j=>cases d;exact eq_bool (ib I q K6)|str j=>obtain⟨g,rfl⟩:=d;exact PySem.EqMixed.eq_bool_str (ib I q (by simp))|_=>exact absurd (show false=true from k) fw
 |int i=>obtain⟨t,rfl⟩:=l;cases y with|non=>cases d;exact PySem.EqNone.eq_int_none (ib I q (by simp))|int j=>obtain⟨g,rfl⟩:=d;exact eq_int (ib I q K5)|str j=>obtain⟨g,rfl⟩:=d;exact PySem.EqMixed.eq_int_str (ib I q (by simp))|_=>exact absurd (show false=true from k) fw
 |str i=>obtain⟨t,rfl⟩:=l;cases y with|non=>cases d;exact PySem.EqNone.eq_str_none (ib I q (by simp))|bl j=>cases d;exact PySem.EqMixed.eq_str_bool (ib I q (by simp))|int j=>obtain⟨g,rfl⟩:=d;exact PySem.EqMixed.eq_str_int (ib I q (by simp))|str j=>obtain⟨g,rfl⟩:=d;exact eq_str (ib I q K7)|_=>exact absurd (show false=true from k) fw
 |rg i=>obtain⟨t,rfl⟩:=l;cases y with|rg j=>obtain⟨g,rfl⟩:=d;exact W.eq_bytes (ib I q K8)|_=>exact absurd (show false=true from k) fw
 |_=>cases y<;>exact absurd (show false=true from k) fw
def tM:iG X (compareOp .NotEq) K4:=by rintro o s p H x y v u Q I l d ⟨k,q⟩;cases x with
 |non=>cases l;cases y with|non=>cases d;exact PySem.EqNone.ne_none_none (ib I q (by simp))|bl j=>cases d;exact PySem.EqNone.ne_none_bool (ib I q (by simp))|int j=>obtain⟨g,rfl⟩:=d;exact PySem.EqNone.ne_none_int (ib I q (by simp))|str j=>obtain⟨g,rfl⟩:=d;exact PySem.EqNone.ne_none_str (ib I q (by simp))|_=>exact absurd (show false=true from k) fw
 |bl i=>cases l;cases y with|non=>cases d;exact PySem.EqNone.ne_bool_none (ib I q (by simp))|bl j=>cases d;exact ne_bool (ib I q (cK not K6))|str j=>obtain⟨g,rfl⟩:=d;exact PySem.EqMixed.ne_bool_str (ib I q (by simp))|_=>exact absurd (show false=true from k) fw
 |int i=>obtain⟨t,rfl⟩:=l;cases y with|non=>cases d;exact PySem.EqNone.ne_int_none (ib I q (by simp))|int j=>obtain⟨g,rfl⟩:=d;exact ne_int (ib I q (cK not K5))|str j=>obtain⟨g,rfl⟩:=d;exact PySem.EqMixed.ne_int_str (ib I q (by simp))|_=>exact absurd (show false=true from k) fw
 |str i=>obtain⟨t,rfl⟩:=l;cases y with|non=>cases d;exact PySem.EqNone.ne_str_none (ib I q (by simp))|bl j=>cases d;exact PySem.EqMixed.ne_str_bool (ib I q (by simp))|int j=>obtain⟨g,rfl⟩:=d;exact PySem.EqMixed.ne_str_int (ib I q (by simp))|str j=>obtain⟨g,rfl⟩:=d;exact ne_str (ib I q (cK not K7))|_=>exact absurd (show false=true from k) fw
 |rg i=>obtain⟨t,rfl⟩:=l;cases y with|rg j=>obtain⟨g,rfl⟩:=d;exact W.ne_bytes (ib I q (cK not K8))|_=>exact absurd (show false=true from k) fw
 |_=>cases y<;>exact absurd (show false=true from k) fw
def r6:iG X (compareOp .Lt) (o3 fun i j=>.bl (decide (i<j))):=uu fun _ _ _ _ _ _ _ q=>lt_int q
def Ep:iG X (compareOp .LtE) (o3 fun i j=>.bl (decide (i<=j))):=uu fun _ _ _ _ _ _ _ q=>le_int q
def o5:iG X (compareOp .Gt) (o3 fun i j=>.bl (decide (j<i))):=uu fun _ _ _ _ _ _ _ q=>gt_int q
def xX:iG X (compareOp .GtE) (o3 fun i j=>.bl (decide (j<=i))):=uu fun _ _ _ _ _ _ _ q=>ge_int q
def UM:iG X (compareOp .IsNot) (fun x y H Q=>y=.non/\Q (.bl (!decide (x=.non))) H):=by rintro d s g H x y v u Q I f e ⟨rfl,q⟩;cases e;refine isnot_none_gen (ib I q ?_);cases x<;>first|rfl|(obtain⟨t,rfl⟩:=f;rfl)
def isObj:HO->Bool|.lst _=>true|.ins _ _ _=>true|_=>false
noncomputable def r9(b:Expr)(h:autoParam (op≠.In) zam)(h2:autoParam (op≠.NotIn) zam):behindInMarks op b=false:=by
 have d:(op==CmpOp.In)=false:=by cases op<;>first|rfl|simp_all
 have e:(op==CmpOp.NotIn)=false:=by cases op<;>first|rfl|grind
 cases b<;>simp[behindInMarks,d,e]
def UN(g:iG X (compareOp op) r)(j:PE X a ta)(i:PE X b tb)(l:behindInMarks op b=false):PE X (.Compare a [op] [b] pos) (tL r ta tb):=fun d s m H Q I h=>wpAny_Compare1 (wC j i I h fun v u n x y o f k e q=>g _ _ _ _ x y v u Q f k e q) l
def Es(t:TE):zai:=fun d H Q=>t d H fun x e=>∃k,x=.bl k/\Q k e
def o6(j:iG X (compareOp op) r)(m:PE X a ta)(f:PE X b tb)(p:behindInMarks op b=false):PT X (.Compare a [op] [b] pos) (Es (tL r ta tb)):=by intro d s E H Q I h;refine wpAny_isTrue_Compare1 (bK (m _ s _ H _ I h) fun v B ⟨x,_,w,q,l⟩=>bK (f _ _ _ _ _ w l) fun u C ⟨y,_,i,g,n⟩=>bK (j _ _ _ _ x y v u _ i q g n) fun c D ⟨z,_,o,A,k,e,t⟩=>?_) p;subst e;cases A;exact l9 ⟨_,o,t⟩
def zW:(sizeLine:Nat)<2^63:=by decide
def kW(r:Vals [x] us):∃u,us=[u]/\zaf x u:=by cases r with|cons f e=>cases e;simp_all
def xY(r:Vals [x,y] us):∃u e,us=[u,e]/\zaf x u/\zaf y e:=by cases r with|cons h f=>cases f with|cons i g=>cases g;grind
def Et:lD X (.builtin "abs") (fun xs H Q=>∃i,xs=[.int i]/\Q (.int (if i<0 then-i else i)) H):=by rintro d s f H xs g Q I r ⟨i,rfl,q⟩;obtain⟨u,rfl,t,rfl⟩:=kW r;exact call_abs_int fun u e=>⟨.int _,H,I.tok _,⟨_,rfl⟩,q⟩
def K9(f:X.calm=true):lD X (.builtin "max") (fun xs H Q=>∃i j,xs=[.int i,.int j]/\Q (.int (if j>i then j else i)) H):=by
 rintro e s n H xs m Q I r ⟨i,j,rfl,q⟩;obtain⟨u,h,rfl,⟨t,rfl⟩,⟨l,rfl⟩⟩:=xY r;refine max_two_ints (I.ok.hd f) fun o g k=>⟨_,H,I.kept k,?_,q⟩;by_cases d:j>i;.rw[ao d,ao d];exact⟨_,rfl⟩
 .rw[ak d,ak d];exact⟨_,rfl⟩
def Eu(f:X.calm=true):lD X (.builtin "min") (fun xs H Q=>∃i j,xs=[.int i,.int j]/\Q (.int (if j<i then j else i)) H):=by
 rintro e s n H xs m Q I r ⟨i,j,rfl,q⟩;obtain⟨u,h,rfl,⟨t,rfl⟩,⟨l,rfl⟩⟩:=xY r;refine min_two_ints (I.ok.hd f) fun o g k=>⟨_,H,I.kept k,?_,q⟩;by_cases d:j<i;.rw[ao d,ao d];exact⟨_,rfl⟩
 .rw[ak d,ak d];exact⟨_,rfl⟩
end
structure o_(h:Heap)(x dx C:Addr)(mA:Str->Option Value):Prop where
 obj:h.get? x=some (W.instObj C dx)ns:h.Ns1 dx mA
 ne:dx≠x
def UO{h:Heap}(n:h.Ns1 d l):∃od,h.get? d=some od/\∀name,W.lookIn name od=some (l name):=by
 obtain⟨o,j,m,i,k,g,_,c⟩:=n;refine⟨o,i,fun name=>?_⟩;have e:=c name;unfold nsFind findBy at e;rw[<-Array.find?_toList]at e;unfold W.lookIn;rw[k];dsimp;split;.simp_all
 . have a:j.toList.any (·.refKey)=false:=by rw[List.any_eq_false];intro y f;obtain⟨z,t,b⟩:=g y (Array.mem_toList_iff.mp f);simp[DictEntry.refKey,b]
   simp_all
def o_.look(I:o_ h x b C c):∃od,W.InstAt h x (W.instObj C b) C (some od)/\∀name,W.lookIn name od=some (c name):=let⟨_,a,d⟩:=UO I.ns;⟨_,⟨I.obj,rfl,rfl,a⟩,d⟩
section
variable{prog:Program}{w:World}{A:Around}{E:Value->Shared->Prop}{s:Shared}{K:PySem.W.Frag}{x dx C f:Addr}{mA:Str->Option Value}{name:Str}{v:Value}
def UP(X:K.In s.heap)(I:o_ s.heap x dx C mA)(d:W.plainGet K C name=true)(e:W.hasDictIn K C=true)(c:W.findIn K (.ref C) name=some none)(g:mA name=some v)(a:W.handedIn v=true)(h:Q v {s with toks:=s.toks+1}):wpAny (model prog w) A (getAttr (.ref x) name b) Q E s:=let⟨_,J,_⟩:=I.look;W.get_value X J (oO d).1 (W.findObj_own e c rfl (by simp_all)) a h
def UQ(X:K.In s.heap)(I:o_ s.heap x dx C mA)(a:W.plainGet K C name=true)(c:W.findIn K (.ref C) name=some (some (.ref f)))(b:W.isFn K (.ref f)=true)(d:mA name=none)(h:Q (.ref f,[.ref x]) s):wpAny (model prog w) A (getMethod (.ref x) name pl) Q E s:=let⟨_,J,_⟩:=I.look;W.method_fn X J (oO a).1 (oO a).2 c (eR.mp b) (by show(W.lookIn _ _).map _=some _;simp_all) h
def jH(X:K.In s.heap)(I:o_ s.heap x dx C mA)(p:W.findIn K (.ref C) "__setattr__"=some (some (.builtin "object.__setattr__")))(q:W.plainOver K C=true)(l:W.takerIn K C name=some none)(o:W.hasDictIn K C=true)(m:PySem.Within mA ns)(hsz:ns.length<=sizeLine)(h:∀h',o_ h' x dx C (fun y=>if y=name then some v else mA y)->Heap.SameBut dx s.heap h'->Q () {s with heap:=h',toks:=s.toks+2}):wpAny (model prog w) A (setAttr (.ref x) name v) Q E s:=by obtain⟨t,J,z⟩:=I.look;refine W.set_plain X J p (W.osa_open X J q l fun b=>?_);obtain⟨r,k,g⟩:=oH o;refine ah (ax (ah (ah (wpAny_loadPart I.obj (ah (W.Looks.here (oM X k) ?_))))));rw[g];refine ax (ah (ax (ah (wpAny_nsSet1 I.ns fun h' c a=>?_))));obtain⟨u,n,j,e,i,d⟩:=c.count (PySem.Within.cons _ v m);exact ah (wpAny_lookBehind e (by rw[i];exact pastItsLine_dict (bo d (by simp_all))) (ax (h _ ⟨(a.2 _ (aN I.ne)).trans I.obj,c,I.ne⟩ a)))
def UR(X:K.In s.heap)(c:W.makesIn K C=true)(hi:W.findIn K (.ref C) "__init__"=some (some (.ref f)))(d:W.typeIn K (.ref f)=some (.type "function"))(h:codeAny (model prog w) (A.under (.builtin "type.__call__" ⟨.ref C::vs,b⟩)) (.call (.ref f) ⟨.ref (s.heap.objs.size+1)::vs,b⟩) (W.InitBack (s.heap.objs.size+1) R) {s with heap:=(s.heap.push W.emptyDict).push (W.instObj C s.heap.objs.size)}):codeAny (model prog w) A (.call (.ref C) ⟨vs,b⟩) R s:=W.make_core (W.makes_of X c) (W.looks_findIn X hi) (fun a=>W.bind_fn X _ d) (.inl rfl) h
end
noncomputable def f9(f:Str)(v:V):List (Str×V)->List (Str×V)|[]=>[(f,v)]|(g,x)::r=>if g=f then(g,v)::r else(g,x)::f9 f v r
theorem K_(f g:Str)(v:V):∀fs:List (Str×V),(f9 f v fs).lookup g=if g=f then some v else fs.lookup g
 |[]=>by
  show List.lookup g [(f,v)]=_;by_cases h:g=f;.simp_all
  .simp_all|(k,x)::r=>by
  have c:=K_ f g v r;rw[show f9 f v _=(if k=f then(k,v)::r else(k,x)::f9 f v r)from rfl];by_cases b:k=f
  . rw[ao b];by_cases h:g=k;.simp_all
    .simp[List.lookup,(jY.mpr h),ak (fun e:g=f=>h (e.trans b.symm))]
  .grind
theorem Ew(f:Str)(v:V):∀fs:List (Str×V),f∈(f9 f v fs).map (·.1)/\∀g,g∈fs.map (·.1)->g∈(f9 f v fs).map (·.1)
 |[]=>⟨by simp[f9],fun g h=>by simp at h⟩|(k,x)::r=>by
  obtain⟨d,c⟩:=Ew f v r;rw[show f9 f v _=(if k=f then(k,v)::r else(k,x)::f9 f v r)from rfl];by_cases b:k=f;.subst b;simp
  . rw[ak b];refine⟨?_,fun g h=>?_⟩;.rw[bR];simp_all
    . rcases aM.mp h with e|e;.grind
      .grind
theorem K'(f:Str)(v:V):∀fs:List (Str×V),(f9 f v fs).length<=fs.length+1
 |[]=>by simp[f9]|(k,x)::r=>by
  have c:=K' f v r;rw[show f9 f v _=(if k=f then(k,v)::r else(k,x)::f9 f v r)from rfl];by_cases b:k=f;.rw[ao b,fK,fK];lia
  .rw[ak b,fK,fK];lia
def gO.some_of(r:gO (some v) o):∃u,o=some u/\zaf v u:=by cases o with|none=>exact r.elim|some u=>exact⟨u,rfl,r⟩
def gO.none_of(r:gO none o):o=none:=by cases o with|none=>rfl|some u=>exact r.elim
def US(r:zaf v u):W.handedIn u=true:=by cases v with|non=>cases r;rfl|bl b=>cases r;rfl|int i=>obtain⟨t,e⟩:=r;cases e;rfl|str x=>obtain⟨t,e⟩:=r;cases e;rfl|rg b=>obtain⟨t,e⟩:=r;cases e;rfl|wq b=>obtain⟨t,e⟩:=r;cases e;rfl|ref a=>cases r;rfl|ty n=>cases r;rfl
section
variable{P:Program}{w:World}{H H':Hp}{h h':Heap}{a C dx:Addr}{fs Ef:List (Str×V)}
def BQ(c:g_ P w H h)(e:H a=some (.ins C dx fs)):∃b,o_ h a dx C b/\(∀f,gO (fs.lookup f) (b f))/\PySem.Within b (fs.map (·.1))/\fs.length<=1000/\H dx=some (.own a):=let⟨d,z,g,i,_,n,r,q⟩:=(c a _ e);⟨_,⟨i,n,g⟩,r,q,z,d⟩
end
structure dP(K:W.Frag)(C:Addr):Prop where
 pg:W.plainGet K C Str.empty=true
 hd:W.hasDictIn K C=true
 po:W.plainOver K C=true
 sa:W.findIn K (.ref C) "__setattr__"=some (some (.builtin "object.__setattr__"))
def dP.get{K:W.Frag}(c:dP K C)(f:Str):W.plainGet K C f=true:=c.pg
def aB(K:W.Frag)(C:Addr)(f:Str):Prop:=W.findIn K (.ref C) f=some none
def aB.vF{K:W.Frag}(n:aB K C f):W.takerIn K C f=some none:=by unfold W.takerIn;rw[n];rfl
structure Meth(K:W.Frag)(C:Addr)(m:Str)(f:Addr):Prop where
 at_:W.findIn K (.ref C) m=some (some (.ref f))fn:W.isFn K (.ref f)=true
 kp:W.keepIn K (.ref f)=true
section
variable{X:Cx}{pins:List (Addr×Obj)}{σ:zag}{H:Hp}{s:Shared}{a C dx:Addr}{fs:List (Str×V)}{f:Str}{v:V}{A:Around}{E:Value->Shared->Prop}
def UT(I:Inv X pins σ H s)(e:H a=some (.ins C dx fs))(c:dP X.K C)(n:aB X.K C f)(l:fs.lookup f=some v)(h:∀u s',Inv X pins σ H s'->zaf v u->Q u s'):wpAny (model X.prog X.w) A (getAttr (.ref a) f b) Q E s:=by obtain⟨g,O,r,_,_,_⟩:=BQ I.bB e;obtain⟨u,i,d⟩:=gO.some_of (v:=v) (o:=g f) (by grind);exact UP I.h_ O (c.get f) c.hd n i (US d) (h u _ (I.tok _) d)
def La(I:Inv X pins σ H s)(e:H a=some (.ins C dx fs))(c:dP X.K C)(k:Meth X.K C m g)(l:fs.lookup m=none)(h:Q (.ref g,[.ref a]) s):wpAny (model X.prog X.w) A (getMethod (.ref a) m pl) Q E s:=by obtain⟨b,O,r,_,_,_⟩:=BQ I.bB e;have d:b m=none:=gO.none_of (by grind);exact UQ I.h_ O (c.get m) k.at_ k.fn d h
def UU(I:Inv X pins σ H s)(e:H a=some (.ins C dx fs))(c:dP X.K C)(n:aB X.K C f)(G:fs.length<1000)(B:zaf y u)(h:∀s',Inv X pins σ (upd H a (.ins C dx (f9 f y fs))) s'->Q () s'):wpAny (model X.prog X.w) A (setAttr (.ref a) f u) Q E s:=by
 obtain⟨D,O,r,i,_,t⟩:=BQ I.bB e;have m:(fs.map (·.1)).length<=sizeLine:=by rw[aF,fz];lia
 refine jH I.h_ O c.sa c.po n.vF c.hd i m fun p d j=>h _ ?_;have k:∃o,p.get? _=some o:=let⟨o,_,_,x,_⟩:=d.ns;⟨o,x⟩;refine I.write (by rw[e];exact True.intro) (.inr t) (fun b q l z=>(j.2 b l).trans z) k (⟨by rwa[bz O.ne],?_,O.ne,d.obj,_,d.ns,fun g=>?_,fun g w=>?_⟩);.have:=K' f y fs;lia
 . rw[K_];by_cases q:g=f;.rwa[ao q,ao q]
   simp_all
 . by_cases q:g=f;.rw[q];exact(Ew f y _).1
   .refine(Ew f y _).2 g (i g fun z=>w ?_);simp_all
def Inv.made(I:Inv X pins σ H s):Inv X pins σ (upd (upd H s.heap.objs.size (.own (s.heap.objs.size+1))) (s.heap.objs.size+1) (.ins C s.heap.objs.size [])) {s with heap:=(s.heap.push W.emptyDict).push (W.instObj C s.heap.objs.size)}:=by
 have d:(s.heap.push W.emptyDict).get? _=some _:=b7 _ rfl;have i:((s.heap.push W.emptyDict).push (W.instObj C s.heap.objs.size)).get? (s.heap.objs.size+1)=some (W.instObj C s.heap.objs.size):=by have:=b7 (s.heap.push W.emptyDict) (o:=W.instObj C s.heap.objs.size) rfl;simp_all
 have j:(s.heap.push _).Ns _ _:=⟨_,_,_,d,rfl,(fun e g=>absurd g (by simp)),fun _=>rfl⟩;refine(I.laid (o:=.own _) (t':=s.toks) (fun b u q=>aO _ q) (aC _) ⟨_,d⟩).laid (fun b u q=>aO _ q) (lN (iC _ _)) ?_;have c:s.heap.objs.size≠s.heap.objs.size+1:=aY (fx _);refine⟨by rw[bz c,cu],bM _,c,i,_,(Heap.Ns1.of_empty j).at fun o q=>aO _ q,fun _=>True.intro,fun y h=>absurd rfl h⟩
def UW{f:Str}{s:Shared}(c:attributeBase e f env (eval e env)=eval e env)(h:wpAny (model prog w) A (eval e env) (fun o b=>wpAny (model prog w) A (getAttr o f true) Q E b) E s):wpAny (model prog w) A (eval (.Attribute e f pos) env) Q E s:=Attribute_any_ h (by rw[arm_eval_Attribute,c])
end
def uw(K:W.Frag)(g:TE)(f:Str):TE:=fun e H Q=>g e H fun x c=>∃a C d b v,x=.ref a/\c a=some (.ins C d b)/\dP K C/\aB K C f/\b.lookup f=some v/\Q v c
def ju(K:W.Frag)(h g:TE)(f:Str):TS:=fun D b H=>g b H fun y i=>h b i fun x d=>∃a C e c,x=.ref a/\d a=some (.ins C e c)/\dP K C/\aB K C f/\c.length<1000/\D.nx b (upd d a (.ins C e (f9 f y c)))
section
variable{X:Cx}{o e value:Expr}{f:Str}{pos pos' zX:Pos}{ta tv:TE}
def f_(k:PE X e ta)(r:attributeBase e f X.env (eval e X.env)=eval e X.env):PE X (.Attribute e f pos) (uw X.K ta f):=by intro b s w H Q I h;refine UW r (bK (k _ s _ H _ I h) fun u t ⟨x,_,d,p,a,C,_,_,v,g,j,c,n,l,q⟩=>?_);subst g;obtain rfl:u=Value.ref a:=p;exact UT d j c n l fun y z i m=>⟨v,_,i,m,q⟩
def pa(k:PE X o ta)(i:PE X value tv)(j:swapsWith value (some (.Attribute o f pos')) pos.line X.env=pure false):PS X (.Assign [.Attribute o f pos'] value pos) (ju X.K ta tv f):=by intro b s B H D I h;refine plainObj_wpAny_Assign_Attribute (bK (i _ s _ H _ I h) fun u A ⟨y,_,z,t,q⟩=>bK (k _ _ _ _ _ z q) fun r G ⟨x,_,g,m,a,C,_,_,p,w,c,n,l,d⟩=>?_) j;subst p;obtain rfl:r=Value.ref a:=m;exact UU g w c n l t fun E v=>⟨_,_,v,d⟩
end
section
variable{X:Cx}{pins:List (Addr×Obj)}{σ:zag}{H:Hp}{s:Shared}{A:Around}{E:Value->Shared->Prop}{Q:Value->Shared->Prop}{c:Value}{b:Bool}
inductive iH(K:W.Frag)(H:Hp):V->Value->Prop where|non:iH K H .non (.type "NoneType")|bl(x:Bool):iH K H (.bl x) (.type "bool")|int(i:Int):iH K H (.int i) (.type "int")|str(x:Str):iH K H (.str x) (.type "str")|wq(x:UInt64):iH K H (.wq x) (.type "float")|lst{a:Addr}{xs:List V}(e:H a=some (.lst xs)):iH K H (.ref a) (.type "list")|jr{a:Addr}{o:Obj}{xs:List V}(e:H a=some (.jr o (.lst xs))):iH K H (.ref a) (.type "list")|tup{a:Addr}{xs:List V}(e:H a=some (.tup xs)):iH K H (.ref a) (.type "tuple")|dK{a:Addr}{bU:List (Key×V)}(e:H a=some (.dK bU)):iH K H (.ref a) (.type "dict")|dT{a:Addr}{bU:List (List Key×V)}(e:H a=some (.dT bU)):iH K H (.ref a) (.type "dict")|ins{a C dx:Addr}{fs:List (Str×V)}(e:H a=some (.ins C dx fs))(cl:dP K C)(ha:W.findIn K (.ref C) "__class__"=some (some (.builtin "object.__class__")))(hn:W.specialIn K (.builtin "object.__class__") "__get__"=some (some (.builtin "getset_descriptor.__get__")))(UX:W.takesIn K (.builtin "object.__class__")=some true)(hm:W.mroIn K C (.type "object")=some true):iH K H (.ref a) (.ref C)
def UY(I:Inv X pins σ H s)(d:zaf x u)(L:iH X.K H x t)(e:W.kitOne X.K t c=some b)(h:∀tk,Q (.bool b) {s with toks:=tk}):wpAny (model X.prog X.w) A (call (.builtin "isinstance") [u,c]) Q E s:=by cases L with|non=>cases d;exact eQ W.kitx_none I.h_ True.intro e (fun z=>nomatch z) h|bl y=>cases d;exact eQ W.kitx_bool I.h_ True.intro e (fun z=>nomatch z) h|int i=>obtain⟨t,q⟩:=d;cases q;exact eQ W.kitx_int I.h_ True.intro e (fun z=>nomatch z) h|str y=>obtain⟨t,q⟩:=d;cases q;exact eQ W.kitx_str I.h_ True.intro e (fun z=>nomatch z) h|wq y=>obtain⟨t,q⟩:=d;cases q;exact eQ W.kitx_float I.h_ True.intro e (fun z=>nomatch z) h|@lst a k f=>cases d;obtain⟨_,_,n,_,g⟩:=(I.bB a _ f);exact eQ W.kitx_list I.h_ ⟨_,g,rfl⟩ e (fun z=>nomatch z) h|@jr a ob k f=>cases(d);obtain⟨_,_,_,n,_,g⟩:=(I.bB a _ f);exact eQ W.kitx_list I.h_ ⟨_,g,rfl⟩ e (fun z=>nomatch z) h|@tup a k f=>cases d;obtain⟨_,_,_,p⟩:=(I.bB a _ f);obtain⟨o,g,j,_⟩:=p;exact eQ W.kitx_tuple I.h_ ⟨o,g,j⟩ e (fun z=>nomatch z) h|@dK a l f=>cases d;obtain⟨_,_,vs,_,p⟩:=(I.bB a _ f);obtain⟨o,B,R,g,j,_⟩:=p;exact eQ W.kitx_dict I.h_ ⟨o,g,j.1⟩ e (fun z=>nomatch z) h|@dT a l f=>cases d;obtain⟨_,_,k,_,o,B,R,g,j,_⟩:=(I.bB a _ f);exact eQ W.kitx_dict I.h_ ⟨o,g,j.1⟩ e (fun z=>nomatch z) h|@ins a C dx fs f r D M m G=>cases d;obtain⟨mA,O,_⟩:=BQ I.bB f;obtain⟨od,J,_⟩:=O.look;exact eQ (W.kitx_own (r.get _) r.hd D M m G) I.h_ J e (fun z=>nomatch z) h
end
structure cj(k:Nat)(A:Around):Prop where
 hd:A.handled=none
 dp:A.depth+3*k+5<recursionLimit
 un:A.units+16*k+200<cLine
def cj.mono(r:cj k A)(h:j<=k):cj j A:=⟨r.hd,by have:=r.dp;lia,by have:=r.un;lia⟩
theorem cj.deeper(r:cj (k+1) A)(env:Env):cj k (A.deeper env):=⟨r.hd,by have:=r.dp;show A.depth+1+3*k+5<_;lia,by have:=r.un;show A.units+3+16*k+200<_;lia⟩
def UZ{A:Around}{us:List Value}{a:List (Str×Value)}:(A.under (.builtin "type.__call__" ⟨.ref C::us,a⟩)).depth=A.depth+1:=by rfl
def U0{A:Around}:(A.under (.builtin "type.__call__" ⟨.ref C::us,a⟩)).units=A.units+1:=rfl
def cj.make(r:cj (k+1) A)(C:Addr)(us:List Value)(a:List (Str×Value)):cj k (A.under (.builtin "type.__call__" ⟨.ref C::us,a⟩)):=⟨r.hd,by have:=r.dp;rw[UZ];lia,by have:=r.un;rw[U0];lia⟩
theorem cj.depth(r:cj k A):A.depth<recursionLimit:=by have:=r.dp;lia
theorem cj.units(r:cj k A):A.units+64<cLine:=by have:=r.un;lia
def dB:TA:=fun _ H Q=>Q [] H
def gb(f:TE)(e:TA):TA:=fun a H Q=>f a H fun x c=>e a c fun d b=>Q (x::d) b
section
variable{X:Cx}{e:Expr}{es:List Expr}{te:TE}{t:TA}{pos:Pos}
def dW:PA X [] dB:=fun _ _ _ _ H Q I h=>pX ⟨_,H,I,.nil,h⟩
noncomputable def cq(k:PE X e te)(l:PA X es t)(g:autoParam (starEach (e::es) X.env=(false,eval e X.env)::starEach es X.env) zak):PA X (e::es) (gb te t):=by intro pos a s o H Q I h;rw[g];exact ng (bK (k _ s _ H _ I h) fun u n ⟨x,_,i,f,j⟩=>bK (l _ _ _ _ _ _ i j) fun p m ⟨_,_,d,c,b⟩=>⟨_,_,d,.cons f c,b⟩)
def wD(t:TA):TE:=fun c H Q=>t c H fun a b=>a.length<=sizeLine/\∀p,b p=none->Q (.ref p) (upd b p (.tup a))
def zY(t:TA):TE:=fun c H Q=>t c H fun a b=>a.length<=sizeLine/\∀p,b p=none->Q (.ref p) (upd b p (.lst a))
def vG(h:PA X es t):PE X (.Tuple es f pos) (wD t):=by intro a s i H Q I d;refine wpAny_Tuple_spliced (bK (h _ _ s _ H _ I d) fun g j ⟨_,_,c,r,z,q⟩=>⟨by rwa[<-r.length],(⟨.ref _,_,c.laid (fun b u e=>aO _ e) (aC _) ?_,rfl,q _ (c.bB.fresh (aC _))⟩)⟩);exact⟨z,_,r,⟨_,b7 _ rfl,rfl,_,rfl⟩⟩
def ic(h:PA X es t):PE X (.List es pos) (zY t):=by intro a s i H Q I d;refine wpAny_List_spliced (bK (h _ _ s _ H _ I d) fun g f ⟨_,_,c,r,z,q⟩=>⟨by rwa[<-r.length],(⟨.ref _,_,c.laid (fun b u e=>aO _ e) (aC _) ?_,rfl,q _ (c.bB.fresh (aC _))⟩)⟩);exact⟨z,_,0,r,b7 _ rfl⟩
end
abbrev Sp:=List V->Hp->VK->XK->Prop
abbrev jl:=List Env->Hp->Shared->XK->Value->Shared->Prop
structure pd(P:Program)(w:World)(K:W.Frag)(mg:Str->Option Value)(base:Heap)(A:Around)(outer:List Env)(s:Shared)(H:Hp):Prop where
 frames:A.frames=some outer
 mod:Mod K mg base
 bs:∀b o,base.get? b=some o->s.heap.get? b=some o/\H b=none
 ui:base.objs.size<=s.heap.objs.size
 jt:s.heap.FunFrames base outer
 tJ:∀b∈kR outer,H b=none
 bB:g_ P w H s.heap
 bare:AllBare s.gens
 tb:qI K H
def CE(a:List Env)(P:Program)(w:World)(H:Hp)(s:Shared)(Q:VK)(u:Value)(s':Shared):Prop:=∃v b,s'.os=s.os/\AllBare s'.gens/\Un (kR a) [] H b s.heap s'.heap/\g_ P w b s'.heap/\zaf v u/\Q v b
def CR(CX:jl)(a:List Env)(P:Program)(w:World)(H:Hp)(s:Shared)(Q:VK)(E:XK)(r:Result)(s':Shared):Prop:=match r with|.ok (.ret u)=>CE a P w H s Q u s'|.ok _=>False|.error e=>CX a H s E e s'
structure cA(P:Program)(w:World)(K:W.Frag)(mg:Str->Option Value)(base:Heap)(CX:jl)(k:Nat)(f:Addr)(fd:FuncData)(ps:List Str)(sp:Sp):Prop where
 len:∀vs H Q E,sp vs H Q E->vs.length=ps.length
 run:∀(A:Around)(outer:List Env)(s:Shared)(H:Hp)(args:Args)(us:List Value)(vs:List V)(Q:VK)(E:XK),cj k A->pd P w K mg base A outer s H->BindsTo s fd args (ps.zip us)->Vals vs us->sp vs H Q E->codeAny (model P w) A (.call (.ref f) args) (CR CX outer P w H s Q E) s
def pd.make{K:W.Frag}(e:pd P w K mg b A a s H)(C:Addr)(us:List Value)(c:List (Str×Value)):pd P w K mg b (A.under (.builtin "type.__call__" ⟨.ref C::us,c⟩)) a s H:=⟨by first|rfl|(simpa[Around.under,Code.envs,Code.isFrame,pushEnvs]using e.frames),e.mod,e.bs,e.ui,e.jt,e.tJ,e.bB,e.bare,e.tb⟩
section
variable{X:Cx}{pins:List (Addr×Obj)}{σ:zag}{H:Hp}{s s':Shared}
def Inv.ux(I:Inv X pins σ H s):pd X.prog X.w X.K X.mg X.base X.A X.stack s H:=⟨I.ok.frames,I.ok.mod,I.bs,bo I.ok.ui I.sz,I.stack,I.jG,I.bB,I.bare,I.ok.tb.grown I.base.h7⟩
def Inv.after(I:Inv X pins σ H s)(h:CE X.stack X.prog X.w H s Q u s'):EP X pins σ Q u s':=by obtain⟨v,j,os,a,f,c,r,q⟩:=h;obtain⟨i,g,d,t,e⟩:=s';obtain rfl:e=s.os:=os;exact⟨v,_,I.call f c a (fun b z=>absurd z (by simp)),r,q⟩
end
def r_(sp:Sp)(mq:List V)(E:XK)(t:TA):TE:=fun c H Q=>t c H fun a b=>sp (a++mq) b Q E
def wF(C:Addr)(m:Str)(sp:Sp)(mq:List V)(E:XK)(g:TE)(t:TA):TE:=fun d H Q=>g d H fun x c=>∃a f b,x=.ref a/\c a=some (.ins C f b)/\b.lookup m=none/\t d c fun h e=>sp (x::(h++mq)) e Q E
def Ex(C:Addr)(sp:Sp)(mq:List V)(E:XK)(t:TA):TE:=fun d H Q=>t d H fun c b=>∀x a,b x=none->b a=none->a≠x->sp (.ref x::(c++mq)) (upd (upd b a (.own x)) x (.ins C a [])) (fun v e=>v=.non/\Q (.ref x) e) E
def zad(K:W.Frag)(fd:FuncData)(ps:List Str)(ds:List Value):Prop:=∀(s:Shared)(a:List Value),K.In s.heap->(a++ds).length=ps.length->BindsTo s fd ⟨a,[]⟩ (ps.zip (a++ds))
def zad.all{K:W.Frag}(h:∀us:List Value,us.length=ps.length->bindArgs fd ⟨us,[]⟩=pure (ps.zip us)):zad K fd ps []:=fun s us _ a=>by rw[dg]at a⊢;exact .of_eq (h _ a)
def nW(CX:jl)(X:Cx)(E:XK):Prop:=∀(a:List (Addr×Obj))(c:zag)(H:Hp)(s:Shared)(e:Value)(b:Shared),Inv X a c H s->CX X.stack H s E e b->X.xe e b
section
variable{X:Cx}{CX:jl}{k:Nat}{f C:Addr}{fd:FuncData}{ps:List Str}{sp:Sp}{mq:List V}{ds:List Value}{E:XK}{x m:Str}{p pos apos:Pos}{e o:Expr}{es:List Expr}{ta:TE}{t:TA}
def Ey(F:cA X.prog X.w X.K X.mg X.base CX k f fd ps sp)(j:cj k X.A)(q:zad X.K fd ps ds)(hd:Vals mq ds)(n:nW CX X E)(I:Inv X pins σ H s)(r:Vals vs us)(h:sp (vs++mq) H Q E):wpAny (model X.prog X.w) X.A (call (.ref f) us) (EP X pins σ Q) X.xe s:=by
 have c:=r.append hd;have l:(us++ds).length=ps.length:=by rw[<-c.length];exact F.len _ _ _ _ h
 refine gu (gr (F.run _ _ s H _ _ _ Q E j I.ux (q s _ I.h_ l) c h) fun r y a=>?_);cases r with|error e=>exact n _ _ H s e _ I a|ok v=>cases v with|ret u=>exact I.after a|next=>exact False.elim a|brk=>exact False.elim a|cont=>exact False.elim a
def Lb(F:cA X.prog X.w X.K X.mg X.base CX k f fd ps sp)(n:cj k X.A)(w:Gl X x)(u:X.mg x=some (.ref f))(l:W.keepIn X.K (.ref f)=true)(g:zad X.K fd ps ds)(hd:Vals mq ds)(i:nW CX X E)(j:PA X (e::es) t)(b:autoParam ((x==("__debug__":Str))=false) zam)(v:autoParam (starEach (e::es) X.env=(false,eval e X.env)::starEach es X.env) zak)(a:autoParam ((backTo pos (starEach es X.env)).any (·.1)=false) zak):PE X (.Call (.Name x p) (e::es) [] pos) (r_ sp mq E t):=fun c s z H Q I h=>hW (zC I w u (lQ I.ok.mod.vy l (bK (j _ _ s _ H _ I h) fun A y ⟨_,_,d,r,q⟩=>⟨d.h_,Ey F n g hd i d r q⟩) v a) b)
noncomputable def U1(M:PE X o ta)(c:dP X.K C)(n:Meth X.K C m f)(F:cA X.prog X.w X.K X.mg X.base CX k f fd ps sp)(G:cj k X.A)(w:zad X.K fd ps ds)(hd:Vals mq ds)(D:nW CX X E)(y:PA X (e::es) t)(d:autoParam (starEach (e::es) X.env=(false,eval e X.env)::starEach es X.env) zak)(b:autoParam ((backTo pos (starEach es X.env)).any (·.1)=false) zak)(B:autoParam (eval (.Call (.Attribute o m apos) (e::es) [] pos) X.env=(do
 let g<-eval o X.env
 standAt apos.atName let(f,first)<-holding [g] (getMethod g m pl)callWith pos f first (backTo pos (starEach (e::es) X.env)) (backToKw pos (keywordEach [] X.env)))) zak):PE X (.Call (.Attribute o m apos) (e::es) [] pos) (wF C m sp mq E ta t):=by intro v s T H Q I h;refine W.methodCall_KW (bK (M _ s _ H _ I h) fun u R ⟨x,_,j,z,a,_,_,J,L,l,q⟩=>?_) B;subst J;obtain rfl:u=Value.ref a:=z;exact La j L c n l (lQ I.ok.mod.vy n.kp (bK (y _ _ _ _ _ _ j q) fun O S ⟨N,_,i,r,A⟩=>⟨i.h_,Ey (vs:=.ref a::N) F G w hd D i (.cons rfl r) A⟩) d b)
noncomputable def U2(A:PE X o ta)(c:dP X.K C)(i:Meth X.K C m f)(F:cA X.prog X.w X.K X.mg X.base CX k f fd ps sp)(w:cj k X.A)(r:zad X.K fd ps ds)(hd:Vals mq ds)(j:nW CX X E)(y:autoParam (eval (.Call (.Attribute o m apos) [] [] pos) X.env=(do
 let g<-eval o X.env
 standAt apos.atName let(f,first)<-holding [g] (getMethod g m pl)callWith pos f first (backTo pos (starEach [] X.env)) (backToKw pos (keywordEach [] X.env)))) zak):PE X (.Call (.Attribute o m apos) [] [] pos) (wF C m sp mq E ta dB):=by intro d s D H Q I h;refine W.methodCall_KW (bK (A _ s _ H _ I h) fun u B ⟨x,_,b,n,a,_,_,z,v,l,q⟩=>?_) y;subst z;obtain rfl:u=Value.ref a:=n;exact La b v c i l (W.callWith_K0 b.h_ i.kp (Ey (vs:=[.ref a]) F w r hd j b (.cons rfl .nil) q))
structure Mk(K:W.Frag)(C f:Addr):Prop where
 makes:W.makesIn K C=true
 init:W.findIn K (.ref C) "__init__"=some (some (.ref f))fn:W.isFn K (.ref f)=true
 kp:W.keepIn K (.ref C)=true
def U3(M:Mk X.K C f)(F:cA X.prog X.w X.K X.mg X.base CX k f fd ps sp)(z:cj (k+1) X.A)(n:zad X.K fd ps ds)(hd:Vals mq ds)(y:nW CX X E)(I:Inv X pins σ H s)(r:Vals vs us)(h:∀x c,H x=none->H c=none->c≠x->sp (.ref x::(vs++mq)) (upd (upd H c (.own x)) x (.ins C c [])) (fun v L=>v=.non/\Q (.ref x) L) E):wpAny (model X.prog X.w) X.A (call (.ref C) us) (EP X pins σ Q) X.xe s:=by
 have l:=h _ _ (I.bB.fresh (fV _)) (I.bB.fresh (aC _)) (aY (fx _));have b:=Inv.made (C:=C) I;have i:Vals (V.ref (s.heap.objs.size+1)::(vs++mq)) _:=.cons rfl (r.append hd);have G:(Value.ref (s.heap.objs.size+1)::us++ds).length=ps.length:=by have e:=i.length;rw[F.len _ _ _ _ l]at e;grind
 refine gu (UR I.h_ M.makes M.init (eR.mp M.fn) (gr (F.run _ _ _ _ _ _ _ _ E (z.make C _ _) (b.ux.make C _ _) (n _ _ b.h_ G) i l) fun r O a=>?_));cases r with|error e=>exact y _ _ _ _ e _ b a|ok D=>cases D with|ret u=>obtain⟨v,R,q,w,B,J⟩:=b.after a;subst B;exact⟨w,⟨V.ref _,_,q,rfl,J⟩⟩|next=>exact False.elim a|brk=>exact False.elim a|cont=>exact False.elim a
def U4(M:Mk X.K C f)(F:cA X.prog X.w X.K X.mg X.base CX k f fd ps sp)(j:cj (k+1) X.A)(v:Gl X x)(l:X.mg x=some (.ref C))(g:zad X.K fd ps ds)(hd:Vals mq ds)(n:nW CX X E)(i:PA X (e::es) t)(b:autoParam ((x==("__debug__":Str))=false) zam)(u:autoParam (starEach (e::es) X.env=(false,eval e X.env)::starEach es X.env) zak)(a:autoParam ((backTo pos (starEach es X.env)).any (·.1)=false) zak):PE X (.Call (.Name x p) (e::es) [] pos) (Ex C sp mq E t):=fun c s z H Q I h=>hW (zC I v l (lQ I.ok.mod.vy M.kp (bK (i _ _ s _ H _ I h) fun y w ⟨_,_,d,r,q⟩=>⟨d.h_,U3 M F j g hd n d r q⟩) u a) b)
end
def PK(X:Cx)(c:List Keyword)(t:TA):Prop:=∀(b:Pos)(a:List (Addr×Obj))(s:Shared)(d:zag)(H:Hp)(Q:List V->Hp->Prop),Inv X a d H s->t d H Q->wpAny (model X.prog X.w) X.A (evalAll ((backToKw b (keywordEach c X.env)).map (·.2))) (AP X a d Q) X.xe s
section
variable{X:Cx}{CX:jl}{k:Nat}{f C:Addr}{fd:FuncData}{ps ks:List Str}{sp:Sp}{E:XK}{x m:Str}{p pos apos Ez:Pos}{e o:Expr}{es:List Expr}{Lc:List Keyword}{te ta:TE}{t tk:TA}{nm:Option Str}
def U5:PK X [] dB:=fun _ _ _ _ H Q I h=>wpAny_evalAll_nil ⟨_,H,I,.nil,h⟩
def U6(i:PE X e te)(n:PK X Lc t):PK X (⟨nm,e,Ez⟩::Lc) (gb te t):=fun pos a s v H Q I h=>wpAny_evalAll_cons (ah (bK (i _ s _ H _ I h) fun u r ⟨x,_,j,g,l⟩=>ah (fY (ax (bK (n _ _ _ _ _ _ j l) fun w q ⟨_,_,d,c,b⟩=>⟨_,_,d,.cons g c,b⟩)))))
variable{g:List Value->List Value->List Value}{gV:List V->List V->List V}
end
structure bY(N P:List Str)(sc:Scope):Prop where
 kind:sc.kind=.function
 co:sc.isCoroutine=false
 gen:sc.isGenerator=false
 nd:N.Nodup
 pre:N.take P.length=P
 par:∀x∈P,sc.names.lookup x=some .local\/sc.names.lookup x=some .cell
 wG:∀y∈sc.names,y.2≠.free
theorem Ld{kindOf:Str->Option NameKind}:∀{a:List (Str×Value)}{m:Str->Option Value},(∀v,(x,v)∉a)->bindL kindOf a m x=m x
 |[],_,_=>rfl|(n,v)::r,m,h=>by
  unfold bindL;rw[Ld fun w c=>h w (bx _ c)];split
  . have:x≠n:=by grind
    simp_all
  .rfl
theorem Le{kindOf:Str->Option NameKind}:∀{a:List (Str×Value)}{m:Str->Option Value},(∀v,(x,v)∉a)->bindC kindOf a m x=m x
 |[],_,_=>rfl|(n,v)::r,m,h=>by
  unfold bindC;rw[Le fun w c=>h w (bx _ c)];split;.rfl
  . have:x≠n:=by grind
    simp_all
theorem Lf{kindOf:Str->Option NameKind}:∀{P:List Str}{vs:List Value}{i:Nat}{m:Str->Option Value},P.Nodup->P[i]?=some x->vs[i]?=some v->kindOf x=some .local->bindL kindOf (P.zip vs) m x=some v|[],_,_,_,_,h,_,_=>by simp at h|_::_,[],_,_,_,_,h,_=>by simp at h|p::P,w::vs,0,m,c,d,b,e=>by simp at d b;subst d;subst b;show bindL _ ((p,w)::P.zip _) m p=_;unfold bindL;rw[Ld fun v f=>(dQ.mp c).1 (dR f).1,ao e];simp|p::P,w::vs,i+1,m,c,d,b,e=>by show bindL _ ((p,w)::P.zip _) m x=_;exact Lf (i:=i) (dQ.mp c).2 (by simp_all) (by simp_all) e
theorem Lg{kindOf:Str->Option NameKind}:∀{P:List Str}{vs:List Value}{i:Nat}{m:Str->Option Value},P.Nodup->P[i]?=some x->vs[i]?=some v->kindOf x≠some .local->bindC kindOf (P.zip vs) m x=some v|[],_,_,_,_,h,_,_=>by simp at h|_::_,[],_,_,_,_,h,_=>by simp at h|p::P,w::vs,0,m,c,e,b,d=>by simp at e b;subst e;subst b;show bindC _ ((p,w)::P.zip _) m p=_;unfold bindC;rw[Le fun v f=>(dQ.mp c).1 (dR f).1,ak d];simp|p::P,w::vs,i+1,m,c,e,b,d=>by show bindC _ ((p,w)::P.zip _) m x=_;exact Lg (i:=i) (dQ.mp c).2 (by simp_all) (by simp_all) d
noncomputable def start(N:List Str)(vs:List V):zag:=vs.map some++List.replicate (N.length-vs.length) none
noncomputable def nF(CX:jl)(P:Program)(w:World)(K:W.Frag)(mg:Str->Option Value)(d:Heap)(N:List Str)(b:Str)(scope:Scope)(f:Addr)(g:Value)(A:Around)(a:List Env)(s:Shared)(H:Hp)(E:XK):Cx where prog:=P;w:=w;K:=K;mg:=mg;base:=d;A:=A.deeper (envOfC b scope s.heap.objs.size f g);N:=N;fA:=s;qJ:=H;env:=envOfC b scope s.heap.objs.size f g;outer:=a;stack:=envOfC b scope s.heap.objs.size f g::a;ex:=[];calm:=true;fn:=fun _=>true;pn:=[];xe:=fun e h=>wpAny (model P w) (A.deeper (envOfC b scope s.heap.objs.size f g)) (leaving (envOfC b scope s.heap.objs.size f g) e) (fun _ c=>CX a H s E e c) (fun i c=>CX a H s E i c) h
def Lh{a:Scope}(h:a.names.lookup x=some .cell):∃c,(cellsFrom n a.names []).lookup x=some c:=Option.isSome_iff_exists.mp (oI _ n [] (.inl h))
def U7{K:W.Frag}(S:bY N ps scope)(hd:A.handled=none)(d:pd P w K mg l A j s H)(U:vs.length=ps.length)(r:Vals vs us)(x:InCallC s s.heap.objs.size (bindL (envOfC g scope s.heap.objs.size f C).kindOf (ps.zip us) fun _=>none) (cellsFrom (s.heap.objs.size+1) scope.names []) (bindC (envOfC g scope s.heap.objs.size f C).kindOf (ps.zip us) fun _=>none) L):Inv (nF CX P w K mg l N g scope f C A j s H E) [] (start N vs) H L:=by
 have Q:ps.length<=N.length:=by have:=cK List.length S.pre;grind
 obtain⟨G,R,rfl,I⟩:=x.done;have n:∀b,b∉(nF CX P w K mg l N g scope f C A j s H E).ex:=fun b z=>absurd (show b∈[]from z) (by simp);refine⟨⟨d.mod,S.kind,rfl,rfl,aC _,fun y z c G m=>?_,fun y o=>?_,fun y c _ h=>?_,fun _=>hd,Around.frames_deeper d.frames,.inr ⟨rfl,rfl⟩,fun b z=>absurd z (n b),d.bs,d.ui,fun b _ _=>n b,fun b z=>absurd z (n b),d.jt,d.tJ,d.tb⟩,rfl,d.bare,Un.kept I,⟨_,x.toInCall.ns,fun i y v G m T=>?_⟩,fun y c h=>⟨_,x.cell y c h⟩,d.bB.fresh (aC _),fun y c h=>?_,fun p t=>absurd (show p∈[]from t) (by simp),d.bB.kept I,?_⟩;.exact name_of_addr x.apart (fX G) (fX m)
 . rcases o with o|o;.exact Lh o
   .exact absurd rfl (S.wG _ (fX o))
 .exact gm (x.above y c (fX h))
 . have D:i<vs.length:=by
    unfold start at m;by_cases D:i<vs.length;.exact D
    .rw[jk (by simp_all),lq]at m;simp_all
   have M:vs[i]?=some v:=by unfold start at m;rw[fm (by simpa using D),bX]at m;cases e:vs[i]? with|none=>simp_all|some a=>rw[e]at m;cases m;rfl
   obtain⟨u,J,O⟩:=r.get M;have t:ps[i]?=some y:=by rwa[<-S.pre,List.getElem?_take_of_lt (by lia)]
   have B:ps.Nodup:=by rw[<-S.pre];exact S.nd.sublist (List.take_sublist _ _)
   refine⟨u,O,?_⟩;rcases S.par y (eL t)with k|k;.exact .inl ⟨k,Lf B t J k⟩
   .obtain⟨c,e⟩:=Lh k;refine .inr ⟨.inl k,c,e,?_⟩;have q:=x.cell y c e;rwa[Lg B t J (by show scope.names.lookup y≠_;rw[k];decide)]at q
 .exact d.bB.fresh (gm (x.above y c (fX h)))
 .unfold start;show _=N.length;rw[eJ,aF,List.length_replicate];lia
def BR{K:W.Frag}{X kV C Y d ct oc:Value}(lk:K.lookup f=some ⟨oc,od,.func (W.fnOf name a g j scope X kV C Y an d ct),uy⟩)(L:W.codeIn K d a=true)(S:bY N ps scope)(z:∀vs H Q E,sp vs H Q E->vs.length=ps.length)(m:∀(A:Around)(c:List Env)(s:Shared)(H:Hp)(vs:List V)(Q:VK)(E:XK),cj k (A.deeper (envOfC a scope s.heap.objs.size f d))->sp vs H Q E->∃t,mm (nF CX P w K mg i N a scope f d A c s H E) j t/\t {nx:=fun _ H'=>Q .non H',rt:=Q} (start N vs) H):cA P w K mg i CX (k+1) f (W.fnOf name a g j scope X kV C Y an d ct) ps sp:=by
 refine⟨z,fun A c s H args us vs Q E M G hb r B=>?_⟩;have T:=G.mod.vy.keeps fun b o e=>(G.bs b o e).1;have l:∀y∈ps.zip us,scope.names.lookup y.1=some .local\/(scope.names.lookup y.1=some _/\((cellsFrom (s.heap.objs.size+1) _ []).lookup y.1).isSome=true):=fun⟨n,v⟩ hy=>by
  rcases S.par n (dR hy).1 with q|q;.grind
  .exact .inr ⟨q,oI _ _ _ (.inl q)⟩
 refine codeAny_call_function M.depth (T _ _ lk) rfl S.co S.gen rfl (W.codeRec_of T L) (hb _ _ _ _ (wpAny_newFunctionEnv_cells S.kind l fun env he s1 x=>?_));subst he;refine⟨(G.mod.nolimit.keeps fun b o e=>(G.bs b o e).1).keeps x.toInCall.keep,codeAny_func ?_⟩;obtain⟨t,ht,hq⟩:=m A _ s H _ Q E (M.deeper _) B;have I:Inv (nF CX P w K _ _ N _ _ f _ A _ s H E) _ _ H _:=U7 S M.hd G (z _ _ _ _ B) r x;refine dz (ht _ _ _ H _ I hq) (fun fl R p=>?_) fun e R p=>p;have D:∀{h:zag}{H':Hp}{v:V}{u:Value},Inv (nF CX P w K mg i N a scope f d A c s H E) [] h _ R->zaf v u->Q v _->CE _ P w H s Q u _:=fun{h H' v u} J O q=>⟨v,H',J.os,J.bare,J.base,J.bB,O,q⟩;cases fl with|ret u=>obtain⟨v,h,H',J,O,q⟩:=p;exact D J O q|next=>obtain⟨h,H',J,q⟩:=p;exact D (v:=V.non) J rfl q|brk=>obtain⟨_,_,_,q⟩:=p;exact False.elim q|cont=>obtain⟨_,_,_,q⟩:=p;exact False.elim q
section
variable{X:Cx}{x:Str}{p pos:Pos}{e:Expr}{es:List Expr}{t:TA}{id T:String}{r:List V->Hp->VK->Prop}
def qs(r:List V->Hp->VK->Prop)(t:TA):TE:=fun c H Q=>t c H fun a b=>r a b Q
def tN(m:lD X (.builtin id) r)(n:Gl X x)(q:X.mg x=none)(g:bootBuiltins x=some (.builtin id))(k:PA X (e::es) t)(o:autoParam (x≠"__name__") zam)(b:autoParam ((x==("__debug__":Str))=false) zam)(d:autoParam (starEach (e::es) X.env=(false,eval e X.env)::starEach es X.env) zak)(a:autoParam ((backTo pos (starEach es X.env)).any (·.1)=false) zak):PE X (.Call (.Name x p) (e::es) [] pos) (qs r t):=fun c s l H Q I h=>hW (nV I n q g (PyProof.Rows.callWith_builtin1 (bK (k _ _ s l H _ I h) fun u v ⟨_,_,i,f,j⟩=>m _ _ _ _ _ _ Q i f j) d a) o b)
def nG(l:lD X (.type T) r)(m:Gl X x)(o:X.mg x=none)(g:bootBuiltins x=some (.type T))(j:PA X (e::es) t)(n:autoParam (x≠"__name__") zam)(b:autoParam ((x==("__debug__":Str))=false) zam)(d:autoParam (starEach (e::es) X.env=(false,eval e X.env)::starEach es X.env) zak)(a:autoParam ((backTo pos (starEach es X.env)).any (·.1)=false) zak):PE X (.Call (.Name x p) (e::es) [] pos) (qs r t):=fun c s u H Q I h=>hW (nV I m o g (ew (bK (j _ _ s _ H _ I h) fun v q ⟨_,_,i,f,k⟩=>l _ _ _ _ _ _ Q i f k) d a) n b)
end
end L2
open L2
namespace HT
section
variable {prog : Program} {w : World} {A : Around} {E : Value->Shared->Prop} {s : Shared}
def uz(p:IsTup s.heap t vs.toArray)(o:IsTup s.heap b ws.toArray)(r:vs≠[])(h1:ws=[]->Q (.ref t) s)(h2:ws≠[]->Q (.ref s.heap.objs.size) {s with heap:=s.heap.push {cls:=.type "tuple",data:=.seq (vs++ws).toArray}})(hsz:vs.length+ws.length<=sizeLine):wpAny (model prog w) A (binaryOp .Add (.ref t) (.ref b)) Q E s:=by
 obtain⟨⟨i,q,g,v⟩,c,j,n,k⟩:=id p;obtain⟨⟨h,m,data2,l⟩,a,e,u,d⟩:=id o;subst j k e d;by_cases f:ws=[];.exact concat_meets ⟨_,c,rfl⟩ ⟨_,a,rfl⟩ noFill_tuple_add seq_tuple_add oF oB (oA _ _) (tuple_addW1 t b _ _ n _ _ _ _ _ (by simp_all) (by simp[f])) ⟨c,a,h1 f⟩
 .refine concat_meets ⟨_,c,rfl⟩ ⟨_,a,rfl⟩ noFill_tuple_add seq_tuple_add oF oB (oA _ _) (tuple_addW2 t b _ _ n _ _ _ _ _ (by simp_all) (by grind) (by trivial)) ⟨c,a,?_⟩;simp_all
noncomputable def lE(n d:Nat):Option Int->Nat|none=>d|some v=>if v<0 then(v+(n:Int)).toNat else min v.toNat n
end
end HT
namespace L2
abbrev TO:=zag->Hp->(Option Int->Hp->Prop)->Prop
def PO(X:Cx)(e:Option Expr)(t:TO):Prop:=∀(a:List (Addr×Obj))(s:Shared)(b:zag)(H:Hp)(Q:Option Int->Hp->Prop),Inv X a b H s->t b H Q->wpAny (model X.prog X.w) X.A (evalPart e X.env) (fun u d=>∃o c,Inv X a b c d/\IsPart u o/\Q o c) X.xe s
def Li:TO:=fun _ H Q=>Q none H
def Lj(t:TE):TO:=fun a H Q=>t a H fun x b=>∃i,x=.int i/\Q (some i) b
section
variable{X:Cx}{e:Expr}{te:TE}{lo hi:Option Expr}{tl th:TO}{pos p2:Pos}
def EA:PO X none Li:=fun a s b H Q I h=>ax ⟨_,H,I,.none,h⟩
def sb(h:PE X e te):PO X (some e) (Lj te):=by intro a s j H Q I b;refine bK (h _ s _ H _ I b) fun u g ⟨x,_,f,d,c⟩=>?_;obtain⟨i,rfl,q⟩:=c;obtain⟨t,rfl⟩:=d;exact⟨_,_,f,.int i t,q⟩
def Lk(X:Cx)(r:V->Option Int->Option Int->Hp->VK->Prop):Prop:=∀(a:List (Addr×Obj))(s:Shared)(f:zag)(H:Hp)(x:V)(v d c:Value)(lo hi:Option Int)(b:Addr)(Q:VK),Inv X a f H s->zaf x v->s.heap.IsSliceOf b d c .none->IsPart d lo->IsPart c hi->r x lo hi H Q->∃T id,typeLookup (.type T) "__getitem__"=pure (some (.builtin id))/\s.TypeIs v T/\wpAny (model X.prog X.w) X.A (getItem v (.ref b)) (EP X a f Q) X.xe s
def Ll(r:V->Option Int->Option Int->Hp->VK->Prop)(te:TE)(tl th:TO):TE:=fun a H Q=>te a H fun x d=>tl a d fun l b=>th a b fun u c=>r x l u c Q
def wH(f:Lk X r)(D:PE X e te)(z:PO X lo tl)(C:PO X hi th):PE X (.Subscript e (.Slice lo hi none p2) pos) (Ll r te tl th):=by intro c s G H Q I h;refine Subscript_ (bK (D _ s _ H _ I h) fun v J ⟨x,_,j,t,g⟩=>(wpAny_Slice (bK (z _ _ _ _ _ j g) fun y L ⟨l,_,m,i,k⟩=>bK (C _ _ _ _ _ m k) fun p a ⟨u,_,w,n,B⟩=>(ax ?_))));have o:Inv X _ _ _ {a with heap:=a.heap.push {cls:=.type "slice",data:=.fields #[y,p,.none]}}:=w.kept fun b M q=>aO _ q;obtain⟨T,id,A,d,E⟩:=f _ _ _ _ x v _ _ l u _ Q o t (Heap.IsSliceOf.new ..) i n B;exact tail_any d A E rfl
def sd(xs:List V)(lo hi:Option Int):List V:=(xs.drop (HT.lE xs.length 0 lo)).take (HT.lE xs.length xs.length hi-HT.lE xs.length 0 lo)
def U8(xs:List V)(lo hi:Option Int):(sd xs lo hi).length<=xs.length:=by unfold sd;rw[qi,rX];lia
def U9(K:W.Frag):R2:=fun x y H Q=>∃a b d c,x=.ref a/\y=.ref b/\kH K H a d/\kH K H b c/\d≠[]/\d.length+c.length<=sizeLine/\(c=[]->Q (.ref a) H)/\(c≠[]->∀p,H p=none->Q (.ref p) (upd H p (.tup (d++c))))
def Vals.jI(r:Vals xs us):us=[]↔xs=[]:=by cases r with|nil=>simp|cons _ _=>simp
def U_:iG X (binaryOp .Add) (U9 X.K):=by rintro g s t H x y v u Q I n h ⟨a,b,C,A,rfl,rfl,k,o,i,B,j,l⟩;cases n;cases h;obtain⟨m,d,p,_⟩:=I.tuple k;obtain⟨f,c,p2,_⟩:=I.tuple o;refine HT.uz p p2 (fun z=>i (d.jI.mp z)) (fun z=>⟨.ref a,H,I,rfl,j (c.jI.mp z)⟩) (fun z=>(⟨.ref _,_,I.laid (fun b r q=>aO _ q) (aC _) ?_,rfl,l (fun w=>z (c.jI.mpr w)) _ (I.bB.fresh (aC _))⟩)) (by rwa[<-d.length,<-c.length]);exact⟨by simp_all,_,d.append c,IsTup.new _ _⟩
end
noncomputable def ie(n:Nat)(i:Int):Option Nat:=if 0<=i then(if i<n then some i.toNat else none)else if-(n:Int)<=i then some (i+n).toNat else none
def iI{α:Type}(xs:List α)(i:Int):Option α:=(ie xs.length i).bind fun j=>xs[j]?
def Lm(h:ie n i=some j):seqIndex? i n=some j/\j<n/\-(n:Int)<=i/\i<n:=by
 unfold ie at h;by_cases b:0<=i
 . rw[ao b]at h;by_cases a:i<n;.rw[ao a]at h;have e:=dU h;exact⟨by rw[seqIndex_of b a,e],by lia,by lia,a⟩
   simp_all
 . rw[ak b]at h;by_cases a:-n<=i;.rw[ao a]at h;have e:=dU h;exact⟨by rw[lU (by lia) a,e],by lia,a,by lia⟩
   simp_all
def EB(h:iI xs i=some v):∃j,seqIndex? i xs.length=some j/\xs[j]?=some v/\j<xs.length/\-(xs.length:Int)<=i/\i<xs.length:=by unfold iI at h;cases e:ie xs.length i with|none=>simp_all|some j=>obtain⟨a,d,b,c⟩:=Lm e;simp_all
def mu{xs:List α}{j:Nat}{v:α}(h:xs[j]?=some v):iI xs (j:Int)=some v:=by
 have a:=(bV.mp h).1;have e:ie xs.length j=some j:=by unfold ie;rw[ao (by lia),ao (by lia)];simp
 unfold iI;simp_all
def EC(b:Expr):Prop:=∀o i,subscripted b false o i=operate [o,i] (getItem o i)
def ED(X:Cx)(r:R2):Prop:=∀(c a:Expr)(b:List (Addr×Obj))(s:Shared)(d:zag)(H:Hp)(x y:V)(v u:Value)(Q:VK),Inv X b d H s->zaf x v->zaf y u->r x y H Q->subscripted a false v u=operate [v,u] (getItem v u)->wpAny (model X.prog X.w) X.A (subscriptTail c a v u) (EP X b d Q) X.xe s
def Ln(X:Cx)(id:String)(r:V->List V->Hp->VK->Prop):Prop:=∀(a:List (Addr×Obj))(s:Shared)(d:zag)(H:Hp)(x:V)(b:List V)(v:Value)(c:List Value)(Q:VK),Inv X a d H s->zaf x v->Vals b c->r x b H Q->wpAny (model X.prog X.w) X.A (call (.builtin id) (v::c)) (EP X a d Q) X.xe s
section
variable{X:Cx}{a b:Expr}{ta tb:TE}{pos:Pos}
def EE{r:R2}(f:ED X r)(i:PE X a ta)(j:PE X b tb)(g:EC b):PE X (.Subscript a b pos) (tL r ta tb):=fun c s n H Q I h=>Subscript_ (wC i j I h fun v u l x y m k e d q=>f a b _ _ _ _ x y v u Q k e d q (g _ _))
def qM(K:W.Frag):R2:=fun x y H Q=>∃p c i v,x=.ref p/\y=.int i/\eE K H p c/\iI c i=some v/\Q v H
def wI(K:W.Frag):R2:=fun x y H Q=>∃p c i v,x=.ref p/\y=.int i/\kH K H p c/\iI c i=some v/\Q v H
def U':ED X (qM X.K):=by
 rintro h g n s T H x y v u Q I A J ⟨p,L,i,z,rfl,rfl,D,E,q⟩ m;cases A;obtain⟨t,rfl⟩:=J;obtain⟨f,r,d,O⟩:=I.list D;obtain⟨j,l,o,R,C,G⟩:=EB E;obtain⟨w,S,e⟩:=r.get o;have N:=r.length;have M:=zW;have c:EP X _ _ Q w s:=⟨z,H,I,e,q⟩;by_cases k:0<=i
 . have B:i.toNat=j:=by rw[seqIndex_of k G]at l;simp_all
   exact item_listR d.isList k (by lia) (by simp_all) c m
 . have B:(i+f.toArray.size).toNat=j:=by rw[lU (by lia) C]at l;simp_all
   exact subscriptTail_builtinR d.isList.typeIs slot_list_getitem.lookup (wpAny_getItem_list_neg d.isList (by lia) (by simp_all) (by lia) (by simp_all) ⟨rfl,c⟩) m
def Lo:ED X (wI X.K):=by rintro f e h s O H x y v u Q I m n ⟨p,E,i,z,rfl,rfl,o,C,q⟩ B;cases m;obtain⟨t,rfl⟩:=n;obtain⟨A,r,g,J⟩:=I.tuple o;obtain⟨j,G,k,M,N,D⟩:=EB C;obtain⟨w,l,d⟩:=r.get k;have L:=zW;have c:EP X _ _ Q w s:=⟨z,H,I,d,q⟩;exact subscriptTail_builtinR g.typeIs slot_tuple_getitem.lookup (getItem_tuple g (by lia) (by lia) (by rwa[cV,<-r.length]) (by simpa using l) ⟨rfl,c⟩) B
def Va(its:List Value)(n j:Nat)(u:Value):Obj.mapSeq (·.setIfInBounds j u) {cls:=.type "list",data:=.seq its.toArray n}={cls:=.type "list",data:=.seq (its.set j u).toArray n}:=by simp[Obj.mapSeq]
theorem Inv.lst{pins:List (Addr×Obj)}{σ:zag}{H:Hp}{s:Shared}{p:Addr}{xs:List V}(I:Inv X pins σ H s)(h:H p=some (.lst xs)):∃(its:List Value)(n:Nat),Vals xs its/\s.heap.get? p=some {cls:=.type "list",data:=.seq its.toArray n}/\xs.length<=sizeLine:=by obtain⟨z,its,n,r,e⟩:=I.bB p _ h;simp_all
def Inv.wJ{its qN:List Value}(I:Inv X pins σ H s)(h:H p=some (.lst xs))(i:s.heap.get? p=some {cls:=.type "list",data:=.seq its.toArray n})(c:f {cls:=.type "list",data:=.seq its.toArray n}={cls:=.type "list",data:=.seq qN.toArray g})(r:Vals ys qN)(hz:ys.length<=sizeLine)(t:Nat):Inv X pins σ (upd H p (.lst ys)) {s with heap:=s.heap.update p f,toks:=t}:=by
 have e:(s.heap.update p f).get? p=some {cls:=.type "list",data:=.seq qN.toArray g}:=by rw[jh f i (by rw[c]<;>rfl),c]
 refine I.write (by rw[h];trivial) (.inl rfl) (fun b u d q=>(fH _ _ (aN d)).trans q) ⟨_,e⟩ ?_;exact⟨hz,_,_,r,e⟩
def BS:V->V->V->Hp->(Hp->Prop)->Prop:=fun o i v H Q=>∃p c k j,o=.ref p/\i=.int k/\H p=some (.lst c)/\ie c.length k=some j/\Q (upd H p (.lst (c.set j v)))
def wK:wz X BS:=by
 rintro w s G H o i v M L u Q I C x z ⟨p,E,k,j,rfl,rfl,f,A,q⟩;cases C;obtain⟨t,rfl⟩:=x;obtain⟨c,n,r,d,D⟩:=I.lst f;obtain⟨g,N,B,y⟩:=Lm A;have m:=r.length;have J:=zW;have h:Inv X _ _ _ {s with heap:=s.heap.update p _}:=I.wJ f d (Va _ n j u) (r.set z j) (by simp_all) _;by_cases l:0<=k
 . have e:k.toNat=j:=by rw[seqIndex_of l y]at g;simp_all
   exact W.ki_setAt d l (by lia) (by rwa[cV,<-m]) (by rw[e];exact⟨_,h,q⟩)
 . have e:(k+c.toArray.size).toNat=j:=by rw[lU (by lia) B]at g;simp_all
   exact W.ki_setBack d (by lia) (by rwa[cV,<-m]) (by lia) (by rw[e];exact⟨_,h,q⟩)
def Vb(lo hi:Option Int)(n:Nat):(sliceBounds lo hi none n).1=((HT.lE n 0 lo:Nat):Int)/\(sliceBounds lo hi none n).2.1=((HT.lE n n hi:Nat):Int)/\(sliceBounds lo hi none n).2.2=1:=by
 refine⟨?_,?_,rfl⟩;.cases lo with|none=>rfl|some i=>simp[sliceBounds,HT.lE];grind
 .cases hi with|none=>rfl|some i=>simp[sliceBounds,HT.lE,show 1>0 by decide];grind
def Vc(its:List Value)(lo hi:Option Int):slicePick its.toArray lo hi none=((its.drop (HT.lE its.length 0 lo)).take (HT.lE its.length its.length hi-HT.lE its.length 0 lo)).toArray:=by obtain⟨c,e,d⟩:=Vb _ _ _;unfold slicePick;rw[c,e,d];simp only[sliceRange_one,pick_run]<;>rfl
def zZ(K:W.Frag):V->Option Int->Option Int->Hp->VK->Prop:=fun x lo d H Q=>∃a c,x=.ref a/\eE K H a c/\∀p,H p=none->Q (.ref p) (upd H p (.lst (sd c lo d)))
def wL:Lk X (zZ X.K):=by rintro d s p H x v u t lo n m Q I k j g l ⟨a,w,rfl,h,q⟩;cases k;obtain⟨f,r,e,i⟩:=I.list h;have c:=r.length;refine⟨_,_,slot_list_getitem.lookup,e.isList.typeIs,(wpAny_getItem_list_slice e.isList j g l .none (by simp) ?_ (by simp_all))⟩;rw[Vc,<-c];refine⟨.ref _,_,I.laid (fun b o q=>aO _ q) (aC _) ?_,rfl,q _ (I.bB.fresh (aC _))⟩;exact⟨bo (U8 _ _ _) i,_,0,(r.drop _).take _,b7 _ rfl⟩
def uA:V->Bool|.non=>true|.bl _=>true|.int _=>true|.str _=>true|_=>false
noncomputable def tO:V->V->Bool|.non,.non=>true|.bl a,.bl b=>a==b|.bl a,.int b=>(if a then 1 else 0)==b|.int a,.bl b=>a==(if b then 1 else 0)|.int a,.int b=>a==b|.str a,.str b=>a==b|_,_=>false
def Vd(j:zaf y u)(c:zaf x v)(k:uA y=true)(i:uA x=true):SeqAt.EqAt A s u v (tO y x):=by cases y with
 |non=>cases j;cases x with|non=>cases c;exact SeqAt.EqAt.same _|bl b=>cases c;exact SeqAt.EqAt.none_bool b|int b=>obtain⟨t,rfl⟩:=c;exact SeqAt.EqAt.none_int b t|str b=>obtain⟨t,rfl⟩:=c;exact SeqAt.EqAt.none_str b t|_=>exact absurd (show false=true from i) fw
 |bl a=>cases j;cases x with|non=>cases c;exact SeqAt.EqAt.bool_none a|bl b=>cases c;exact SeqAt.EqAt.bool_bool a b|int b=>obtain⟨t,rfl⟩:=c;exact SeqAt.EqAt.bool_int a b t|str b=>obtain⟨t,rfl⟩:=c;exact SeqAt.EqAt.bool_str a b t|_=>exact absurd (show false=true from i) fw
 |int a=>obtain⟨g,rfl⟩:=j;cases x with|non=>cases c;exact SeqAt.EqAt.int_none a g|bl b=>cases c;exact SeqAt.EqAt.int_bool a g b|int b=>obtain⟨t,rfl⟩:=c;exact SeqAt.EqAt.int_int a g b t|str b=>obtain⟨t,rfl⟩:=c;exact SeqAt.EqAt.int_str a g b t|_=>exact absurd (show false=true from i) fw
 |str a=>obtain⟨g,rfl⟩:=j;cases x with|non=>cases c;exact SeqAt.EqAt.str_none a g|bl b=>cases c;exact SeqAt.EqAt.str_bool a g b|int b=>obtain⟨t,rfl⟩:=c;exact SeqAt.EqAt.str_int a g b t|str b=>obtain⟨t,rfl⟩:=c;exact SeqAt.EqAt.str_str a g b t|_=>exact absurd (show false=true from i) fw
 |_=>exact absurd (show false=true from k) fw
def wM(x:V)(u:Value):Bool:=match u with|.none=>tO .non x|.bool b=>tO (.bl b) x|.int i _=>tO (.int i) x|.str z _=>tO (.str z) x|_=>false
def Lp(r:zaf y u)(f:uA y=true):wM x u=tO y x:=by cases y with|non=>cases r;rfl|bl b=>cases r;rfl|int i=>obtain⟨t,rfl⟩:=r;rfl|str z=>obtain⟨t,rfl⟩:=r;rfl|_=>exact absurd f fw
theorem z5:∀{xs:List V}{us:List Value},Vals xs us->xs.all uA=true->us.any (wM x)=xs.any fun y=>tO y x|_,_,.nil,_=>rfl|y::xs,u::us,.cons r t,f=>by rw[k_,kQ]at f;rw[lg,lg,Lp r f.1,z5 t f.2]
theorem z8(e:zaf x v)(g:uA x=true):∀{xs:List V}{us:List Value},Vals xs us->xs.all uA=true->∀u∈us,SeqAt.EqAt A s u v (wM x u)
 |_,_,.nil,_=>fun u d=>by cases d|y::xs,u::us,.cons r t,f=>fun h d=>by
  rw[k_,kQ]at f;rcases aM.mp d with rfl|d;.rw[Lp r f.1];exact Vd r e f.1 g
  .exact z8 e g t f.2 _ d
def BU(x:V)(xs:List V):Bool:=xs.any fun y=>tO y x
def BV(K:W.Frag)(d:Bool):R2:=fun x y H Q=>∃p c,y=.ref p/\(eE K H p c\/kH K H p c)/\uA x=true/\c.all uA=true/\Q (.bl (if d then !BU x c else BU x c)) H
def Lq:iG X (compareOp .In) (BV X.K false):=by
 rintro i s m H x y v u Q I h j ⟨p,n,rfl,d,g,e,q⟩;cases j;rcases d with d|d;.obtain⟨c,r,f,k⟩:=I.list d;refine SeqAt.in_listAt _ f.isList (fun w l=>z8 h g r e w (by simp_all)) ⟨.bl _,H,I,rfl,?_⟩;rwa[show c.toArray.any _=c.any (wM x)by simp,z5 r e]
 .obtain⟨c,r,f,k⟩:=I.tuple d;refine SeqAt.in_tupleAt _ f (fun w l=>z8 h g r e w (by simp_all)) ⟨.bl _,H,I,rfl,?_⟩;rwa[show c.toArray.any _=c.any (wM x)by simp,z5 r e]
def Lr:iG X (compareOp .NotIn) (BV X.K true):=by
 rintro i s m H x y v u Q I h j ⟨p,n,rfl,d,g,e,q⟩;cases j;rcases d with d|d;.obtain⟨c,r,f,k⟩:=I.list d;refine SeqAt.notIn_listAt _ f.isList (fun w l=>z8 h g r e w (by simp_all)) ⟨.bl _,H,I,rfl,?_⟩;rwa[show c.toArray.any _=c.any (wM x)by simp,z5 r e]
 .obtain⟨c,r,f,k⟩:=I.tuple d;refine SeqAt.notIn_tupleAt _ f (fun w l=>z8 h g r e w (by simp_all)) ⟨.bl _,H,I,rfl,?_⟩;rwa[show c.toArray.any _=c.any (wM x)by simp,z5 r e]
def dq:lD X (.builtin "len") (fun xs H Q=>∃p ys,xs=[.ref p]/\(eE X.K H p ys\/kH X.K H p ys)/\Q (.int ys.length) H):=by
 rintro h s m H xs l Q I r ⟨p,ys,rfl,d,q⟩;obtain⟨u,rfl,j⟩:=kW r;cases j;have k:=zW;rcases d with d|d;.obtain⟨e,f,g,i⟩:=I.list d;have c:=f.length;exact Calls.call_len_list g.isList (by simp<;>lia) ⟨.int _,H,I.tok _,⟨s.toks+1,by simp_all⟩,q⟩
 .obtain⟨e,f,g,i⟩:=I.tuple d;have c:=f.length;exact len_tuple g (by simp<;>lia) ⟨.int _,H,I.tok _,⟨s.toks+1,by simp_all⟩,q⟩
def xZ:lD X (.type "list") (fun xs H Q=>∃p ys,xs=[.ref p]/\(eE X.K H p ys\/kH X.K H p ys)/\∀l,H l=none->Q (.ref l) (upd H l (.lst ys))):=by
 rintro y s A H xs B Q I r ⟨p,ys,rfl,h,q⟩;obtain⟨u,rfl,z⟩:=kW r;cases z;have k:∀(c:List _),Vals _ c->ys.length<=sizeLine->∀(f:Heap)(m:Nat),(∀b C,s.heap.get? b=some _->f.get? b=some _)->f.get? _=some {cls:=.type _,dict:=none,data:=.seq _ m,slots:=#[]}->EP X _ _ Q _ {s with heap:=f}:=fun c d j f m i e=>⟨.ref _,_,I.laid i (aC _) (show dE _ _ _ _ _ (.lst _)from⟨j,_,_,d,e⟩),rfl,q _ (I.bB.fresh (aC _))⟩;rcases h with h|h;.obtain⟨c,d,t,j⟩:=I.list h;have g:=d.length;obtain⟨o,x,w,n,v⟩:=t.isList;exact call_list_seq p (.inl rfl) x w v (fun f m i e=>k _ d j _ _ i e) (by simp<;>lia)
 .obtain⟨c,d,t,j⟩:=I.tuple h;have g:=d.length;obtain⟨o,x,w,n,v⟩:=t;exact call_list_seq p (.inr rfl) x w v (fun f m i e=>k _ d j _ _ i e) (by simp<;>lia)
def EF(K:W.Frag)(T:String)(x:V)(H:Hp):Prop:=match x with|.str _=>T="str"|.int _=>T="int"|.ref p=>(T="list"/\∃d,eE K H p d)\/(T="tuple"/\∃o,K.lookup p=some o/\o.cls=.type "tuple"/\o.dict=none)\/(T="dict"/\((∃c,H p=some (.dK c))\/∃c,H p=some (.dT c)))\/(T="set"/\∃S n,H p=some (.set S n))|_=>False
def Ls(I:Inv X pins σ H s)(r:zaf x v)(g:EF X.K T x H):s.TypeIs v T/\∀a,v=.ref a->∃l,s.heap.get? a=some l/\l.dict=none:=by
 cases x with|str z=>obtain⟨t,rfl⟩:=r;cases(g);exact⟨rfl,fun _ e=>nomatch e⟩|int i=>obtain⟨t,rfl⟩:=r;cases g;exact⟨rfl,fun _ e=>nomatch e⟩|ref p=>
 cases r;rcases g with⟨rfl,C,B⟩|⟨rfl,o,d,A,j⟩|⟨rfl,d⟩|⟨rfl,S,n,d⟩;.obtain⟨y,_,m,_⟩:=I.list B;refine⟨m.isList.typeIs,fun a e=>?_⟩;cases e;obtain⟨o,n,e,c,j,_⟩:=m;exact⟨o,e,j⟩
 .refine⟨⟨o,I.h_ p o d,A⟩,fun a e=>?_⟩;cases e;exact⟨o,I.h_ _ o d,j⟩
 . have z:∃o,s.heap.get? p=some o/\o.ExactDict:=by
    rcases d with⟨h,d⟩|⟨h,d⟩;.obtain⟨_,_,_,_,o,_,_,e,f,_⟩:=I.bB p _ d;simp_all
    .obtain⟨_,_,_,_,o,_,_,e,f,_⟩:=I.bB p _ d;exact⟨o,e,f⟩
   obtain⟨o,e,f⟩:=z;refine⟨⟨o,e,f.1⟩,fun a k=>?_⟩;cases k;exact⟨o,e,f.2.1⟩
 .obtain⟨o,_,_,_,e,f,_⟩:=I.bB p _ d;refine⟨⟨o,e,f.1⟩,fun a k=>?_⟩;cases k;exact⟨o,e,f.2.1⟩|_=>exact False.elim g
def z9(K:W.Frag)(T:String)(r:V->List V->Hp->VK->Prop)(d:TE):TE:=fun e H Q=>d e H fun x c=>EF K T x c/\r x [] c Q
def x4(K:W.Frag)(T:String)(r:V->List V->Hp->VK->Prop)(f:TE)(t:TA):TE:=fun c H Q=>f c H fun x d=>EF K T x d/\t c d fun e g=>r x e g Q
variable{o e:Expr}{es:List Expr}{to:TE}{t:TA}{name:Str}{apos dN:Pos}{T id:String}{r:V->List V->Hp->VK->Prop}
noncomputable def Ve(q:PlainAttrs T)(f:Slot T name id)(g:typeOf (.builtin id)=pure (.type "method_descriptor"))(n:Ln X id r)(m:PE X o to)(c:autoParam (attributeBase o name X.env (eval o X.env)=eval o X.env) zak)(d:autoParam ((apos.endLine==dN.line)=true) zak):PE X (.Call (.Attribute o name apos) [] [] dN) (z9 X.K T r to):=by intro k s z H Q I h;refine wpAny_Call_method0_late c d (bK (m _ s _ H _ I h) fun v y ⟨x,_,j,i,p,u⟩=>?_);obtain⟨w,l⟩:=Ls j i p;exact⟨T,_,q,f,g,w,l,wo rfl (PySem.evalArgs_none (n _ _ _ _ x _ v _ Q j i .nil u))⟩
noncomputable def z_(u:PlainAttrs T)(g:Slot T name id)(j:typeOf (.builtin id)=pure (.type "method_descriptor"))(z:Ln X id r)(C:PE X o to)(A:PA X (e::es) t)(c:autoParam (attributeBase o name X.env (eval o X.env)=eval o X.env) zak)(f:autoParam (((backTo dN (starEach (e::es) X.env)).all (fun x=>!x.1)&&(backToKw dN (keywordEach [] X.env)).all (fun x=>x.1.isSome)&&decide ((e::es).length+([]:List Keyword).length+(if([]:List Keyword).isEmpty then 0 else 1)<30))=true) zak)(d:autoParam ((apos.endLine==dN.line)=true) zak)(q:autoParam (starEach (e::es) X.env=(false,eval e X.env)::starEach es X.env) zak)(i:autoParam ((backTo dN (starEach es X.env)).any (·.1)=false) zak):PE X (.Call (.Attribute o name apos) (e::es) [] dN) (x4 X.K T r to t):=by intro n s N H Q I h;refine wpAny_Call_method_late c f d rfl (bK (C _ s _ H _ I h) fun v J ⟨x,_,l,k,B,E⟩=>?_);obtain⟨D,p⟩:=Ls l k B;refine⟨T,_,u,g,j,D,p,?_⟩;have m:=A dN _ _ _ _ _ l E;rw[q]at m⊢;exact wo (by grind) (pV (bK m fun M L ⟨_,_,G,w,y⟩=>z _ _ _ _ x _ v _ Q G k w y))
end
def BX(X:Cx)(id:String)(r:V->List V->Hp->VK->Prop):Prop:=∀(a:List (Addr×Obj))(s:Shared)(d:zag)(H:Hp)(x:V)(b:List V)(v:Value)(c:List Value)(Q:VK),Inv X a d H s->zaf x v->Vals b c->r x b H Q->wpAny (model X.prog X.w) X.A (call (.builtin id) (v::c)) (EP X a d Q) X.xe s
def Vals.one:∀{x:V}{us:List Value},Vals [x] us->∃u,us=[u]/\zaf x u|_,_,.cons r .nil=>⟨_,rfl,r⟩
def Vals.zero:∀{us:List Value},Vals [] us->us=[]|_,.nil=>rfl
theorem Vals.dropLast(h:Vals xs us):Vals xs.dropLast us.dropLast:=by induction h with|nil=>exact .nil|cons r t c=>cases t with|nil=>simp_all|cons q d=>exact .cons r c
theorem Vals.eraseIdx:∀{xs:List V}{us:List Value}(i:Nat),Vals xs us->Vals (xs.eraseIdx i) (us.eraseIdx i)|_,_,_,.nil=>.nil|_,_,0,.cons _ t=>t|_,_,i+1,.cons r t=>.cons r (Vals.eraseIdx i t)
theorem Vals.reverse(h:Vals xs us):Vals xs.reverse us.reverse:=by induction h with|nil=>exact .nil|cons r t b=>rw[lK,lK];exact Vals.append b (.cons r .nil)
section
variable{X:Cx}{pins:List (Addr×Obj)}{σ:zag}{H:Hp}{s:Shared}{l b:Addr}{xs ys zs:List V}
def Inv.se{its qN:List Value}(I:Inv X pins σ H s)(c:H l=some (.lst xs))(e:s.heap.get? l=some {cls:=.type "list",data:=.seq its.toArray n})(g:f its.toArray=qN.toArray)(d:Vals ys qN)(hz:ys.length<=sizeLine):Inv X pins σ (upd H l (.lst ys)) {s with heap:=s.heap.update l (Obj.mapSeq f),toks:=t'}:=by have q:=PySem.IsL.update e f;rw[g]at q;refine I.write (by rw[c];exact trivial) (.inl rfl) (fun i u a h=>(fH _ _ (aN a)).trans h) ⟨_,q⟩ ?_;exact⟨hz,_,_,d,q⟩
def Inv.EG(I:Inv X pins σ H s)(a:Vals ys its)(hz:ys.length<=sizeLine):Inv X pins σ (upd H s.heap.objs.size (.lst ys)) {s with heap:=s.heap.push {cls:=.type "list",data:=.seq its.toArray},toks:=t'}:=I.laid (fun _ _ q=>aO _ q) (aC _) ⟨hz,_,0,a,b7 _ rfl⟩
theorem Inv.fresh(I:Inv X pins σ H s):H s.heap.objs.size=none:=I.bB.fresh (aC _)
def Inv.pe(I:Inv X pins σ H s)(a:H l=some (.lst xs)):xs.length<=sizeLine/\∃(its:List Value)(n:Nat),Vals xs its/\xs.length=its.length/\s.heap.get? l=some {cls:=.type "list",data:=.seq its.toArray n}:=let⟨z,_,n,r,e⟩:=I.bB l _ a;⟨z,_,n,r,r.length,e⟩
def Lu(h:n<=sizeLine):Builtin.List.listTooLong n=false:=by unfold Builtin.List.listTooLong;simp_all
end
section
variable {X : Cx}
def BY:V->List V->Hp->VK->Prop:=fun x b H Q=>∃l a y,x=.ref l/\b=[y]/\H l=some (.lst a)/\a.length<sizeLine/\Q .non (upd H l (.lst (a++[y])))
def BZ:BX X "list.append" BY:=by rintro a s m H x i v k Q I c d ⟨l,j,y,rfl,rfl,b,o,q⟩;cases c;obtain⟨u,rfl,f⟩:=d.one;obtain⟨z,g,n,r,h,e⟩:=I.pe b;refine jZ F.slot_list_append ⟨_,e,rfl⟩ F.entry_list_append (F.args_list_append_2 _ _) (PySem.list_append l _ n u (by simp_all)) ⟨e,(⟨.non,_,I.se b e (by simp) (r.append (.cons f .nil)) ?_,rfl,q⟩)⟩;rw[eJ,jT];lia
def Lv:V->List V->Hp->VK->Prop:=fun x d H Q=>∃l b c a,x=.ref l/\d=[.ref b]/\H l=some (.lst c)/\H b=some (.lst a)/\c.length+a.length<=sizeLine/\Q .non (upd H l (.lst (c++a)))
def Vf:BX X "list.extend" Lv:=by
 rintro h s G H x E v w Q I i o ⟨l,b,A,B,rfl,rfl,g,m,y,q⟩;cases i;obtain⟨u,rfl,k⟩:=o.one;cases k;obtain⟨z,c,n,r,C,e⟩:=I.pe g;obtain⟨J,a,D,j,p,t⟩:=I.pe m;have f:c.toArray.size+a.toArray.size<=sizeLine:=by rw[cV,cV];lia
 have d:¬(!c.toArray.isEmpty&&Builtin.List.listTooLong (c.toArray.size+a.toArray.size))=true:=by rw[Lu f];simp
 refine jZ F.slot_list_extend ⟨_,e,rfl⟩ F.entry_list_extend (F.args_list_extend_2 _ _) (AutoSeq1.list_extend_list_list_0 l _ n b _ _ d (by lia) (by lia)) ⟨e,t,(⟨.non,_,I.se g e (by simp) (r.append j) ?_,rfl,q⟩)⟩;simp_all
def Aa:V->List V->Hp->VK->Prop:=fun x b H Q=>∃l a y,x=.ref l/\b=[]/\H l=some (.lst a)/\a[a.length-1]?=some y/\Q y (upd H l (.lst a.dropLast))
def Vg:BX X "list.pop" Aa:=by
 rintro f s t H x o v p Q I g h ⟨l,m,y,rfl,rfl,d,i,q⟩;cases g;have b:=h.zero;subst b;obtain⟨z,a,n,r,j,e⟩:=I.pe d;obtain⟨u,w,k⟩:=r.get i;have c:=by show a.toArray[a.length-1]?=some u;rwa[<-ue,<-j]
 refine jZ F.slot_list_pop ⟨_,e,rfl⟩ F.entry_list_pop (F.args_list_pop_1 _) (MeetsSeq.list_pop_last l _ n u c (by simp_all)) ⟨e,(⟨y,_,I.se d e ?_ r.dropLast ?_,k,q⟩)⟩;.simp
 .rw[List.length_dropLast];lia
def Lw:V->List V->Hp->VK->Prop:=fun x vs H Q=>∃l xs i k y,x=.ref l/\vs=[.int i]/\H l=some (.lst xs)/\-(2^63)<=i/\i<2^63/\seqIndex? i xs.length=some k/\xs[k]?=some y/\Q y (upd H l (.lst (xs.eraseIdx k)))
def Vh:BX X "list.pop" Lw:=by
 rintro pins s σ H x vs v us Q I rx rv ⟨l,xs,i,k,y,rfl,rfl,hH,h1,h2,hk,hy,q⟩
 cases rx
 obtain⟨u,rfl,ru⟩:=rv.one
 obtain⟨t,rfl⟩:=ru
 obtain⟨z,its,n,r,hl,e⟩:=I.pe hH
 obtain⟨w,hw,Vi⟩:=r.get hy
 refine jZ F.slot_list_pop ⟨_,e,rfl⟩ F.entry_list_pop (F.args_list_pop_2 _ _)
  (MeetsSeq.list_pop_at l _ n i t k w (fitsIndex_both h1 h2) (by rwa [cV,←hl]) (by rwa [←ue]) (by rw[cV];lia)) ⟨e,?_⟩
 refine⟨y,_,I.se hH e ?_ (r.eraseIdx k) ?_,Vi,q⟩
 ·simp
 grind
end
section
variable {κ : Type} [DecidableEq κ]
noncomputable def gD(bU:List (κ×V))(k:κ):Option V:=(bU.find? fun a=>decide (a.1=k)).map (·.2)
noncomputable def putK(bU:List (κ×V))(k:κ)(v:V):List (κ×V):=if(bU.any fun a=>decide (a.1=k))=true then bU.map (fun a=>if a.1=k then(a.1,v)else a)else bU++[(k,v)]
def EH{p:κ×V}(e:p.1=k):gD (p::r) k=some p.2:=by simp[gD,e]
def EI{p:κ×V}(e:¬p.1=k):gD (p::r) k=gD r k:=by simp[gD,e]
theorem Ly(k:κ):∀bU:List (κ×V),(bU.any fun b=>decide (b.1=k))=(gD bU k).isSome
 |[]=>rfl|p::r=>by
  rw[lg];by_cases e:p.1=k;.simp[EH e,da e,Bool.true_or]
  .rw[EI e,cX e];exact Ly k r
def Lz(bU:List (κ×V))(k:κ)(v:V):(putK bU k v).length<=bU.length+1:=by
 unfold putK;split;.simp
 simp
def gO.i_(r:gO o u):o.isSome=u.isSome:=by cases o with
 |none=>cases u with|none=>rfl|some _=>exact r.elim
 |some _=>cases u with|none=>exact r.elim|some _=>rfl
theorem gO.getD(r:gO o u)(a:zaf d d'):zaf (o.getD d) (u.getD d'):=by cases o with
 |none=>cases u with|none=>exact a|some _=>exact r.elim
 |some _=>cases u with|none=>exact r.elim|some _=>exact r
def KV.val(r:KV bU vs)(k:κ):gO (gD bU k) (valueAt vs k):=by induction r with|nil=>exact True.intro|@cons p q i a h t l=>
 obtain⟨c,j⟩:=h;by_cases e:p.1=k
 . have b:valueAt (q::a) k=some q.2:=by simp[valueAt,(c.symm.trans e)]
   rwa[EH e,b]
 . have f:¬q.1=k:=fun z=>e (c.trans z);have b:valueAt (q::a) k=valueAt a k:=by simp[valueAt,f]
   rwa[EI e,b]
theorem KV.any(r:KV bU vs)(k:κ):(bU.any fun a=>decide (a.1=k))=vs.any fun a=>decide (a.1=k):=by induction r with|nil=>rfl|cons h t c=>rw[lg,lg,c,h.1]
def KV.wN(r:KV bU vs)(k:κ)(f:zaf y u):KV (bU.map fun a=>if a.1=k then(a.1,y)else a) (vs.map fun a=>if a.1=k then(a.1,u)else a):=by induction r with|nil=>exact .nil|@cons p q g i h t c=>
 refine .cons ?_ c;by_cases e:p.1=k;.simp_all
 simp_all
def KV.put(r:KV bU vs)(k:κ)(a:zaf y u):KV (putK bU k y) (stored vs k u):=by
 unfold putK stored;rw[r.any k];by_cases e:(vs.any fun b=>decide (b.1=k))=true;.rw[ao e,ao e];exact r.wN k a
 .rw[ak e,ak e];exact Paired.snoc r ⟨rfl,a⟩
theorem KV.length{bU:List (κ×V)}(r:KV bU vs):bU.length=vs.length:=Paired.length r
end
def B2(r:zaf (kV k) u):(qH P w).is k u=true:=by cases k with|inl i=>obtain⟨t,e⟩:=r;subst e;exact Ur P w i t|inr x=>obtain⟨t,e⟩:=r;subst e;exact Us P w x t
theorem LA:∀{ks:List Key}{us:List Value},Vals (ks.map kV) us->ItemsAre (qH P w) ks us|[],_,r=>by cases r;exact .nil|k::ks,_,r=>by cases r with|cons h t=>exact .cons (B2 h) (LA t)
abbrev KT(H:Hp):List (List Key×V)->List (List Key×Addr×Value)->Prop:=Paired fun p q=>p.1=q.1/\H q.2.1=some (.tup (p.1.map kV))/\zaf p.2 q.2.2
def KT.val(r:KT H bU xs)(k:List Key):gO (gD bU k) ((atKey xs k).map (·.2)):=by induction r with|nil=>exact True.intro|@cons p q i a h t l=>
 obtain⟨c,_,j⟩:=h;by_cases e:p.1=k
 . have b:atKey (q::a) k=some q.2:=by simp[atKey,(c.symm.trans e)]
   rwa[EH e,b]
 . have f:¬q.1=k:=fun z=>e (c.trans z);have b:atKey (q::a) k=atKey a k:=by simp[atKey,f]
   rwa[EI e,b]
def KT.wN(r:KT H bU xs)(k:List Key)(i:zaf y u):KT H (bU.map fun a=>if a.1=k then(a.1,y)else a) (xs.map (putAt k u)):=by induction r with|nil=>exact .nil|@cons p q g f h t d=>
 refine .cons ?_ d;unfold putAt;by_cases e:p.1=k;.simp_all
 simp_all
def KT.put(r:KT H bU xs)(k:List Key)(d:H b=some (.tup (k.map kV)))(a:zaf y u):KT H (putK bU k y) (storedH xs k b u):=by
 have e:(bU.any fun c=>decide (c.1=k))=(atKey xs k).isSome:=by rw[Ly,(r.val k).i_,Option.isSome_map]
 unfold putK storedH;rw[e];by_cases q:(atKey xs k).isSome=true;.rw[ao q,ao q];exact r.wN k a
 .rw[ak q,ak q];exact Paired.snoc r ⟨rfl,d,a⟩
def KT.keeps(r:KT H bU xs)(a:∀b ys,H b=some (.tup ys)->H' b=some (.tup ys)):KT H' bU xs:=Paired.wt r fun _ _ z=>⟨z.1,a _ _ z.2.1,z.2.2⟩
section
variable{P:Program}{w:World}{H:Hp}{h:Heap}{a:Addr}
def LB(b:g_ P w H h)(e:Rd H a u):dE P w H h a u:=e.ok b
def x5(b:g_ P w H h)(e:Rd H a (.dK bU)):bU.length<=sizeLine/\(a==sysModules)=false/\∃vs,KV bU vs/\h.DictOf (qH P w) a vs:=LB b e
def Vj(b:g_ P w H h)(e:H a=some (.dK bU)):bU.length<=sizeLine/\(a==sysModules)=false/\∃vs,KV bU vs/\h.DictOf (qH P w) a vs:=x5 b (.inl e)
def B3(f:g_ P w H h)(e:H a=some (.tup (ks.map kV))):(tupleKind (qH P w)).is h ks a:=let⟨_,_,r,o,b,d,n,c⟩:=(f a _ e);⟨o,_,n,b,d,c,by simpa using LA r⟩
def B4(f:g_ P w H h)(e:Rd H a (.dT bU)):bU.length<=sizeLine/\(a==sysModules)=false/\∃xs,KT H bU xs/\h.DictOfH (tupleKind (qH P w)) a xs:=by
 obtain⟨z,y,xs,r,o,D,A,k,i,n,s,g⟩:=(LB f e);refine⟨z,y,_,r,o,_,_,k,i,n,s,fun x b=>?_,g⟩;have c:∀{l:List _}{m:List _},KT H l m->∀x∈m,(tupleKind (qH P w)).is h x.1 x.2.1:=by intro l m q;induction q with|nil=>simp|@cons p q C v B t u=>
  intro x b;rcases aM.mp b with e|b;.exact B3 f (by simp_all)
  .exact u x b
 exact c r x b
def Vk(b:g_ P w H h)(e:H a=some (.dT bU)):bU.length<=sizeLine/\(a==sysModules)=false/\∃xs,KT H bU xs/\h.DictOfH (tupleKind (qH P w)) a xs:=B4 b (.inl e)
end
def ph(H:Hp)(a:Addr)(y:V)(r:Option V):Prop:=(∃c k,Rd H a (.dK c)/\y=kV k/\r=gD c k)\/∃c k b,Rd H a (.dT c)/\y=.ref b/\H b=some (.tup (k.map kV))/\r=gD c k
def sf(H:Hp)(a:Addr)(y v:V)(H':Hp):Prop:=(∃c k,H a=some (.dK c)/\y=kV k/\c.length<sizeLine/\H'=upd H a (.dK (putK c k v)))\/∃c k b,H a=some (.dT c)/\y=.ref b/\H b=some (.tup (k.map kV))/\c.length<sizeLine/\H'=upd H a (.dT (putK c k v))
theorem ph.k{k:Key}(e:H a=some (.dK bU)):ph H a (kV k) (gD bU k):=.inl ⟨_,k,.inl e,rfl,rfl⟩
theorem sf.k{k:Key}(e:H a=some (.dK bU))(b:bU.length<sizeLine):sf H a (kV k) v (upd H a (.dK (putK bU k v))):=.inl ⟨_,k,e,rfl,b,rfl⟩
section
variable{X:Cx}{pins:List (Addr×Obj)}{σ:zag}{H:Hp}{s:Shared}{a:Addr}{y v:V}{u r:Value}{o:Option V}{A:Around}{E:Value->Shared->Prop}
def Inv.big(I:Inv X pins σ H s):sysModules<s.heap.objs.size:=fW (by decide) ((I.mod.glob.keeps I.bk).lt)
def Vl(p:A.units+1<cLine)(I:Inv X pins σ H s)(g:ph H a y o)(m:zaf y u)(h:∀s',Inv X pins σ H s'->Q (.bool (!o.isSome)) s'):wpAny (model X.prog X.w) A (compareOp .NotIn u (.ref a)) Q E s:=by
 rcases g with⟨i,k,e,d,l⟩|⟨i,k,b,e,d,n,l⟩;.subst d;obtain⟨z,f,t,c,j⟩:=x5 I.bB e;refine wpAny_notIn_of (B2 m) f j.mapOf ?_;rw[<-(c.val k).i_,<-l];exact h _ (I.tok _)
 .subst d;cases(m);obtain⟨z,f,w,c,j⟩:=B4 I.bB e;refine wpAny_notIn_heap (oR p) (B3 I.bB n) f j ?_;have q:=(c.val k).i_;rw[Option.isSome_map]at q;rw[<-q,<-l];exact h _ (I.tok _)
def LC(I:Inv X pins σ H s)(h:zw (H a))(f:Heap.SameBut a s.heap h')(g:∃q,h'.get? a=some q)(c:dE X.prog X.w (upd H a d) h' a d):Inv X pins σ (upd H a d) {s with heap:=h',toks:=t'}:=I.write h (.inl rfl) (fun b q e z=>(f.2 b e).trans z) g c
def LD(z:bU.length<=sizeLine)(hd:(a==sysModules)=false)(b:KV bU vs)(dd:h'.DictOf (qH P w) a vs):dE P w H' h' a (.dK bU):=⟨z,hd,_,b,dd⟩
def Vm{Q:Unit->Shared->Prop}(Y:A.units+1<cLine)(I:Inv X pins σ H s)(g:sf H a y v H')(B:zaf y u)(G:zaf v r)(h:∀s',Inv X pins σ H' s'->Q () s'):wpAny (model X.prog X.w) A (setItem (.ref a) u r) Q E s:=by
 rcases g with⟨d,k,e,n,l,m⟩|⟨d,k,b,e,n,J,l,m⟩
 . subst n m;obtain⟨z,p,T,f,w⟩:=Vj I.bB e;have C:T.length<=sizeLine:=by rwa[<-f.length]
   have x:(putK d k v).length<=sizeLine:=by have:=Lz d k v;lia
   refine wpAny_setItem_pairs (B2 B) w fun D i t=>h _ ?_;have U:∃q,D.get? a=some q:=let⟨q,_,_,j,_⟩:=i;⟨q,j⟩;exact LC I (by rw[e];exact True.intro) t U (LD x p (f.put k G) i)
 . subst n m;cases B;obtain⟨z,p,L,f,w⟩:=Vk I.bB e;have C:L.length<=sizeLine:=by rwa[<-Paired.length f]
   have x:(putK d k v).length<=sizeLine:=by have:=Lz d k v;lia
   refine wpAny_setItem_heap (hsz:=C) (oR Y) (B3 I.bB J) w fun D i t=>h _ ?_;obtain⟨q,es,ep,j,M,S,O,_,R⟩:=i;refine LC I (by rw[e];exact True.intro) t ⟨q,j⟩ ⟨x,p,_,(f.put k J G).keeps fun c Z N=>?_,q,_,_,j,M,S,O,R⟩;rwa[bz (Ut N e (fun z=>nomatch z))]
end
section
variable{X:Cx}{pins:List (Addr×Obj)}{σ:zag}{H:Hp}{s:Shared}{a:Addr}{bU:List (Key×V)}{k:Key}{u:Value}{A:Around}{E:Value->Shared->Prop}
def Vn {Q:Value->Shared->Prop}(I:Inv X pins σ H s)(e:Rd H a (.dK bU))(h:∀t s',Inv X pins σ H s'->Q (.int bU.length t) s'):wpAny (model X.prog X.w) A (call (.builtin "len") [.ref a]) Q E s:=by
 obtain⟨z,hd,vs,rel,dd⟩:=x5 I.bB e
 refine call_len_dict hd dd (by rw[←rel.length];rw[fz]at z;lia) ?_
 rw[←rel.length]
 exact h _ _ (I.tok _)
end
def LF(f e:TE):TE:=fun b H Q=>f b H fun y d=>e b d fun x c=>∃a o,x=.ref a/\ph c a y o/\Q (.bl (!o.isSome)) c
def LG(h e d:TE):TS:=fun D b H=>d b H fun v g=>h b g fun x i=>e b i fun y f=>∃a c,x=.ref a/\sf f a y v c/\D.nx b c
section
variable{X:Cx}{o i e value:Expr}{pos pos' zX:Pos}{td ty tv:TE}
def Ab(n:X.A.units+1<cLine)(hi:PE X i ty)(p:PE X o td):PC X .NotIn i o (LF ty td):=by intro b s w H Q I h;refine bK (hi _ s _ H _ I h) fun t v ⟨y,_,m,c,f⟩=>bK (p _ _ _ _ _ m f) fun u r ⟨x,_,j,l,a,_,d,g,q⟩=>?_;subst d;obtain rfl:u=Value.ref a:=l;exact Vl n j g c fun z k=>⟨.bl _,_,k,rfl,q⟩
def Ac(B:X.A.units+1<cLine)(k:PE X o td)(hi:PE X i ty)(j:PE X value tv)(m:swapsWith value (some (.Subscript o i pos')) pos.line X.env=pure false):PS X (.Assign [.Subscript o i pos'] value pos) (LG td ty tv):=by intro b s E H D I h;refine wpAny_Assign_Subscript (bK (j _ s _ H _ I h) fun r L ⟨v,_,A,t,l⟩=>bK (k _ _ _ _ _ A l) fun u J ⟨x,_,f,n,c⟩=>bK (hi _ _ _ _ _ f c) fun C M ⟨y,_,q,p,a,_,d,g,z⟩=>?_) m;subst d;obtain rfl:u=Value.ref a:=n;exact Vm B q g p t fun G w=>⟨_,_,w,z⟩
def Vo(h:Heap)(a:sysModules<h.objs.size):dE P w H (h.push {cls:=.type "dict",data:=.dict #[]}) h.objs.size (.dK []):=⟨bM _,jY.mpr (aN (aY a)),_,.nil,Heap.DictOf.new h⟩
def LH:TE:=fun _ H Q=>∀p,H p=none->Q (.ref p) (upd H p (.dK []))
def Ad:PE X (.Dict [] [] pos) LH:=fun a s b H Q I h=>wpAny_Dict_empty ⟨.ref _,_,I.laid (fun _ _ q=>aO _ q) (aC _) (Vo _ I.big),rfl,h _ (I.bB.fresh (aC _))⟩
end
structure M2(X:Cx)(o:Expr)(m:Str)(apos:Pos)(e f:Expr)(dN:Pos):Prop where
 base:attributeBase o m X.env (eval o X.env)=eval o X.env
 x6:((backTo dN (starEach [e,f] X.env)).all (fun x=>!x.1)&&(backToKw dN (keywordEach [] X.env)).all (fun x=>x.1.isSome)&&decide (([e,f]:List Expr).length+([]:List Keyword).length+(if([]:List Keyword).isEmpty then 0 else 1)<30))=true
 line:(apos.endLine==dN.line)=true
 trees:backTo dN (starEach [e,f] X.env)=[(false,eval e X.env),(false,eval f X.env)]
def LI(H:Hp)(a:Addr):Prop:=(∃b,Rd H a (.dK b))\/∃b,Rd H a (.dT b)
def Vp(I:Inv X pins σ H s)(d:LI H a):s.TypeIs (.ref a) "dict"/\(∀b,Value.ref a=.ref b->∃f,s.heap.get? b=some f/\f.dict=none)/\(a==sysModules)=false:=by
 rcases d with⟨g,e⟩|⟨g,e⟩;.obtain⟨_,j,l,_,c⟩:=x5 I.bB e;refine⟨c.typeIs,fun b q=>?_,j⟩;cases q;obtain⟨f,_,_,h,i,_⟩:=c;exact⟨_,h,i.2.1⟩
 .obtain⟨_,j,k,_,c⟩:=B4 I.bB e;refine⟨c.typeIs,fun b q=>?_,j⟩;cases q;obtain⟨f,_,_,h,i,_⟩:=c;exact⟨_,h,i.2.1⟩
section
variable{X:Cx}{pins:List (Addr×Obj)}{σ:zag}{H:Hp}{s:Shared}{a:Addr}{y d:V}{u r:Value}{o:Option V}{A:Around}{E:Value->Shared->Prop}
def Vq(t:A.units+1<cLine)(I:Inv X pins σ H s)(g:ph H a y o)(q:zaf y u)(p:zaf d r)(h:∀n s',Inv X pins σ H s'->zaf (o.getD d) n->Q n s'):wpAny (model X.prog X.w) A (call (.builtin "dict.get") [.ref a,u,r]) Q E s:=by
 rcases g with⟨i,k,e,m,l⟩|⟨i,k,b,e,m,v,l⟩;.subst m;obtain⟨z,j,w,c,f⟩:=x5 I.bB e;refine call_meetsIn oC f.typeIs PySem.F.entry_dict_get (PySem.F.args_dict_get_3 _ _ _) (meets_dict_get_default _ a (B2 q) j r) ⟨_,f.mapOf,h _ _ (I.tok _) ?_⟩;rw[l];exact(c.val k).getD p
 .subst m;cases q;obtain⟨z,j,x,c,f⟩:=B4 I.bB e;refine call_meetsIn oC f.typeIs PySem.F.entry_dict_get (PySem.F.args_dict_get_3 _ _ _) (meetsH_dict_get_default _ a b j r) ⟨oR t,k,_,B3 I.bB v,f,h _ _ (I.tok _) ?_⟩;rw[l];exact(c.val k).getD p
end
def LJ(e h g:TE):TE:=fun b H Q=>e b H fun x d=>∃a,x=.ref a/\LI d a/\h b d fun y f=>g b f fun z c=>∃o,ph c a y o/\Q (o.getD z) c
section
variable{X:Cx}{o e f:Expr}{apos dN:Pos}{td ty tx:TE}
def LK(G:X.A.units+1<cLine)(k:PE X o td)(C:PE X e ty)(E:PE X f tx)(m:M2 X o "get" apos e f dN):PE X (.Call (.Attribute o "get" apos) [e,f] [] dN) (LJ td ty tx):=by intro c s L H Q I h;refine wpAny_Call_method m.base m.x6 m.line PySem.F.plainAttrs_dict oC PySem.F.type_dict_get (bK (k _ s _ H _ I h) fun u J ⟨x,_,i,q,a,w,d,l⟩=>?_);subst w;obtain rfl:u=Value.ref a:=q;obtain⟨p,n,_⟩:=Vp i d;refine⟨p,n,?_⟩;rw[m.trees];exact wo rfl (pV (ng (bK (C _ _ _ _ _ i l) fun O N ⟨y,_,t,v,r⟩=>ng (bK (E _ _ _ _ _ t r) fun S T ⟨z,_,B,j,_,g,D⟩=>pX (Vq G B g v j fun M R A b=>⟨_,_,A,b,D⟩)))))
end
section
variable{X:Cx}{pins:List (Addr×Obj)}{σ:zag}{H:Hp}{s:Shared}{a:Addr}{bU:List (Key×V)}{A:Around}{E:Value->Shared->Prop}{y:V}{u:Value}
end
end L2
namespace LL
open PySem PySem.W PySem.Calls PyProof.Rows
def Vr:∀(ns:List Int)(vs:List Value),WellAll P h vs (ns.map WData.int)->IntsAre vs ns:=by intro ns;induction ns with|nil=>intro vs w;cases w;exact .nil|cons n ns d=>intro vs w;cases w with|cons a b=>cases a;exact .cons _ _ (d _ b)
def Vs{l:OpenLaw}(w:l.most=some n)(c:l.row.toRowW.claim.pre b=true)(i:WellAll P h g b):∃a vs ns,g=[Value.ref a]/\b=[WData.list (ns.map WData.int)]/\h.get? a=some {cls:=.type "list",data:=.seq vs.toArray}/\IntsAre vs ns/\ns.length<=n:=by
 have t:l.pre.holds [] _=true:=(pre_splitW c).2;obtain⟨d,r,rfl,q,p⟩:=hasAllW_cons ((pre_splitW c).1);obtain rfl:=hasAllW_nil p;obtain⟨y,rfl,s⟩:=hasW_list q;obtain⟨ns,rfl⟩:=items_int s;have f:ns.length<=n:=by
  have j:(WTm.not (.lt (.lit (.int n)) (.len (.arg 0)))).holds [] {args:=[.list (ns.map .int)]}=true:=by have j:=(holds_andW t).1;simp_all
  have x:=condW_of j rfl;simp_all
 cases i with|cons v u=>cases u;cases v with|list o e=>exact⟨_,_,_,rfl,rfl,o,Vr _ _ e,f⟩
def Vt(l:OpenLaw)(a:List WData):l.row.toRowW.claim.post a (.bool true) a=true:=postW_of rfl (w_eq_bool rfl w_lit) rfl
def nI{l:OpenLaw}{x:World->Heap->Prop}(hn:l.most=some n)(s:d.params.defaults=[])(call:∀(w:World)(c b:Shared)(mg A:Str->Option Value)(m:Addr)(o:Obj)(D p j:Value)(a:Addr)(vs:List Value)(ns:List Int),Ground q e [] E w c mg A b.heap->x w b.heap->b.heap.get? m=some o->o.data=.func (docDef d.name d.params d.body d.scope D p j)->b.heap.CodeRec p d.name->mg d.name=some (.ref m)->b.heap.get? a=some {cls:=.type "list",data:=.seq vs.toArray}->IntsAre vs ns->ns.length<=n->b.gens=#[]->codeAny (model l.prog w) callerA (.call (.ref m) ⟨[.ref a],[]⟩) (fun r s'=>r=.ok (.ret (.bool true))/\OldK b.heap s'.heap/\s'.os=b.os/\AllBare s'.gens) b):WalkO q e E x l.row.toRowW d [] (fun f vs=>PySem.call f vs):=by intro w c b mg A G Y m o D p j O L T hd u z v N B C as k y V t U;obtain rfl:O=.none:=Dflts.none z s;obtain rfl:L=.none:=Dflts.noKw z;obtain⟨a,vs,ns,rfl,rfl,h,g,i⟩:=Vs hn k t;refine enter_call (gr (call w _ _ _ _ _ o _ _ _ a _ _ G Y T (fd_plain hd) u v h g i N) fun r s' J=>?_);obtain⟨rfl,Q,M,I⟩:=J;exact⟨.inl ⟨_,_,_,rfl,fun _=>rfl,.bool _,Vt l _,fun _=>⟨List.Pairwise.nil,fun _ H=>(nomatch H)⟩⟩,Q,M,I⟩
section
variable{prog:Program}{w:World}{A:Around}{E:Value->Shared->Prop}{s:Shared}{K:Frag}
end
end LL
namespace L2
theorem LM:∀{vs:List Value}{ns:List Int},IntsAre vs ns->Vals (ns.map V.int) vs|_,_,.nil=>.nil|_,_,.cons n t h=>.cons ⟨t,rfl⟩ (LM h)
noncomputable def hG(s:Stmt)(j:Nat):Stmt:=match s with|.ClassDef _ _ _ a _ _ _ _ _ _ _=>a.getD j (.Pass ⟨0,0,0,0⟩)|_=>.Pass ⟨0,0,0,0⟩
def nJ(s:Stmt):Arguments:=match s with|.FunctionDef _ a _ _ _ _ _ _ _ _=>a|_=>{posonlyargs:=[],args:=[],vararg:=none,kwonlyargs:=[],kw_defaults:=[],kwarg:=none,defaults:=[]}
noncomputable def kI(s:Stmt):List Stmt:=match s with|.FunctionDef _ _ b _ _ _ _ _ _ _=>b|_=>[]
noncomputable def cb(s:Stmt):Scope:=match s with|.FunctionDef _ _ _ _ _ _ a _ _ _=>a|_=>{kind:=.function,names:=[],isGenerator:=false,isCoroutine:=false}
abbrev mw:jl:=fun _ _ _ _ _ _=>False
abbrev E0:XK:=fun _ _ _=>False
def bL:nW mw X E0:=fun _ _ _ _ _ _ _ h=>h.elim
structure jJ(K:W.Frag)(x qual:Str)(st:Stmt)(f:Addr)(fd:FuncData):Prop where
 ex:∃(oc:Value)(od:Option Addr)(kV doc pm:Value)(an:Option Addr)(rk ct:Value)(uy:Array (Option Value)),fd=W.fnOf x qual (nJ st) (kI st) (cb st) .none kV doc pm an rk ct/\K.lookup f=some ⟨oc,od,.func fd,uy⟩/\W.codeIn K rk qual=true
 kp:W.keepIn K (.ref f)=true
section
variable{P:Program}{w:World}{K:PySem.W.Frag}{mg:Str->Option Value}{base:Heap}{X:Cx}
def jJ.ok{st:Stmt}(F:jJ K x b st f fd)(S:bY N ps (cb st))(g:∀vs H Q E,sp vs H Q E->vs.length=ps.length)(c:∀(d:Value)(A:Around)(a:List Env)(s:Shared)(H:Hp)(vs:List V)(Q:VK)(E:XK),cj k (A.deeper (envOfC b (cb st) s.heap.objs.size f d))->sp vs H Q E->∃t,mm (nF mw P w K mg base N b (cb st) f d A a s H E).zH (kI st) t/\t {nx:=fun _ H'=>Q .non H',rt:=Q} (start N vs) H):cA P w K mg base mw (k+1) f fd ps sp:=by obtain⟨v,p,kV,l,o,u,d,r,m,rfl,j,i⟩:=F.ex;refine BR j i S g fun A a s H vs Q E n e=>?_;obtain⟨t,h,q⟩:=c _ A _ s H _ Q E n e;exact⟨t,h.zH,q⟩
def jJ.binds{st:Stmt}(F:jJ K x b st f fd)(h:∀(kV a d:Value)(an:Option Addr)(c e:Value)(us:List Value),us.length=ps.length->bindArgs (W.fnOf x b (nJ st) (kI st) (cb st) .none kV a d an c e) ⟨us,[]⟩=pure (ps.zip us)):zad K fd ps []:=by obtain⟨l,k,kV,a,d,an,c,e,g,rfl,j,i⟩:=F.ex;exact .all (h _ _ _ _ _ _)
def B5{st:Stmt}{kV d e b g:Value}(l:K.lookup f=some ⟨i,od,.func (W.fnOf x a (nJ st) (kI st) (cb st) .none kV d e an b g),h⟩)(c:W.codeIn K b a=true)(k:W.keepIn K (.ref f)=true):jJ K x a st f (W.fnOf x a (nJ st) (kI st) (cb st) .none kV d e an b g):=⟨⟨_,_,_,_,_,_,_,_,_,rfl,l,c⟩,k⟩
def uB(a:cj k A):A.units+1<cLine:=lO (Nat.add_le_add_left (by decide) _) a.units
noncomputable def pv(i:Nat)(b:autoParam (X.N[i]?=some x) zak)(c:zx X.env.scope x:=by first|exact Or.inl rfl|exact Or.inr (Or.inl rfl)|exact Or.inr (Or.inr rfl))(hd:autoParam ((x==("__debug__":Str))=false) zam)(a:autoParam ((x==("__classdict__":Str))=false) zam):PE X (.Name x pos) (dh i):=UB b c hd a
def Vu:lD X (.builtin "len") (fun xs H Q=>∃a bU,xs=[V.ref a]/\H a=some (.dK bU)/\Q (.int bU.length) H):=by
 intro pins s σ H xs us Q I r h
 obtain⟨a,bU,rfl,ha,q⟩:=h
 obtain⟨u,rfl,ru⟩:=kW r
 cases ru
 exact Vn I (.inl ha) fun t s' I'=>⟨.int bU.length,H,I',⟨t,rfl⟩,q⟩
end
def av(H H':Hp):Prop:=∀b o,H b=some o->H' b=some o
def av.refl(H:Hp):av H H:=fun _ _ h=>h
def av.trans(a:av H d)(b:av d e):av H e:=fun c o h=>b c o (a c o h)
def av.free(e:av H H')(h:H' l=Option.none):H l=Option.none:=by cases q:H l with|none=>rfl|some o=>rw[e l o q]at h;cases h
def av.seq{K:W.Frag}(e:av H H')(h:eE K H a xs):eE K H' a xs:=by
 rcases h with(h|⟨o,h⟩)|h;.exact .inl (.inl (e _ _ h))
 .exact .inl (.inr ⟨o,e _ _ h⟩)
 .exact .inr h
def eN(i:Int):Prop:=i.natAbs<2^8000
theorem log2_lt{n k:Nat}(b:0<k)(h:n<2^k):n.log2<k:=by
 by_cases a:n=0;.simp_all
 .exact(Nat.log2_lt a).mpr h
def eN.log(h:eN i):i.natAbs.log2<8000:=log2_lt (by decide) h
def eN.bits(h:eN i):Builtin.Int.intBits i<=2^20:=by have a:=h.log;unfold Builtin.Int.intBits;grind
section
variable{X:Cx}
def si:iG X (binaryOp .Mult) (rI (fun i j=>eN i/\eN j) fun i j=>.int (i*j)):=zU fun _ _ _ _ _ _ _ a q=>mul_int q (.of_bits a.1.bits a.2.bits)
def pj:iG X (binaryOp .FloorDiv) (rI (fun _ j=>j≠0/\eN j) fun i j=>.int (i.fdiv j)):=zU fun _ _ _ _ _ _ _ a q=>floordiv_int a.1 q (.inl (PyProof.noPylong_of_log2 (fW a.2.log (by decide))))
noncomputable def Ae:V->Option Value|.ty n=>some (.type n)|.ref a=>some (.ref a)|_=>none
def Vv(h:Ae c=some cv)(r:zaf c u):u=cv:=by cases c with|ty n=>cases h;exact r|ref a=>cases h;exact r|_=>cases h
def LN(K:W.Frag):List V->Hp->VK->Prop:=fun d H Q=>∃x c a t b,d=[x,c]/\Ae c=some a/\iH K H x t/\W.kitOne K t a=some b/\Q (.bl b) H
def vH:lD X (.builtin "isinstance") (LN X.K):=by rintro a s j H i k Q I r ⟨x,c,l,t,b,rfl,g,h,f,q⟩;obtain⟨u,v,rfl,e,d⟩:=xY r;cases Vv g d;exact UY I e h f fun m=>⟨.bl b,H,I.tok _,rfl,q⟩
end
def EJ(K:W.Frag)(a:Addr):It:=⟨fun i H=>∃b x,eE K H a b/\b[i]?=some x,fun i H x c=>∃p y,x=.ref p/\H p=none/\c=upd H p (.tup [.int i,y])/\∀b,eE K H a b->b[i]?=some y,fun i H=>∃b,eE K H a b/\b.length<=i⟩
def Vw{K:W.Frag}(a e g:Addr)(M:e≠g):Turn P w K (.Tuple es k pos) (EJ K a) [e,g] e (fun i h=>(∃l,IsEnum h e g i l)/\h.IsListIter g a i)where
 mem:=by simp
 obj:=fun i h st b f=>by
  obtain⟨⟨l,h1⟩,o,h2,c,d⟩:=st;rcases aM.mp f with rfl|f;.exact⟨_,h1,fun v z=>by cases(show Data.fields _=Data.cell v from z)⟩
  . have e':b=g:=by simp_all
    subst e';exact⟨o,h2,fun v z=>by rw[d]at z;cases z⟩
 keep:=fun i h h' st k=>let⟨⟨l,h1⟩,h2⟩:=st;⟨⟨l,k e (by simp) _ h1⟩,h2.at fun o q=>k g (by simp) o q⟩;item:=by
  intro X hP U hK hc i B s σ H E I S st hg;subst hP U hK;obtain⟨xs,x,R,hx⟩:=hg;obtain⟨Y,rv,p,hz⟩:=I.list R;obtain⟨u,hu,ru⟩:=rv.get hx;obtain⟨⟨l,D⟩,y⟩:=st;obtain⟨f0,f1,f2,f3,f4,f5⟩:=S e (by simp);obtain⟨g0,T,g2,g3,g4,g5⟩:=S g (by simp);have J:H s.heap.objs.size=none:=I.bB.fresh (aC _);have eT:e≠s.heap.objs.size:=aY (aI D);have iT:g≠s.heap.objs.size:=let⟨_,z,_⟩:=y;aY (aI z);refine wpAny_pyNext_enum_item D y p.isList (x:=u) (by simpa using hu) M fun h' ho L ht hsz hk=>⟨_,rfl,(wpAny_letOwnedTupleGo_enum ho fun t N O=>?_)⟩;have C:Heap.SameBut e h' t:=O;have Vx:t.get? s.heap.objs.size=some {cls:=.type "tuple",data:=.seq #[.int i s.toks,u]}:=(C.2 _ eT.symm).trans ht;have j:∀b o,b≠e->b≠g->s.heap.get? b=some o->t.get? b=some o:=fun b o z1 z2 q=>(C.2 b z1).trans (hk b o z1 z2 q);have Q:∀b o,H b=some o->b≠e/\b≠g:=fun b o q=>⟨(fun z=>by rw[z,f0]at q;cases q),(fun z=>by rw[z,g0]at q;cases q)⟩;refine⟨.ref s.heap.objs.size,upd H s.heap.objs.size (.tup [.int i,x]),?_,rfl,⟨_,x,rfl,J,rfl,fun Z hy=>by rwa[I.fP hy R]⟩,⟨⟨_,by simpa using N⟩,L.at fun o q=>(C.2 g M.symm).trans q⟩,fun b f=>?_⟩
  . show Inv X B σ (upd H s.heap.objs.size (.tup [.int i,x])) {s with heap:=t,toks:=s.toks+1};refine I.step (h':=t) (g':=s.gens) (d':=s.drawn) (t':=s.toks+1) (ch:=[e,g]) (fun b f=>?_) (fun b o _ _ f q _=>?_) (fun b o _ _ f q _=>⟨o.slots,?_⟩) (fun b o f q n=>?_) (fun b o f q=>⟨o,?_⟩) (fun b Z q=>?_) (fun b o Z q=>?_) (fun b ps q=>⟨#[],?_⟩) (fun m hm=>?_) ?_ I.bare
    . rcases aM.mp f with rfl|f;.exact⟨f3,f1,f4,f5⟩
      . have z:b=g:=by simpa using f
        subst z;exact⟨g3,T,g4,g5⟩
    .exact j b o (fun z=>f (by simp[z])) (fun z=>f (by simp[z])) q
    .exact j b o (fun z=>f (by simp[z])) (fun z=>f (by simp[z])) q
    .rwa[bz (aY (aI q))]
    .exact j b o (fun z=>f (by simp[z])) (fun z=>f (by simp[z])) q
    .rwa[bz (d9 q J)]
    .rwa[bz (d9 q J)]
    .rw[bz (d9 q J),q];simp
    .obtain⟨o,Vy,ep,Vz,r⟩:=hm;exact⟨o,Vy,ep,j _ o (aN f1) (aN T) Vz,r⟩
    . intro b o q;by_cases f:b=s.heap.objs.size;.subst f;rw[cu]at q;cases q;exact⟨by show 2<=sizeLine;decide,[.int i s.toks,u],.cons ⟨_,rfl⟩ (.cons ru .nil),⟨_,Vx,rfl,_,rfl⟩⟩
      . rw[bz f]at q;refine(I.bB b o q).hZ (fun c v A G=>?_) (fun c G=>by rwa[bz (d9 G J)]) fun c Z G=>by rwa[bz (d9 G J)]
        rcases A with rfl|A;.exact j _ v (Q _ _ q).1 (Q _ _ q).2 G
        .exact j _ v (Q _ _ A).1 (Q _ _ A).2 G
  . rcases aM.mp f with rfl|f;.rwa[bz eT]
    . have z:=by simpa using f
      subst z;rwa[bz iT]
 done:=by intro X hP U hK hc i B s σ H E I S st hg;subst hP U hK;obtain⟨xs,R,hx⟩:=hg;obtain⟨Y,rv,p,hz⟩:=I.list R;obtain⟨⟨l,D⟩,y⟩:=st;obtain⟨g0,T,g2,g3,g4,g5⟩:=S g (by simp);have hl:=rv.length;exact wpAny_pyNext_enum_end (I.ok.hd hc) D y p.isList (by simp;lia) fun h' eb=>⟨rfl,I.turned (fun b o f q=>eb b o f q) g0 T g3 g4 g5⟩
 self:=fun _ _ _ _ _ st h=>let⟨⟨_,D⟩,_⟩:=st;l7 D h
section
variable {X : Cx}
def EK(K:W.Frag)(d:TA):zah:=fun e H R=>d e H fun c b=>∃a,c=[.ref a]/\(∃f,eE K b a f)/\R (EJ K a) b
def x8(J:Gl X "enumerate")(z:X.mg "enumerate"=none)(w:PA X [l] y)(E:autoParam (starEach [l] X.env=[(false,eval l X.env)]) zak):PI X (.Tuple es k M) (.Call (.Name "enumerate" p) [l] [] pos) (EK X.K y):=by
 intro j s O H R I h;refine Call_ (nV I J z boot_enumerate (ew (bK (w _ _ s _ H _ I h) fun L d ⟨_,_,f,A,o⟩=>?_) E rfl));obtain⟨a,e,⟨N,t⟩,q⟩:=o;subst e;obtain⟨u,rfl,x⟩:=kW A;cases x;obtain⟨r,Q,C,S⟩:=f.list t;refine call_enumerate_list C.isList fun B m i D G=>?_;have v:Inv X _ _ _ {d with heap:=B}:=f.kept G;have g:d.heap.objs.size+1≠d.heap.objs.size:=by lia
 refine l7 m ⟨_,_,_,_,_,rfl,v,Vw a _ _ g,⟨⟨_,m⟩,i⟩,fun b n=>?_,q⟩;have c:d.heap.objs.size<=b:=by
  rcases aM.mp n with rfl|n;.lia
  simp_all
 exact f.ki c (f.bB.fresh c)
end
theorem EL:∀(b:List (Str×NameKind))(f:List (Str×Addr)),(∀y∈b,y.2=.free->∃c,env.cells.lookup y.1=some c)->∃cl,(forIn (m:=Sem) b f fun(x:Str×NameKind)(cs:List (Str×Addr))=>if(x.2==NameKind.free)=true then do let c<-cellOf env x.1;pure (ForInStep.yield ((x.1,c)::cs))else pure (ForInStep.yield cs))=pure cl/\(∀p∈cl,p∈f\/env.cells.lookup p.1=some p.2)/\(∀p∈f,p∈cl)/\∀y∈b,y.2=.free->∃c,(y.1,c)∈cl
 |[],f,_=>⟨_,rfl,fun p g=>.inl g,fun p g=>g,fun y d=>by cases d⟩|(n,k)::r,f,h=>by
  by_cases s:k=.free
  . subst s;obtain⟨c,t⟩:=h _ gY rfl;obtain⟨cl,e,l,j,q⟩:=EL r ((n,c)::f) fun y d=>h y (bx _ d);refine⟨_,?_,fun p g=>?_,fun p g=>j p (bx _ g),fun y d i=>?_⟩
    . have o:cellOf env n=pure c:=by unfold cellOf;rw[t]
      rw[rT];simp only[o];exact e
    . rcases l p g with z|z
      . rcases aM.mp z with rfl|z;.simp_all
        grind
      .exact .inr z
    . rcases aM.mp d with rfl|d;.exact⟨c,j _ gY⟩
      .exact q y d i
  . obtain⟨cl,e,l,j,q⟩:=EL r _ fun y d=>h y (bx _ d);refine⟨_,?_,l,j,fun y d i=>?_⟩
    . have u:(k==NameKind.free)=false:=by simpa using s
      rw[rT];simp only[u,if_false];exact e
    . rcases aM.mp d with rfl|d;.exact absurd i s
      .exact q y d i
theorem LO{f:Str->Option Addr}:∀{cl:List (Str×Addr)}{x:Str}{c:Addr},(∀p∈cl,f p.1=some p.2)->(x,c)∈cl->cl.lookup x=some c|[],_,_,_,h=>by cases h|(n,d)::r,x,c,h,b=>by rw[fq];cases e:x==n with|true=>have i:=h _ b;simp_all|false=>
 rcases aM.mp b with z|z;.cases z;simp at e
 .exact LO (fun p g=>h p (bx _ g)) z
def LP(h:∀y∈scope.names,y.2=.free->∃c,env.cells.lookup y.1=some c):∃cl,closureFor scope env=pure cl/\(∀x c,cl.lookup x=some c->env.cells.lookup x=some c)/\∀y∈scope.names,y.2=.free->cl.lookup y.1=env.cells.lookup y.1:=by
 obtain⟨cl,e,k,_,i⟩:=EL _ [] h;have a:=fun p d=>(k p d).elim (fun z=>by cases z) id;refine⟨_,?_,fun x c z=>a _ (fX z),fun y g j=>?_⟩;.simp only[closureFor];grind
 .obtain⟨c,b⟩:=i y g j;rw[a _ b];exact LO (f:=fun x=>env.cells.lookup x) a b
section
variable{prog:Program}{w:World}{A:Around}{R:Result->Shared->Prop}{s:Shared}
def VA(I:Nat->Shared->Prop)(y:∀n s,I n s->wpAny (model prog w) A (pyNext E) (fun r d=>match r with|none=>R (.ok .next) d|some v=>wpAny (model prog w) A (letOwnedTupleGo a E v) (fun _ b=>wpAny (model prog w) A (assign a env v) (fun _ g=>wpAny (model prog w) A (forIn C true fun c r=>if r=true then do let u<-isTrue c env (eval c env);pure (ForInStep.yield u)else pure (ForInStep.yield r)) (fun u f=>if u=true then wpAny (model prog w) A (eval z env) (fun x i=>wpAny (model prog w) A (call (.builtin "list.append") [B,x]) (fun _ j=>∃m,m<n/\I m j) (fun _ _=>False) i) (fun _ _=>False) f else∃m,m<n/\I m f) (fun _ _=>False) g) (fun _ _=>False) b) (fun _ _=>False) d) (fun _ _=>False) s)(n:Nat)(h:I n s):codeAny (model prog w) A (.compLoop (.ListComp z [⟨a,D,C,0⟩] scope pos) 0 E B env) R s:=by refine codeAny_loop rfl I (fun n s G=>(wpAny_noted ?_)) n h;rw[compTurn_list];refine ah (fY (ah (dz (y n s G) (fun r d l=>?_) fun _ _ e=>e.elim)));cases r with|none=>exact ax l|some v=>refine ah (dz l (fun _ b o=>(ah (dz o (fun _ g p=>ah (dz p (fun u f k=>?_) fun _ _ e=>e.elim)) fun _ _ e=>e.elim))) fun _ _ e=>e.elim);cases u with|false=>exact ax ⟨rfl,k⟩|true=>exact ah (ah (dz k (fun x i q=>ah (dz q (fun _ j t=>ax (ax ⟨rfl,t⟩)) fun _ _ e=>e.elim)) fun _ _ e=>e.elim))
end
noncomputable def Cx.comp(X:Cx)(scope:Scope)(cl:List (Str×Addr))(C:Addr)(a:List Str)(s:Shared)(H:Hp)(fp:List Addr)(pins:List (Addr×Obj)):Cx:={X with N:=a,fA:=s,qJ:=H,env:=compEnvC scope cl C X.env,outer:=X.stack,stack:=X.stack,ex:=fp,fn:=fun x=>scope.names.lookup x==some .cell,pn:=X.pn++pins,xe:=fun _ _=>False}
def qt(σ:zag)(a:List Nat)(n:Nat):zag:=a.map (fun i=>(σ[i]?).getD none)++List.replicate n none
def LQ:Option zai->zai|none=>fun _ H Q=>Q true H|some t=>t
def LR(D:Addr)(J:It)(g:TG)(r:Option zai)(q:TE)(Q:VK)(k:zag)(p:Hp):Prop:=∃W:Nat->Nat->List V->zag->Hp->Prop,(∃m,W 0 m [] k p)/\∀i m c e d,W i m c e d->d D=some (.lst c)/\((J.stop i d/\Q (.ref D) d)\/(J.go i d/\∃N:List V->zag->Hp->Prop,(∀h f j,N h f j->∃o,o<m/\W (i+1) o h f j)/\∀x j,J.zR i d x j->g x e j fun a s=>LQ r a s fun b n=>if b=true then q a n fun y l=>l D=some (.lst c)/\c.length<sizeLine/\N (c++[y]) a (upd l D (.lst (c++[y])))else N c a n))
def x9(c:zah)(d:List Nat)(n:Nat)(g:TG)(e:Option zai)(f:TE):TE:=fun a H Q=>c a H fun J b=>∀D,b D=none->LR D J g e f Q (qt a d n) (upd b D (.lst []))
structure gE(X:Cx)(scope:Scope)(N':List Str)(ix:List Nat)(n:Nat)(tg elt:Expr)(ifs:List Expr)(g:TG)(tc:Option zai)(te:TE):Prop where
 kind:scope.kind=.function
 wO:∀y∈scope.names,y.2=.free->(y.1,NameKind.cell)∉scope.names
 names:∀y∈scope.names,y.2=.local->scope.names.lookup y.1=some .local
 free:∀y∈scope.names,y.2=.free->X.env.kindOf y.1=some .cell\/X.env.kindOf y.1=some .free
 len:ix.length+n=N'.length
 take:∀(j i:Nat),ix[j]?=some i->∃x,N'[j]?=some x/\X.N[i]?=some x/\scope.names.lookup x=some .free
 tgt:∀(cl:List (Str×Addr))(C:Addr)(s:Shared)(H:Hp)(fp:List Addr)(pins:List (Addr×Obj)),PG (X.comp scope cl C N' s H fp pins) tg g
 elt:∀(cl:List (Str×Addr))(C:Addr)(s:Shared)(H:Hp)(fp:List Addr)(pins:List (Addr×Obj)),PE (X.comp scope cl C N' s H fp pins) elt te
 test:(ifs=[]/\tc=none)\/∃c t,ifs=[c]/\tc=some t/\∀(cl:List (Str×Addr))(C:Addr)(s:Shared)(H:Hp)(fp:List Addr)(pins:List (Addr×Obj)),PT (X.comp scope cl C N' s H fp pins) c t
theorem LS{env:Env}:∀{b:List (Str×NameKind)}{x:Str},b.lookup x=some .free->(b.map fun(n,k)=>if(k==NameKind.free&&env.scope.kind==.function&&env.kindOf n==some .cell)then(n,NameKind.cell)else(n,k)).lookup x=some .cell\/(b.map fun(n,k)=>if(k==NameKind.free&&env.scope.kind==.function&&env.kindOf n==some .cell)then(n,NameKind.cell)else(n,k)).lookup x=some .free|[],_,h=>by simp at h|(n,k)::r,x,h=>by have e:=@LS env r x;show List.lookup x ((if(k==NameKind.free&&env.scope.kind==.function&&env.kindOf n==some .cell)=true then(n,NameKind.cell)else(n,k))::_)=_\/List.lookup x ((if(k==NameKind.free&&env.scope.kind==.function&&env.kindOf n==some _)=true then(n,NameKind.cell)else(n,k))::_)=_;cases c:x==n with
 |true=>
 simp[fq,c]at h;cases h;by_cases d:(NameKind.free==NameKind.free&&env.scope.kind==.function&&env.kindOf n==some .cell)=true;.grind
 .grind|false=>
 simp[fq,c]at h;by_cases d:(k==NameKind.free&&env.scope.kind==.function&&env.kindOf n==some .cell)=true;.rw[ao d];simp only[fq,c];exact e h
 .rw[ak d];simp only[fq,c];exact e h
theorem LU{env:Env}:∀{a:List (Str×NameKind)}{x:Str},((a.map fun(n,k)=>if(k==NameKind.free&&env.scope.kind==.function&&env.kindOf n==some .cell)then(n,NameKind.cell)else(n,k)).lookup x=some .cell\/(a.map fun(n,k)=>if(k==NameKind.free&&env.scope.kind==.function&&env.kindOf n==some .cell)then(n,NameKind.cell)else(n,k)).lookup x=some .free)->(x,NameKind.free)∈a\/(a.lookup x=some .cell/\(x,NameKind.cell)∈a)|[],_,h=>by simp at h|(n,k)::r,x,h=>by cases f:x==n with
 |true=>
 have e:=by simpa using f
 subst e;by_cases d:(k==NameKind.free&&env.scope.kind==.function&&env.kindOf x==some .cell)=true
 . have i:=by
    have:(k==NameKind.free)=true:=by simp_all
    simpa using this
   subst i;exact .inl gY
 . rw[bR]at h;have c:(match(x,k)with|(n,k)=>if(k==NameKind.free&&env.scope.kind==.function&&env.kindOf n==some _)=true then(n,NameKind.cell)else(n,k))=(x,k):=ak d;rw[c]at h;simp[fq,beq_self_eq_true]at h;rcases h with h|h;.cases h;(simp)
   .cases h;simp|false=>
 refine((@LU env r x) ?_).imp (bx _) fun z=>⟨by simp[fq,f];exact z.1,bx _ z.2⟩;rw[bR]at h;by_cases d:(k==NameKind.free&&env.scope.kind==.function&&env.kindOf n==some .cell)=true;.have c:(match(n,k)with|(n,k)=>if(k==NameKind.free&&env.scope.kind==.function&&env.kindOf n==some _)=true then(n,NameKind.cell)else(n,k))=(n,NameKind.cell):=ao d;rw[c]at h;simpa[fq,f]using h
 .have c:(match(n,k)with|(n,k)=>if(k==NameKind.free&&env.scope.kind==.function&&env.kindOf n==some _)=true then(n,NameKind.cell)else(n,k))=(n,k):=ak d;rw[c]at h;simpa[fq,f]using h
theorem EM:∀(d:List (Str×NameKind))(n:Nat)(b:List (Str×Addr)),(x,NameKind.cell)∈d->(cellsFrom n d b).lookup x=some c->(∀y,b.lookup x=some y->n<=y\/True)->n<=c
 |[],_,_,h,_,_=>by cases h|(y,k)::r,n,b,h,e,_=>by
  unfold cellsFrom at e;by_cases f:(x,NameKind.cell)∈r
  . split at e;.exact Nat.le_of_succ_le (EM r _ _ f e fun _ _=>.inr trivial)
    .exact EM r n _ f e fun _ _=>.inr trivial
  . rcases aM.mp h with z|z
    . have o:∀(r:List _)(g:Nat)(b:List _),(x,NameKind.cell)∉r->(cellsFrom g r b).lookup x=b.lookup x:=by intro r;induction r with|nil=>intro _ _ _;rfl|cons p r m=>
       intro g b q;obtain⟨j,s⟩:=p;unfold cellsFrom;split;.rw[m _ _ fun z=>q (bx _ z),fq,show(x==j)=false by simp_all]
       simp_all
      simp_all
    .exact absurd z f
theorem B6:∀(b:List (Str×NameKind))(n:Nat)(c:List (Str×Addr)),(x,NameKind.cell)∉b->(cellsFrom n b c).lookup x=c.lookup x
 |[],_,_,_=>rfl|(y,k)::r,n,c,h=>by
  unfold cellsFrom;split;.rw[B6 r _ _ fun z=>h (bx _ z),fq,show(x==y)=false by simp_all]
  .exact B6 r _ _ fun z=>h (bx _ z)
theorem EO:∀(g:List (Str×NameKind))(n:Nat)(e:List (Str×Addr)),(∀x c,e.lookup x=some c->c<n)->(∀x y c,e.lookup x=some c->e.lookup y=some c->x=y)->∀x y c,(cellsFrom n g e).lookup x=some c->(cellsFrom n g e).lookup y=some c->x=y
 |[],_,_,_,h=>h|(z,k)::r,n,e,i,l=>by
  unfold cellsFrom;split
  . have j:∀x c,((z,n)::e).lookup x=some c->(x=z/\c=n)\/e.lookup x=some c:=fun x c h=>by rw[fq]at h;cases u:x==z with|true=>simp_all|false=>simp_all
    refine EO r _ _ (fun x c h=>?_) fun x y c q p=>?_
    . rcases j x c h with⟨_,z⟩|z;.rw[z];simp
      .exact jU (i x c z)
    . rcases j x c q with⟨t,o⟩|a<;>rcases j y c p with⟨s,m⟩|b;.grind
      .have:=i y c b;rw[o]at this;exact absurd this (dI _)
      .have:=i x c a;rw[m]at this;exact absurd this (dI _)
      .exact l x y c a b
  .exact EO r n _ i l
def VB(f:Q (newEnv scope s.heap.objs.size a (cellsFrom (s.heap.objs.size+1) scope.names cl) b none .none (some env) builtinsNs) {s with heap:=pushCells (s.heap.push {cls:=.type "dict",data:=.dict #[]}) scope.names}):wpAny M A (newFunctionEnv scope a cl [] b none .none (some env)) Q E s:=by refine ah (wpAny_alloc (ah (wpAny_layCells _ (fun e d c=>rfl) _ _ _ _ ?_)));rw[iC _];exact ah (ax (ax f))
section
variable{X:Cx}{scope:Scope}{N':List Str}{ix:List Nat}{n:Nat}{tg elt iter:Expr}{ifs:List Expr}{g:TG}{tc:Option zai}{te:TE}{pos:Pos}
def VC(B:gE X scope N' ix n tg elt ifs g tc te)(I:Inv X pins σ H s)(N:∀b∈fp,i9 X pins H b)(T:∀b∈fp,∃o,s.heap.get? b=some o)(t:∀x c,cl.lookup x=some c->X.env.cells.lookup x=some c\/(s.heap.objs.size+1<c/\∃v,h1.IsCell c v))(J:∀y∈scope.names,y.2=.free->cl.lookup y.1=X.env.cells.lookup y.1)(L:∀x y c,cl.lookup x=some c->cl.lookup y=some c->x=y)(M:∀x,scope.names.lookup x=some .cell->∃c,cl.lookup x=some c)(G:∀x c,scope.names.lookup x=some .cell->cl.lookup x=some c->s.heap.objs.size+1<c)(D:∀b o,s.heap.get? b=some o->h1.get? b=some o)(hD:h1.get? s.heap.objs.size=some {cls:=.type "list",data:=.seq #[] 0})(hC:h1.Ns (s.heap.objs.size+1) m):Inv (X.comp scope cl (s.heap.objs.size+1) N' s H fp pins) [] (qt σ ix n) (upd H s.heap.objs.size (.lst [])) {s with heap:=h1,toks:=tk}:=by
 have hn:H s.heap.objs.size=none:=I.bB.fresh (aC _);have lt:∀{b:Addr}{o:Obj},s.heap.get? b=some o->b≠s.heap.objs.size/\b≠s.heap.objs.size+1:=fun e=>⟨aY (aI e),aY (jU (aI e))⟩;have d:∀x c,X.env.cells.lookup x=some c->c<s.heap.objs.size:=fun x c e=>let⟨v,o,k,_⟩:=I.cell x c e;aI k;have E:∀b∈fp,b≠s.heap.objs.size+1:=fun b f=>by grind
 . have A:Un (kR X.stack) fp H (upd H s.heap.objs.size (.lst [])) s.heap h1:=Un.laid D (aC _) hn;refine⟨⟨I.ok.mod,?_,I.ok.glob,I.ok.blt,fV _,L,fun x hx=>?_,fun x c z e=>gm (fW (fx _) (G x c (by simpa using(show(scope.names.lookup x==some NameKind.cell)=true from z)) e)),I.ok.hd,I.ok.frames,.inl rfl,fun b f=>⟨E b f,fun x c e=>(t x c e).elim (fun z=>(N b f).2.2.2.2.1 x c z) fun z w=>by obtain⟨o,k⟩:=T b f;have:=aI k;rw[<-w]at this;exact dI _ (fW (fW (fx _) z.1) this)⟩,I.bs,bo I.ok.ui I.sz,fun b o e f=>?_,fun b f z=>?_,I.stack,I.jG,I.ok.tb.grown I.base.h7⟩,rfl,I.bare,A,⟨m,hC,fun i x v e1 r e3=>?_⟩,fun x c e=>?_,?_,fun x c e=>?_,fun p Z=>?_,?_,?_⟩;.exact B.kind
   . show∃c,cl.lookup x=some c;rcases LU hx with a|a;case inr=>exact M x a.1
     have z:=J _ a rfl;rw[z];exact I.ok.has x (B.free _ a rfl)
   . obtain⟨_,_,_,f3,_⟩:=N b f;rcases f3 with z|z;.exact I.ok.rY b o e z
     .exact absurd (cW (aI e) (bo I.ok.ui z)) (dI _)
   . rcases aM.mp (I.gy b z)with e|e;.exact(N b f).2.1 e
     .exact(N b f).2.2.1 e
   . have O:i<ix.length:=by
       unfold qt at r;by_cases O:i<ix.length;.exact O
       .rw[jk (by simpa using O),lq]at r;split at r<;>cases r
     obtain⟨j,C⟩:∃j,ix[i]?=some j:=⟨ix[i],by simp⟩;obtain⟨y,y1,y2,y3⟩:=B.take i j C;have Q:x=y:=by have z:N'[i]?=some x:=e1;rw[y1]at z;exact(dU z).symm
     subst Q;have ev:σ[j]?=some (some v):=by unfold qt at r;rw[fm (by simpa using O),bX,C]at r;have z:(σ[j]?).getD none=some v:=dU r;cases q:σ[j]? with|none=>rw[q]at z;cases z|some w=>rw[q]at z;exact cK some z
     obtain⟨m0,hn0,hl⟩:=I.loc;have Y:(x,NameKind.free)∈scope.names:=fX y3;have kx:=B.free _ Y rfl;have R:zx X.env.scope x:=kx.elim (fun z=>.inr (.inl z)) fun z=>.inr (.inr z);obtain⟨u,ru,lu⟩:=hl j x v y2 ev R;refine⟨u,ru,.inr ⟨?_,?_⟩⟩;.exact LS y3
     . rcases lu with⟨z,_⟩|⟨_,c,hc,l⟩;.rcases kx with w|w<;>(rw[w]at z;cases z)
       . refine⟨c,?_,?_⟩;.show cl.lookup x=some c;rwa[J _ Y rfl]
         .obtain⟨o,k,S⟩:=l;exact⟨o,D c o k,S⟩
   . rcases t x c e with z|⟨_,z⟩;.obtain⟨v,o,k,S⟩:=I.cell x c z;exact⟨v,o,D c o k,S⟩
     omega
   .show upd H _ _ (s.heap.objs.size+1)=none;rw[bz (Nat.succ_ne_self _)];exact I.bB.fresh (fV _)
   . rcases t x c e with z|⟨z,_⟩;.have:=d x c z;rw[bz (aY this)];exact I.gw x c z
     .rw[bz (eO (fW (fx _) z))];exact I.bB.fresh (gm (fW (fx _) z))
   . rw[dg]at Z;obtain⟨U,q2,q3,q4,q5⟩:=I.pin p Z;refine⟨D _ _ U,by rwa[bz (lt U).1],(lt U).2,fun z=>?_,q5⟩;rcases aM.mp (I.gy _ z)with e|e;.exact q3 e
     .exact q4 e
   .exact I.bB.laid D (aC _) ⟨bM _,_,0,.nil,hD⟩
   .unfold qt;rw[eJ,aF,List.length_replicate];exact B.len
def VD(I:Inv X pins σ H s)(c:∀b∈fp,i9 X pins H b)(J:Inv (X.comp scope cl C N' s H fp pins) [] f H' s'):Inv X pins σ H' s':=by obtain⟨h,g,d,t,e⟩:=s';obtain rfl:e=s.os:=J.os;exact I.call J.base J.bB J.bare fun b a=>⟨(c b a).2.2.2.1,(c b a).2.1,(c b a).2.2.2.2.1,(c b a).2.2.2.2.2⟩
def LV{it:Addr}{RR:Value->Addr->Result->Shared->Prop}(B:gE X scope N' ix n tg elt ifs g tc te)(hc:X.calm=true)(I:Inv X pins σ H s)(T:Turn X.prog X.w X.K tg J fp it tn)(st:tn 0 s.heap)(hf:∀b∈fp,i9 X pins H b)(uC:∀x c,cl.lookup x=some c->X.env.cells.lookup x=some c)(VE:∀y∈scope.names,y.2=.free->cl.lookup y.1=X.env.cells.lookup y.1)(body:∀D,H D=none->LR D J g tc te Q (qt σ ix n) (upd H D (.lst [])))(VF:∀D C H' s' m,Inv X pins σ H' s'->s'.heap.Ns C m->i9 X pins H' C->Q (.ref D) H'->RR (.ref D) C (.ok .next) s'):wpAny (model X.prog X.w) X.A (newList []) (fun A O=>wpAny (model X.prog X.w) X.A (newFunctionEnv scope X.env.globals cl [] X.env.qual none .none (some X.env)) (fun Af wQ=>codeAny (model X.prog X.w) X.A (.compStart (.ListComp elt [⟨tg,iter,ifs,0⟩] scope pos) 0 (.ref it) A {Af with scope:=relabel scope X.env}) (RR A Af.locals) wQ) E O) E s:=by
 refine lZ (VB ?_);dsimp only;generalize ER:s.heap.push {cls:=.type "list",dict:=none,data:=.seq ([]:List Value).toArray}=j;have hC:j.objs.size=s.heap.objs.size+1:=by rw[<-ER,iC]
 obtain⟨l,U⟩:=zaa (cellsFrom (j.objs.size+1) scope.names cl);rw[<-U];obtain⟨f,eh⟩:=zaa (pushCells (j.push {cls:=.type "dict",data:=.dict #[]}) scope.names);rw[<-eh];have kp:∀b o,j.get? b=some o->f.get? b=some o:=fun b o e=>by rw[eh];exact pushCells_keeps _ _ b o (aO _ e)
 have Z:f.Ns j.objs.size fun _=>none:=by rw[eh];exact(Heap.Ns.new j (.type "dict")).keeps (pushCells_keeps _ _)
 have below:∀b,b<s.heap.objs.size->b≠j.objs.size:=fun b M=>by lia
 have old:∀b o,s.heap.get? b=some o->f.get? b=some o:=fun b o e=>kp b o (ER▸aO _ e);have ES:f.get? s.heap.objs.size=some {cls:=.type "list",data:=.seq #[] 0}:=kp _ _ (ER▸b7 _ rfl);have VG:∀x c,cl.lookup x=some c->c<s.heap.objs.size:=fun x c e=>let⟨v,o,ho,_⟩:=I.cell x c (uC x c e);aI ho;have own:∀x c,(x,NameKind.cell)∈scope.names->l.lookup x=some c->s.heap.objs.size+1<c:=fun x c h e=>by rw[U]at e;have:=EM scope.names _ cl h e fun _ _=>.inr trivial;lia
 have Ag:∀x c,l.lookup x=some c->X.env.cells.lookup x=some c\/(s.heap.objs.size+1<c/\∃v,f.IsCell c v):=fun x c e=>by
  by_cases hx:(x,NameKind.cell)∈scope.names
  . refine .inr ⟨own x c hx e,none,?_⟩;have B7:=cellsFrom_ok scope.names (j.push {cls:=.type "dict",data:=.dict #[]}) 0 [] ⟨fun _ _ hm=>(nomatch hm),List.Pairwise.nil⟩ (bM _);have e2:(cellsFrom (j.objs.size+1) scope.names []).lookup x=some c:=by
     have gen:∀(a:List (Str×NameKind))(n:Nat)(A:List (Str×Addr)),(x,NameKind.cell)∈a->(cellsFrom n a A).lookup x=(cellsFrom n a []).lookup x:=by
      have ET:∀(a:List (Str×NameKind))(n:Nat)(A Y:List (Str×Addr)),(x,NameKind.cell)∈a\/A.lookup x=Y.lookup x->(cellsFrom n a A).lookup x=(cellsFrom n a Y).lookup x:=by intro a;induction a with|nil=>intro n A Y h;exact h.elim (fun z=>by cases z) id|cons p r ih=>
       intro n A Y h;obtain⟨y,k⟩:=p;unfold cellsFrom;split
       . rename_i hk;have VH:k=.cell:=by simp_all
         subst VH;refine ih _ _ _ ?_;by_cases exy:x=y;.simp_all
         . rcases h with z|z;.simp_all
           .exact .inr (by simp only[fq,show(x==y)=false by simp_all];exact z)
       . rename_i hk;refine ih _ _ _ ?_;rcases h with z|z
         . rcases aM.mp z with w|w;.cases w;exact absurd rfl hk
           .exact .inl w
         .exact .inr z
      exact fun a n A h=>ET a n A [] (.inl h)
     rwa[<-gen scope.names _ cl hx,<-U]
    rw[iC]at B7;rw[eh];exact(B7.empty x c (fX e2)).1
  .rw[U,B6 _ _ _ hx]at e;exact .inl (uC x c e)
 have EU:∀y∈scope.names,y.2=.free->l.lookup y.1=X.env.cells.lookup y.1:=fun y hy hf=>by rw[U,B6 _ _ _ (B.wO y hy hf)];exact VE y hy hf
 have EV:∀x y c,l.lookup x=some c->l.lookup y=some c->x=y:=by rw[U];exact EO scope.names _ cl (fun x c e=>cW (VG x c e) (by rw[hC];lia)) fun x y c e1 e2=>I.ok.inj x y c (uC x c e1) (uC y c e2)
 have pk:∀x,scope.names.lookup x=some .cell->∃c,l.lookup x=some c:=fun x h=>by rw[U];exact Option.isSome_iff_exists.mp (oI scope.names _ cl (.inl h))
 have EW:∀x c,scope.names.lookup x=some .cell->l.lookup x=some c->s.heap.objs.size+1<c:=fun x c h e=>own x c (fX h) e;have rZ:∀b,b<s.heap.objs.size->(∀x c,X.env.cells.lookup x=some c->c≠b)->∀x c,l.lookup x=some c->c≠b:=fun b M hold x c e z=>by
  rcases Ag x c e with w|⟨w,_⟩;.exact hold x c w z
  .rw[z]at w;exact dI _ (fW (fW (fx _) w) M)
 have EX:∀b∈fp,∃o,s.heap.get? b=some o:=fun b M=>let⟨o,e,_⟩:=T.obj 0 _ st b M;⟨o,e⟩;have Ah:tn 0 f:=T.keep 0 _ _ st fun b _ o e=>old b o e;have VI:H s.heap.objs.size=none:=I.bB.fresh (aC _);obtain⟨W,⟨m0,w0⟩,turn⟩:=body _ VI;have J0:Inv (X.comp scope l j.objs.size N' s H fp pins) [] (qt σ ix n) (upd H s.heap.objs.size (.lst [])) {s with heap:=f}:=by rw[hC]at Z⊢;exact VC (tk:=s.toks) B I hf EX Ag EU EV pk EW old ES Z
 have ki:∀{H':Hp},(∀b∈fp,H' b=none)->∀b∈fp,i9 (X.comp scope l j.objs.size N' s H fp pins) [] H' b:=fun hn b M=>by
  obtain⟨f0,f1,f2,f3,f4,f5⟩:=hf b M;obtain⟨o,e⟩:=EX b M;refine⟨hn b M,below b (aI e),fun z=>?_,.inl M,rZ b (aI e) f4,fun p hp=>f5 p ?_⟩
  . rcases aM.mp (I.gy b z)with q|q;.exact f1 q
    .exact f2 q
  .rwa[dg]at hp
 have VJ:∀b∈fp,upd H s.heap.objs.size (.lst []) b=none:=fun b M=>by obtain⟨o,e⟩:=EX b M;rw[bz (aY (aI e))];exact(hf b M).1
 have loop:∀O:Shared,O={s with heap:=f}->codeAny (model X.prog X.w) X.A (.compLoop (.ListComp elt [⟨tg,iter,ifs,0⟩] scope pos) 0 (.ref it) (.ref s.heap.objs.size) (compEnvC scope l j.objs.size X.env)) (RR (.ref s.heap.objs.size) j.objs.size) O:=by
  rintro O rfl;refine VA (fun k s'=>∃i S G L,Inv (X.comp scope l j.objs.size N' s H fp pins) [] G L s'/\tn i s'.heap/\(∀b∈fp,L b=none)/\W i k S G L) ?_ m0 ⟨0,[],_,_,J0,Ah,VJ,w0⟩;rintro k s3 ⟨i,S,vI,L,I3,LW,LX,w3⟩;obtain⟨hD3,alt⟩:=turn i k S vI L w3;rcases alt with⟨stop,q⟩|⟨go,N,hN,step⟩
  . refine bK (T.done (X.comp scope l j.objs.size N' s H fp pins) rfl rfl rfl hc i [] s3 vI L _ I3 (ki LX) LW stop) fun r s4 ⟨hr,I4⟩=>?_;subst hr;obtain⟨m4,VL,_⟩:=I4.loc;refine VF _ _ L s4 m4 (VD I hf I4) VL ⟨I4.free,fun z=>?_,fun z=>?_,.inr (bo I.sz (by omega)),fun x c e z=>?_,fun p hp z=>?_⟩ q;.have lt:=I.lt;rw[<-z,hC]at lt;exact absurd lt (Nat.not_lt.mpr (fV _))
    .exact I.zz (show s.heap.objs.size<=j.objs.size by omega) z
    .obtain⟨v,o,ho,_⟩:=I.cell x c e;have lt:=aI ho;rw[z,hC]at lt;exact absurd lt (Nat.not_lt.mpr (fV _))
    .have lt:=aI (I.pin p hp).1;rw[z,hC]at lt;exact absurd lt (Nat.not_lt.mpr (fV _))
  . refine bK (T.item (X.comp scope l j.objs.size N' s H fp pins) rfl rfl rfl hc i [] s3 vI L _ I3 (ki LX) LW go) fun r s4 ⟨u,hr,h4⟩=>?_;subst hr;refine bK h4 fun _ s5 ⟨x,H5,I5,r5,y5,EY,VM⟩=>?_;have back:∀{Ai:zag}{H7:Hp}{s7:Shared}{x_:List V},Inv (X.comp scope l j.objs.size N' s H fp pins) ([]++xU fp s5.heap) Ai H7 s7->N x_ Ai H7->∃m,m<k/\∃i S G L,Inv (X.comp scope l j.objs.size N' s H fp pins) [] G L s7/\tn i s7.heap/\(∀b∈fp,L b=none)/\W i m S G L:=fun{Ai H7 s7 x_} I7 n7=>by obtain⟨m',hm,w7⟩:=hN x_ Ai H7 n7;refine⟨m',hm,i+1,x_,Ai,H7,I7.gB,T.keep _ _ _ EY fun b M o e=>(I7.pin (b,o) (cN _ (cN _ (zT M e)))).1,fun b M=>?_,w7⟩;obtain⟨o,e,d⟩:=T.obj _ _ EY b M;exact(I7.pin (b,o) (cN _ (cN _ (zT M e)))).2.1
    refine bK (B.tgt l j.objs.size s H fp pins _ s5 vI H5 x u _ (I5.pinned (ki VM) (T.obj _ _ EY)) r5 (step x H5 y5)) fun _ s6 ⟨R,H6,I6,q6⟩=>?_;have fin:∀(b:Bool)(s7:Shared),TP (X.comp scope l j.objs.size N' s H fp pins) ([]++xU fp s5.heap) R (fun b H4=>if b=true then te R H4 fun y H5=>H5 s.heap.objs.size=some (.lst S)/\S.length<sizeLine/\N (S++[y]) R (upd H5 s.heap.objs.size (.lst (S++[y])))else N S R H4) b s7->if b=true then wpAny (model X.prog X.w) X.A (eval elt (compEnvC scope l j.objs.size X.env)) (fun x wQ=>wpAny (model X.prog X.w) X.A (call (.builtin "list.append") [.ref s.heap.objs.size,x]) (fun _ Aj=>∃m,m<k/\∃i S G L,Inv (X.comp scope l j.objs.size N' s H fp pins) [] G L Aj/\tn i Aj.heap/\(∀b∈fp,L b=none)/\W i m S G L) (fun _ _=>False) wQ) (fun _ _=>False) s7 else∃m,m<k/\∃i S G L,Inv (X.comp scope l j.objs.size N' s H fp pins) [] G L s7/\tn i s7.heap/\(∀b∈fp,L b=none)/\W i m S G L:=by rintro b s7 ⟨H7,I7,q7⟩;cases b with|false=>rw[ak fw]at q7⊢;exact back I7 q7|true=>rw[ao rfl]at q7⊢;refine bK (B.elt l j.objs.size s H fp pins _ s7 R H7 _ I7 q7) fun y s8 ⟨yv,H8,I8,r8,VN,hz,n8⟩=>?_;exact bK (BZ _ s8 R H8 (.ref s.heap.objs.size) [yv] (.ref s.heap.objs.size) [y] (fun _ H9=>N (S++[yv]) R H9) I8 rfl (.cons r8 .nil) ⟨_,S,yv,rfl,rfl,VN,hz,n8⟩) fun _ s9 ⟨_,H9,I9,_,n9⟩=>back I9 n9
    rcases B.test with⟨e1,e2⟩|⟨c,t,e1,e2,ht⟩;.subst e1;subst e2;exact wpAny_tests_nil (fin true s6 ⟨H6,I6,q6⟩)
    .subst e1;subst e2;exact wpAny_tests_one (bK (ht l j.objs.size s H fp pins _ s6 R H6 _ I6 q6) fun b s7 z=>fin b s7 z)
 exact codeAny_compStart_list (loop _ rfl) (T.self X.A 0 _ _ _ Ah (loop _ rfl))
def ig(E:X.calm=true)(hi:PI X tg iter l)(B:gE X scope N' ix n tg elt ifs g tc te)(z:autoParam (∀x,foldedSetIterable iter X.env x=pure x) zas):PE X (.ListComp elt [⟨tg,iter,ifs,0⟩] scope pos) (x9 l ix n g tc te):=by intro k s σ H Q I h;obtain⟨cl,a,f,i⟩:=LP fun y t S=>I.ok.has _ (B.free y t S);refine wpAny_comprehension_free rfl z a B.kind B.names (bK (hi _ s _ H _ I h) fun v s1 w=>bK w fun R s2 h2=>?_);obtain⟨it,fp,tn,J,H2,rfl,N,T,j,A,c⟩:=h2;refine LV B E N T j A f i c fun D C H' s' m Z O r q=>⟨m,O,fun h' d=>?_⟩;obtain⟨M,p,U,u,Y,G⟩:=r;exact⟨.ref D,_,Z.turned (fun b o L e=>(d.2 b L).trans e) M p u Y G,rfl,q⟩
def VO(hN:X.N.Nodup)(w:X.N[i]?=some y)(p:Loc X.env.scope y)(hc:X.calm=true)(hi:PI X tg iter Y)(B:gE X scope N' ix n tg elt ifs g tc te)(E:swapsWith (.ListComp elt [⟨tg,iter,ifs,0⟩] scope pos) (some (.Name y py)) j.line X.env=pure true)(L:autoParam (X.fn y=true\/X.env.scope.names.lookup y=some .local) zaq)(hs:autoParam (∀x,foldedSetIterable iter X.env x=pure x) zas):PS X (.Assign [.Name y py] (.ListComp elt [⟨tg,iter,ifs,0⟩] scope pos) j) (kh (x9 Y ix n g tc te) (tK i)):=by
 intro N s σ H D I h;rw[exec_Assign_Name_used _ _ _ _ E];refine ah (fY (ah ?_));obtain⟨cl,c,u,M⟩:=LP fun y p L=>I.ok.has _ (B.free y p L);refine ah (dz (wpAny_comprehension_free rfl hs c B.kind B.names (bK (hi _ s _ H _ I h) fun v s1 h1=>bK h1 fun UJ s2 h2=>?_)) (fun _ s' hq=>ax (ax hq)) fun _ _ e=>e);obtain⟨it,fp,tn,J,H2,rfl,I2,T,t,f2,f⟩:=h2;refine LV B hc I2 T t f2 u M f fun D' C H' s' m I' R hC q=>?_;obtain⟨Z,S,l,O,Q,U⟩:=hC
 have Ip := I'.pinned (fp := [C]) (fun b hb => by have e:b=C:=by simp_all
                                                  subst e;exact⟨Z,S,l,O,Q,U⟩) (fun b hb=>by
   have e:=by simpa using hb
   subst e;obtain⟨o,es,ep,A,r,_⟩:=R;exact⟨o,A,fun v z=>by rw[r]at z;cases z⟩);refine wpAny_assign_Name (BM Ip hN w p (v:=.ref _) rfl (fun s'' d=>?_) L);obtain⟨o,es,ep,A,r,hr⟩:=R;have a:=d.pin _ (cN _ (cN _ (zT (by simp) A)));exact⟨m,⟨o,_,_,a.1,r,hr⟩,fun h' G=>⟨_,_,d.gB.turned (fun b o hb e=>(G.2 b hb).trans e) a.2.1 S O Q U,q⟩⟩
end
section
variable{X:Cx}{scope:Scope}{tg elt:Expr}{ifs:List Expr}{g:TG}{tc:Option zai}{te:TE}
def EZ(b:Scope)(u d:List Str)(l:List Nat)(n:Nat)(B:X.env.scope=b)(q:X.N=u)(h:scope.kind=.function)(o:(scope.names.all fun y=>y.2 !=.free||scope.names.all fun z=>!(z.1==y.1)||z.2 !=.cell)=true)(a:∀y∈scope.names,y.2=.local->scope.names.lookup y.1=some .local)(v:(scope.names.all fun y=>y.2 !=.free||(b.names.lookup y.1==some .cell||b.names.lookup y.1==some .free))=true)(r:l.length+n=d.length)(f:((List.range l.length).all fun j=>match d[j]?,u[l.getD j 0]? with|some x,some y=>x==y&&scope.names.lookup x==some .free|_,_=>false)=true)(p:∀(cl:List (Str×Addr))(C:Addr)(s:Shared)(H:Hp)(fp:List Addr)(pins:List (Addr×Obj)),PG (X.comp scope cl C d s H fp pins) tg g)(m:∀(cl:List (Str×Addr))(C:Addr)(s:Shared)(H:Hp)(fp:List Addr)(pins:List (Addr×Obj)),PE (X.comp scope cl C d s H fp pins) elt te)(k:(ifs=[]/\tc=none)\/∃c t,ifs=[c]/\tc=some t/\∀(cl:List (Str×Addr))(C:Addr)(s:Shared)(H:Hp)(fp:List Addr)(pins:List (Addr×Obj)),PT (X.comp scope cl C d s H fp pins) c t):gE X scope d l n tg elt ifs g tc te:=⟨h,fun y D e L=>by grind,a,fun y D e=>by show X.env.scope.names.lookup _=_\/X.env.scope.names.lookup _=_;grind,r,fun j i e=>by
 obtain⟨J,_⟩:=bV.mp e;have E:l.getD j 0=i:=by rw[cz,e];rfl
 have z:=jj.mp f j (gZ.mpr J);rw[E]at z;cases w:d[j]? with|none=>simp_all|some x=>cases A:u[i]? with|none=>rw[w,A]at z;cases z|some y=>
 rw[w,A]at z;have I:=by simpa using z
 obtain⟨rfl,G⟩:=I;exact⟨x,rfl,by rwa[q],G⟩,p,m,k⟩
end
structure uD(P:Program)(w:World)(K:W.Frag)(mg:Str->Option Value)(base:Heap)(CX:jl)(k:Nat)(x:Str)(ps:List Str)(sp:Sp):Prop where ex:∃(f:Addr)(fd:FuncData),cA P w K mg base CX k f fd ps sp/\mg x=some (.ref f)/\W.keepIn K (.ref f)=true/\zad K fd ps []
section
variable{X:Cx}{CX:jl}{k:Nat}{x:Str}{ps:List Str}{sp:Sp}{E:XK}{p pos:Pos}{e:Expr}{es:List Expr}{t:TA}
def VP(G:uD X.prog X.w X.K X.mg X.base CX k x ps sp)(g:cj k X.A)(i:Gl X x)(d:nW CX X E)(j:PA X (e::es) t)(a:autoParam ((x==("__debug__":Str))=false) zam)(h:autoParam (starEach (e::es) X.env=(false,eval e X.env)::starEach es X.env) zak)(b:autoParam ((backTo pos (starEach es X.env)).any (·.1)=false) zak):PE X (.Call (.Name x p) (e::es) [] pos) (r_ sp [] E t):=let⟨f,_,F,m,c,l⟩:=G.ex;Lb F g i m c l .nil d j a h b
end
structure nK(K:W.Frag)(x:Str)(st:Stmt)(f:Addr)(fd:FuncData):Prop where ns:W.nsIn K mainGlobals x=some (some (.ref f))fn:jJ K x x st f fd
def sj{K:W.Frag}{st:Stmt}{kV d e b g:Value}(a:W.nsIn K mainGlobals x=some (some (.ref f)))(l:K.lookup f=some ⟨i,od,.func (W.fnOf x x (nJ st) (kI st) (cb st) .none kV d e an b g),h⟩)(c:W.codeIn K b x=true)(k:W.keepIn K (.ref f)=true):∃f fd,nK K x st f fd:=⟨f,_,a,B5 l c k⟩
def nK.has{K:W.Frag}{st:Stmt}(D:nK K x st f fd)(X:K.In h)(G:h.Ns mainGlobals mg)(c:cA P w K mg a CX k f fd ps sp)(b:zad K fd ps []):uD P w K mg a CX k x ps sp:=⟨f,_,c,dy X G D.ns,D.fn.kp,b⟩
def VQ(c:H b=none)(h:H a=some o):upd H b u a=some o:=(bz (d9 h c)).trans h
theorem av.upd(a:H b=none):av H (upd H b u):=fun _ _ h=>VQ a h
section
variable{X:Cx}{pos:Pos}
def Ak (K:W.Frag)(n:Nat)(t:uo):TG:=fun v σ H Q=>∃a xs,v=.ref a/\eE K H a xs/\xs.length=n/\t xs σ H Q
noncomputable def x' {es:List Expr}{k:Nat}{t:uo}{n:Nat}(hc:X.calm=true)(h:zJ X es t)(hn:autoParam ((assignEach es X.env).length=n) zak)(VR:autoParam ((assignEach es X.env).findIdx? (·.1)=none) zak):PG X (.Tuple es k pos) (Ak X.K n t):=by
 rintro pins s σ H v u Q I r ⟨a,xs,e1,hq,hl,hw⟩
 subst e1
 cases r
 obtain⟨its,rv,ht,hz⟩:=I.list hq
 have hl2:=rv.length
 refine ah (fY ?_)
 unfold unpack
 rw[hn,VR]
 have e:n=its.toArray.size:=by simp_all
 rw[e]
 refine ah (dV (W.kun_itemsOf (I.ok.hd hc) ht.isList fun h' hx=>?_))
 have I1:Inv X _ _ H {s with heap:=h'}:=I.kept fun b o e=>hx b o (aY (aI e)) e
 exact h _ _ _ H _ _ Q I1 (by omega) hw
end
def bQ{K:W.Frag}(h1:((Value.type S)==(Value.type T))=false)(h2:W.kitMeta T=true)(h3:(PySem.fastBuiltinMro S).map (·.contains (.type T))=some false):W.kitOne K (.type S) (.type T)=some false:=by unfold W.kitOne;rw[h1];show(if W.kitMeta T=true then W.subIn K _ _ else none)=some false;rwa[ao h2]
def iJ {K:W.Frag}:W.kitOne K (.type "int") (.type "bool")=some false:=bQ rfl rfl (by decide+kernel)
structure Tr(h:Heap)(e T:Addr)(cls:Value)(du:Option Addr)(fl:Value):Prop where
 ex:∃(oe:Obj)(vs:Array Value)(oT:Obj)(ts:Array Value),h.get? e=some oe/\oe.cls=cls/\oe.dict=du/\oe.data=.fields vs/\vs[1]?=some (.ref T)/\h.get? T=some oT/\oT.data=.fields ts/\ts[3]?=some fl
 ne:T≠e
structure kj(B:Heap)(l:List Env)(e:Addr)(cls:Value)(du:Option Addr)(fl:Value)(h:Heap):Prop where
 stays:B.StaysIn h
 out:B.get? e=none
 uE:h.FunFrames B l
 tr:∃T,B.get? T=none/\Tr h e T cls du fl
def Obj.km(o:Obj)(f):(o.mapFields f).dict=o.dict:=by obtain⟨c,d,a,b⟩:=o;cases a<;>rfl
def ya{h:Heap}(e:h.get? a=some o)(hd:o.data=.fields vs)(c:h.get? b=some u)(d:∀ws,u.data≠.fields ws):b≠a:=by intro z;simp_all
section
variable{M:Model}{A:Around}{E:Value->Shared->Prop}{s:Shared}{B:Heap}{env:Env}{outer l:List Env}{L e:Addr}{cls:Value}{du:Option Addr}{Q:Unit->Shared->Prop}
def E1(u:A.frames=some (env::outer))(k:s.heap.FunFrames B (env::outer))(U:env.frame=some L)(C:s.heap.get? e=some y)(hd:y.data=.fields vs)(hsz:1<vs.size)(n:B.StaysIn s.heap)(p:B.get? e=none)(h:∀h',kj B (env::outer) e y.cls y.dict (rawInt L) h'->s.heap.UpToSlots h'->Q () {s with heap:=h'}):wpAny M A (do let a<-frameOf env;let pl<-entryPlaceOf L Y;let b<-EntryCells.newEntry N a .none (rawInt L) .none pl;setField (.ref e) 1 b) Q E s:=by
 have r:e∉(env::outer).filterMap _:=fun w=>by obtain⟨_,o,Z,m⟩:=k.mem w;simp_all
 refine ah (wpAny_frameOf_fun u k U fun f c=>ah (wpAny_entryPlaceOf fun pl D=>?_));have H:=(c.2.1 e r).trans C;have j:B.StaysIn _:=fun b o q=>(c.2.1 b fun w=>by rw[(k.mem w).1]at q;cases q).trans (n b o q);refine ah (lZ ?_ (D.sizeOk5 _ _ _ _ _));generalize v:({cls:=.type _,dict:=none,data:=.fields _}:Obj)=G;have O:∃x,G.data=.fields x/\x[3]?=some (rawInt L):=by subst v;simp
 have t:=let⟨_,d,_⟩:=O;lP d;have R:(f.push G).get? e=some _:=aO _ H;refine ke R hd hsz (h _ ?_ ?_)
 . have i:=eO (aI H);have J:∀b o,b≠e->f.get? b=some o->((f.push G).update e (Obj.mapFields (·.setIfInBounds 1 (Value.ref f.objs.size)))).get? b=some o:=fun b o g q=>by rw[fH _ _ (aN g)];exact aO _ q
   have I:=jV hd (·.setIfInBounds 1 (Value.ref f.objs.size));refine⟨fun b o q=>J b o (fun z=>by simp_all) (j b o q),p,k.of_keeps fun b o g m=>?_,_,j.fresh,⟨?_,i⟩⟩;.obtain⟨S,q⟩:=c.2.2 b o g;exact⟨_,J b _ (ya C hd g m) q,rfl⟩
   .obtain⟨x,X,T⟩:=O;refine⟨_,_,_,_,jh _ R (lP I),Obj.cls_mapFields _ _,Obj.km _ _,I,by simp_all,?_,X,T⟩;rw[fH _ _ (aN i)];exact b7 _ t
 .intro b o g m;obtain⟨S,q⟩:=c.2.2 b o g;refine⟨S,?_⟩;rw[fH _ _ (aN (ya C hd g m))];exact aO _ q
def E2(F:kj B l e cls du fl s.heap)(h:∀h',kj B l e cls du .none h'->s.heap.UpToSlots h'->Q () {s with heap:=h'}):wpAny M A (setFlight (.ref e) none) Q E s:=by
 obtain⟨T,m,⟨w,x,y,v,j,t,i,r,p,f,a,u⟩,k⟩:=F.tr;have n:=(ud.mp u).1;have c:∀b o,b≠T->s.heap.get? b=some o->(s.heap.update T (Obj.mapFields (·.setIfInBounds 3 Value.none))).get? b=some o:=fun b o d q=>by rwa[fH _ _ (aN d)]
 exact ah (cL j r p (ke f a n (h _ ⟨fun b o q=>c b o (fun z=>by rw[z,m]at q;cases q) (F.stays b o q),F.out,F.uE.of_keeps fun b o d g=>⟨o,c b o (ya f a d g) d,rfl⟩,T,m,⟨⟨_,_,_,_,c e _ (aN k) j,t,i,r,p,jh _ f (lP (jV a _)),jV a _,by simp[n]⟩,k⟩⟩ fun b o d g=>⟨_,c b o (ya f a d g) d⟩)))
def VS(d:A.frames=some (env::outer))(g:env.frame=some L)(a:B.StaysIn h)(m:h.FunFrames B (env::outer))(c:Heap.MadeExcOf h s.heap e cls i)(k:∀h',kj B (env::outer) e cls none (rawInt L) h'->s.heap.UpToSlots h'->Q () {s with heap:=h'}):wpAny M A (noteFrame (.ref e) env) Q E s:=by
 obtain⟨t,f,_,_⟩:=c.there;have j:B.get? e=none:=by cases q:B.get? e with|none=>rfl|some o=>have z:=a e o q;rw[c.new]at z;cases z
 unfold noteFrame;simp[g];exact ah (cL f rfl rfl (E1 d (m.of_keeps fun b o n _=>⟨o,c.keeps b o n,rfl⟩) g f rfl (by simp) (fun b o q=>c.keeps b o (a b o q)) j k))
def VT(h:A.frames=some (env::outer))(p:env.frame=some L)(F:kj B (env::outer) e cls du .none s.heap)(k:∀h',kj B (env::outer) e cls du (rawInt L) h'->s.heap.UpToSlots h'->Q () {s with heap:=h'}):wpAny M A (noteFrame (.ref e) env) Q E s:=by
 obtain⟨T,v,⟨D,G,C,H,r,u,i,m,j,g,c,n⟩,x⟩:=F.tr;have w:=(ud.mp n).1;have a:∀b o,b≠T->s.heap.get? b=some o->(s.heap.update T (Obj.mapFields (·.setIfInBounds 3 Value.none))).get? b=some o:=fun b o d q=>by rwa[fH _ _ (aN d)]
 subst u;subst i;unfold noteFrame;simp[p];refine ah (cL r m j (ah (cL g c n (ah (ke g c w (E1 h (F.uE.of_keeps fun b o d f=>⟨o,a b o (ya g c d f) d,rfl⟩) p (a e _ (aN x) r) m (ud.mp j).1 (fun b o q=>a b o (fun z=>by rw[z,v]at q;cases q) (F.stays b o q)) F.out fun h' y t=>?_))))));exact k _ y fun b o d f=>t b o (a b o (ya g c d f) d) f
def kj.pop(F:kj B (env::outer) e cls du fl h):kj B outer e cls du fl h:=⟨F.stays,F.out,F.uE.2.2,F.tr⟩
end
structure VU(P:Program)(w:World)(outer:List Env)(H:Hp)(s:Shared)(e:Addr)(cls:Value)(du:Option Addr)(H':Hp)(s':Shared):Prop where
 os:s'.os=s.os
 bare:AllBare s'.gens
 un:Un (kR outer) [] H H' s.heap s'.heap
 lay:∃B,kj B outer e cls du .none s'.heap/\g_ P w H' B/\∀b o,s.heap.get? b=some o->b∉kR outer->∃o',B.get? b=some o'/\(H b=none->o'=o)
def qO(P:Program)(w:World):jl:=fun a H s E e f=>∃(d C:Addr)(b:Option Addr)(c:Hp),e=.ref d/\VU P w a H s d (.ref C) b c f/\E (.ref C) b c
def g_.none_of(x:g_ P w H B)(n:B.get? a=none):H a=none:=by cases q:H a with|none=>rfl|some o=>have b:=(x a o q);cases o with|lst i=>obtain⟨_,_,_,_,e⟩:=b;simp_all|tup i=>obtain⟨_,_,_,o,e,_⟩:=b;simp_all|dK c=>obtain⟨_,_,_,_,o,_,_,e,_⟩:=b;simp_all|dT c=>obtain⟨_,_,_,_,o,_,_,e,_⟩:=b;simp_all|set S J=>obtain⟨o,_,_,_,e,_⟩:=b;simp_all|ins C G r=>obtain⟨_,_,_,e,_⟩:=b;simp_all|own y=>obtain⟨_,e⟩:=b;simp_all|xd r=>obtain⟨_,⟨_,_,_,e,_⟩,_⟩:=b;simp_all|l' lo z=>obtain⟨_,_,_,e⟩:=b;simp_all|jr A u=>obtain⟨e,_⟩:=b;simp_all|oX v=>obtain⟨_,_,_,_,_,_,_,e,_⟩:=b;simp_all|met f y=>have e:B.get? a=some _:=b;simp_all|ext t=>obtain⟨_,⟨_,e⟩,_⟩:=b;simp_all
def E3{h0 h1 h2 h3 B:Heap}(U:Un fs [] k t h0 h1)(V:Un fr [] t y h1 h2)(A:h0.objs.size<=L)(sub:∀b∈fr,b∈L::fs)(m:∀b∈fs,b∈fr)(p:∀b∈fs,k b=none)(j:∀b∈fs,∀o,h2.get? b=some o->∀vs,o.data≠.fields vs)(D:h2.UpToSlots h3)(st:B.StaysIn h3)(r:∀b o,h1.get? b=some o->b∉fr->∃f,B.get? b=some f/\(t b=none->f=o)):Un fs [] k y h0 h3/\∀b o,h0.get? b=some o->b∉fs->∃f,B.get? b=some f/\(k b=none->f=o):=by
 have s:∀b o,h0.get? b=some o->b∉fs->b∉fr:=fun b o e a x=>by
   rcases aM.mp (sub b x)with z|z;.exact absurd (cW (aI e) A) (by simp_all)
   .grind
 have c:∀b o,h0.get? b=some o->b∉fs->∃f,B.get? b=some f/\(k b=none->f=o):=fun b o e a=>by obtain⟨w,g⟩:=U.there b o e (by simp);obtain⟨H,h,z⟩:=r b _ g (s b o e a);refine⟨_,h,fun n=>?_⟩;have i:=U.keep b o e n a (by simp);rw[g]at i;cases i;exact z (U.free b o e n (by simp))
 have d:∀b o,h0.get? b=some o->b∈fs->∃v,h3.get? b=some {o with slots:=v}:=fun b o e a=>by have n:=p b a;obtain⟨N,g⟩:=U.slot b o e n a (by simp);obtain⟨J,h⟩:=V.slot b _ g (U.free b o e n (by simp)) (m b a) (by simp);obtain⟨G,C⟩:=D b _ h (j b a _ h);exact⟨_,C⟩
 refine⟨⟨fun b o e n a _=>?_,fun b o e n a _=>d b o e a,fun b o e n _=>?_,fun b o e _=>?_,fun b E e=>V.kg b _ (U.kg b _ e),fun b o u e=>V.js b o u (U.js b o u e),fun b I e=>?_⟩,c⟩;.obtain⟨f,l,z⟩:=c b o e a;rw[z n]at l;exact st b o l
 .obtain⟨w,g⟩:=U.there b o e (by simp);exact V.free b _ g (U.free b o e n (by simp)) (by simp)
 . by_cases a:b∈fs;.obtain⟨v,q⟩:=d b o e a;exact⟨_,q⟩
   .obtain⟨f,l,_⟩:=c b o e a;exact⟨_,st b _ l⟩
 .obtain⟨O,g⟩:=U.h7 b _ e;obtain⟨M,h⟩:=V.h7 b _ g;exact⟨_,by rw[h,Array.append_assoc]⟩
section
variable{P:Program}{w:World}{K:PySem.W.Frag}{mg:Str->Option Value}{base:Heap}{N:List Str}{qual:Str}{scope:Scope}{f:Addr}{cd:Value}{A:Around}{outer:List Env}{s0:Shared}{H0:Hp}{E:XK}
abbrev kn(P:Program)(w:World)(K:W.Frag)(mg:Str->Option Value)(base:Heap)(N:List Str)(qual:Str)(scope:Scope)(f:Addr)(cd:Value)(A:Around)(outer:List Env)(s0:Shared)(H0:Hp)(E:XK):Cx:=nF (qO P w) P w K mg base N qual scope f cd A outer s0 H0 E
def VV(I:Inv (kn P w K mg base N qual scope f cd A outer s0 H0 E) pins σ H s)(r:Heap.MadeExcOf s.heap s'.heap ea (.ref C) m)(os:s'.os=s.os)(j:AllBare s'.gens)(q:E (.ref C) none H):(kn P w K mg base N qual scope f cd A outer s0 H0 E).xe (.ref ea) s':=by have l:∀i∈(kn P w K mg base N qual scope f cd A outer s0 H0 E).stack,∀a,i.frame=some a->a∈kR _:=fun i y a x=>lB.mpr ⟨_,y,x⟩;have d:=I.stack;refine ah (VS I.ok.frames rfl (fun b o e=>oN _ e) (W.funFrames_hide d l) r fun G B up1=>(E2 B fun J p k=>?_));have c:∀b o,s.heap.get? b=some o->b∉kR (kn P w K mg base N qual scope f cd A outer s0 H0 E).stack->(W.hideAll _ _).get? b=some o:=fun b o e g=>oJ _ e g;obtain⟨u,h⟩:=E3 I.base Un.refl I.ok.above I.gy (fun b g=>bx _ g) I.ok.tJ (fun b g o e=>by obtain⟨_,D,t,L⟩:=d.mem (bx _ g);simp_all) ((Heap.UpToSlots.of_keeps r.keeps).trans (up1.trans k)) p.stays (fun b o e g=>⟨o,c b o e g,fun _=>rfl⟩);refine⟨_,C,_,H,rfl,⟨os.trans I.os,j,u,_,p.pop,?_,h⟩,q⟩;intro a o e;refine(I.bB a o e).hZ (fun b v g q=>c b v q fun z=>?_) (fun _ q=>q) fun _ _ q=>q;have n:=I.jG b z;simp_all
def VW(I:Inv (kn P w K mg base N qual scope f cd A outer s0 H0 E) pins σ H s)(h:qO P w (kn P w K mg base N qual scope f cd A outer s0 H0 E).stack H s E e s'):(kn P w K mg base N qual scope f cd A outer s0 H0 E).xe e s':=by obtain⟨x,C,n,p,rfl,F,q⟩:=h;obtain⟨B,k,d,c⟩:=F.lay;refine ah (VT I.ok.frames rfl k fun v m up1=>(E2 m fun y j g=>?_));obtain⟨u,a⟩:=E3 I.base F.un I.ok.above I.gy (fun b i=>bx _ i) I.ok.tJ (fun b i o e=>by obtain⟨_,t,l,r⟩:=k.uE.mem (bx _ i);simp_all) (up1.trans g) j.stays c;exact⟨_,C,_,_,rfl,⟨F.os.trans I.os,F.bare,u,B,j.pop,d,a⟩,q⟩
end
def VX{K:W.Frag}(X:K.In h)(q:W.excIn K C d newId=true):∃bm N nm e bs hdct sn sub ab col dd k0 k1 k2 k3 k5 mN,h.get? C=some (excClassObj nm e C N bs bm hdct sn sub ab col dd k0 k1 k2 k3 k5 newId)/\h.Ns N mN/\mN "__init__"=none/\OwnTail h d bm:=by
 unfold W.excIn at q;split at q
 . rename_i dd f g l;split at q;.rename_i s bm k0 k1 k2 k3 n k5 k m;simp[eR]at q;obtain⟨⟨⟨⟨⟨rfl,rfl⟩,a⟩,o⟩,b⟩,c⟩:=q;obtain⟨nm,bs,p,t,e,r,sn,sub,ab,col,i⟩:=f;subst k a;obtain⟨j⟩:=g;subst m;exact⟨_,_,_,_,_,_,_,_,_,_,_,_,_,_,_,_,_,X _ _ l,.of_isNs (oK X b),W.nsMap_none_of_in X b c,W.tail_of_in X o⟩
   simp_all
 simp_all
def Made(X:Cx)(E:zag->XK):Prop:=∀(a:List (Addr×Obj))(e:zag)(H:Hp)(s c:Shared)(d C:Addr)(b:List Value),Inv X a e H s->Heap.MadeExcOf s.heap c.heap d (.ref C) b->c.os=s.os->AllBare c.gens->E e (.ref C) none H->X.xe (.ref d) c
def E4(CX:jl)(X:Cx)(E:zag->XK):Prop:=∀(a:List (Addr×Obj))(c:zag)(H:Hp)(s:Shared)(e:Value)(b:Shared),Inv X a c H s->CX X.stack H s (E c) e b->X.xe e b
def LY(C:Addr)(E:zag->XK)(t:TA):TS:=fun _ a H=>t a H fun b c=>b.length<=sizeLine/\E a (.ref C) none c
section
variable{X:Cx}{x:Str}{np dN pos:Pos}{ij:Expr}{rest:List Expr}{C:Addr}{mR vJ:List Value}{newId Bn B vK vL gF:String}{E:zag->XK}{t:TA}
def Al(hc:X.calm=true)(S:Gl X x)(d:X.mg x=some (.ref C))(u:W.excIn X.K C mR newId=true)(G:ExcBaseFacts Bn newId vL vJ)(c:mR.contains (.type Bn)=true)(o:ExcBaseFacts B vK gF mR)(hE:Made X E)(r:PA X (ij::rest) t)(n:autoParam (starEach (ij::rest) X.env=(false,eval ij X.env)::starEach rest X.env) zak)(b:autoParam ((backTo dN (starEach rest X.env)).any (·.1)=false) zak)(i:autoParam ((x==("__debug__":Str))=false) zam):PS X (.Raise (some (.Call (.Name x np) (ij::rest) [] dN)) none pos) (LY C E t):=by intro m s σ H D I h;obtain⟨tl,N,U,y,bs,a,M,e,Z,g,Q,w,v,J,R,L,mN,Y,p,f,T⟩:=VX I.ok.mod.vy u;refine wpAny_Raise_call_subU (nm:=U) (q:=y) (N:=N) (bs:=bs) (hdct:=a) (sn:=M) (sub:=e) (ab:=Z) (col:=g) (dd:=Q) (k0:=w) (k1:=v) (k2:=J) (k3:=R) (k5:=L) G c o (T.hasType o.hasBase) (I.ok.hd hc) (by rw[n];show(false||(backTo _ _).any _)=false;grind) f (zC I S d ⟨rfl,?_⟩ i);have l:=r dN _ s _ H _ I h;rw[n]at l⊢;refine pV (bK l fun us s1 ⟨_,_,j,O,z,q⟩=>?_);have k:=j.bk;exact⟨rfl,by rwa[<-O.length],k _ _ Y,p.keeps k,T.keeps k,fun h' ea A=>hE _ _ _ _ _ _ C _ j A rfl j.bare q⟩
end
def E5(sp:Sp)(E:zag->XK)(t:TA):TE:=fun a H Q=>t a H fun b c=>sp b c Q (E a)
section
variable{X:Cx}{CX:jl}{k:Nat}{x:Str}{ps:List Str}{sp:Sp}{E:zag->XK}{p pos:Pos}{e:Expr}{es:List Expr}{t:TA}
def VY(G:uD X.prog X.w X.K X.mg X.base CX k x ps sp)(D:cj k X.A)(N:Gl X x)(M:E4 CX X E)(w:PA X (e::es) t)(i:autoParam ((x==("__debug__":Str))=false) zam)(A:autoParam (starEach (e::es) X.env=(false,eval e X.env)::starEach es X.env) zak)(d:autoParam ((backTo pos (starEach es X.env)).any (·.1)=false) zak):PE X (.Call (.Name x p) (e::es) [] pos) (E5 sp E t):=by
 obtain⟨f,O,F,C,L,o⟩:=G.ex;intro n s y H Q I h;refine hW (zC I N C (lQ I.ok.mod.vy L (bK (w _ _ s _ H _ I h) fun c m ⟨_,Z,a,r,q⟩=>⟨a.h_,?_⟩) A d) i);have U:c.length=ps.length:=by rw[<-r.length];exact F.len _ _ _ _ q
 have v:BindsTo m O ⟨c,[]⟩ (ps.zip c):=by have z:=o _ c a.h_ (by simp_all);simp_all
 refine gu (gr (F.run X.A _ m _ _ _ _ Q _ D a.ux v r q) fun R T b=>?_);cases R with|error S=>exact M _ y _ _ _ _ a b|ok B=>cases B with|ret u=>exact a.after b|next=>exact False.elim b|brk=>exact False.elim b|cont=>exact False.elim b
end
def E6(C:Addr)(b:Option Addr)(ea:Addr):HO:=.ext fun h=>∃a,h.get? ea=some a/\a.cls=.ref C/\a.dict=b/\∃c,a.data=.fields c
def Inv.vM(I:Inv X pins σ H s)(A:H ea=none)(h0:X.fA.heap.get? ea=none)(h:ea≠X.env.locals)(l:∀x c,X.env.cells.lookup x=some c->c≠ea)(f:∀p∈X.pn++pins,p.1≠ea)(d:dE X.prog X.w (upd H ea o) s.heap ea o):Inv X pins σ (upd H ea o) s:=by
 have a:∀{b:Addr}{u:HO},H b=some u->b≠ea:=fun q z=>by simp_all
 refine⟨I.ok,I.os,I.bare,⟨I.base.keep,I.base.slot,fun b r q n g=>?_,I.base.there,fun b i q=>?_,fun b r u q=>?_,fun b B q=>?_⟩,I.loc,I.cell,?_,fun x c q=>?_,fun p q=>?_,fun b u q=>?_,I.len⟩;.rw[bz (fun z=>by rw[z,h0]at q;cases q)];exact I.base.free b _ q n g
 .have z:=I.base.kg b _ q;rwa[bz (a z)]
 .have z:=I.base.js b _ u q;rwa[bz (a z)]
 .obtain⟨m,z⟩:=I.base.h7 b _ q;exact⟨m,by rwa[bz (a z)]⟩
 .rw[bz (aN h)];exact I.free
 .rw[bz (l x c q)];exact I.gw x c q
 .obtain⟨t,y,k,w,j⟩:=I.pin p q;exact⟨t,by rwa[bz (f p q)],k,w,j⟩
 . by_cases e:b=ea;.subst e;rw[cu]at q;grind
   .rw[bz e]at q;exact(I.bB b u q).hZ (fun c v _ z=>z) (fun c z=>by rwa[bz (a z)]) fun c i z=>by rwa[bz (a z)]
section
variable{P:Program}{w:World}{X:Cx}{x n:Str}{np E7 pos:Pos}{body:List Stmt}{E8:Stmt}{Am:List Stmt}{D':Addr}{tb:(zag->XK)->TS}{th:TS}{i:Nat}
structure gG(K:W.Frag)(C:Addr):Prop where
 ga:W.findIn K (.ref C) "__getattribute__"=some (some (.builtin "BaseException.__getattribute__"))gn:W.findIn K (.ref C) "__getattr__"=some none
 hd:W.hasDictIn K C=true
 ha:W.findIn K (.ref C) "__class__"=some (some (.builtin "object.__class__"))hn:W.specialIn K (.builtin "object.__class__") "__get__"=some (some (.builtin "getset_descriptor.__get__"))UX:W.takesIn K (.builtin "object.__class__")=some true
 hm:W.mroIn K C (.type "object")=some true
 hb:W.mroIn K C (.type "BaseException")=some true
end
section
variable{P:Program}{w:World}{K:PySem.W.Frag}{mg:Str->Option Value}{base:Heap}{N:List Str}{qual:Str}{scope:Scope}{f:Addr}{cd:Value}{A:Around}{outer:List Env}{s0:Shared}{H0:Hp}{E:XK}
def Ao:Made (kn P w K mg base N qual scope f cd A outer s0 H0 E) (fun _=>E):=fun _ _ _ _ _ _ _ _ I b os a q=>VV I b os a q
def yb:E4 (qO P w) (kn P w K mg base N qual scope f cd A outer s0 H0 E) (fun _=>E):=fun _ _ _ _ _ _ I h=>VW I h
def uF:nW (qO P w) X E0:=fun _ _ _ _ _ _ _ h=>by obtain⟨_,_,_,_,_,_,z⟩:=h;grind
def jJ.B8{x qual:Str}{st:Stmt}{f:Addr}{N ps:List Str}(F:jJ K x qual st f fd)(S:bY N ps (cb st))(c:∀vs H Q E,sp vs H Q E->vs.length=ps.length)(b:∀(a:Value)(A:Around)(outer:List Env)(s:Shared)(H:Hp)(vs:List V)(Q:VK)(E:XK),cj k (A.deeper (envOfC qual (cb st) s.heap.objs.size f a))->sp vs H Q E->∃t,mm (kn P w K mg base N qual (cb st) f a A outer s H E) (kI st) t/\t {nx:=fun _ H'=>Q .non H',rt:=Q} (start N vs) H):cA P w K mg base (qO P w) (k+1) f fd ps sp:=by obtain⟨p,n,kV,h,l,m,a,o,j,rfl,g,d⟩:=F.ex;exact BR g d S c fun A outer s H vs Q E i e=>b _ A _ s H _ Q E i e
end
end L2
namespace PM
inductive D where|non|bl(b:Bool)|int(i:Int)|str(x:Str)|tup(l:List D)|lst(l:List D)|du(ks:List Key)(l:List D)|c_(l:List Int)|exc(c:Nat)|fd(ks:List Key)(l:List D)|obj(c:Nat)(ks:List Str)(l:List D)
structure Kx where
 f:W.Frag
 ca:Nat->Addr
 an:Nat->Str
def XA(K:Kx)(F:Hp)(c:Nat)(a:Option Addr):Prop:=if c<16 then a=none else∃b,a=some b/\F b=some (.xd [(K.an c,.int (((c/16:Nat):Int)-1))])
section
variable (K : Kx)
mutual
def Rep (F:Hp):D->V->Prop|.non,v=>v=.non|.bl b,v=>v=.bl b|.int i,v=>v=.int i|.str x,v=>v=.str x|.c_ l,v=>∃a,v=.ref a/\eE K.f F a (l.map V.int)|.exc c,v=>∃a h,v=.ref a/\F a=some (E6 (K.ca c) h a)/\XA K F c h|.tup l,v=>∃a g,v=.ref a/\F a=some (.tup g)/\ay F l g|.fd j l,v=>∃a o f,v=.ref a/\F a=some (.jr o (.dK f))/\f.map (·.1)=j/\ay F l (f.map (·.2))|.obj c j l,v=>∃a m k,v=.ref a/\F a=some (.ins (K.ca c) m k)/\k.map (·.1)=j/\ay F l (k.map (·.2))|.lst l,v=>∃a g,v=.ref a/\F a=some (.lst g)/\ay F l g|.du j l,v=>∃a f,v=.ref a/\F a=some (.dK f)/\f.map (·.1)=j/\ay F l (f.map (·.2))
def ay (F:Hp):List D->List V->Prop|[],g=>g=[]|d::l,g=>∃v r,g=v::r/\Rep F d v/\ay F l r
end
end
def cO{α:Type}(p:Prop)(a b:α):α:=@ite α p (Classical.propDecidable p) a b
@[simp]theorem gQ(h:p):cO p a b=a:=ao h
def LZ(h:¬p):cO p a b=b:=ak h
structure Xc where c:Nat
inductive R(α:Type)where|no|ok(a:α)|ex(x:Xc)
namespace R
noncomputable def bind{α b:Type}:R α->(α->R b)->R b|.no,_=>.no|.ok a,f=>f a|.ex x,_=>.ex x
@[simp]theorem aA(a:α)(f:α->R b):(R.ok a).bind f=f a:=rfl
@[simp]theorem zDC {α β:Type}(f:α->R β):(R.no:R α).bind f=.no:=rfl
@[simp]theorem zDH {α β:Type}(x:Xc)(f:α->R β):(R.ex x:R α).bind f=.ex x:=rfl
end R
inductive Tr where|d(x:D)|l(ts:List Tr)|t(ts:List Tr)
mutual
def mS:Tr->D|.d x=>x|.l b=>.lst (gd b)|.t b=>.tup (gd b)
def gd:List Tr->List D|[]=>[]|t::b=>mS t::gd b
end
inductive Sl where|no|v(d:D)|o(d:D)|l(d:D)|p(T:Tr)
abbrev En:=List Sl
inductive O where|no|nx(δ:En)|rt(d:D)|ro(d:D)|bk(δ:En)|ct(δ:En)|ex(δ:En)(x:Xc)
structure Ext(F H F' H':Hp):Prop where
 ff:av F F'
 hh:av H H'
 fh:av F' H'
 nw:∀p o,F p=none->H p=some o->F' p=none
theorem Ext.refl(s:av F H):Ext F H F H:=⟨.refl _,.refl _,s,fun _ _ h _=>h⟩
theorem Ext.trans(a:Ext F H e g)(b:Ext e g h f):Ext F H h f:=⟨a.ff.trans b.ff,a.hh.trans b.hh,b.fh,fun p o d c=>b.nw p o (a.nw p o d c) (a.hh p o c)⟩
def Ext.new(s:av F H)(h:H p=none):Ext F H (upd F p o) (upd H p o):=by
 refine⟨av.upd (s.free h),av.upd h,fun b u q=>?_,fun q u c a=>?_⟩
 . by_cases e:b=p;.subst e;rwa[cu]at q⊢
   .rw[bz e]at q⊢;exact s _ _ q
 .rwa[bz (d9 a h)]
def Ext.eY(s:av F H)(h:H p=none):Ext F H F (upd H p o):=by refine⟨.refl _,av.upd h,s.trans (av.upd h),fun q u a b=>a⟩
def av.rd(e:av H H')(h:Rd H a u):Rd H' a u:=h.elim (fun h=>.inl (e _ _ h)) fun⟨o,h⟩=>.inr ⟨o,e _ _ h⟩
def av.mT(e:av H H')(h:H a=some u):Rd H' a u:=.inl (e _ _ h)
section
variable{K:Kx}{F F' H H':Hp}
def XA.mono(h:XA K F c a)(e:av F F'):XA K F' c a:=by
 unfold XA at h⊢;split;.simp_all
 .rename_i d;rw[ak d]at h;obtain⟨g,f,b⟩:=h;exact⟨_,f,e _ _ b⟩
mutual
theorem Rep.mono (e:av F F'):∀(d:D){v:V},Rep K F d v->Rep K F' d v
 |.non,v,h=>by simpa[Rep]using h|.bl b,v,h=>by simpa[Rep]using h|.int b,v,h=>by simpa[Rep]using h|.str b,v,h=>by simpa[Rep]using h|.exc c,v,h=>let⟨a,_,f,g,i⟩:=h;⟨a,_,f,e _ _ g,i.mono e⟩|.fd _ l,v,h=>let⟨a,o,_,f,g,j,i⟩:=h;⟨a,o,_,f,e _ _ g,j,ay.mono e l i⟩|.obj c _ l,v,h=>let⟨a,o,_,f,g,j,i⟩:=h;⟨a,o,_,f,e _ _ g,j,ay.mono e l i⟩|.c_ l,v,h=>let⟨a,f,g⟩:=h;⟨a,f,e.seq g⟩|.tup l,v,h=>let⟨a,_,f,g,i⟩:=h;⟨a,_,f,e _ _ g,ay.mono e l i⟩|.lst l,v,h=>let⟨a,_,f,g,i⟩:=h;⟨a,_,f,e _ _ g,ay.mono e l i⟩|.du _ l,v,h=>let⟨a,_,f,g,j,i⟩:=h;⟨a,_,f,e _ _ g,j,ay.mono e l i⟩
theorem ay.mono (e:av F F'):∀(l:List D){k:List V},ay K F l k->ay K F' l k
 |[],k,h=>by simpa only[ay]using h|d::l,k,h=>by
  simp only[ay]at h⊢
  obtain⟨v,r,f,g,i⟩:=h
  exact⟨v,r,f,Rep.mono e d g,ay.mono e l i⟩
end
theorem ay.length:∀{l:List D}{vs:List V},ay K F l vs->vs.length=l.length|[],vs,h=>by simp[ay]at h;simp_all|d::l,vs,h=>by obtain⟨v,r,rfl,_,a⟩:=h;simp[ay.length a]
theorem ay.get:∀{l:List D}{vs:List V}{i:Nat}{d:D},ay K F l vs->l[i]?=some d->∃v,vs[i]?=some v/\Rep K F d v|[],vs,i,d,h,e=>by simp at e|x::l,vs,0,d,h,e=>by obtain⟨v,r,rfl,b,a⟩:=h;simp_all|x::l,vs,i+1,d,h,e=>by obtain⟨v,r,rfl,b,a⟩:=h;obtain⟨u,f,c⟩:=ay.get a (i:=i) (d:=d) (by simp_all);simp_all
def ay.nil:ay K F [] []:=rfl
def ay.cons{d:D}{l:List D}{v:V}{vs:List V}(h1:Rep K F d v)(h2:ay K F l vs):ay K F (d::l) (v::vs):=by simp[ay];grind
theorem ay.append:∀{l:List D}{vs:List V}{b:List D}{a:List V},ay K F l vs->ay K F b a->ay K F (l++b) (vs++a)|[],vs,b,a,h,c=>by simp[ay]at h;simp_all|d::l,vs,b,a,h,c=>by obtain⟨v,r,rfl,f,e⟩:=h;exact .cons f (ay.append e c)
theorem ay.drop:∀{l:List D}{vs:List V}(n:Nat),ay K F l vs->ay K F (l.drop n) (vs.drop n)|l,vs,0,h=>h|[],vs,n+1,h=>by subst h;rfl|d::l,vs,n+1,h=>by obtain⟨v,r,rfl,b,a⟩:=h;exact ay.drop n a
theorem ay.take:∀{l:List D}{vs:List V}(n:Nat),ay K F l vs->ay K F (l.take n) (vs.take n)|l,vs,0,h=>rfl|[],vs,n+1,h=>by subst h;rfl|d::l,vs,n+1,h=>by obtain⟨v,r,rfl,a,b⟩:=h;exact .cons a (ay.take n b)
theorem ay.set:∀{l:List D}{vs:List V}{d:D}{v:V}(i:Nat),ay K F l vs->Rep K F d v->ay K F (l.set i d) (vs.set i v)|[],vs,d,v,i,h,_=>by subst h;rfl|x::l,vs,d,v,0,h,a=>by obtain⟨u,r,rfl,c,b⟩:=h;exact .cons a b|x::l,vs,d,v,i+1,h,a=>by obtain⟨u,r,rfl,c,b⟩:=h;exact .cons c (ay.set i b a)
def ay.ints{ns:List Int}:ay K F (ns.map .int) (ns.map .int):=by induction ns with|nil=>rfl|cons a l d=>exact .cons rfl d
end
section
variable (K : Kx)
def Top(F H:Hp):D->V->Prop|.lst l,v=>∃a g,v=.ref a/\Rd H a (.lst g)/\ay K F l g|.du f l,v=>∃a b,v=.ref a/\H a=some (.dK b)/\b.map (·.1)=f/\ay K F l (b.map (·.2))|.obj c f l,v=>∃a h e,v=.ref a/\H a=some (.ins (K.ca c) h e)/\e.map (·.1)=f/\ay K F l (e.map (·.2))|d,v=>Rep K F d v
def Own(F H:Hp):D->Addr->Prop|.lst l,a=>∃f,H a=some (.lst f)/\ay K F l f|.du e l,a=>∃b,H a=some (.dK b)/\b.map (·.1)=e/\ay K F l (b.map (·.2))|.obj c e l,a=>∃g d,H a=some (.ins (K.ca c) g d)/\d.map (·.1)=e/\ay K F l (d.map (·.2))|_,_=>False
mutual
def dF (F H:Hp):Tr->V->List Addr->Prop|.d x,v,e=>e=[]/\Rep K F x v|.l f,v,e=>∃a c h,v=.ref a/\e=a::h/\H a=some (.lst c)/\aV F H f c h|.t f,v,e=>∃a c,v=.ref a/\F a=some (.tup c)/\aV F H f c e
def aV (F H:Hp):List Tr->List V->List Addr->Prop|[],c,e=>c=[]/\e=[]|t::f,c,e=>∃v r j g,c=v::r/\e=j++g/\dF F H t v j/\aV F H f r g
end
structure Tab(F H:Hp)(a:Addr)(bs:List Addr)(T:Tr):Prop where ok:dF K F H T (.ref a) (a::bs)nd:(a::bs).Nodup
def uG(c F H:Hp):Option Sl->Option (Option V)->Prop|some (.v d),s=>∃u,s=some (some u)/\Rep K F d u|some (.o d),s=>∃a,s=some (some (.ref a))/\c a=none/\F a=none/\Own K F H d a|some (.l d),s=>∃a,s=some (some (.ref a))/\c a=none/\F a=none/\Own K F H d a|some (.p T),s=>∃a e,s=some (some (.ref a))/\Tab K F H a e T/\∀b∈a::e,c b=none/\F b=none|_,_=>True
end
noncomputable def Sl.own:Option Sl->Bool|some (.o _)=>true|some (.l _)=>true|some (.p _)=>true|_=>false
structure aw(K:Kx)(Λ:List (Nat×Addr×HO))(F0 H0 F H:Hp)(σ:zag)(δ:En):Prop where
 ext:Ext F0 H0 F H
 len:σ.length=δ.length
 slot:∀i:Nat,uG K H0 F H δ[i]? σ[i]?dist:∀(i j:Nat)(a:Addr),i≠j->Sl.own δ[i]?=true->Sl.own δ[j]?=true->σ[i]?=some (some (.ref a))->σ[j]?=some (some (.ref a))->False
 fj:∀x∈Λ,(∃d,δ[x.1]?=some (.l d))/\σ[x.1]?=some (some (.ref x.2.1))/\H x.2.1=some x.2.2tabs:∀(i:Nat)(T:Tr),δ[i]?=some (.p T)->∃a bs,σ[i]?=some (some (.ref a))/\Tab K F H a bs T/\(∀b∈a::bs,H0 b=none/\F b=none)/\(∀(j:Nat)(b:Addr),j≠i->Sl.own δ[j]?=true->σ[j]?=some (some (.ref b))->b∉a::bs)/\∀(j:Nat)(T':Tr),j≠i->δ[j]?=some (.p T')->∃a' mz,σ[j]?=some (some (.ref a'))/\Tab K F H a' mz T'/\∀b∈a'::mz,b∉a::bs
section
variable{K:Kx}{Λ:List (Nat×Addr×HO)}{F0 H0 F H F' H' F1 H1:Hp}{σ:zag}{δ:En}
theorem Own.mono(g:av F F')(f:av H H'):∀{d:D}{a:Addr},Own K F H d a->Own K F' H' d a|.lst l,a,h=>let⟨_,e,b⟩:=h;⟨_,f _ _ e,b.mono g⟩|.du _ l,a,h=>let⟨_,e,i,b⟩:=h;⟨_,f _ _ e,i,b.mono g⟩|.non,_,h=>h.elim|.bl _,_,h=>h.elim|.int _,_,h=>h.elim|.str _,_,h=>h.elim|.tup _,_,h=>h.elim|.c_ _,_,h=>h.elim|.exc _,_,h=>h.elim|.fd _ _,_,h=>h.elim|.obj c _ l,a,h=>let⟨_,_,e,i,b⟩:=h;⟨_,_,f _ _ e,i,b.mono g⟩
theorem Own.obj:∀{d:D}{a:Addr},Own K F H d a->∃o,H a=some o|.lst l,a,h=>let⟨_,b,_⟩:=h;⟨_,b⟩|.du _ l,a,h=>let⟨_,b,_⟩:=h;⟨_,b⟩|.non,_,h=>h.elim|.bl _,_,h=>h.elim|.int _,_,h=>h.elim|.str _,_,h=>h.elim|.tup _,_,h=>h.elim|.c_ _,_,h=>h.elim|.exc _,_,h=>h.elim|.fd _ _,_,h=>h.elim|.obj c _ l,a,h=>let⟨_,_,b,_⟩:=h;⟨_,b⟩
def Own.at(e:H' a=H a):∀{d:D},Own K F H d a->Own K F H' d a|.lst l,h=>let⟨_,b,f⟩:=h;⟨_,e.trans b,f⟩|.du _ l,h=>let⟨_,b,g,f⟩:=h;⟨_,e.trans b,g,f⟩|.non,h=>h.elim|.bl _,h=>h.elim|.int _,h=>h.elim|.str _,h=>h.elim|.tup _,h=>h.elim|.c_ _,h=>h.elim|.exc _,h=>h.elim|.fd _ _,h=>h.elim|.obj c _ l,h=>let⟨_,_,b,g,f⟩:=h;⟨_,_,e.trans b,g,f⟩
def Rep.top(s:av F H):∀{d:D}{v:V},Rep K F d v->Top K F H d v|.lst l,v,h=>let⟨a,_,b,f,e⟩:=h;⟨a,_,b,PM.av.mT s f,e⟩|.du _ l,v,h=>let⟨a,_,b,f,e⟩:=h;⟨a,_,b,s _ _ f,e⟩|.non,_,h=>h|.bl _,_,h=>h|.int _,_,h=>h|.str _,_,h=>h|.tup _,_,h=>h|.c_ _,_,h=>h|.exc _,_,h=>h|.fd _ _,_,h=>h|.obj c _ l,v,h=>let⟨a,_,_,b,f,e⟩:=h;⟨a,_,_,b,s _ _ f,e⟩
def Own.top:∀{d:D}{a:Addr},Own K F H d a->Top K F H d (.ref a)|.lst l,a,h=>let⟨_,b,e⟩:=h;⟨a,_,rfl,.inl b,e⟩|.du _ l,a,h=>let⟨_,b,e⟩:=h;⟨a,_,rfl,b,e⟩|.non,_,h=>h.elim|.bl _,_,h=>h.elim|.int _,_,h=>h.elim|.str _,_,h=>h.elim|.tup _,_,h=>h.elim|.c_ _,_,h=>h.elim|.exc _,_,h=>h.elim|.fd _ _,_,h=>h.elim|.obj c _ l,a,h=>let⟨_,_,b,e⟩:=h;⟨a,_,_,rfl,b,e⟩
theorem Top.mono(b:av F F')(i:av H H'):∀{d:D}{v:V},Top K F H d v->Top K F' H' d v|.lst l,v,h=>let⟨a,_,e,f,g⟩:=h;⟨a,_,e,PM.av.rd i f,g.mono b⟩|.du _ l,v,h=>let⟨a,_,e,f,j,g⟩:=h;⟨a,_,e,i _ _ f,j,g.mono b⟩|.non,_,h=>h|.bl _,_,h=>h|.int _,_,h=>h|.str _,_,h=>h|.tup l,v,h=>Rep.mono b _ h|.c_ l,v,h=>Rep.mono b _ h|.exc l,v,h=>Rep.mono b _ h|.fd _ l,v,h=>Rep.mono b _ h|.obj c _ l,v,h=>let⟨a,_,_,e,f,j,g⟩:=h;⟨a,_,_,e,i _ _ f,j,g.mono b⟩
def Own.freeze(x:Ext F H F' H')(h0:F' p=none)(h1:H p=none)(o:Own K F' H' d p):∃g,Ext F H g H'/\av F' g/\Rep K g d (.ref p):=by
 obtain⟨u,i⟩:=o.obj;have h:av _ (upd _ p u):=av.upd h0;refine⟨_,⟨x.ff.trans h,x.hh,fun b w q=>?_,fun q w a f=>?_⟩,h,?_⟩
 . by_cases e:b=p;.subst e;rw[cu]at q;simp_all
   .rw[bz e]at q;exact x.fh _ _ q
 .rw[bz (d9 f h1)];exact x.nw q w a f
 .cases d with|lst l=>obtain⟨k,a,f⟩:=o;rw[i]at a;cases a;exact⟨p,_,rfl,cu,f.mono h⟩|du n l=>obtain⟨k,a,f,j⟩:=o;rw[i]at a;cases a;exact⟨p,_,rfl,cu,f,j.mono h⟩|obj c n l=>obtain⟨t,k,a,f,j⟩:=o;rw[i]at a;cases a;exact⟨p,_,_,rfl,cu,f,j.mono h⟩|_=>exact o.elim
mutual
theorem dF.mono (e:av F F')(b:av H H'):∀(T:Tr){v:V}{fp:List Addr},dF K F H T v fp->dF K F' H' T v fp
 |.d x,v,fp,h=>⟨h.1,Rep.mono e x h.2⟩|.l _,v,fp,h=>let⟨a,_,_,f,k,c,g⟩:=h;⟨a,_,_,f,k,b _ _ c,aV.mono e b _ g⟩|.t _,v,fp,h=>let⟨a,_,f,c,g⟩:=h;⟨a,_,f,e _ _ c,aV.mono e b _ g⟩
theorem aV.mono (e:av F F')(b:av H H'):∀(j:List Tr){i:List V}{fp:List Addr},aV K F H j i fp->aV K F' H' j i fp
 |[],i,fp,h=>by simpa only[aV]using h|t::j,i,fp,h=>by
  simp only[aV]at h⊢
  obtain⟨v,r,n,m,f,k,c,g⟩:=h
  exact⟨v,r,n,m,f,k,dF.mono e b t c,aV.mono e b j g⟩
end
mutual
theorem dF.obj:∀(T:Tr){v:V}{fp:List Addr},dF K F H T v fp->∀b∈fp,∃o,H b=some o
 |.d x,v,fp,h,b,c=>by
  simp[dF]at h
  simp_all|.l _,v,fp,h,b,c=>by
  obtain⟨a,g,n,m,i,k,f⟩:=h
  rw[i]at c
  rcases aM.mp c with e|c
  .simp_all
  .exact aV.obj _ f b c|.t _,v,fp,h,b,c=>let⟨a,_,_,_,f⟩:=h;aV.obj _ f b c
theorem aV.obj:∀(j:List Tr){g:List V}{fp:List Addr},aV K F H j g fp->∀b∈fp,∃o,H b=some o
 |[],g,fp,h,b,c=>by
  simp only[aV]at h
  rw[h.2]at c;cases c|t::j,g,fp,h,b,c=>by
  simp only[aV]at h
  obtain⟨v,r,p,q,m,i,k,f⟩:=h
  rw[i]at c
  rcases bJ.mp c with c|c
  .exact dF.obj t k b c
  .exact aV.obj j f b c
end
mutual
theorem dF.at':∀(T:Tr){v:V}{fp:List Addr},dF K F H T v fp->(∀b∈fp,H' b=H b)->dF K F H' T v fp
 |.d x,v,fp,h,_=>by simpa[dF]using h|.l _,v,fp,h,e=>by
  obtain⟨a,g,p,c,m,j,i⟩:=h
  subst m
  exact⟨a,_,_,c,rfl,(e a (by simp)).trans j,aV.at' _ i fun b f=>e b (bx _ f)⟩|.t _,v,fp,h,e=>let⟨a,_,c,j,i⟩:=h;⟨a,_,c,j,aV.at' _ i e⟩
theorem aV.at':∀(k:List Tr){g:List V}{fp:List Addr},aV K F H k g fp->(∀b∈fp,H' b=H b)->aV K F H' k g fp
 |[],g,fp,h,_=>by simpa only[aV]using h|t::k,g,fp,h,e=>by
  simp only[aV]at h⊢
  obtain⟨v,r,n,o,c,m,j,i⟩:=h
  subst m
  exact⟨v,r,n,o,c,rfl,dF.at' t j fun b f=>e b (gX _ f),aV.at' k i fun b f=>e b (cN _ f)⟩
end
theorem Tab.mono(b:av F F')(e:av H H')(t:Tab K F H a bs T):Tab K F' H' a bs T:=⟨dF.mono b e T t.ok,t.nd⟩
theorem Tab.obj(t:Tab K F H a bs T):∀b∈a::bs,∃o,H b=some o:=dF.obj T t.ok
theorem Tab.at'(t:Tab K F H a bs T)(e:∀b∈a::bs,H' b=H b):Tab K F H' a bs T:=⟨dF.at' T t.ok e,t.nd⟩
theorem uG.mono(e:Ext F H F' H'):∀{x:Option Sl}{s:Option (Option V)},uG K H0 F H x s->uG K H0 F' H' x s|some (.v d),s,h=>let⟨u,f,c⟩:=h;⟨u,f,Rep.mono e.ff d c⟩|some (.o d),s,h=>let⟨a,f,c,g,j⟩:=h;let⟨o,i⟩:=j.obj;⟨a,f,c,e.nw a o g i,j.mono e.ff e.hh⟩|some (.l d),s,h=>let⟨a,f,c,g,j⟩:=h;let⟨o,i⟩:=j.obj;⟨a,f,c,e.nw a o g i,j.mono e.ff e.hh⟩|some (.p T),s,h=>let⟨a,_,f,c,g⟩:=h;⟨a,_,f,c.mono e.ff e.hh,fun b k=>let⟨o,i⟩:=c.obj b k;⟨(g b k).1,e.nw b o (g b k).2 i⟩⟩|some .no,_,_=>trivial|none,_,_=>trivial
mutual
theorem L0:∀(T:Tr){v:V}{f f':List Addr},dF K F H T v f->dF K F H T v f'->f=f'
 |.d x,v,f,f',c,g=>by
  simp[dF]at c g
  simp_all|.l _,v,f,f',c,g=>by
  obtain⟨a,h,C,rfl,rfl,p,j⟩:=c
  obtain⟨q,o,u,e,rfl,k,i⟩:=g
  cases e
  rw[p]at k
  cases k
  rw[E9 _ j i]|.t _,v,f,f',c,g=>by
  obtain⟨a,h,rfl,p,j⟩:=c
  obtain⟨q,o,e,k,i⟩:=g
  cases e
  rw[p]at k
  cases k
  exact E9 _ j i
theorem E9:∀(m:List Tr){h:List V}{f f':List Addr},aV K F H m h f->aV K F H m h f'->f=f'
 |[],h,f,f',c,g=>by
  simp only[aV]at c g
  rw[c.2,g.2]|t::m,h,f,f',c,g=>by
  simp only[aV]at c g
  obtain⟨v,r,A,G,rfl,rfl,j,i⟩:=c
  obtain⟨y,B,E,z,e,rfl,w,s⟩:=g
  cases e
  rw[L0 t j w,E9 m i s]
end
def B9(t:Tab K F H a bs T)(t':Tab K F H a mz T):bs=mz:=(List.cons.inj (L0 T t.ok t'.ok)).2
def aw.tab(I:aw K Λ F0 H0 F H σ δ)(e:δ[i]?=some (.p T)):∃a bs,σ[i]?=some (some (.ref a))/\Tab K F H a bs T/\(∀b∈a::bs,H0 b=none/\F b=none)/\(∀(j:Nat)(b:Addr),j≠i->Sl.own δ[j]?=true->σ[j]?=some (some (.ref b))->b∉a::bs)/\∀(j:Nat)(d:Tr),j≠i->δ[j]?=some (.p d)->∃c mz,σ[j]?=some (some (.ref c))/\Tab K F H c mz d/\∀b∈c::mz,b∉a::bs:=I.tabs i T e
def aw.gH{d:En}{c:zag}(I:aw K Λ F0 H0 F H σ δ)(h1:∀(i:Nat)(T:Tr),d[i]?=some (.p T)->δ[i]?=some (.p T)/\c[i]?=σ[i]?)(h2:∀(i:Nat)(a:Addr)(bs:List Addr)(T:Tr),δ[i]?=some (.p T)->σ[i]?=some (some (.ref a))->Tab K F H a bs T->(∀b∈a::bs,H0 b=none/\F b=none)->(∀(j:Nat)(b:Addr),j≠i->Sl.own δ[j]?=true->σ[j]?=some (some (.ref b))->b∉a::bs)->Tab K F' H' a bs T/\∀b∈a::bs,F' b=none)(h3:∀(i j:Nat)(T:Tr)(a b:Addr)(bs:List Addr),δ[i]?=some (.p T)->σ[i]?=some (some (.ref a))->Tab K F H a bs T->j≠i->Sl.own d[j]?=true->c[j]?=some (some (.ref b))->(Sl.own δ[j]?=true/\σ[j]?=some (some (.ref b)))\/b∉a::bs):∀(i:Nat)(T:Tr),d[i]?=some (.p T)->∃a bs,c[i]?=some (some (.ref a))/\Tab K F' H' a bs T/\(∀b∈a::bs,H0 b=none/\F' b=none)/\(∀(j:Nat)(b:Addr),j≠i->Sl.own d[j]?=true->c[j]?=some (some (.ref b))->b∉a::bs)/\∀(j:Nat)(q:Tr),j≠i->d[j]?=some (.p q)->∃h mz,c[j]?=some (some (.ref h))/\Tab K F' H' h mz q/\∀b∈h::mz,b∉a::bs:=by
 intro i T Q;obtain⟨n,N⟩:=h1 i T Q;obtain⟨a,bs,m,v,s,u,E⟩:=I.tab n;obtain⟨f,l⟩:=h2 i a _ T n m v s u;refine⟨a,_,N.trans m,f,fun b e=>⟨(s b e).1,l b e⟩,fun j b g y B e=>?_,fun j q g L=>?_⟩
 . rcases h3 i j T a b _ n m v g y B with⟨w,z⟩|o;.exact u j b g w z e
   .exact o e
 .obtain⟨r,C⟩:=h1 j _ L;obtain⟨h,mz,k,t,G⟩:=E j _ g r;obtain⟨S,J,f,l,x,A,_⟩:=I.tab r;rw[k]at f;cases f;have M:=B9 l t;subst M;exact⟨_,_,C.trans k,(h2 j _ _ _ r k t x A).1,G⟩
def L1(e:Ext F H F' H')(t:Tab K F H a bs T)(f:∀b∈a::bs,H0 b=none/\F b=none):Tab K F' H' a bs T/\∀b∈a::bs,F' b=none:=⟨t.mono e.ff e.hh,fun b c=>let⟨o,d⟩:=t.obj b c;e.nw b o (f b c).2 d⟩
def aw.grow(I:aw K Λ F0 H0 F H σ δ)(e:Ext F H F' H'):aw K Λ F0 H0 F' H' σ δ:=⟨I.ext.trans e,I.len,fun i=>(I.slot i).mono e,I.dist,fun x k=>let⟨d,c,l⟩:=I.fj x k;⟨d,c,e.hh _ _ l⟩,I.gH (fun i T h=>⟨h,rfl⟩) (fun i a n T _ _ t f _=>L1 e t f) fun i j T a b n _ _ _ _ g m=>.inl ⟨g,m⟩⟩
def aw.same(I:aw K Λ F0 H0 F H σ δ):av F H:=I.ext.fh
def Ext.base(a:Ext F0 H0 F1 H1)(b:Ext F1 H0 F' H'):Ext F0 H0 F' H':=⟨a.ff.trans b.ff,b.hh,b.fh,fun p o d c=>b.nw p o (a.nw p o d c) c⟩
def aw.up(I:aw K Λ F0 H0 F H σ δ):aw K Λ F H0 F H σ δ:=⟨⟨.refl _,I.ext.hh,I.ext.fh,fun p o a b=>a⟩,I.len,I.slot,I.dist,I.fj,I.tabs⟩
def aw.down(a:Ext F0 H0 F1 H1)(I:aw K Λ F1 H0 F H σ δ):aw K Λ F0 H0 F H σ δ:=⟨a.base I.ext,I.len,I.slot,I.dist,I.fj,I.tabs⟩
def aw.put(I:aw K Λ F0 H0 F H σ δ)(A:∃x,δ[i]?=some x/\∀d,x≠.l d)(r:Rep K F d v):aw K Λ F0 H0 F H (σ.set i (some v)) (δ.set i (.v d)):=by
 obtain⟨x,z,J⟩:=A;have o:=(bV.mp z).1;have p:i<σ.length:=by rwa[I.len]
 refine⟨I.ext,by simp[I.len],fun j=>?_,fun j k a q c m g w=>?_,fun y L=>?_,I.gH (fun k C h=>by
   by_cases e:i=k;.simp_all
   .rw[aL e]at h;exact⟨h,aL e⟩) (fun _ _ _ _ _ _ t f _=>⟨t,fun b B=>(f b B).2⟩) fun k j C a b Q _ _ _ _ s N=>.inl (by
   by_cases e:i=j;.subst e;rw[bf o]at s;cases s
   .simp_all)⟩
 . by_cases e:i=j;.subst e;rw[bf o,bf p];exact⟨v,rfl,r⟩
   .rw[aL e,aL e];exact I.slot j
 . have u:∀k,Sl.own (δ.set i (.v d))[k]?=true->i≠k:=by rintro k h rfl;rw[bf o]at h;cases h
   have G:=u j c;have E:=u k m;rw[aL G]at c g;rw[aL E]at m w;exact I.dist j k a q c m g w
 . obtain⟨⟨M,c⟩,m,g⟩:=I.fj y L;have n:i≠y.1:=by intro e;rw[<-e,z]at c;exact J _ (dU c)
   exact⟨⟨M,by simp_all⟩,by rwa[aL n],g⟩
def aw.E_(I:aw K Λ F0 H0 F H σ δ)(Y:∃x,δ[i]?=some x/\∀d,x≠.l d)(e:Ext F H F' H')(h0:F' p=none)(h1:H p=none)(o:Own K F' H' d p):aw K Λ F0 H0 F' H' (σ.set i (some (.ref p))) (δ.set i (.o d)):=by
 obtain⟨x,M,X⟩:=Y;have hi:=(bV.mp M).1;have c:i<σ.length:=by rwa[I.len]
 have fresh:∀k,Sl.own δ[k]?=true->σ[k]?≠some (some (V.ref p)):=fun k w e=>by have z:=I.slot k;cases q:δ[k]? with|none=>rw[q]at w;cases w|some y=>rw[q]at w z;cases y with|no=>cases w|v d=>cases w|o d=>obtain⟨a,s,_,_,G⟩:=z;rw[e]at s;obtain⟨u,C⟩:=G.obj;simp_all|l d=>obtain⟨a,s,_,_,G⟩:=z;obtain⟨u,C⟩:=G.obj;simp_all|p Q=>obtain⟨a,U,s,z2,_⟩:=z;rw[e]at s;cases s;obtain⟨u,C⟩:=z2.obj p (by simp);simp_all
 have J:=I.grow e;refine⟨J.ext,by simp[I.len],fun j=>?_,fun j k a A m B g r=>?_,fun y Z=>?_,I.gH (fun k Q h=>by
     by_cases e:i=k;.simp_all
     .simp_all) (fun k a U T _ _ t f _=>L1 e t f) fun k j Q a b U _ _ t _ N E=>by
     by_cases e:i=j;.subst e;rw[bf c]at E;cases E;refine .inr fun hb=>?_;obtain⟨u,C⟩:=t.obj p hb;rw[h1]at C;cases C
     .rw[aL e]at N E;exact .inl ⟨N,E⟩⟩
 . by_cases e:i=j;.subst e;rw[bf hi,bf c];exact⟨p,rfl,I.ext.hh.free h1,h0,o⟩
   .rw[aL e,aL e];exact J.slot j
 . by_cases L:i=j;.subst L;rw[bf c]at g;cases g;rw[aL A]at B r;exact fresh k B r
   . by_cases S:i=k;.subst S;rw[bf c]at r;cases r;rw[aL L]at m g;exact fresh j m g
     .rw[aL L]at m g;rw[aL S]at B r;exact I.dist j k a A m B g r
 . obtain⟨⟨d',m⟩,B,g⟩:=J.fj y Z;have n:i≠y.1:=by intro e;rw[<-e,M]at m;exact X _ (dU m)
   exact⟨⟨_,by rwa[aL n]⟩,by rwa[aL n],g⟩
def aw.chg(I:aw K Λ F0 H0 F H σ δ)(c:δ[i]?=some (.o d))(B:σ[i]?=some (some (.ref a)))(o:Own K F (upd H a u) d' a):aw K Λ F0 H0 F (upd H a u) σ (δ.set i (.o d')):=by
 have X:=(bV.mp c).1;have z:=I.slot i;rw[c]at z;obtain⟨a',Q,Y,N,z4⟩:=z;rw[B]at Q;cases Q;have g:∀(k:Nat)(b:Addr),i≠k->Sl.own _=true->σ[k]?=some (some _)->b≠a:=fun k b hk h1 h2 e=>by subst e;exact I.dist i k b hk (by rw[c];rfl) h1 B h2
 refine⟨⟨I.ext.ff,fun b w q=>?_,fun b w q=>?_,I.ext.nw⟩,by simp[I.len],fun j=>?_,fun j k b G m A g3 g4=>?_,fun y hy=>?_,I.gH (fun k U h=>by
    by_cases e:i=k;.subst e;rw[bf X]at h;cases h
    .rw[aL e]at h;simp_all) (fun k r Z T m A t f dj=>by
    have e:i≠k:=fun e=>by simp_all
    exact⟨t.at' fun b s=>bz fun J=>dj i a e (by rw[c];rfl) B (J▸s),fun b s=>(f b s).2⟩) fun k j U r b Z _ _ _ _ S hs=>.inl (by
    by_cases e:i=j;.subst e;exact⟨by rw[c];rfl,hs⟩
    .rw[aL e]at S;exact⟨S,hs⟩)⟩;.rw[bz (d9 q Y)];exact I.ext.hh b w q
 .rw[bz (d9 q N)];exact I.ext.fh b w q
 . by_cases e:i=j;.subst e;rw[bf X];exact⟨a,B,Y,N,o⟩
   .rw[aL e];have w:=I.slot j;cases q:δ[j]? with|none=>trivial|some y=>rw[q]at w;cases y with|no=>trivial|v d=>exact w|o d=>obtain⟨b,x,L,E,C⟩:=w;exact⟨b,x,L,E,C.at (bz (g j b e (by rw[q];rfl) x))⟩|l d=>obtain⟨b,x,L,E,C⟩:=w;exact⟨b,x,L,E,C.at (bz (g j b e (by rw[q];rfl) x))⟩|p U=>obtain⟨r,Z,t1,t2,t3,t4,t5⟩:=I.tab q;exact⟨r,_,t1,t2.at' fun b s=>bz fun J=>t4 i a e (by rw[c];rfl) B (J▸s),t3⟩
 . have M:∀k:Nat,Sl.own (δ.set i (.o d'))[k]?=true->Sl.own δ[k]?=true:=by
    intro k h;by_cases e:i=k;.subst e;rw[c];rfl
    .rwa[aL e]at h
   exact I.dist j k b G (M j m) (M k A) g3 g4
 . obtain⟨⟨d2,m⟩,A,g3⟩:=I.fj y hy;have n:i≠y.1:=by intro e;rw[<-e,c]at m;cases m
   exact⟨⟨_,by rwa[aL n]⟩,A,by rwa[bz (g _ _ n (by rw[m];rfl) A)]⟩
def aw.jr{i:Nat}{d:D}(I:aw K Λ F0 H0 F H σ δ)(A:δ[i]?=some (.o d)):∃F',av F F'/\aw K Λ F0 H0 F' H σ (δ.set i (.v d)):=by
 have Q:i<δ.length:=(bV.mp A).1;have z:=I.slot i;rw[A]at z;obtain⟨a,M,z2,z3,E⟩:=z;obtain⟨u,S⟩:=E.obj;have m:av F (upd F a u):=av.upd z3;have sl:∀j:Nat,i≠j->Sl.own δ[j]?=true->σ[j]?≠some (some (V.ref a)):=fun j hj h e=>I.dist i j a hj (by rw[A];rfl) h M e;refine⟨upd F a u,m,⟨I.ext.ff.trans m,I.ext.hh,fun b w q=>?_,fun p o h1 g=>?_⟩,by simp[I.len],fun j=>?_,fun j k b Z J N X g4=>?_,fun y hy=>?_,I.gH (fun k ll h=>by
    by_cases e:i=k;.subst e;rw[bf Q]at h;cases h
    .simp_all) (fun k r bs T J N t f dj=>by
    have e:i≠k:=fun e=>by simp_all
    exact⟨t.mono m (.refl _),fun b x=>by rw[bz (show b≠a from fun B=>dj i a e (by rw[A];rfl) M (B▸x))];exact(f b x).2⟩) fun k j ll r b bs _ _ _ _ ho m=>.inl (by
    by_cases e:i=j;.subst e;rw[bf Q]at ho;cases ho
    .simp_all)⟩
 . by_cases e:b=a;.subst e;rw[cu]at q;cases q;exact S
   .rw[bz e]at q;exact I.ext.fh _ _ q
 .rw[bz (d9 g z2)];exact I.ext.nw p o h1 g
 . by_cases e:i=j;.subst e;rw[bf Q];refine⟨.ref a,M,?_⟩;cases d with|lst l=>obtain⟨G,g,C⟩:=E;rw[S]at g;cases g;exact⟨a,G,rfl,cu,C.mono m⟩|du ks l=>obtain⟨G,g,C,Y⟩:=E;rw[S]at g;cases g;exact⟨a,G,rfl,cu,C,Y.mono m⟩|obj c ks l=>obtain⟨dx,G,g,C,Y⟩:=E;rw[S]at g;cases g;exact⟨a,dx,G,rfl,cu,C,Y.mono m⟩|_=>exact E.elim
   .rw[aL e];have w:=I.slot j;cases q:δ[j]? with|none=>trivial|some y=>rw[q]at w;cases y with|no=>trivial|v d=>obtain⟨v,s,L⟩:=w;exact⟨v,s,Rep.mono m d L⟩|o d=>obtain⟨b,s,L,w3,U⟩:=w;exact⟨b,s,L,by rwa[bz (show b≠a from fun B=>sl j e (by rw[q];rfl) (by grind))],U.mono m (.refl _)⟩|p ll=>obtain⟨r,bs,t1,t2,t3,t4,t5⟩:=I.tab q;exact⟨r,_,t1,t2.mono m (.refl _),fun b x=>⟨(t3 b x).1,by rw[bz (show b≠a from fun B=>t4 i a e (by rw[A];rfl) M (B▸x))];exact(t3 b x).2⟩⟩|l d=>obtain⟨b,s,L,w3,U⟩:=w;exact⟨b,s,L,by rwa[bz (fun B=>sl j e (by rw[q];rfl) (by rw[s,B]))],U.mono m (.refl _)⟩
 . have ow:∀k:Nat,Sl.own (δ.set i (.v d))[k]?=true->Sl.own δ[k]?=true:=by
    intro k h;by_cases e:i=k;.subst e;rw[bf Q]at h;cases h
    .rwa[aL e]at h
   exact I.dist j k b Z (ow j J) (ow k N) X g4
 . obtain⟨⟨d2,J⟩,N,X⟩:=I.fj y hy;have n:i≠y.1:=by intro e;rw[<-e,A]at J;cases J
   exact⟨⟨_,by rwa[aL n]⟩,N,X⟩
end
abbrev di:=Xc->Hp->Hp->Value->Option Addr->Prop
def eM{α:Type}(E:zag->XK)(XO:di)(σ:zag)(F H:Hp)(P:α->Hp->Hp->Prop):R α->Prop|.no=>False|.ok a=>∀d b,Ext F H d b->P a d b|.ex x=>∀C c d b,Ext F H d b->XO x d b C c->E σ C c b
section
variable{E:zag->XK}{XO:di}{σ:zag}{F H F1 H1:Hp}{α β:Type}{P P':α->Hp->Hp->Prop}
def eM.mono(e:Ext F H F1 H1):∀{r:R α},eM E XO σ F H P r->eM E XO σ F1 H1 P r|.no,h=>h|.ok _,h=>fun d c a=>h _ _ (e.trans a)|.ex _,h=>fun C b d c a x=>h C _ _ _ (e.trans a) x
def eM.imp(i:∀a F1 H1,Ext F H F1 H1->P a F1 H1->P' a F1 H1):∀{r:R α},eM E XO σ F H P r->eM E XO σ F H P' r|.no,h=>h|.ok _,h=>fun c d b=>i _ _ _ b (h _ _ b)|.ex _,h=>h
theorem eM.bind{P:β->Hp->Hp->Prop}:∀{r:R α},eM E XO σ F H P (r.bind f)->eM E XO σ F H (fun a F1 H1=>eM E XO σ F1 H1 P (f a)) r|.no,h=>h|.ok _,h=>fun c d b=>eM.mono b h|.ex _,h=>h
end
inductive tQ(T:D->V->Prop):List D->List V->Prop where|nil:tQ T [] []|cons{d:D}{v:V}{ds:List D}{vs:List V}:T d v->tQ T ds vs->tQ T (d::ds) (v::vs)
section
variable(K:Kx)(XO:di)(E:zag->XK)
def SE(t:TE)(m:En->R D):Prop:=∀e g h F H a b Q,aw K e g h F H a b->eM E XO a F H (fun d f c=>∀v,Rep K f d v->Q v c) (m b)->t a H Q
def mB(t:TE)(m:En->R D):Prop:=∀h g e F H a c Q,aw K h g e F H a c->eM E XO a F H (fun d f b=>∀v,Top K f b d v->Q v b) (m c)->t a H Q
def iy(t:TE)(m:En->R D):Prop:=∀h g f F H a c Q,aw K h g f F H a c->eM E XO a F H (fun d e b=>∀p,e p=none->H p=none->Own K e b d p->Q (.ref p) b) (m c)->t a H Q
def ST(t:zai)(m:En->R Bool):Prop:=∀g e d F H a c Q,aw K g e d F H a c->eM E XO a F H (fun b _ f=>Q b f) (m c)->t a H Q
def SA(t:TA)(m:En->R (List D)):Prop:=∀e g i F H a c Q,aw K e g i F H a c->eM E XO a F H (fun h f d=>∀b,ay K f h b->Q b d) (m c)->t a H Q
def sk(t:TA)(m:En->R (List D)):Prop:=∀i g h F H a c Q,aw K i g h F H a c->eM E XO a F H (fun e f b=>∀d,tQ (Top K f b) e d->Q d b) (m c)->t a H Q
end
section
variable{K:Kx}{XO:di}{E:zag->XK}{t ta tb te:TE}{m ma mb me:En->R D}
theorem SE.r(h:SE K XO E t m):mB K XO E t m:=fun g i f F H b c Q I a=>h _ _ _ F H _ _ Q I (a.imp fun d k j e p v r=>p v (r.top e.fh))
theorem iy.e(h:iy K XO E t m):SE K XO E t m:=fun i k v F H w j Q I a=>h _ _ _ F H _ _ Q I (by cases q:m _ with|no=>rwa[q]at a|ex x=>rwa[q]at a|ok d=>rw[q]at a;intro s n e p f c o;obtain⟨g,b,l,r⟩:=o.freeze e f c;exact a _ _ b _ r)
noncomputable def ag(i:Nat)(δ:En):R D:=match δ[i]? with|some (.v d)=>.ok d|_=>.no
noncomputable def aj(i:Nat)(δ:En):R D:=match δ[i]? with|some (.v d)=>.ok d|some (.o d)=>.ok d|some (.l d)=>.ok d|_=>.no
def cf:SE K XO E (dh i) (ag i):=by
 intro h e j F H f g Q I a;unfold ag at a;have z:=I.slot i;split at a;.rename_i d q;rw[q]at z;obtain⟨u,b,c⟩:=z;exact⟨u,b,a F H (.refl I.same) u c⟩
 .exact a.elim
def bZ:mB K XO E (dh i) (aj i):=by
 intro h e j F H f g Q I a;unfold aj at a;have z:=I.slot i;split at a;.rename_i d q;rw[q]at z;obtain⟨u,b,c⟩:=z;exact⟨u,b,a F H (.refl I.same) u (c.top I.same)⟩
 .rename_i d q;rw[q]at z;obtain⟨u,b,_,_,c⟩:=z;exact⟨_,b,a F H (.refl I.same) _ c.top⟩
 .rename_i d q;rw[q]at z;obtain⟨u,b,_,_,c⟩:=z;exact⟨_,b,a F H (.refl I.same) _ c.top⟩
 .exact a.elim
def mC(d:D)(_:En):R D:=.ok d
def dc:SE K XO E (tC (.int i)) (mC (.int i)):=fun f b d F H e c Q I a=>a F H (.refl I.same) _ rfl
def yc:SE K XO E (tC (.bl i)) (mC (.bl i)):=fun f b d F H e c Q I a=>a F H (.refl I.same) _ rfl
def B_:SE K XO E (tC .non) (mC .non):=fun f b d F H e c Q I a=>a F H (.refl I.same) _ rfl
def L3:SE K XO E (tC (.str i)) (mC (.str i)):=fun f b d F H e c Q I a=>a F H (.refl I.same) _ rfl
noncomputable def R.of{α:Type}:Option α->R α|some a=>.ok a|none=>.no
@[simp]theorem R.bI(a:α):R.of (some a)=.ok a:=rfl
@[simp]theorem R.of_none:R.of (none:Option α)=.no:=rfl
def m2(f:D->D->Option D)(ma mb:En->R D)(δ:En):R D:=(ma δ).bind fun x=>(mb δ).bind fun y=>R.of (f x y)
def m1(f:D->Option D)(ma:En->R D)(δ:En):R D:=(ma δ).bind fun x=>R.of (f x)
@[simp]theorem jK{ma mb:En->R D}:m2 f ma mb δ=(ma δ).bind fun x=>(mb δ).bind fun y=>R.of (f x y):=rfl
@[simp]theorem B'{ma:En->R D}:m1 f ma δ=(ma δ).bind fun x=>R.of (f x):=rfl
variable(K)in
def SR(r:R2)(f:D->D->Option D):Prop:=∀F H x y b a d Q,av F H->Top K F H b x->Top K F H a y->f b a=some d->(∀v e c,Ext F H e c->Rep K e d v->Q v c)->r x y H Q
variable(K)in
def L4(r:R2)(f:D->D->Option D):Prop:=∀F H x y e c d Q,av F H->Top K F H e x->Top K F H c y->f e c=some d->(∀p a b,Ext F H a b->a p=none->H p=none->Own K a b d p->Q (.ref p) b)->r x y H Q
def cS(j:SR K r f)(l:mB K XO E ta ma)(i:mB K XO E tb mb):SE K XO E (tL r ta tb) (m2 f ma mb):=by intro o G B F H z s Q I a;refine l _ _ _ F H _ _ _ I (a.bind.imp fun A p w h g x k=>(i _ _ _ _ _ _ _ _ (I.grow h) (g.bind.imp fun J M L c b y n=>?_)));cases q:f _ _ with|none=>rw[q]at b;exact b.elim|some d=>rw[q]at b;exact j _ _ x y _ _ d Q c.fh (k.mono c.ff c.hh) n q fun v C u e r=>b _ _ e v r
def L5(j:L4 K r f)(n:mB K XO E ta ma)(i:mB K XO E tb mb):iy K XO E (tL r ta tb) (m2 f ma mb):=by intro v M G F H J w Q I a;refine n _ _ _ F H _ _ _ I (a.bind.imp fun C B A g h x l=>(i _ _ _ _ _ _ _ _ (I.grow g) (h.bind.imp fun N T S c b y k=>?_)));cases q:f _ _ with|none=>rw[q]at b;exact b.elim|some d=>rw[q]at b;exact j _ _ x y _ _ d Q c.fh (l.mono c.ff c.hh) k q fun p L z e s u o=>b _ _ e p s (g.hh.free (c.hh.free u)) o
variable(K)in
def SU(r:V->Hp->VK->Prop)(f:D->Option D):Prop:=∀F H x b d Q,av F H->Top K F H b x->f b=some d->(∀v a c,Ext F H a c->Rep K a d v->Q v c)->r x H Q
def VZ(c:SU K r f)(h:mB K XO E ta ma):SE K XO E (K1 r ta) (m1 f ma):=by intro w l p F H u j Q I a;refine h _ _ _ F H _ _ _ I (a.bind.imp fun s o n g b x i=>?_);cases q:f _ with|none=>rw[q]at b;exact b.elim|some d=>rw[q]at b;exact c _ _ x _ d Q g.fh i q fun v k y e r=>b _ _ e v r
def af(_:En):R (List D):=.ok []
def ai(ma:En->R D)(a:En->R (List D))(δ:En):R (List D):=(ma δ).bind fun x=>(a δ).bind fun l=>.ok (x::l)
def fT:SA K XO E dB af:=fun f b d F H e c Q I a=>a F H (.refl I.same) _ .nil
def fi(d:SE K XO E ta ma)(e:SA K XO E g k):SA K XO E (gb ta g) (ai ma k):=by intro p q o F H r n Q I a;refine d _ _ _ F H _ _ _ I (a.bind.imp fun l z w f i x j=>(e _ _ _ _ _ _ _ _ (I.grow f) (i.bind.imp fun s v u b h y c=>?_)));exact h _ _ (.refl b.fh) _ (.cons (Rep.mono b.ff _ j) c)
def yd:sk K XO E dB af:=fun f b d F H e c Q I a=>a F H (.refl I.same) _ .nil
def wR(d:mB K XO E ta ma)(e:sk K XO E g k):sk K XO E (gb ta g) (ai ma k):=by intro p q o F H r n Q I a;refine d _ _ _ F H _ _ _ I (a.bind.imp fun l z w f i x j=>(e _ _ _ _ _ _ _ _ (I.grow f) (i.bind.imp fun s v u b h y c=>?_)));exact h _ _ (.refl b.fh) _ (.cons (j.mono b.ff b.hh) c)
def fR(ml:En->R (List D))(δ:En):R D:=(ml δ).bind fun l=>cO (l.length<=sizeLine) (.ok (.tup l)) .no
def bA(ml:En->R (List D))(δ:En):R D:=(ml δ).bind fun l=>cO (l.length<=sizeLine) (.ok (.lst l)) .no
def Fb(h:SA K XO E e ml):SE K XO E (wD e) (fR ml):=by
 intro g i k F H o f Q I a;refine h _ _ _ F H _ _ _ I (a.bind.imp fun q n l c b j r=>?_);unfold cO at b;split at b;.exact⟨by rwa[r.length],fun p d=>b _ _ (.new c.fh d) _ ⟨p,_,rfl,cu,r.mono (av.upd (c.fh.free d))⟩⟩
 .exact b.elim
def Fc(h:SA K XO E e ml):iy K XO E (zY e) (bA ml):=by
 intro g i k F H o f Q I a;refine h _ _ _ F H _ _ _ I (a.bind.imp fun q n l c b j r=>?_);unfold cO at b;split at b;.refine⟨by rwa[r.length],fun p d=>b _ _ (.eY c.fh d) _ (c.fh.free d) (c.hh.free d) ⟨_,cu,r⟩⟩
 .exact b.elim
def L6:iy K XO E LH (mC (.du [] [])):=fun f g d F H e c Q I a p b=>a F _ (.eY I.same b) p (I.same.free b) b ⟨_,cu,rfl,rfl⟩
def L7:D->Option Bool|.bl b=>some b|_=>none
def aR(me:En->R D)(δ:En):R Bool:=(me δ).bind fun d=>R.of (L7 d)
def gR(h:SE K XO E te me):ST K XO E (Es te) (aR me):=by intro i k g F H o f Q I a;refine h _ _ _ F H _ _ _ I (a.bind.imp fun d n l e c v r=>?_);cases d with|bl b=>exact⟨b,r,c _ _ (.refl e.fh)⟩|_=>exact c.elim
def mD(h:SE K XO E te me):ST K XO E (tB te) (aR me):=gR h
variable{tA uk:zai}{nA nB:En->R Bool}
def kX(nA nB:En->R Bool)(δ:En):R Bool:=(nA δ).bind fun b=>if b=true then nB δ else .ok false
def gI(nA nB:En->R Bool)(δ:En):R Bool:=(nA δ).bind fun b=>if b=true then .ok true else nB δ
def ik(nA:En->R Bool)(δ:En):R Bool:=(nA δ).bind fun b=>.ok (!b)
def L8(h:ST K XO E tA nA)(h':ST K XO E uk nB):ST K XO E (zF tA uk) (kX nA nB):=by intro g i f F H l e Q I a;refine h _ _ _ F H _ _ _ I (a.bind.imp fun b k j c d=>?_);cases b with|true=>exact h' _ _ _ _ _ _ _ _ (I.grow c) d|false=>exact d _ _ (.refl c.fh)
def nX(h:ST K XO E tA nA)(h':ST K XO E uk nB):ST K XO E (KI tA uk) (gI nA nB):=by intro g i f F H l e Q I a;refine h _ _ _ F H _ _ _ I (a.bind.imp fun b k j c d=>?_);cases b with|false=>exact h' _ _ _ _ _ _ _ _ (I.grow c) d|true=>exact d _ _ (.refl c.fh)
def ye(h:ST K XO E tA nA):ST K XO E (zG tA) (ik nA):=fun g i f F H l e Q I a=>h _ _ _ F H _ _ _ I (a.bind.imp fun b k j c d=>d _ _ (.refl c.fh))
def Fd(n:En->R Bool)(ma mb:En->R D)(δ:En):R D:=(n δ).bind fun b=>if b=true then ma δ else mb δ
def V0(h:ST K XO E tA nA)(e:SE K XO E ta ma)(f:SE K XO E tb mb):SE K XO E (KJ tA ta tb) (Fd nA ma mb):=by intro o i l F H n g Q I a;refine h _ _ _ F H _ _ _ I (a.bind.imp fun b k j d c=>?_);cases b with|true=>exact e _ _ _ _ _ _ _ _ (I.grow d) c|false=>exact f _ _ _ _ _ _ _ _ (I.grow d) c
def so(K:Kx)(XO:di)(f:List D->R D):Sp:=fun b H Q E=>∃F a,av F H/\ay K F a b/\eM (fun _=>E) XO [] F H (fun d e c=>∀v,Rep K e d v->Q v c) (f a)
def nY(f:List D->R D)(ml:En->R (List D))(δ:En):R D:=(ml δ).bind f
noncomputable def R.iz{α:Type}:R α->R α|.ex _=>.no|r=>r
@[simp]theorem R.bF(a:α):(R.ok a).iz=.ok a:=rfl
def bu(f:List D->R D)(ml:En->R (List D))(δ:En):R D:=(ml δ).bind fun l=>(f l).iz
def eM.any{E c:zag->XK}(h:eM E XO σ F H P r.iz):eM c XO b F H P r:=by cases r with|no=>exact h|ok a=>exact h|ex x=>exact h.elim
def V1(h:SA K XO E e ml):SE K XO E (E5 (so K XO f) E e) (nY f ml):=by intro k l i F H u g Q I a;refine h _ _ _ F H _ _ _ I (a.bind.imp fun o s p c b n r=>⟨_,_,c.fh,r,?_⟩);cases q:f _ with|no=>rwa[q]at b|ok d=>rwa[q]at b|ex x=>rwa[q]at b
def uH(h:SA K XO E d ml):SE K XO E (r_ (so K XO f) [] k d) (bu f ml):=by intro i j n F H q e Q I a;refine h _ _ _ F H _ _ _ I (a.bind.imp fun g p o b c l r=>⟨_,_,b.fh,by simp_all,c.any⟩)
variable(K)in
def SG(g:TG)(b:D->En->Option En):Prop:=∀i j e F H f h d v c Q,aw K i j e F H f h->Rep K F d v->b d h=some c->(∀a,aw K i j e F H a c->Q a H)->g v f H Q
variable(K)in
def Ap(g:uo)(b:List D->En->Option En):Prop:=∀i j e F H f h d v c Q,aw K i j e F H f h->ay K F d v->b d h=some c->(∀a,aw K i j e F H a c->Q a H)->g v f H Q
noncomputable def aQ(i:Nat)(d:D)(δ:En):Option En:=match δ[i]? with|none=>none|some (.l _)=>none|some _=>some (δ.set i (.v d))
noncomputable def b3(i:Nat)(d:D)(δ:En):Option En:=match δ[i]? with|some .no=>some (δ.set i (.v d))|_=>none
def cw(l:List D)(δ:En):Option En:=match l with|[]=>some δ|_=>none
noncomputable def cB(b:D->En->Option En)(c:List D->En->Option En)(l:List D)(δ:En):Option En:=match l with|d::r=>(b d δ).bind (c r)|[]=>none
noncomputable def c5(n:Nat)(c:List D->En->Option En)(d:D)(δ:En):Option En:=match d with|.tup l=>if l.length=n then c l δ else none|_=>none
noncomputable def mE(n:Nat)(c:List D->En->Option En)(d:D)(δ:En):Option En:=match d with|.lst l=>if l.length=n then c l δ else none|_=>none
def jm:SG K (tK i) (aQ i):=by
 intro l h g F H k f d v c Q I r e q;unfold aQ at e;split at e;.cases e
 .cases e
 .rename_i x b a;cases e;exact q _ (I.put ⟨x,a,fun j z=>b _ (by rw[z])⟩ r)
def hI:SG K (tK i) (b3 i):=by
 intro j c f F H g h d v b Q I r e q;unfold b3 at e;split at e;.rename_i a;cases e;exact q _ (I.put ⟨_,a,fun k z=>by cases z⟩ r)
 simp_all
def wU:Ap K zM cw:=by intro j f h F H i g d v c Q I r e q;cases d with|nil=>cases e;exact⟨r,q _ I⟩|cons x l=>cases e
def pw(A:SG K g b)(f:Ap K h c):Ap K (KN g h) (cB b c):=by intro J B C F H G i d v y Q I r e q;cases d with|nil=>cases e|cons x l=>obtain⟨u,w,rfl,n,k⟩:=r;change(b x _).bind _=some _ at e;cases z:b x i with|none=>simp_all|some s=>rw[z]at e;exact⟨u,w,rfl,A _ _ _ F H _ _ x u _ _ I n z fun j o=>f _ _ _ F H _ _ l w _ Q o k e q⟩
def wV(f:Ap K h c):SG K (zO K.f n h) (c5 n c):=by intro w p o F H u k d v j Q I r e q;cases d with
 |tup l=>
 obtain⟨a,s,rfl,g,b⟩:=r;simp only[c5]at e;split at e;.exact⟨a,_,rfl,.inl (.inl (I.same _ _ g)),by rwa[b.length],f _ _ _ F H _ _ l _ _ Q I b e q⟩
 simp_all|_=>cases e
def Fe {n:Nat}{h:uo}{c:List D->En->Option En}(hh:Ap K h c):SG K (Ak K.f n h) (mE n c):=by
 intro Λ F0 H0 F H σ δ d v yf Q I r e q
 cases d with
 |lst l=>
 obtain⟨a,vs,rfl,h1,h2⟩:=r
 simp only[mE]at e
 split at e
 ·exact⟨a,_,rfl,.inl (PM.av.mT I.same h1),by rwa [h2.length],hh _ _ _ F H _ _ l _ _ Q I h2 e q⟩
 simp_all|_=>cases e
def mF(δ a:En):Prop:=δ.length=a.length/\∀i:Nat,δ[i]?=some .no\/δ[i]?=a[i]?
def mF.refl(δ:En):mF δ δ:=⟨rfl,fun _=>.inr rfl⟩
theorem mF.trans(h:mF a b)(h':mF b c):mF a c:=⟨h.1.trans h'.1,fun i=>by
 rcases h.2 i with z|z;.simp_all
 . rcases h'.2 i with y|y;.grind
   grind⟩
def BW(b:D->En->Option En):Prop:=∀d c a,b d c=some a->mF c a
def Ca(b:List D->En->Option En):Prop:=∀d c a,b d c=some a->mF c a
def hL:BW (b3 i):=by
 intro d b a e;unfold b3 at e;split at e
 . cases e;refine⟨by simp,fun j=>?_⟩;by_cases h:i=j;.simp_all
   simp_all
 simp_all
def Cb:Ca cw:=by intro d f b e;cases d with|nil=>cases e;exact .refl _|cons x l=>cases e
def wW(h:BW b)(h':Ca c):Ca (cB b c):=by intro d f i e;cases d with|nil=>cases e|cons x l=>change(b x _).bind _=some _ at e;cases z:b x f with|none=>simp_all|some g=>rw[z]at e;exact(h _ _ _ z).trans (h' _ _ _ e)
def Cc(h:Ca c):BW (c5 n c):=by intro d f a e;cases d with
 |tup l=>
 simp only[c5]at e;split at e;.exact h _ _ _ e
 simp_all|_=>cases e
variable(K)in
def kY(J:It)(P:Hp->Hp->Prop)(ds:List D):Prop:=∀b a,P b a->∀i:Nat,(∀d,ds[i]?=some d->J.go i a/\∀x e,J.zR i a x e->∃c,Ext b a c e/\Rep K c d x)/\(ds[i]?=none->J.stop i a)
variable(K XO E)in
def SI(d:zah)(m:En->R (List D)):Prop:=∀e f k F H a b R,aw K e f k F H a b->eM E XO a F H (fun i h g=>∀J,kY K J (fun c j=>av h c/\av c j) i->R J g) (m b)->d a H R
variable(K XO E)in
def wX(g:zah)(m:En->R (List D)):Prop:=∀e f i F H a c R,aw K e f i F H a c->eM E XO a F H (fun d h b=>∀J,kY K J (fun k j=>Ext h b k j) d->R J b) (m c)->g a H R
def SI.c{m:En->R (List D)}(h:SI K XO E wi m):wX K XO E wi m:=fun g i f F H l d R I a=>h _ _ _ F H _ _ R I (a.imp fun o k j e p J b=>p J fun q n x=>b _ _ ⟨x.ff,x.fh⟩)
noncomputable def rm:D->Option (List D)|.lst l=>some l|.c_ l=>some (l.map .int)|_=>none
def bN(ml:En->R D)(δ:En):R (List D):=(ml δ).bind fun d=>R.of (rm d)
def yg(r:ay K k ds vs)(h:∀c b,P c b->av k c/\av c b/\eE K.f b a vs):kY K (Em K.f a) P ds:=by
 intro c b p i;obtain⟨f,j,q⟩:=h _ _ p;refine⟨fun d l=>?_,fun n=>?_⟩;.obtain⟨v,e,g⟩:=r.get l;refine⟨⟨_,v,q,e⟩,fun x o y=>?_⟩;obtain⟨rfl,y⟩:=y;have z:=y _ q;rw[e]at z;cases z;exact⟨_,.refl j,Rep.mono f _ g⟩
 .exact⟨_,q,by rw[r.length];simp_all⟩
def Aq(h:SE K XO E te me):SI K XO E (BP K.f te) (bN me):=by intro w u q F H s n R I a;refine h _ _ _ F H _ _ _ I (a.bind.imp fun d p o c e v r=>?_);cases d with|lst l=>obtain⟨a,y,rfl,b,i⟩:=r;exact⟨a,rfl,⟨_,.inl (PM.av.mT c.fh b)⟩,e _ _ (.refl c.fh) _ (yg i fun k j x=>⟨x.1,x.2,.inl (PM.av.rd x.2 (PM.av.mT x.1 b))⟩)⟩|c_ l=>obtain⟨a,rfl,b⟩:=r;exact⟨a,rfl,⟨_,c.fh.seq b⟩,e _ _ (.refl c.fh) _ (yg .ints fun k j x=>⟨x.1,x.2,x.2.seq (x.1.seq b)⟩)⟩|_=>exact e.elim
def Ar(h:mB K XO E te me):wX K XO E (BP K.f te) (bN me):=by intro w u q F H s n R I a;refine h _ _ _ F H _ _ _ I (a.bind.imp fun d p o c e v r=>?_);cases d with|lst l=>obtain⟨a,y,rfl,b,i⟩:=r;exact⟨a,rfl,⟨_,.inl b⟩,e _ _ (.refl c.fh) _ (yg i fun k j x=>⟨x.ff,x.fh,.inl (PM.av.rd x.hh b)⟩)⟩|c_ l=>obtain⟨a,rfl,b⟩:=r;exact⟨a,rfl,⟨_,c.fh.seq b⟩,e _ _ (.refl c.fh) _ (yg .ints fun k j x=>⟨x.ff,x.fh,x.fh.seq (x.ff.seq b)⟩)⟩|_=>exact e.elim
def uI(lo:Int)(n:Nat):List D:=(List.range n).map fun(k:Nat)=>D.int (lo+(k:Int))
def L9{lo:Int}(h:∀b c,P b c->av b c):kY K (zS lo n) P (uI lo n):=by
 intro b c p i;unfold uI;rw[bX];have g:(List.range n)[i]?=if i<n then some i else none:=by grind
 rw[g];refine⟨fun d f=>?_,fun e=>?_⟩
 . by_cases a:i<n;.rw[ao a]at f;cases f;refine⟨a,fun x j y=>?_⟩;obtain⟨rfl,rfl⟩:=y;exact⟨_,.refl (h _ _ p),rfl⟩
   simp_all
 . by_cases a:i<n;.rw[ao a]at e;cases e
   .exact Nat.le_of_not_lt a
def l'(l:List D):Option (List D):=match l with|[.int j]=>cO (-(2^62)<=j/\j<2^62) (some (uI 0 j.toNat)) none|[.int i,.int j]=>cO (-(2^62)<=i/\i<2^62/\-(2^62)<=j/\j<2^62) (some (uI i (j-i).toNat)) none|_=>none
def bw(ml:En->R (List D))(δ:En):R (List D):=(ml δ).bind fun l=>R.of (l' l)
def ay.one(r:ay K F [d] vs):∃v,vs=[v]/\Rep K F d v:=by simp[ay]at r;simp_all
def ay.two(r:ay K F [d,e] vs):∃v u,vs=[v,u]/\Rep K F d v/\Rep K F e u:=by simp[ay]at r;grind
def Cd(g:∀δ l,ml δ=.ok l->l.length=1)(h:SA K XO E n ml):SI K XO E (KY n) (bw ml):=by intro w y q F H p δ R I a;unfold bw at a;cases c:ml _ with|no=>rw[c]at a;exact a.elim|ex x=>refine h _ _ _ F H _ _ _ I ?_;rwa[c]at a⊢|ok l=>refine h _ _ _ F H _ _ _ I ?_;rw[c]at a⊢;intro o u f A r;match l,(g _ l c)with
 |[d],_=>
 obtain⟨v,rfl,i⟩:=r.one;have b:=eM.mono f a
 cases d with|int j=>
 subst i;change eM E _ _ _ _ _ (PM.R.of (cO _ _ _))at b;by_cases e:-(2^62)<=j/\j<2^62;.rw[gQ e]at b;exact⟨j,rfl,e.1,e.2,b _ _ (.refl f.fh) _ (L9 fun G B x=>x.2)⟩
 .rw[LZ e]at b;exact b.elim|_=>exact b.elim
def L_(n:∀δ l,ml δ=.ok l->l.length=2)(h:SA K XO E q ml):SI K XO E (KZ q) (bw ml):=by intro B C y F H s δ R I a;unfold bw at a;cases c:ml _ with|no=>rw[c]at a;exact a.elim|ex x=>refine h _ _ _ F H _ _ _ I ?_;rwa[c]at a⊢|ok l=>refine h _ _ _ F H _ _ _ I ?_;rw[c]at a⊢;intro A z g J r;match l,(n _ l c)with|[d,o],_=>obtain⟨v,u,rfl,p,k⟩:=r.two;have b:=eM.mono g a;cases d with
 |int i=>cases o with|int j=>
 subst p k;change eM E _ _ _ _ _ (PM.R.of (cO _ _ _))at b;by_cases f:-(2^62)<=i/\i<2^62/\-(2^62)<=j/\j<2^62;.rw[gQ f]at b;exact⟨i,j,rfl,f,b _ _ (.refl g.fh) _ (L9 fun N L x=>x.2)⟩
 .rw[LZ f]at b;exact b.elim|_=>exact b.elim
 |_=>exact b.elim
def wY{ma:En->R D}:∀δ l,ai ma af δ=.ok l->l.length=1:=by intro δ l h;unfold ai af at h;cases e:ma _ with|ok d=>rw[e]at h;cases h;rfl|no=>simp_all|ex x=>simp_all
def Ff{ma mb:En->R D}:∀δ l,ai ma (ai mb af) δ=.ok l->l.length=2:=by intro δ l h;unfold ai af at h;cases e:ma _ with
 |ok d=>rw[e]at h;cases a:mb _ with|ok d=>rw[a]at h;cases h;rfl|no=>simp_all|ex x=>rw[a]at h;cases h
 |no=>simp_all|ex x=>simp_all
noncomputable def rq(l:List D):List D:=l.mapIdx fun i d=>.tup [.int i,d]
def L'(r:ay K o ds vs)(h:∀b c,P b c->av o b/\av b c/\eE K.f c a vs):kY K (EJ K.f a) P (rq ds):=by
 intro b c p i;obtain⟨l,g,q⟩:=h _ _ p;unfold rq;rw[List.getElem?_mapIdx];refine⟨fun d f=>?_,fun w=>?_⟩;.cases e:ds[i]? with|none=>simp_all|some x=>rw[e]at f;cases f;obtain⟨v,k,n⟩:=r.get e;refine⟨⟨_,v,q,k⟩,fun u A y=>?_⟩;obtain⟨s,B,rfl,j,rfl,y⟩:=y;have z:=y _ q;rw[k]at z;cases z;exact⟨_,.new g j,⟨_,_,rfl,cu,.cons rfl (.cons (Rep.mono (l.trans (av.upd (g.free j))) _ n) .nil)⟩⟩
 .cases e:ds[i]? with|none=>exact⟨_,q,by rw[r.length];simp_all⟩|some x=>simp_all
noncomputable def mG:D->Option (List D)|.lst l=>some l|_=>none
def uJ:List D->Option (List D)|[d]=>(mG d).map rq|_=>none
def px(ml:En->R (List D))(δ:En):R (List D):=(ml δ).bind fun l=>R.of (uJ l)
def Ma(h:uJ l=some r):∃x,l=[.lst x]/\r=rq x:=by cases l with|nil=>cases h|cons d t=>cases t with|cons _ _=>cases h|nil=>cases d with|lst x=>cases h;simp|_=>cases h
def Fg(h:SA K XO E e ml):SI K XO E (EK K.f e) (px ml):=by intro k y s F H u n R I a;refine h _ _ _ F H _ _ _ I (a.bind.imp fun j p o c b g r=>?_);cases q:uJ _ with|none=>rw[q]at b;exact b.elim|some z=>obtain⟨l,rfl,rfl⟩:=Ma q;obtain⟨v,rfl,f⟩:=ay.one r;obtain⟨a,g,rfl,d,i⟩:=f;exact⟨a,rfl,⟨_,.inl (PM.av.mT c.fh d)⟩,b _ _ (.refl c.fh) _ (L' i fun A w x=>⟨x.1,x.2,.inl (PM.av.rd x.2 (PM.av.mT x.1 d))⟩)⟩
def Mb(h:sk K XO E e ml):wX K XO E (EK K.f e) (px ml):=by intro k s y F H u n R I a;refine h _ _ _ F H _ _ _ I (a.bind.imp fun w p o g b i r=>?_);cases q:uJ _ with|none=>rw[q]at b;exact b.elim|some z=>obtain⟨l,rfl,rfl⟩:=Ma q;cases r with|cons r f=>cases f;obtain⟨a,i,rfl,c,j⟩:=r;exact⟨a,rfl,⟨_,.inl c⟩,b _ _ (.refl g.fh) _ (L' j fun A v x=>⟨x.ff,x.fh,.inl (PM.av.rd x.hh c)⟩)⟩
end
section
variable(K:Kx)(XO:di)(E:zag->XK)
def cM(g:List (Nat×Addr×HO))(F0 b:Hp)(f:zae):O->Prop|.no=>False|.nx c=>∀a F H,aw K g F0 b F H a c->f.nx a H|.bk c=>∀a F H,aw K g F0 b F H a c->f.bk a H|.ct c=>∀a F H,aw K g F0 b F H a c->f.ct a H|.rt d=>∀v F H,Ext F0 b F H->Rep K F d v->f.rt v H|.ro d=>∀p F H,Ext F0 b F H->F p=none->b p=none->Own K F H d p->f.rt (.ref p) H|.ex c x=>∀a F H C e,aw K g F0 b F H a c->XO x F H C e->E a C e H
def SS(t:TS)(m:En->O):Prop:=∀f a c F H d b e,aw K f a c F H d b->cM K XO E f a c e (m b)->t e d H
end
noncomputable def R.il{α:Type}(r:R α)(δ:En)(f:α->O):O:=match r with|.no=>.no|.ok a=>f a|.ex x=>.ex δ x
@[simp]theorem R.ja(a:α)(δ:En)(f:α->O):(R.ok a).il δ f=f a:=rfl
@[simp]theorem R.Fh {α:Type}(δ:En)(f:α->O):(R.no:R α).il δ f=.no:=rfl
@[simp]theorem R.Fi(x:Xc)(δ:En)(f:α->O):(R.ex x:R α).il δ f=.ex δ x:=rfl
section
variable{K:Kx}{XO:di}{E:zag->XK}{ta tb te:TE}{ma mb me:En->R D}{t u:TS}{m n:En->O}{Λ:List (Nat×Addr×HO)}{F0 H0 F H F1 H1:Hp}{σ:zag}{δ:En}{Dn:zae}
def cM.of(I:aw K Λ F0 H0 F H σ δ)(a:cM K XO E Λ F0 H0 Dn (r.il δ f)):eM E XO σ F H (fun a _ _=>cM K XO E Λ F0 H0 Dn (f a)) r:=by cases r with|no=>exact a|ok b=>exact fun _ _ _=>a|ex x=>exact fun C c g j e h=>a _ _ _ C _ (I.grow e) h
def cM.up(e:Ext F0 H0 F1 H1):∀{o:O},cM K XO E Λ F0 H0 Dn o->cM K XO E Λ F1 H0 Dn o|.no,h=>h|.nx _,h=>fun σ F H I=>h _ F H (I.down e)|.bk _,h=>fun σ F H I=>h _ F H (I.down e)|.ct _,h=>fun σ F H I=>h _ F H (I.down e)|.rt _,h=>fun v F H x=>h v F H (e.base x)|.ro _,h=>fun p F H x=>h p F H (e.base x)|.ex _ _,h=>fun σ F H C d I=>h _ F H C d (I.down e)
def dC(δ:En):O:=.nx δ
def aq(m n:En->O)(δ:En):O:=match m δ with|.nx a=>n a|r=>r
def pz:SS K XO E KL dC:=fun Λ F0 H0 F H σ δ Dn I a=>a _ F H I
def d_(h:SS K XO E t m)(h':SS K XO E u n):SS K XO E (wu t u) (aq m n):=by intro Λ F0 H0 F H σ δ Dn I a;refine h _ _ _ F H _ _ _ I ?_;unfold aq at a;cases q:m _ with|no=>rwa[q]at a|nx b=>rw[q]at a;exact fun c l r e=>h' _ _ _ _ _ _ _ _ e a|rt d=>rwa[q]at a|ro d=>rwa[q]at a|bk b=>rwa[q]at a|ct b=>rwa[q]at a|ex b x=>rwa[q]at a
def aG(me:En->R D)(δ:En):O:=(me δ).il δ .rt
def zev(h:SE K XO E te me):SS K XO E (oY te) (aG me):=fun Λ F0 H0 F H σ δ Dn I a=>h _ _ _ F H _ _ _ I ((cM.of I a).imp fun d F1 H1 e p v r=>p v _ _ (I.ext.trans e) r)
def cU(me:En->R D)(δ:En):O:=(me δ).il δ .ro
def As(h:iy K XO E te me):SS K XO E (oY te) (cU me):=fun Λ F0 H0 F H σ δ Dn I a=>h _ _ _ F H _ _ _ I ((cM.of I a).imp fun d F1 H1 e p v b c o=>p v _ _ (I.ext.trans e) b (I.ext.hh.free c) o)
noncomputable def wZ(i:Nat)(δ:En):O:=match δ[i]? with|some (.o d)=>.ro d|_=>.no
def V2:SS K XO E (oY (dh i)) (wZ i):=by
 intro Λ F0 H0 F H σ δ Dn I a;unfold wZ at a;split at a;.rename_i d q;have z:=I.slot i;rw[q]at z;obtain⟨p,c,b,f,e⟩:=z;exact⟨_,c,a p F H I.ext f b e⟩
 .exact a.elim
def bg(n:En->R Bool)(m m':En->O)(δ:En):O:=(n δ).il δ fun b=>if b=true then m δ else m' δ
def mU(h:ST K XO E f c)(d:SS K XO E t m)(g:SS K XO E u n):SS K XO E (zI f t u) (bg c m n):=by intro Λ F0 H0 F H σ δ Dn I a;refine h _ _ _ F H _ _ _ I ((cM.of I a).imp fun b F1 H1 e p=>?_);cases b with|true=>exact d _ _ _ _ _ _ _ _ (I.grow e) p|false=>exact g _ _ _ _ _ _ _ _ (I.grow e) p
noncomputable def O.of:Option En->O|some δ=>.nx δ|none=>.no
@[simp]theorem O.bI (δ:En):O.of (some δ)=.nx δ:=rfl
@[simp]theorem O.of_none:O.of none=.no:=rfl
def aD(me:En->R D)(b:D->En->Option En)(δ:En):O:=(me δ).il δ fun d=>O.of (b d δ)
def pA(h:SE K XO E te me)(j:SG K g b):SS K XO E (kh te g) (aD me b):=by intro Λ F0 H0 F H σ δ Dn I a;refine h _ _ _ F H _ _ _ I ((cM.of I a).imp fun d F1 H1 e p v r=>?_);cases q:b d _ with|none=>rw[q]at p;exact p.elim|some c=>rw[q]at p;exact j _ _ _ _ _ _ _ d v _ _ (I.grow e) r q fun i f=>p _ _ _ f
noncomputable def c8(i:Nat)(d:D)(δ:En):Option En:=match δ[i]? with|none=>none|some (.l _)=>none|some _=>some (δ.set i (.o d))
def yh(h:iy K XO E te me):SS K XO E (kh te (tK i)) (aD me (c8 i)):=by
 intro Λ F0 H0 F H σ δ Dn I a;refine h _ _ _ F H _ _ _ I ((cM.of I a).imp fun d F1 H1 e p v g c o=>?_);unfold c8 at p;split at p;.exact p.elim
 .exact p.elim
 .rename_i x f b;exact p _ _ _ (I.E_ ⟨x,b,fun j z=>f _ (by rw[z])⟩ e g c o)
noncomputable def ko(i:Nat)(m:En->O)(δ:En):O:=match δ[i]? with|some (.o d)=>m (δ.set i (.v d))|some (.v _)=>m δ|_=>.no
def Mc(h:SS K XO E t m):SS K XO E t (ko i m):=by
 intro Λ F0 H0 F H σ δ Dn I a;unfold ko at a;split at a;.rename_i d q;obtain⟨c,_,b⟩:=I.jr q;exact h _ _ _ _ H _ _ _ b a
 .exact h _ _ _ F H _ _ _ I a
 .exact a.elim
noncomputable def kJ(b:D->En->Option En)(m:En->O):List D->En->O|[],δ=>.nx δ|d::l,δ=>match b d δ with|none=>.no|some e=>match m e with|.nx a=>kJ b m l a|.ct a=>kJ b m l a|.bk a=>.nx a|r=>r
def cY(mi:En->R (List D))(b:D->En->Option En)(m:En->O)(δ:En):O:=(mi δ).il δ fun l=>kJ b m l δ
def Fj(v:kY K J P ds)(Q:∀σ δ F H,aw K Λ F0 H0 F H σ δ->P F H)(U:SG K g b)(C:SS K XO E t m)(I:aw K Λ F0 H0 F H σ δ)(a:cM K XO E Λ F0 H0 Dn (kJ b m ds δ)):∃W:Nat->Nat->zag->Hp->Prop,(∃k,W 0 k σ H)/\∀i k σ H,W i k σ H->(J.stop i H/\Dn.nx σ H)\/(J.go i H/\∃N:zag->Hp->Prop,(∀c H',N c H'->∃s,s<k/\W (i+1) s c H')/\∀x H',J.zR i H x H'->g x σ H' fun p T=>t {Dn with nx:=N,ct:=N,bk:=Dn.nx} p T):=by
 let W:=fun i k σ H=>∃F δ,aw K Λ F0 H0 F H σ δ/\k=ds.length-i/\i<=ds.length/\cM K XO E Λ F0 H0 Dn (kJ b m (ds.drop i) δ);refine⟨W,⟨_,F,_,I,rfl,bM _,a⟩,?_⟩;rintro i k σ H ⟨F,δ,I,rfl,hi,a⟩;have j:=Q _ _ F H I;by_cases f:i<ds.length;.obtain⟨A,X⟩:=(v F H j i).1 ds[i] (by simp);refine .inr ⟨A,W _ (ds.length-(i+1)),fun c H' w=>⟨_,by omega,w⟩,fun x H' y=>?_⟩;obtain⟨F3,M,r⟩:=X x _ y;rw[(nr f)]at a;unfold kJ at a;cases q:b _ _ with|none=>rw[q]at a;exact a.elim|some z=>rw[q]at a;refine U _ _ _ _ _ _ _ _ x _ _ (I.grow M) r q fun B S=>C _ _ _ _ _ _ _ _ S ?_;cases h:m _ with|no=>simp[h]at a;exact a|nx l=>simp[h]at a;exact fun c G H' o=>⟨_,_,o,rfl,f,a⟩|ct l=>simp[h]at a;exact fun c G H' o=>⟨_,_,o,rfl,f,a⟩|bk l=>simp[h]at a;exact a|rt d=>simp[h]at a;exact a|ro d=>simp[h]at a;exact a|ex L x=>simp[h]at a;exact a
 . have e:i=ds.length:=by lia
   subst e;rw[p_]at a;exact .inl ⟨(v F H j _).2 (by simp),a _ F H I⟩
def vN(hi:SI K XO E d mi)(f:SG K g b)(i:SS K XO E t m):SS K XO E (ur d g t) (cY mi b m):=by intro Λ F0 H0 F H σ δ Dn I a;refine hi _ _ _ F H _ _ _ I ((cM.of I a).imp fun j F1 H1 e p J h=>?_);have c:=I.grow e;exact Fj h (fun σ δ F H I=>⟨I.ext.ff,I.ext.fh⟩) f i c.up (p.up c.ext)
noncomputable def w8(i:Nat):O->O|.nx δ=>(match δ[i]? with|some (.l d)=>.nx (δ.set i (.o d))|_=>.no)|.bk δ=>.no|.ct δ=>.no|.ex δ x=>(match δ[i]? with|some (.l d)=>.ex (δ.set i (.o d)) x|_=>.no)|r=>r
def Ce(i:Nat)(b:D->En->Option En)(m:En->O)(δ:En):O:=match δ[i]? with|some (.o (.lst l))=>w8 i (kJ b m l (δ.set i (.l (.lst l))))|some (.v (.lst l))=>kJ b m l δ|_=>.no
def aw.lend(I:aw K Λ F0 H0 F H σ δ)(c:δ[i]?=some (.o (.lst l))):∃a vs,σ[i]?=some (some (.ref a))/\H a=some (.lst vs)/\ay K F l vs/\aw K ((i,a,.lst vs)::Λ) F0 H0 F H σ (δ.set i (.l (.lst l))):=by
 have g:=(bV.mp c).1;have z:=I.slot i;rw[c]at z;obtain⟨a,d,M,N,J⟩:=z;obtain⟨vs,s,B⟩:=J;refine⟨a,vs,d,s,B,I.ext,by simp[I.len],fun j=>?_,fun j k b w x v q C=>?_,fun y p=>?_,I.gH (fun k Q h=>by
     by_cases e:i=k;.subst e;rw[bf g]at h;cases h
     .simp_all) (fun _ _ _ _ _ _ t f _=>⟨t,fun b L=>(f b L).2⟩) fun k j Q r b T _ _ _ _ S G=>.inl (by
     by_cases e:i=j;.subst e;exact⟨by rw[c];rfl,G⟩
     simp_all)⟩
 . by_cases e:i=j;.subst e;rw[bf g];exact⟨a,d,M,N,_,s,B⟩
   .rw[aL e];exact I.slot j
 . have A:∀k:Nat,Sl.own (δ.set i (.l (.lst l)))[k]?=true->Sl.own δ[k]?=true:=by
     intro k h;by_cases e:i=k;.subst e;rw[c];rfl
     .rw[aL e]at h;exact h
   exact I.dist j k b w (A j x) (A k v) q C
 . rcases aM.mp p with rfl|p;.exact⟨⟨_,bf g⟩,d,s⟩
   . obtain⟨⟨U,x⟩,v,q⟩:=I.fj y p;have n:i≠y.1:=by intro e;simp_all
     exact⟨⟨_,by rw[aL n];exact x⟩,v,q⟩
def aw.back(A:∀y∈Λ,y.1≠i)(I:aw K ((i,x)::Λ) F0 H0 F H σ δ)(a:δ[i]?=some (.l d)):aw K Λ F0 H0 F H σ (δ.set i (.o d)):=by
 have w:=(bV.mp a).1;refine⟨I.ext,by simp[I.len],fun j=>?_,fun j k b p q g c G=>?_,fun y v=>?_,I.gH (fun k C h=>by
    by_cases e:i=k;.subst e;rw[bf w]at h;cases h
    .simp_all) (fun _ _ _ _ _ _ t f _=>⟨t,fun b L=>(f b L).2⟩) fun k j C r b N _ _ _ _ B J=>.inl (by
    by_cases e:i=j;.subst e;exact⟨by rw[a];rfl,J⟩
    .rw[aL e]at B;grind)⟩
 . by_cases e:i=j;.subst e;rw[bf w];have z:=I.slot i;rw[a]at z;exact z
   .rw[aL e];exact I.slot j
 . have s:∀k:Nat,Sl.own (δ.set i (.o d))[k]?=true->Sl.own δ[k]?=true:=by
    intro k h;by_cases e:i=k;.subst e;rw[a];rfl
    .rw[aL e]at h;exact h
   exact I.dist j k b p (s j q) (s k g) c G
 .obtain⟨⟨M,q⟩,g,c⟩:=I.fj y (bx _ v);exact⟨⟨_,by rw[aL (aN (A y v))];exact q⟩,g,c⟩
theorem cM.w8(b:∀y∈Λ,y.1≠i):∀{o:O},cM K XO E Λ F0 H0 Dn (PM.w8 i o)->cM K XO E ((i,x)::Λ) F0 H0 Dn o|.no,h=>h|.nx _,h=>fun σ F H I=>by obtain⟨⟨d,a⟩,_⟩:=I.fj _ gY;simp[PM.w8,a]at h;exact h _ F H (I.back b a)|.bk _,h=>h.elim|.ct _,h=>h.elim|.rt _,h=>h|.ro _,h=>h|.ex _ x,h=>fun σ F H C c I q=>by obtain⟨⟨d,a⟩,_⟩:=I.fj _ gY;simp[PM.w8,a]at h;exact h _ F H C _ (I.back b a) q
def Md(o:SG K g b)(j:SS K XO E t m):SS K XO E (ur (BP K.f (dh i)) g t) (Ce i b m):=by
 intro Λ F0 H0 F H σ δ Dn I a;unfold Ce at a;split at a
 . rename_i l q;obtain⟨p,v,d,c,h,k⟩:=I.lend q;refine⟨_,d,p,rfl,⟨_,.inl (.inl c)⟩,?_⟩;have w:∀y∈Λ,y.1≠i:=fun y A e=>by obtain⟨⟨C,J⟩,_⟩:=I.fj y A;simp_all
   exact Fj (yg h fun r s x=>x) (fun σ δ B G f=>⟨f.ext.ff,f.ext.fh,.inl (.inl (f.fj _ gY).2.2)⟩) o j k.up ((a.w8 w).up k.ext)
 .rename_i l q;have z:=I.slot i;rw[q]at z;obtain⟨u,d,c⟩:=z;obtain⟨p,v,rfl,c,h⟩:=c;refine⟨_,d,p,rfl,⟨_,.inl (PM.av.mT I.same c)⟩,Fj (yg h fun r s (x:av F _/\av _ _)=>⟨x.1,x.2,.inl (PM.av.rd x.2 (PM.av.mT x.1 c))⟩) (fun σ δ F H I=>⟨I.ext.ff,I.ext.fh⟩) o j I.up (a.up I.ext)⟩
 .exact a.elim
def kK(c:En->R Bool)(m:En->O):Nat->En->O|0,_=>.no|n+1,δ=>(c δ).il δ fun b=>if b=true then(match m δ with|.nx a=>kK c m n a|.ct a=>kK c m n a|.bk a=>.nx a|r=>r)else .nx δ
open Classical in
def uK(c:En->R Bool)(m:En->O)(δ:En):O:=if h:∃n,kK c m n δ≠.no then kK c m (choose h) δ else .no
def Fl(r:ST K XO E y o)(v:SS K XO E t m):SS K XO E (KS y t) (uK o m):=by
 intro Λ F0 H0 F H σ δ Dn I a;unfold uK at a;split at a;.refine⟨fun k σ H=>∃F δ,aw K _ _ _ F H σ δ/\cM K _ E _ _ _ _ (kK _ m k δ),⟨_,F,_,I,a⟩,?_⟩;rintro k σ H ⟨F,δ,I,a⟩;cases k with|zero=>exact a.elim|succ k=>refine r _ _ _ F H _ _ _ I ((cM.of I a).imp fun b F1 H1 e p=>?_);cases b with|false=>exact p _ _ _ (I.grow e)|true=>refine⟨_,fun f j w=>⟨k,fx _,w⟩,v _ _ _ _ _ _ _ _ (I.grow e) ?_⟩;cases c:m _ with|no=>simp[c]at p;exact p|nx g=>simp[c]at p;exact fun f q j h=>⟨_,_,h,p⟩|ct g=>simp[c]at p;exact fun f q j h=>⟨_,_,h,p⟩|bk g=>simp[c]at p;exact p|rt d=>simp[c]at p;exact p|ro d=>simp[c]at p;exact p|ex s x=>simp[c]at p;exact p
 .exact a.elim
end
noncomputable def rA:D->Option Key|.int i=>some (.inl i)|.str x=>some (.inr x)|_=>none
noncomputable def gT(ks:List Key)(l:List D)(k:Key):Option D:=match ks,l with|a::r,d::t=>if a=k then some d else gT r t k|_,_=>none
noncomputable def putL(ks:List Key)(l:List D)(k:Key)(x:D):List D:=match ks,l with|a::r,d::t=>(if a=k then x else d)::putL r t k x|_,t=>t
def putD(ks:List Key)(l:List D)(k:Key)(x:D):D:=if ks.any (fun a=>decide (a=k))=true then .du ks (putL ks l k x)else .du (ks++[k]) (l++[x])
section
variable{K:Kx}{F H:Hp}
def Fm(h:rA d=some k)(r:Rep K F d v):v=kV k:=by cases d with|int i=>cases h;exact r|str i=>cases h;exact r|_=>cases h
theorem Me:∀{bU:List (Key×V)}{ks:List Key}{l:List D},bU.map (·.1)=ks->ay K F l (bU.map (·.2))->(∀d,gT ks l k=some d->∃v,gD bU k=some v/\Rep K F d v)/\(gT ks l k=none->gD bU k=none)|[],ks,l,c,g=>by subst c;refine⟨fun d h=>?_,fun _=>rfl⟩;simp[gT]at h|(a,v)::bU,ks,l,c,g=>by subst c;cases l with|nil=>simp[ay]at g|cons d t=>
 obtain⟨o,r,e,m,n⟩:=g;cases e;have q:=Me (k:=k) rfl n;simp[gT];by_cases f:a=k;.rw[ao f];refine⟨fun p e=>?_,fun e=>by cases e⟩;cases e;exact⟨v,by simp[gD,f],m⟩
 . have e:gD ((a,v)::bU) k=gD bU k:=by simp[gD,f]
   simp_all
theorem Mf(m:Rep K F x u):∀{bU:List (Key×V)}{ks:List Key}{l:List D},bU.map (·.1)=ks->ay K F l (bU.map (·.2))->ay K F (putL ks l k x) ((bU.map (fun g=>if g.1=k then(g.1,u)else g)).map (·.2))
 |[],ks,l,h,f=>by subst h;cases l with|nil=>rfl|cons d t=>simp[ay]at f
 |(a,v)::bU,ks,l,h,f=>by subst h;cases l with|nil=>simp[ay]at f|cons d t=>
 obtain⟨p,r,e,n,j⟩:=f;cases e;refine .cons ?_ (Mf m rfl j);by_cases o:a=k;.simp_all
 simp_all
def V3(b:Rep K F x u)(h1:bU.map (·.1)=ks)(h2:ay K F l (bU.map (·.2))):Own K F (upd H a (.dK (putK bU k u))) (putD ks l k x) a:=by
 have e:ks.any (fun a=>decide (a=k))=bU.any (fun c=>decide (c.1=k)):=by rw[<-h1,List.any_map];rfl
 unfold putD putK;rw[e];split;.refine⟨_,cu,?_,Mf b h1 h2⟩;rw[<-h1,cg];refine fO fun c _=>?_;grind
 .exact⟨_,cu,by rw[fN,h1];rfl,by rw[fN];exact h2.append (.cons b .nil)⟩
end
section
variable{K:Kx}{XO:di}{E:zag->XK}{ta tb te ty td:TE}{ma mb me my md:En->R D}{t u:TS}{m n:En->O}{Λ:List (Nat×Addr×HO)}{F0 H0 F H F1 H1:Hp}{σ:zag}{δ:En}{Dn:zae}
def aw.own{i:Nat}(I:aw K Λ F0 H0 F H σ δ)(b:δ[i]?=some (.o d)):∃a,σ[i]?=some (some (.ref a))/\Own K F H d a:=by have z:=I.slot i;rw[b]at z;obtain⟨a,g,c,f,e⟩:=z;simp_all
def lF(i:Nat)(me:En->R D)(δ:En):O:=match δ[i]? with|some (.o (.lst l))=>(me δ).il δ fun d=>cO (l.length<sizeLine) (.nx (δ.set i (.o (.lst (l++[d]))))) .no|_=>.no
def Cf(h:SE K XO E te me):SS K XO E (xT (x4 K.f "list" BY (dh i) (gb te dB))) (lF i me):=by
 intro Λ F0 H0 F H σ δ Dn I a;unfold lF at a;split at a
 . rename_i l q;obtain⟨p,f,j,g,b⟩:=I.own q;refine⟨_,f,.inl ⟨rfl,_,.inl (.inl g)⟩,(h _ _ _ F H _ _ _ I ((cM.of I a).imp fun d F1 H1 e c v r=>?_))⟩;unfold cO at c;split at c;.exact⟨p,_,v,rfl,rfl,e.hh _ _ g,by rwa[b.length],c _ _ _ ((I.grow e).chg q f ⟨_,cu,(b.mono e.ff).append (.cons r .nil)⟩)⟩
   .exact c.elim
 .exact a.elim
def vO(i:Nat)(mi me:En->R D)(δ:En):O:=match δ[i]? with
 |some (.o (.lst l))=>(me δ).il δ fun d=>(mi δ).il δ fun k=>match k with|.int k=>(match ie l.length k with|some j=>.nx (δ.set i (.o (.lst (l.set j d))))|none=>.no)|_=>.no
 |_=>.no
def Mg {i:Nat}{ti:TE}{mi:En->R D}(hi:SE K XO E ti mi)(h:SE K XO E te me):SS K XO E (kh te (wA (dh i) ti BS)) (vO i mi me):=by
 intro Λ F0 H0 F H σ δ Dn I a
 unfold vO at a
 split at a
 · rename_i l q
   obtain⟨p,s1,vs,s2,s3⟩:=I.own q
   refine h _ _ _ F H _ _ _ I ((cM.of I a).imp fun d F1 H1 e c v r=>⟨_,s1,(hi _ _ _ _ _ _ δ _ (I.grow e) ((cM.of (I.grow e) c).imp fun k F2 H2 e2 c2 v2 r2=>?_))⟩)
   cases k with
   |int k=>
    subst r2
    dsimp at c2
    cases z:ie _ k with
    |none=>rw[z]at c2;exact c2.elim|some j=>
    rw[z]at c2
    exact⟨p,_,k,j,rfl,rfl,e2.hh _ _ (e.hh _ _ s2),by rwa [s3.length],(c2 _ _ _ (((I.grow e).grow e2).chg q s1 ⟨_,cu,((s3.mono e.ff).mono e2.ff).set j (Rep.mono e2.ff _ r)⟩))⟩
   |_=>exact c2.elim
 ·exact a.elim
def yi(f:Int->Int->Int)(i:Nat)(mi me:En->R D)(δ:En):O:=match δ[i]? with|some (.o (.lst l))=>(mi δ).il δ fun k=>(match k with|.int k=>(match ie l.length k with|some j=>(match l[j]? with|some (.int x)=>(me δ).il δ fun y=>(match y with|.int y=>.nx (δ.set i (.o (.lst (l.set j (.int (f x y))))))|_=>.no)|_=>.no)|none=>.no)|_=>.no)|_=>.no
def Mh(hi:SE K XO E J mi)(h:SE K XO E te me):SS K XO E (KP (dh i) J te (qM K.f) (BN f) BS) (yi f i mi me):=by
 intro Λ F0 H0 F H σ δ Dn I a;unfold yi at a;split at a;.rename_i l q;obtain⟨p,B,S,L,g⟩:=I.own q;refine⟨_,B,(hi _ _ _ F H _ _ _ I ((cM.of I a).imp fun k F1 H1 e c v r=>?_))⟩;cases k with
 |int k=>subst r;dsimp at c;cases z:ie l.length k with|none=>rw[z]at c;exact c.elim|some j=>rw[z]at c;dsimp at c;cases s:l[j]? with|none=>rw[s]at c;exact c.elim|some d=>rw[s]at c;cases d with
  |int x=>obtain⟨w,N,Q⟩:=g.get s;subst Q;have C:=e.hh _ _ L;refine⟨p,_,k,_,rfl,rfl,.inl (.inl C),by unfold iI;rw[g.length,z];exact N,(h _ _ _ _ H1 _ _ _ (I.grow e) ((cM.of (I.grow e) c).imp fun y M T o A U G=>?_))⟩;cases y with|int y=>subst G;exact⟨x,y,rfl,rfl,p,_,k,j,rfl,rfl,o.hh _ _ C,by rwa[g.length],A _ M _ (((I.grow e).grow o).chg q B ⟨_,cu,((g.mono e.ff).mono o.ff).set j rfl⟩)⟩|_=>exact A.elim
  |_=>exact c.elim
 |_=>exact c.elim
 .exact a.elim
def qP(i:Nat)(mk me:En->R D)(δ:En):O:=match δ[i]? with
 |some (.o (.du a l))=>(me δ).il δ fun d=>(mk δ).il δ fun k=>match rA k with|some k=>cO (a.length<sizeLine) (.nx (δ.set i (.o (putD a l k d)))) .no|none=>.no
 |_=>.no
def Fo(o:SE K XO E tk mk)(h:SE K XO E te me):SS K XO E (LG (dh i) tk te) (qP i mk me):=by
 intro Λ F0 H0 F H σ δ Dn I a;unfold qP at a;split at a;.rename_i y l q;obtain⟨p,g,B,w,j,x⟩:=I.own q;refine h _ _ _ F H _ _ _ I ((cM.of I a).imp fun d F1 H1 e c v r=>⟨_,g,(o _ _ _ _ _ _ _ _ (I.grow e) ((cM.of (I.grow e) c).imp fun k G C f b A s=>?_))⟩);cases z:rA k with|none=>rw[z]at b;exact b.elim|some k=>
  rw[z]at b;dsimp at b;unfold cO at b;split at b;.cases Fm z s;exact⟨p,_,rfl,sf.k (f.hh _ _ (e.hh _ _ w)) (by grind),b _ _ _ (((I.grow e).grow f).chg q g (V3 (Rep.mono f.ff _ r) j ((x.mono e.ff).mono f.ff)))⟩
  .exact b.elim
 .exact a.elim
def uL(f:Int->Int->Int)(i:Nat)(me:En->R D)(δ:En):O:=match δ[i]? with|some (.v (.int x))=>(me δ).il δ fun y=>(match y with|.int y=>.nx (δ.set i (.v (.int (f x y))))|_=>.no)|_=>.no
def V4(h:SE K XO E te me):SS K XO E (wB i te (BN f)) (uL f i me):=by
 intro Λ F0 H0 F H σ δ Dn I a;unfold uL at a;split at a;.rename_i x q;have z:=I.slot i;rw[q]at z;obtain⟨u,j,b⟩:=z;subst b;refine⟨_,j,h _ _ _ F H _ _ _ I ((cM.of I a).imp fun y F1 H1 e c v r=>?_)⟩;cases y with|int y=>subst r;exact⟨x,y,rfl,rfl,c _ _ _ ((I.grow e).put ⟨_,q,fun d z=>by cases z⟩ rfl)⟩|_=>exact c.elim
 .exact a.elim
def rB(k d:D):Option D:=match rA k,d with|some k,.du a l=>some (.bl (!(gT a l k).isSome))|_,_=>none
def Mi(h:Top K F H (.du ks l) x):∃p o,x=.ref p/\ph H p (kV k) o/\(∀d,gT ks l k=some d->∃v,o=some v/\Rep K F d v)/\(gT ks l k=none->o=none):=by obtain⟨a,b,rfl,c,f,e⟩:=h;exact⟨a,_,rfl,.k c,Me f e⟩
def Mj(f:SE K XO E ty my)(hd:mB K XO E td md):SE K XO E (LF ty td) (m2 rB my md):=by intro Λ F0 H0 F H σ δ Q I a;refine f _ _ _ F H _ _ _ I (a.bind.imp fun G F1 H1 i c y s=>(hd _ _ _ _ _ _ _ _ (I.grow i) (c.bind.imp fun e J C h b x j=>?_)));unfold rB at b;cases z:rA _ with|none=>rw[z]at b;exact b.elim|some k=>rw[z]at b;cases e with
 |du B l=>obtain⟨p,o,rfl,g,w,A⟩:=Mi j;cases Fm z s;refine⟨p,o,rfl,g,b _ _ (.refl h.fh) _ ?_⟩;cases q:gT _ l k with|none=>rw[A q];rfl|some d=>obtain⟨v,rfl,_⟩:=w d q;rfl
 |_=>exact b.elim
noncomputable def i2(f:Int->Int->D)(x y:D):Option D:=match x,y with|.int i,.int j=>some (f i j)|_,_=>none
def w9(C:Int->Int->Prop)(f:Int->Int->D)(x y:D):Option D:=match x,y with|.int i,.int j=>cO (C i j) (some (f i j)) none|_,_=>none
def yj(h:∀i j F,Rep K F (f i j) (g i j)):SR K (o3 g) (i2 f):=by intro F H x y c k d Q s l b e q;cases c with
 |int i=>cases k with|int j=>cases e;exact⟨i,j,l,b,q _ F H (.refl s) (h i j F)⟩|_=>cases e
 |_=>cases e
def Au(h:∀i j F,Rep K F (f i j) (g i j)):SR K (rI C g) (w9 C f):=by intro F H x y c k d Q s l o e q;cases c with
 |int i=>cases k with
  |int j=>
  simp[w9]at e;unfold cO at e;split at e;.rename_i b;cases e;exact⟨i,j,l,o,b,q _ F H (.refl s) (h i j F)⟩
  simp_all|_=>cases e
 |_=>cases e
def bD:D->D->Option D:=i2 fun i j=>.int (i+j)
def ip:D->D->Option D:=i2 fun i j=>.int (i-j)
def gf:D->D->Option D:=w9 (fun i j=>eN i/\eN j) fun i j=>.int (i*j)
def oDiv:D->D->Option D:=w9 (fun _ j=>j≠0/\eN j) fun i j=>.int (i.fdiv j)
def oMod:D->D->Option D:=w9 (fun _ j=>0<j) fun i j=>.int (i%j)
def gJ:D->D->Option D:=w9 o4 fun i j=>.int (i^j.toNat)
def oLt:D->D->Option D:=i2 fun i j=>.bl (decide (i<j))
def oLe:D->D->Option D:=i2 fun i j=>.bl (decide (i<=j))
def kq:D->D->Option D:=i2 fun i j=>.bl (decide (j<i))
def sq:D->D->Option D:=i2 fun i j=>.bl (decide (j<=i))
def Fp:SR K (o3 fun i j=>.int (i+j)) bD:=yj fun _ _ _=>rfl
def Ml:SR K (o3 fun i j=>.int (i-j)) ip:=yj fun _ _ _=>rfl
def Mm:SR K (rI (fun i j=>eN i/\eN j) fun i j=>.int (i*j)) gf:=Au fun _ _ _=>rfl
def Mn:SR K (rI (fun _ j=>j≠0/\eN j) fun i j=>.int (i.fdiv j)) oDiv:=Au fun _ _ _=>rfl
def Av:SR K (rI (fun _ j=>0<j) fun i j=>.int (i%j)) oMod:=Au fun _ _ _=>rfl
def Mo:SR K (rI o4 fun i j=>.int (i^j.toNat)) gJ:=Au fun _ _ _=>rfl
def w_:SR K (o3 fun i j=>.bl (decide (i<j))) oLt:=yj fun _ _ _=>rfl
def Mp:SR K (o3 fun i j=>.bl (decide (i<=j))) oLe:=yj fun _ _ _=>rfl
def tR:SR K (o3 fun i j=>.bl (decide (j<i))) kq:=yj fun _ _ _=>rfl
def yk:SR K (o3 fun i j=>.bl (decide (j<=i))) sq:=yj fun _ _ _=>rfl
noncomputable def mH:D->Option D|.int i=>some (.int (-i))|_=>none
def V5:SU K (rU fun i=>.int (-i)) mH:=by intro F H x c d Q s b e q;cases c with|int i=>cases e;exact⟨i,b,q _ F H (.refl s) rfl⟩|_=>cases e
noncomputable def fl:D->Option V|.non=>some .non|.bl b=>some (.bl b)|.int i=>some (.int i)|.str x=>some (.str x)|_=>none
def Cg(h:fl d=some v)(r:Top K F H d x):x=v:=by cases d with|non=>cases h;simpa[Top,Rep]using r|bl _=>cases h;simpa[Top,Rep]using r|int _=>cases h;simpa[Top,Rep]using r|str _=>cases h;simpa[Top,Rep]using r|_=>cases h
def oEq(x y:D):Option D:=match fl x,fl y with|some a,some b=>if qL a b=true then some (.bl (decide (a=b)))else none|_,_=>none
def kL(x y:D):Option D:=match fl x,fl y with|some a,some b=>if qL a b=true then some (.bl (!decide (a=b)))else none|_,_=>none
def Ci:SR K K3 oEq:=by
 intro F H x y j k d Q s f i e q;unfold oEq at e;split at e
 . rename_i a b g c;split at e;.rename_i h;cases e;cases Cg g f;cases Cg c i;exact⟨h,q _ F H (.refl s) rfl⟩
   simp_all
 simp_all
def Fq:SR K K4 kL:=by
 intro F H x y j k d Q s f i e q;unfold kL at e;split at e
 . rename_i a b g c;split at e;.rename_i h;cases e;cases Cg g f;cases Cg c i;exact⟨h,q _ F H (.refl s) rfl⟩
   simp_all
 simp_all
noncomputable def Mq:D->Bool|.non=>true|_=>false
def V6(r:Top K F H d x):decide (x=.non)=Mq d:=by cases d with|non=>subst r;rfl|bl _=>subst r;rfl|int _=>subst r;rfl|str _=>subst r;rfl|tup _=>obtain⟨a,_,rfl,_⟩:=r;rfl|lst _=>obtain⟨a,_,rfl,_⟩:=r;rfl|du _ _=>obtain⟨a,_,rfl,_⟩:=r;rfl|c_ _=>obtain⟨a,rfl,_⟩:=r;rfl|exc _=>obtain⟨a,_,rfl,_⟩:=r;rfl|fd _ _=>obtain⟨a,_,_,rfl,_⟩:=r;rfl|obj _ _ _=>obtain⟨a,_,_,rfl,_⟩:=r;rfl
def Fs(x y:D):Option D:=match y with|.non=>some (.bl (!Mq x))|_=>none
def V7:SR K (fun x y H Q=>y=.non/\Q (.bl (!decide (x=.non))) H) Fs:=by intro F H x y g a d Q s c b e q;cases a with|non=>cases e;exact⟨b,q _ F H (.refl s) (by simp[Rep];rw[V6 c])⟩|_=>cases e
def aJ(x y:D):Option D:=match x,y with|.lst l,.int i=>iI l i|.c_ l,.int i=>(iI l i).map .int|_,_=>none
def dX(x y:D):Option D:=match x,y with|.tup l,.int i=>iI l i|_,_=>none
def Ft(r:ay K F l vs)(h:iI l i=some d):∃v,iI vs i=some v/\Rep K F d v:=by unfold iI at h⊢;rw[r.length];cases q:ie _ i with|none=>simp_all|some j=>rw[q]at h;exact r.get h
def kM:SR K (qM K.f) aJ:=by intro F H x y p k d Q s h o e q;cases p with
 |lst l=>cases k with|int i=>obtain⟨a,B,rfl,b,A⟩:=h;obtain⟨v,c,g⟩:=Ft A e;exact⟨a,_,i,v,rfl,o,.inl b,c,q _ F H (.refl s) g⟩|_=>cases e
 |c_ l=>cases k with
  |int i=>obtain⟨a,rfl,b⟩:=h;simp only[aJ]at e;cases z:iI l i with|none=>simp_all|some n=>rw[z]at e;cases e;obtain⟨v,c,g⟩:=Ft (l:=l.map _) (i:=i) (d:=.int n) .ints (by unfold iI at z⊢;cases q:ie l.length i with|none=>rw[q]at z;cases z|some j=>simp_all);exact⟨a,_,i,v,rfl,o,s.seq b,c,q _ F H (.refl s) g⟩
  |_=>cases e
 |_=>cases e
def tU:SR K (wI K.f) dX:=by intro F H x y c k d Q s p o e q;cases c with
 |tup l=>cases k with|int i=>obtain⟨a,w,rfl,j,r⟩:=p;obtain⟨v,b,h⟩:=Ft r e;exact⟨a,_,i,v,rfl,o,.inl (.inl (s _ _ j)),b,q _ F H (.refl s) h⟩|_=>cases e
 |_=>cases e
end
section
variable{K:Kx}{XO:di}{E:zag->XK}{ta tb te ty td:TE}{ma mb me my md:En->R D}{t u:TS}{m n:En->O}{Λ:List (Nat×Addr×HO)}{F0 H0 F H F1 H1:Hp}{σ:zag}{δ:En}{Dn:zae}
abbrev EN:zag->XK:=fun _ _ _ _=>False
noncomputable def jv:Sl->Sl|.o d=>.l d|.p _=>.no|s=>s
def cP(δ:En)(a:List Nat)(n:Nat):En:=a.map (fun i=>jv (δ[i]?.getD .no))++List.replicate n .no
def nZ(f:D->R (Option D)):List D->R (List D)|[]=>.ok []|d::l=>(f d).bind fun o=>(nZ f l).bind fun r=>.ok (o.toList++r)
def gh(b:D->En->Option En)(e:Option (En->R Bool))(me:En->R D)(δ:En)(d:D):R (Option D):=match b d δ with|none=>.no|some a=>(match e with|none=>(me a).iz.bind fun x=>.ok (some x)|some c=>(c a).iz.bind fun k=>if k=true then(me a).iz.bind fun x=>.ok (some x)else .ok none)
def eZ(mi:En->R (List D))(d:List Nat)(n:Nat)(b:D->En->Option En)(c:Option (En->R Bool))(me:En->R D)(δ:En):R D:=(mi δ).bind fun a=>cO (a.length<=sizeLine) ((nZ (gh b c me (cP δ d n)) a).iz.bind fun l=>.ok (.lst l)) .no
def Fu{n:Nat}(I:aw K Λ F0 H0 F H σ δ)(T:b.Nodup):∃f,aw K f F0 H0 F H (qt σ b n) (cP δ b n)/\(∀i:Nat,Sl.own (cP δ b n)[i]?=true->∃x∈f,x.1=i)/\∀x∈f,∃o,H x.2.1=some o:=by
 have J:∀j:Nat,j<b.length->(cP δ b n)[j]?=some (jv (δ[b.getD j 0]?.getD .no)):=fun j c=>by unfold cP;rw[fm (by simpa using c),bX,b8 c];simp[cz,b8 c]
 have Z:∀j:Nat,j<b.length->(qt σ b n)[j]?=some ((σ[b.getD j 0]?).getD none):=fun j c=>by unfold qt;rw[fm (by simpa using c),bX,b8 c];simp[cz,b8 c]
 have Y:∀j:Nat,¬j<b.length->(cP δ b n)[j]?=some .no\/(cP δ b n)[j]?=none:=fun j c=>by
   unfold cP;rw[jk (by simpa using c),lq];split;.simp
   simp_all
 have r:∀j:Nat,Sl.own (cP δ b n)[j]?=true->j<b.length/\∃d a o,δ[b.getD j 0]?=some d/\Sl.own (some d)=true/\(cP δ b n)[j]?=some (jv d)/\(∃e,jv d=.l e)/\σ[b.getD j 0]?=some (some (.ref a))/\(qt σ b n)[j]?=some (some (.ref a))/\H a=some o/\H0 a=none/\F a=none:=fun j h=>by
   by_cases c:j<b.length;.refine⟨c,?_⟩;rw[J j c]at h;have z:=I.slot (b.getD j 0);cases q:δ[b.getD j 0]? with|none=>rw[q]at h;cases h|some s=>rw[q]at h z;cases s with|no=>cases h|v d=>cases h|o d=>obtain⟨a,g,k,S,Q⟩:=z;obtain⟨o,N⟩:=Q.obj;exact⟨_,a,o,rfl,rfl,by rw[J j c,q];rfl,⟨d,rfl⟩,g,by rw[Z j c,g];rfl,N,k,S⟩|l d=>obtain⟨a,g,k,S,Q⟩:=z;obtain⟨o,N⟩:=Q.obj;exact⟨_,a,o,rfl,rfl,by simp_all,⟨d,rfl⟩,g,by rw[Z j c,g];rfl,N,k,S⟩|p y=>cases h
   .rcases Y j c with z|z<;>(rw[z]at h;cases h)
 let f:List (Nat×Addr×HO):=(List.range b.length).filterMap fun(j:Nat)=>match(qt σ b n)[j]? with|some (some (V.ref a))=>if Sl.own (cP δ b n)[j]?=true then(H a).map fun o=>(j,a,o)else none|_=>none;have C:∀x∈f,(qt σ b n)[x.1]?=some (some (.ref x.2.1))/\Sl.own (cP δ b n)[x.1]?=true/\H x.2.1=some x.2.2:=fun x B=>by
   obtain⟨j,_,h⟩:=lB.mp B;split at h
   . rename_i a q;split at h;.rename_i ow;cases X:H a with|none=>rw[X]at h;cases h|some o=>rw[X]at h;cases h;exact⟨q,ow,X⟩
     .cases h
   .cases h
 have w:∀(j:Nat)(y:Tr),(cP δ b n)[j]?≠some (.p y):=fun j y h=>by
   by_cases c:j<b.length;.rw[J j c]at h;cases q:δ[b.getD j 0]? with|none=>rw[q]at h;cases h|some s=>rw[q]at h;cases s<;>cases h
   .rcases Y j c with z|z<;>(rw[z]at h;cases h)
 refine⟨f,⟨I.ext,?_,fun j=>?_,fun i j a M h1 h2 h3 G=>?_,fun x B=>?_,fun j y h=>absurd h (w j y)⟩,fun j h=>?_,fun x B=>⟨_,(C x B).2.2⟩⟩;.unfold qt cP;simp
 . by_cases c:j<b.length;.rw[J j c,Z j c];have z:=I.slot (b.getD j 0);cases q:δ[b.getD j 0]? with|none=>trivial|some s=>rw[q]at z;cases s with|no=>trivial|v d=>obtain⟨u,g,k⟩:=z;exact⟨u,by rw[g];rfl,k⟩|o d=>obtain⟨a,g,k⟩:=z;exact⟨a,by rw[g];rfl,k⟩|l d=>obtain⟨a,g,k⟩:=z;exact⟨a,by rw[g];rfl,k⟩|p y=>trivial
   .rcases Y j c with z|z<;>(rw[z];trivial)
 .obtain⟨A,d1,L,o1,i2,i3,i4,i5,i6,U,i8⟩:=r i h1;obtain⟨j1,d2,a2,o2,j2,j3,j4,j5,j6,j7,j8⟩:=r j h2;rw[U]at h3;cases h3;rw[j7]at G;cases G;refine I.dist (b.getD i 0) (b.getD j 0) a (fun e=>M ?_) (by rwa[i2]) (by rwa[j2]) i6 j6;rw[cz,cz,b8 A,b8 j1]at e;exact((rV A T).mp (by rw[b8 A,b8 j1];exact cK some e))
 .obtain⟨m1,m2,m3⟩:=C x B;obtain⟨_,d,_,_,_,_,G,⟨e,h5⟩,_⟩:=r x.1 m2;exact⟨⟨e,by rw[G,h5]⟩,m1,m3⟩
 .obtain⟨A,d1,L,o1,i2,i3,i4,i5,i6,U,i8,_⟩:=r j h;refine⟨(j,L,o1),lB.mpr ⟨j,gZ.mpr A,?_⟩,rfl⟩;rw[U];show(if Sl.own (cP δ b n)[j]?=true then(H L).map fun o=>(j,L,o)else none)=_;rw[ao h,i8];rfl
def aw.side(I:aw K Λ F0 H0 F H σ δ)(C:∀i:Nat,Sl.own δ[i]?=true->∃x∈Λ,x.1=i)(G:∀x∈Λ,x.2.1≠p)(h0:H0 p=none)(h1:F p=none):aw K Λ F0 H0 F (upd H p w) σ δ:=by
 have B:∀(i:Nat)(a:Addr),Sl.own _=true->σ[i]?=some (some (.ref a))->a≠p:=fun i a h M=>by obtain⟨x,g,e⟩:=C i h;have z:=(I.fj x g).2.1;grind
 have f:∀(j:Nat)(y:Tr),δ[j]?≠some (.p y):=fun j y h=>by obtain⟨x,g,e⟩:=C j (by rw[h];rfl);obtain⟨d,L⟩:=(I.fj x g).1;grind
 refine⟨⟨I.ext.ff,fun b o q=>?_,fun b o q=>?_,I.ext.nw⟩,I.len,fun i=>?_,I.dist,fun x g=>?_,fun j y h=>absurd h (f j _)⟩;.rw[bz (d9 q h0)];exact I.ext.hh b o q
 .rw[bz (d9 q h1)];exact I.ext.fh b o q
 .have z:=I.slot i;cases q:δ[i]? with|none=>trivial|some s=>rw[q]at z;cases s with|no=>trivial|v d=>exact z|o d=>obtain⟨a,c,k,r,A⟩:=z;exact⟨a,c,k,r,A.at (bz (B i a (by rw[q];rfl) c))⟩|l d=>obtain⟨a,c,k,r,A⟩:=z;exact⟨a,c,k,r,A.at (bz (B i a (by rw[q];rfl) c))⟩|p y=>simp_all
 .obtain⟨c,k,r⟩:=I.fj x g;exact⟨c,k,by rwa[bz (G x g)]⟩
def aw.qu(w:mF δ c)(v:∀x∈Λ,∃d,δ[x.1]?=some (.l d))(I:aw K Λ F0 H0 F H σ c):aw K Λ F0 H0 F H σ δ:=by
 refine⟨I.ext,I.len.trans w.1.symm,fun i=>?_,fun i j a e q B y C=>?_,fun x o=>⟨v x o,(I.fj x o).2⟩,I.gH (fun k s h=>⟨(w.2 k).elim (fun z=>by simp_all) fun z=>by grind,rfl⟩) (fun _ _ _ _ _ _ t f _=>⟨t,fun b G=>(f b G).2⟩) fun k j s r b J _ _ _ _ p A=>.inl ⟨(w.2 j).elim (fun z=>by rw[z]at p;cases p) fun z=>by rwa[<-z],A⟩⟩
 . rcases w.2 i with z|z;.rw[z];trivial
   .rw[z];exact I.slot i
 . have g:∀k,Sl.own δ[k]?=true->Sl.own c[k]?=true:=fun k h=>by
    rcases w.2 k with z|z;.rw[z]at h;cases h
    .rwa[<-z]
   exact I.dist i j a e (g i q) (g j B) y C
def V8(h:(nZ f (d::l)).iz=.ok r):∃o a,f d=.ok o/\(nZ f l).iz=.ok a/\r=o.toList++a:=by unfold nZ at h;cases q:f d with|no=>rw[q]at h;cases h|ex x=>rw[q]at h;cases h|ok o=>rw[q]at h;cases b:nZ f l with|no=>rw[b]at h;cases h|ex x=>rw[b]at h;cases h|ok a=>rw[b]at h;cases h;simp
def bF{r:R α}{a:α}(h:r.iz=.ok a):r=.ok a:=by cases r with|no=>cases h|ok b=>simp_all|ex x=>cases h
def jb{n:Nat}(hi:wX K XO E wi mi)(Aw:M.Nodup)(hg:SG K g b)(hw:BW b)(hc:(tc=none/\nc=none)\/∃c k,tc=some c/\nc=some k/\ST K XO EN c k)(he:SE K XO EN te me):iy K XO E (x9 wi M n g tc te) (eZ mi M n b nc me):=by
 intro Λ F0 H0 F H σ δ Q I a;refine hi Λ F0 H0 F H σ δ _ I (a.bind.imp fun B F1 H1 e1 X J hJ p hp=>?_);unfold cO at X;split at X;case isFalse=>exact X.elim
 have I1:=I.grow e1;obtain⟨f,Ic,pk,uM⟩:=Fu (n:=n) I1 Aw;cases qg:(nZ (gh b nc me (cP δ M n)) B).iz with|no=>rw[qg]at X;exact X.elim|ex x=>cases q2:nZ (gh b nc me (cP δ M n)) B<;>(rw[q2]at qg;cases qg)|ok l=>
 rw[qg]at X;have C:∀x∈f,∃d,(cP δ M n)[x.1]?=some (.l d):=fun x hx=>(Ic.fj x hx).1;have Ax:∀x∈f,x.2.1≠p:=fun x hx e=>by obtain⟨o,ho⟩:=uM x hx;simp_all
 have p0:H0 p=none:=I1.ext.hh.free hp;have f1:F1 p=none:=e1.fh.free hp;refine⟨fun i k A Fv H2=>∃U Z l2,aw K f F0 H0 U H2 Fv (cP δ M n)/\Ext F1 H1 U H2/\H2 p=some (.lst A)/\U p=none/\ay K U Z A/\(nZ (gh b nc me (cP δ M n)) (B.drop i)).iz=.ok l2/\l=Z++l2/\k=B.length-i/\i<=B.length/\A.length<=i,⟨_,F1,[],l,?_,.eY e1.fh hp,cu,f1,.nil,qg,rfl,rfl,bM _,aC _⟩,?_⟩;.exact Ic.grow (.eY e1.fh hp)
 rintro i k A Fv H2 ⟨U,Z,l2,I2,x2,hD,hF,r,qd,rfl,rfl,Mr,Ay⟩;refine⟨hD,?_⟩;by_cases uN:i<B.length;.have e:B.drop i=B[i]::B.drop (i+1):=nr uN;rw[e]at qd;obtain⟨o,l3,s,q3,rfl⟩:=V8 qd;obtain⟨h1,h2⟩:=(hJ U H2 x2 i).1 B[i] (by simp);refine .inr ⟨h1,fun S vP L=>∃G h,aw K f F0 H0 G L vP (cP δ M n)/\Ext F1 H1 G L/\L p=some (.lst S)/\G p=none/\ay K G h S/\Z++(o.toList++l3)=h++l3/\S.length<=i+1,fun S vP L ⟨G,h,w1,w2,w3,w4,w5,w6,w7⟩=>⟨_,by omega,G,h,l3,w1,w2,w3,w4,w5,q3,w6,rfl,uN,w7⟩,fun x L y=>?_⟩;obtain⟨F3,e3,rx⟩:=h2 x L y;have Ms:∀{F5 T:Hp},Ext U H2 F5 T->T p=some (.lst A)/\F5 p=none:=fun z=>⟨z.hh _ _ hD,z.nw p _ hF hD⟩;unfold gh at s;cases qb:b B[i] (cP δ M n)with|none=>rw[qb]at s;cases s|some j=>
   rw[qb]at s;have Mt:=hw _ _ _ qb;refine hg f F0 H0 F3 L Fv _ _ x j _ (I2.grow e3) rx qb fun N I3=>?_;have fin:∀F4 H4,Ext F3 L F4 H4->(me j).iz.bind (fun x=>R.ok (some x))=.ok o->te N H4 fun y T=>T p=some (.lst A)/\A.length<sizeLine/\∃G h,aw K f F0 H0 G (upd T p (.lst (A++[y]))) N (cP δ M n)/\Ext F1 H1 G (upd T p (.lst (A++[y])))/\upd T p (.lst (A++[y])) p=some (.lst (A++[y]))/\G p=none/\ay K G h (A++[y])/\Z++(o.toList++l3)=h++l3/\(A++[y]).length<=i+1:=by intro F4 H4 Y qe;cases qm:me j with|no=>rw[qm]at qe;cases qe|ex x=>rw[qm]at qe;cases qe|ok d=>rw[qm]at qe;cases qe;refine he f F0 H0 F4 H4 N j _ (I3.grow Y) ?_;rw[qm];intro F5 T e5 v rv;have z:=e3.trans (Y.trans e5);obtain⟨z1,z2⟩:=Ms z;refine⟨z1,by lia,F5,Z++[d],(((I3.grow Y).grow e5).qu Mt C).side pk Ax p0 z2,?_,cu,z2,(r.mono z.ff).append (.cons rv .nil),by simp,by simpa using Ay⟩;have w:=x2.trans z;exact⟨w.ff,fun c o q=>by rw[bz (d9 q hp)];exact w.hh c o q,fun c o q=>by rw[bz (d9 q z2)];exact w.fh c o q,w.nw⟩
   rcases hc with⟨rfl,rfl⟩|⟨c,kc,rfl,rfl,V9⟩;.have z:=fin F3 L (.refl e3.fh) s;exact z
   .simp only at s;refine V9 f F0 H0 F3 L N j _ I3 ?_;cases qk:kc j with|no=>rw[qk]at s;cases s|ex x=>rw[qk]at s;cases s|ok bb=>rw[qk]at s;intro F4 H4 Y;cases bb with|true=>exact fin F4 H4 Y s|false=>
   rw[ak fw];have eo:o=none:=by cases s;rfl
   subst eo;have z:=e3.trans Y;obtain⟨z1,z2⟩:=Ms z;exact⟨F4,Z,(I3.grow Y).qu Mt C,x2.trans z,z1,z2,r.mono z.ff,rfl,by lia⟩
 . have e:i=B.length:=by lia
   subst e;rw[p_]at qd;cases qd;refine .inl ⟨(hJ U H2 x2 _).2 (by simp),X _ _ x2 p hF (e1.hh.free hp) ⟨_,hD,?_⟩⟩;rwa[dg]
noncomputable def mI(n:Nat)(ds:List D):En:=ds.map .v++List.replicate n .no
def bE(np nv:Nat)(m:En->O)(ds:List D):R D:=if ds.length=np then(match m (mI nv ds)with|.rt d=>.ok d|.nx _=>.ok .non|.ex _ x=>.ex x|_=>.no)else .no
def Fw(s:av F H)(r:ay K F ds vs)(h:N.length=np+nv)(k:ds.length=np):aw K [] F H F H (L2.start N vs) (mI nv ds):=by
 have e:=r.length;unfold L2.start mI;have f:N.length-vs.length=nv:=by lia
 rw[f];refine⟨.refl s,by simp[e],fun i=>?_,fun i j a _ b _ _ _=>?_,fun x g=>(by cases g),fun i l b=>by
   by_cases c:i<ds.length;.rw[fm (by simp_all),bX,b8 c]at b;cases b
   .rw[jk (by simpa using c),lq]at b;simp_all⟩
 . by_cases c:i<ds.length;.rw[fm (by simp_all),fm (by simp_all),bX,bX,b8 c];obtain⟨v,b,d⟩:=r.get (b8 _);rw[b];exact⟨v,rfl,d⟩
   .rw[jk (by simp_all),lq];split<;>trivial
 . by_cases c:i<ds.length;.rw[fm (by simpa using c),bX,b8 c]at b;cases b
   .rw[jk (by simpa using c),lq]at b;split at b<;>cases b
def Cj{E:XK}(h:SS K XO (fun _=>E) t m)(g:N.length=np+nv)(sp:so K XO (bE np nv m) vs H Q E):t {nx:=fun _ H'=>Q .non H',rt:=Q} (L2.start N vs) H:=by
 obtain⟨F,i,s,r,a⟩:=sp;unfold bE at a;split at a;.rename_i f;refine h _ F H F H _ _ _ (Fw s r g f) ?_;cases q:m _ with|no=>rwa[q]at a|nx δ=>rw[q]at a;exact fun σ b H' I=>a _ _ I.ext _ rfl|rt d=>rw[q]at a;exact fun v b H' e r=>a _ _ e v r|ro d=>rw[q]at a;exact a.elim|bk δ=>rw[q]at a;exact a.elim|ct δ=>rw[q]at a;exact a.elim|ex δ x=>rw[q]at a;exact fun σ b H' C c I w=>a C _ _ _ I.ext w
 .exact a.elim
def cC(np nv:Nat)(m:En->O)(ds:List D):R D:=if ds.length=np then(match m (mI nv ds)with|.ro d=>.ok d|.ex _ x=>.ex x|_=>.no)else .no
def tV(K:Kx)(XO:di)(f:List D->R D):Sp:=fun e H Q E=>∃F b,av F H/\ay K F b e/\eM (fun _=>E) XO [] F H (fun d c a=>∀p,c p=none->H p=none->Own K c a d p->Q (.ref p) a) (f b)
def Mu{E:XK}(h:SS K XO (fun _=>E) t m)(g:N.length=np+nv)(sp:tV K XO (cC np nv m) vs H Q E):t {nx:=fun _ H'=>Q .non H',rt:=Q} (L2.start N vs) H:=by
 obtain⟨F,l,s,r,a⟩:=sp;unfold cC at a;split at a;.rename_i j;refine h _ F H F H _ _ _ (Fw s r g j) ?_;cases q:m _ with|no=>rwa[q]at a|nx δ=>rw[q]at a;exact a.elim|rt d=>rw[q]at a;exact a.elim|ro d=>rw[q]at a;exact fun p b H' e c i o=>a _ _ e p c i o|bk δ=>rw[q]at a;exact a.elim|ct δ=>rw[q]at a;exact a.elim|ex δ x=>rw[q]at a;exact fun σ b H' C f I w=>a C _ _ _ I.ext w
 .exact a.elim
def Mv{E:XK}(sp:tV K XO (cC np nv m) vs H Q E):vs.length=np:=by
 obtain⟨F,b,s,r,a⟩:=sp;unfold cC at a;split at a;.rwa[r.length]
 .exact a.elim
def Fx{E:XK}(sp:so K XO (bE np nv m) vs H Q E):vs.length=np:=by
 obtain⟨F,b,s,r,a⟩:=sp;unfold bE at a;split at a;.rwa[r.length]
 .exact a.elim
def V_{E:XK}(c:f [.c_ ns]=.ok (.bl true))(h:eE K.f H a (ns.map V.int))(q:∀H',Q (.bl true) H'):so K XO f [.ref a] H Q E:=by
 refine⟨fun b=>if b=a then H b else none,[.c_ ns],fun b o e=>?_,.cons ?_ .nil,?_⟩;.simp_all
 . refine⟨a,rfl,?_⟩;rcases h with(h|⟨o,h⟩)|h;.exact .inl (.inl (by simp_all))
   .exact .inl (.inr ⟨o,by simp_all⟩)
   .exact .inr h
 .rw[c];intro d H' _ v r;simp[Rep]at r;simp_all
def Fy(h:SA K XO E g ml):iy K XO E (r_ (tV K XO f) [] k g) (bu f ml):=fun Λ F0 H0 F H σ δ Q I a=>h _ _ _ F H _ _ _ I (a.bind.imp fun e F1 H1 b c s r=>⟨_,e,b.fh,by simp_all,eM.imp (fun d w v l p q j i o=>p q j (b.hh.free i) o) (eM.any c)⟩)
mutual
def mV:D->Bool|.tup l=>nL l|.lst _=>false|.du _ _=>false|.c_ _=>false|.exc _=>false|.fd _ _=>false|.obj _ _ _=>false|_=>true
def nL:List D->Bool|[]=>true|d::l=>mV d&&nL l
end
def Fz:D->Bool|.lst l=>nL l|.du _ l=>nL l|_=>false
variable(K)in
def vQ(F H:Hp)(d:D)(v:V):Prop:=Rep K F d v\/(∃a,v=.ref a/\Own K F H d a)\/∃T b,d=mS T/\dF K F H T v b
variable(K XO E)in
def vR(t:TA)(m:En->R (List D)):Prop:=∀Λ F0 H0 F H σ δ Q,aw K Λ F0 H0 F H σ δ->eM E XO σ F H (fun c d b=>∀a,tQ (vQ K d b) c a->Q a b) (m δ)->t σ H Q
theorem vQ.mono{F H f H':Hp}(e:Ext F H f H'):vQ K F H d v->vQ K f H' d v|.inl h=>.inl (Rep.mono e.ff _ h)|.inr (.inl ⟨a,b,c⟩)=>.inr (.inl ⟨a,b,c.mono e.ff e.hh⟩)|.inr (.inr ⟨T,_,b,c⟩)=>.inr (.inr ⟨T,_,b,dF.mono e.ff e.hh T c⟩)
def V':vR K XO E dB af:=fun Λ F0 H0 F H σ δ Q I a=>a F H (.refl I.same) _ .nil
def Wa(j:SE K XO E ta ma)(g:vR K XO E e k):vR K XO E (gb ta e) (ai ma k):=by intro Λ F0 H0 F H σ δ Q I a;refine j _ _ _ F H _ _ _ I (a.bind.imp fun l F1 H1 d h x f=>(g _ _ _ _ _ _ _ _ (I.grow d) (h.bind.imp fun p o q b i y c=>?_)));exact i _ _ (.refl b.fh) _ (.cons (.inl (Rep.mono b.ff _ f)) c)
def Wb(x:vR K XO E B j):vR K XO E (gb (dh i) B) (ai (aj i) j):=by
 intro Λ F0 H0 F H σ δ Q I a;have c:∀d v,aj i _=.ok d->σ[i]?=some _->vQ K F H d v->gb (dh i) _ _ H Q:=fun d v A r b=>by unfold ai at a;rw[A]at a;refine⟨v,r,x _ _ _ F H _ _ _ I (eM.imp (fun G M J h k y w=>?_) (eM.bind a))⟩;exact k _ _ (.refl h.fh) _ (.cons (b.mono h) w)
 have z:=I.slot i;unfold ai at a
 cases q:δ[i]? with|none=>
 have e:aj i δ=.no:=by unfold aj;rw[q]
 rw[e]at a;exact a.elim|some s=>
 rw[q]at z;cases s with|no=>
 have e:aj i δ=.no:=by unfold aj;rw[q]
 rw[e]at a;exact a.elim|v d=>obtain⟨u,f,g⟩:=z;exact c d u (by unfold aj;rw[q]) f (.inl g)|o d=>obtain⟨u,f,_,_,g⟩:=z;exact c d _ (by unfold aj;rw[q]) f (.inr (.inl ⟨u,rfl,g⟩))|l d=>obtain⟨u,f,_,_,g⟩:=z;exact c d _ (by unfold aj;rw[q]) f (.inr (.inl ⟨u,rfl,g⟩))|p L=>
 have e:aj i δ=.no:=by unfold aj;rw[q]
 rw[e]at a;exact a.elim
noncomputable def iq(F H:Hp):Hp:=fun b=>match F b with|some o=>some o|none=>match H b with|some (.lst c)=>some (.lst c)|some (.dK a)=>some (.dK a)|some (.jr o u)=>some (.jr o u)|some (.ins C e d)=>some (.ins C e d)|_=>none
def xa{F H:Hp}:av F (iq F H):=fun b o h=>by unfold iq;rw[h]
def FA{F H:Hp}(s:av F H):av (iq F H) H:=fun b o h=>by unfold iq at h;cases q:F b with|some u=>rw[q]at h;cases h;exact s _ _ q|none=>lia
def Wc(s:av F H)(h:H a=some (.lst vs)):iq F H a=some (.lst vs):=by unfold iq;cases q:F a with|some u=>rwa[s _ _ q]at h|none=>simp_all
mutual
theorem Mw (s:av F H):∀(T:Tr){v:V}{fp:List Addr},dF K F H T v fp->Rep K (iq F H) (mS T) v
 |.d x,v,fp,h=>Rep.mono xa x h.2|.l _,v,fp,h=>by
  obtain⟨a,c,o,rfl,j,f,g⟩:=h
  exact⟨a,_,rfl,Wc s f,FC s _ g⟩|.t _,v,fp,h=>by
  obtain⟨a,c,rfl,f,g⟩:=h
  exact⟨a,_,rfl,xa _ _ f,FC s _ g⟩
theorem FC (s:av F H):∀(i:List Tr){c:List V}{fp:List Addr},aV K F H i c fp->ay K (iq F H) (gd i) c
 |[],c,fp,h=>by
  simp only[aV]at h
  rw[h.1]
  simp only[gd]
  exact .nil|t::i,c,fp,h=>by
  simp only[aV]at h
  obtain⟨v,r,p,k,rfl,j,f,g⟩:=h
  simp only[gd]
  exact .cons (Mw s t f) (FC s i g)
end
def Wd{F H:Hp}(s:av F H):∀{d:D}{v:V},vQ K F H d v->Rep K (iq F H) d v:=by
 intro d v h;rcases h with h|⟨a,rfl,h⟩|⟨T,r,rfl,h⟩;.exact Rep.mono xa _ h
 .cases d with
 |lst l=>obtain⟨g,e,b⟩:=h;refine⟨a,_,rfl,?_,b.mono xa⟩;unfold iq;cases q:F a with|some u=>rwa[s _ _ q]at e|none=>simp_all
 |du p l=>obtain⟨g,e,f,b⟩:=h;refine⟨a,_,rfl,?_,f,b.mono xa⟩;unfold iq;cases q:F a with|some u=>rwa[s _ _ q]at e|none=>simp_all
 |obj c p l=>obtain⟨j,g,e,f,b⟩:=h;refine⟨a,j,_,rfl,?_,f,b.mono xa⟩;unfold iq;cases q:F a with|some u=>rwa[s _ _ q]at e|none=>simp_all
 |_=>exact h.elim
 .exact Mw s T h
theorem Ck{F H:Hp}(s:av F H):∀{ds:List D}{vs:List V},tQ (vQ K F H) ds vs->ay K (iq F H) ds vs|_,_,.nil=>.nil|_,_,.cons h t=>.cons (Wd s h) (Ck s t)
open Classical in
noncomputable def cE(F H a:Hp):Hp:=fun b=>if F b=none/\H b≠none then none else a b
def FD{F H f H':Hp}(e:Ext (iq F H) H f H')(h:f a=some o)(h1:∀vs,o≠.lst vs)(h2:∀bU,o≠.dK bU)(h3:∀q u,o≠.jr q u)(g:∀C d fs,o≠.ins C d fs):cE F H f a=some o:=by
 unfold cE;split;.rename_i l;exfalso;cases c:H a with|none=>simp_all|some u=>
  have b:iq F H a=match H a with|some (.lst vs)=>some (.lst vs)|some (.dK bU)=>some (.dK bU)|some (.jr o u)=>some (.jr o u)|some (.ins C d fs)=>some (.ins C d fs)|_=>none:=by unfold iq;rw[l.1]
  cases u with|lst vs=>rw[c]at b;have z:=e.ff a _ b;grind|dK vs=>rw[c]at b;have z:=e.ff a _ b;rw[h]at z;simp_all|jr q w=>rw[c]at b;have z:=e.ff a _ b;rw[h]at z;cases z;exact h3 q w rfl|ins C d fs=>rw[c]at b;have z:=e.ff a _ b;rw[h]at z;cases z;exact g C _ _ rfl|_=>rw[c]at b;have z:=e.nw a _ b c;rw[h]at z;cases z
 .exact h
mutual
theorem Cm {F H f H':Hp}(e:Ext (iq F H) H f H'):∀(d:D){v:V},mV d=true->Rep K f d v->Rep K (cE F H f) d v
 |.non,v,_,h=>h|.bl _,v,_,h=>h|.int _,v,_,h=>h|.str _,v,_,h=>h|.lst _,v,c,h=>by cases c|.du _ _,v,c,h=>by cases c|.c_ _,v,c,h=>by cases c|.exc _,v,c,h=>by cases c|.fd _ _,v,c,h=>by cases c|.obj _ _ _,v,c,h=>by cases c|.tup l,v,c,h=>let⟨a,_,j,o,k⟩:=h;⟨a,_,j,FD e o (fun _ z=>by cases z) (fun _ z=>by cases z) (fun _ _ z=>by cases z) (fun _ _ _ z=>by cases z),Az e l c k⟩
theorem Az {F H f H':Hp}(e:Ext (iq F H) H f H'):∀(l:List D){i:List V},nL l=true->ay K f l i->ay K (cE F H f) l i
 |[],i,_,h=>by simp only[ay]at h⊢;exact h|d::l,i,c,h=>by
  simp only[nL,kQ]at c
  simp only[ay]at h⊢
  obtain⟨v,r,j,o,k⟩:=h
  exact⟨v,r,j,Cm e d c.1 o,Az e l c.2 k⟩
end
def Co{F H a H':Hp}(e:Ext (iq F H) H a H'):Ext F H (cE F H a) H':=by
 refine⟨fun b o h=>?_,e.hh,fun b o h=>?_,fun p o c f=>?_⟩;.unfold cE;rw[ak (fun d=>by simp_all)];exact e.ff b o (xa b o h)
 . unfold cE at h;split at h;.cases h
   .exact e.fh b o h
 .unfold cE;rw[ao ⟨c,by simp_all⟩]
def Cp(f:List D->R D)(ml:En->R (List D))(δ:En):R D:=(ml δ).bind fun l=>(f l).iz.bind fun d=>if mV d=true then .ok d else .no
def Cq(f:List D->R D)(ml:En->R (List D))(δ:En):R D:=(ml δ).bind fun l=>(f l).iz.bind fun d=>if Fz d=true then .ok d else .no
def We(h:vR K XO E j ml):SE K XO E (r_ (so K XO f) [] o j) (Cp f ml):=by intro Λ F0 H0 F H σ δ Q I a;refine h _ _ _ F H _ _ _ I (a.bind.imp fun l F1 H1 c b s r=>⟨_,_,FA c.fh,by rw[dg];exact Ck c.fh r,?_⟩);cases q:f _ with|no=>rwa[q]at b|ex x=>rw[q]at b;exact b.elim|ok d=>
 rw[q]at b;intro z w e v g;simp[R.bF]at b;split at b;.rename_i i;exact b _ _ (Co e) v (Cm e d i g)
 .exact b.elim
def Wf(h:vR K XO E C ml):iy K XO E (r_ (tV K XO f) [] G C) (Cq f ml):=by intro Λ F0 H0 F H σ δ Q I a;refine h Λ _ _ F H _ _ _ I (a.bind.imp fun M F1 H1 g b N r=>⟨_,_,FA g.fh,by rw[dg];exact Ck g.fh r,?_⟩);cases q:f _ with|no=>rw[q]at b;exact b.elim|ex x=>rw[q]at b;exact b.elim|ok d=>
 rw[q]at b;intro X S i p T A o;simp[R.bF,R.aA]at b;split at b
 . rename_i e;refine b _ _ (Co i) p ?_ (g.hh.free A) ?_
   . unfold cE;split;.rfl
     omega
   .cases d with|lst l=>obtain⟨v,k,j⟩:=o;exact⟨_,k,Az i l e j⟩|du w l=>obtain⟨v,k,s,j⟩:=o;exact⟨_,k,s,Az i l e j⟩|obj c w l=>cases e|_=>exact o.elim
 .exact b.elim
variable(K)in
def SC(r:List V->Hp->VK->Prop)(f:List D->Option D):Prop:=∀F H e b d Q,av F H->tQ (Top K F H) b e->f b=some d->(∀v c a,Ext F H c a->Rep K c d v->Q v a)->r e H Q
variable(K)in
def FE(r:List V->Hp->VK->Prop)(f:List D->Option D):Prop:=∀F H e c d Q,av F H->tQ (Top K F H) c e->f c=some d->(∀p b a,Ext F H b a->b p=none->H p=none->Own K b a d p->Q (.ref p) a)->r e H Q
def aK(f:List D->Option D)(ml:En->R (List D))(δ:En):R D:=(ml δ).bind fun l=>R.of (f l)
def jw(j:SC K r f)(h:sk K XO E i ml):SE K XO E (qs r i) (aK f ml):=by intro Λ F0 H0 F H σ δ Q I a;refine h _ _ _ F H _ _ _ I (a.bind.imp fun k F1 H1 c b o g=>?_);cases q:f _ with|none=>rw[q]at b;exact b.elim|some d=>rw[q]at b;exact j _ _ _ _ d Q c.fh g q fun v l p e r=>b _ _ e v r
def FF(j:FE K r f)(h:sk K XO E k ml):iy K XO E (qs r k) (aK f ml):=by intro Λ F0 H0 F H σ δ Q I a;refine h _ _ _ F H _ _ _ I (a.bind.imp fun s F1 H1 c b v i=>?_);cases q:f _ with|none=>rw[q]at b;exact b.elim|some d=>rw[q]at b;exact j _ _ _ _ d Q c.fh i q fun p w x e l g o=>b _ _ e p l (c.hh.free g) o
noncomputable def au:List D->Option D|[.lst l]=>some (.int l.length)|[.c_ l]=>some (.int l.length)|[.tup l]=>some (.int l.length)|_=>none
def pC:SC K (fun xs H Q=>∃p ys,xs=[.ref p]/\(eE K.f H p ys\/kH K.f H p ys)/\Q (.int ys.length) H) au:=by
 intro F H i h d Q s r e q;unfold au at e;split at e;.cases e;cases r with|cons r c=>cases c;obtain⟨a,xs,rfl,f,g⟩:=r;exact⟨a,_,rfl,.inl (.inl f),q _ F H (.refl s) (by simp[Rep];rw[g.length])⟩
 .cases e;cases r with|cons r c=>cases c;obtain⟨a,rfl,f⟩:=r;exact⟨a,_,rfl,.inl (s.seq f),q _ F H (.refl s) (by simp only[Rep];simp)⟩
 .cases e;cases r with|cons r c=>cases c;obtain⟨a,xs,rfl,f,g⟩:=r;exact⟨a,_,rfl,.inr (.inl (.inl (s _ _ f))),q _ F H (.refl s) (by simp[Rep];rw[g.length])⟩
 simp_all
noncomputable def yl:List D->Option D|[.du a _]=>some (.int a.length)|_=>none
def Mx:SC K (fun xs H Q=>∃a bU,xs=[V.ref a]/\H a=some (.dK bU)/\Q (.int bU.length) H) yl:=by
 intro F H i g d Q s r e q;unfold yl at e;split at e;.cases e;cases r with|cons r f=>cases f;obtain⟨a,xs,rfl,c,j,h⟩:=r;exact⟨a,_,rfl,c,q _ F H (.refl s) (by simp[Rep];grind)⟩
 simp_all
noncomputable def nM:List D->Option D|[.int i]=>some (.int (if i<0 then-i else i))|_=>none
def Mz:SC K (fun xs H Q=>∃i,xs=[.int i]/\Q (.int (if i<0 then-i else i)) H) nM:=by
 intro F H c f d Q s r e q;unfold nM at e;split at e;.rename_i i;cases e;cases r with|cons r b=>cases b;subst r;exact⟨i,rfl,q _ F H (.refl s) rfl⟩
 simp_all
noncomputable def qv:List D->Option D|[.lst l]=>some (.lst l)|[.tup l]=>some (.lst l)|_=>none
def Cr:FE K (fun xs H Q=>∃p ys,xs=[.ref p]/\(eE K.f H p ys\/kH K.f H p ys)/\∀l,H l=none->Q (.ref l) (upd H l (.lst ys))) qv:=by
 intro F H i j d Q s r e q;unfold qv at e;split at e;.cases e;cases r with|cons r f=>cases f;obtain⟨a,xs,rfl,g,h⟩:=r;exact⟨a,_,rfl,.inl (.inl g),fun p b=>q _ F _ (.eY s b) (s.free b) b ⟨_,cu,h⟩⟩
 .cases e;cases r with|cons r f=>cases f;obtain⟨a,xs,rfl,g,h⟩:=r;exact⟨a,_,rfl,.inr (.inl (.inl (s _ _ g))),fun p b=>q _ F _ (.eY s b) (s.free b) b ⟨_,cu,h⟩⟩
 simp_all
noncomputable def MA:D->Option Int|.int i=>some i|_=>none
def jx(_:En):R (Option Int):=.ok none
def kr(me:En->R D)(δ:En):R (Option Int):=(me δ).bind fun d=>(R.of (MA d)).bind fun i=>.ok (some i)
variable(K XO E)in
def SO(t:TO)(m:En->R (Option Int)):Prop:=∀Λ F0 H0 F H σ δ Q,aw K Λ F0 H0 F H σ δ->eM E XO σ F H (fun o _ a=>Q o a) (m δ)->t σ H Q
def Wg:SO K XO E Li jx:=fun Λ F0 H0 F H σ δ Q I a=>a F H (.refl I.same)
def Wh(h:SE K XO E te me):SO K XO E (Lj te) (kr me):=by intro Λ F0 H0 F H σ δ Q I a;refine h _ _ _ F H _ _ _ I (a.bind.imp fun d F1 H1 e b v r=>?_);cases d with|int i=>exact⟨i,r,b _ _ (.refl e.fh)⟩|_=>exact b.elim
def zaj(xs:List D)(lo hi:Option Int):List D:=(xs.drop (HT.lE xs.length 0 lo)).take (HT.lE xs.length xs.length hi-HT.lE xs.length 0 lo)
def mW(me:En->R D)(ml mh:En->R (Option Int))(δ:En):R D:=(me δ).bind fun d=>(ml δ).bind fun b=>(mh δ).bind fun a=>(R.of (rm d)).bind fun l=>.ok (.lst (zaj l b a))
def MB(h:mB K XO E te me)(z:SO K XO E w ml)(y:SO K XO E x mh):iy K XO E (Ll (zZ K.f) te w x) (mW me ml mh):=by intro Λ F0 H0 F H σ δ Q I a;refine h _ _ _ F H _ _ _ I (a.bind.imp fun d F1 H1 f k v r=>?_);refine z _ _ _ _ _ _ _ _ (I.grow f) (k.bind.imp fun C N L e s=>(y _ _ _ _ _ _ _ _ ((I.grow f).grow e) (s.bind.imp fun J G B b i=>?_)));cases d with|lst l=>obtain⟨p,M,rfl,g,j⟩:=r;refine⟨p,_,rfl,.inl (PM.av.rd b.hh (PM.av.rd e.hh g)),fun q c=>i _ _ (.eY b.fh c) q (b.fh.free c) (f.hh.free (e.hh.free (b.hh.free c))) ⟨_,cu,?_⟩⟩;unfold zaj sd;rw[<-j.length];exact(((j.mono e.ff).mono b.ff).drop _).take _|c_ l=>obtain⟨p,rfl,g⟩:=r;refine⟨p,_,rfl,b.hh.seq (e.hh.seq (f.fh.seq g)),fun q c=>i _ _ (.eY b.fh c) q (b.fh.free c) (f.hh.free (e.hh.free (b.hh.free c))) ⟨_,cu,?_⟩⟩;unfold zaj sd;rw[aF,aF];exact(ay.ints.drop _).take _|_=>exact i.elim
end
def iu(x y:D):Option D:=match x,y with|.lst l,.lst r=>cO (l.length+r.length<=sizeLine) (some (.lst (l++r))) none|_,_=>none
noncomputable def gM:Nat->D->Bool|_,.non=>true|_,.int _=>true|n+1,.tup l=>l.all (gM n)|n+1,.lst l=>l.all (gM n)|_,_=>false
open Classical in
def sr(x y:D):Option D:=cO (gM 8 x=true/\gM 8 y=true) (some (.bl (decide (x=y)))) none
open Classical in
def qQ(x y:D):Option D:=cO (gM 8 x=true/\gM 8 y=true) (some (.bl (!decide (x=y)))) none
noncomputable def pD:String->D->Bool|"int",.int _=>true|"int",.bl _=>true|"bool",.bl _=>true|"list",.lst _=>true|"tuple",.tup _=>true|"str",.str _=>true|_,_=>false
def ym:D->Bool|.c_ _=>false|.exc _=>false|.fd _ _=>false|.obj _ _ _=>false|_=>true
def fB(c:String)(d:D):Option D:=match d with|.c_ _=>none|.exc _=>none|.fd _ _=>none|.obj _ _ _=>none|d=>some (.bl (pD c d))
noncomputable def de:List D->Option (List Int)|[]=>some []|.int i::l=>(de l).map (i::.)|_=>none
def pE(ns:List Int):de (ns.map .int)=some ns:=by induction ns with|nil=>rfl|cons a l c=>simp[de,c]
def rC(h:de l=some ns):l=ns.map .int:=by induction l generalizing ns with|nil=>cases h;rfl|cons d l e=>cases d with
 |int i=>simp[de]at h;cases q:de l with|none=>simp_all|some m=>grind
 |_=>cases h
def e_:List D->Option D|[.lst l]=>(de l).map fun a=>.int a.sum|_=>none
noncomputable def dn:List Int->Int->Int|[],m=>m|a::l,m=>dn l (if a>m then a else m)
def tW(l:List D)(d:D):Option D:=match l with|[.lst []]=>some d|[.lst (.int a::l)]=>(de l).map fun b=>.int (dn b a)|_=>none
def uO(ml:En->R (List D))(md:En->R D)(δ:En):R D:=(ml δ).bind fun l=>(md δ).bind fun d=>R.of (tW l d)
noncomputable def qR:List D->Option (List D)|[.lst l]=>some l.reverse|_=>none
def qS(ml:En->R (List D))(δ:En):R (List D):=(ml δ).bind fun l=>R.of (qR l)
def Cs(h:kK c m n δ=o)(p:o≠.no):uK c m δ=o:=by
 have a:∀k n δ,kK c m n δ≠.no->kK c m (n+k) δ=kK c m n δ:=by intro k n;induction n with|zero=>intro δ h;exact absurd rfl h|succ n j=>
  intro δ h;have e:n+1+k=(n+k)+1:=by lia
  rw[e];unfold kK at h⊢;cases q:c _ with|no=>rfl|ex x=>rfl|ok b=>rw[q]at h;cases b with|false=>rfl|true=>cases i:m _<;>simp[i]at h⊢<;>exact j _ h
 have d:∃n,kK c m n _≠.no:=⟨n,by rwa[h]⟩;unfold uK;rw[dif_pos d];rw[<-(a n _ _ (Classical.choose_spec d)),Nat.add_comm,(a (Classical.choose _) n _ (by simp_all)),h]
def Wi{α:Type}(env:α->En)(go:α->Bool)(d:α->α)(P:α->Prop)(p:α->Nat)(v:∀a,P a->c (env a)=.ok (go a))(x:∀a,P a->go a=true->m (env a)=.nx (env (d a))/\P (d a)/\p (d a)<p a)(a:α)(h:P a):∃b,P b/\go b=false/\uK c m (env a)=.nx (env b)/\∃k,b=Nat.repeat d k a:=by
 have r:∀n a,P a->p a<n->∃b,P b/\go b=false/\kK c m n (env a)=.nx (env b)/\∃k,b=Nat.repeat d k a:=by intro n;induction n with|zero=>lia|succ n o=>intro a i y;cases g:go a with|false=>exact⟨a,i,g,by unfold kK;rw[v a i,g];rfl,0,rfl⟩|true=>
  obtain⟨w,t,u⟩:=x a i g;obtain⟨b,l,j,q,k,s⟩:=o _ t (by lia);refine⟨b,l,j,?_,k+1,?_⟩;.unfold kK;simp_all
  .rw[s];clear s q j l b u t w y i o;induction k with|zero=>rfl|succ k o=>show d _=d _;rw[o]
 obtain⟨b,l,j,q,k⟩:=r _ a h (fx _);exact⟨b,l,j,Cs q (by simp),k⟩
theorem Ct{b:Type}(enc:b->D)(g:b->Option D):∀(l:List b),(∀x∈l,f (enc x)=.ok (g x))->nZ f (l.map enc)=.ok (l.filterMap g)|[],_=>rfl|x::l,h=>by rw[bR];unfold nZ;rw[Ct _ g l fun y c=>h y (bx _ c)];cases q:g x with|none=>simp_all|some d=>simp_all
def small(h:n<=100000):n<=sizeLine:=bo h (by decide)
def FG(h:n<=100000):n<sizeLine:=lO h (by decide)
noncomputable def dG(n:Nat)(h:i.natAbs<=n)(h2:autoParam (n<2^8000) zao):eN i:=lO h h2
@[simp]theorem Cu(i j:Int):bD (.int i) (.int j)=some (.int (i+j)):=rfl
@[simp]theorem FH(i j:Int):ip (.int i) (.int j)=some (.int (i-j)):=rfl
def uP(h:eN i)(h':eN j):gf (.int i) (.int j)=some (.int (i*j)):=gQ ⟨h,h'⟩
def Wj(h:j≠0)(h':eN j):oDiv (.int i) (.int j)=some (.int (i.fdiv j)):=gQ ⟨h,h'⟩
def n_(h:0<j)(h':eN j):oDiv (.int i) (.int j)=some (.int (i/j)):=by rw[Wj (by omega) h',Int.fdiv_eq_ediv_of_nonneg _ (by omega)]
def gN(h:0<j):oMod (.int i) (.int j)=some (.int (i%j)):=gQ h
def AA(h:o4 i j):gJ (.int i) (.int j)=some (.int (i^j.toNat)):=gQ h
@[simp]theorem zDV(i j:Int):oLt (.int i) (.int j)=some (.bl (decide (i<j))):=rfl
@[simp]theorem zDU (i j:Int):oLe (.int i) (.int j)=some (.bl (decide (i<=j))):=rfl
@[simp]theorem Wk(i j:Int):kq (.int i) (.int j)=some (.bl (decide (j<i))):=rfl
@[simp]theorem zDT(i j:Int):sq (.int i) (.int j)=some (.bl (decide (j<=i))):=rfl
@[simp]theorem MC(i:Int):mH (.int i)=some (.int (-i)):=rfl
@[simp]theorem Wl(i j:Int):oEq (.int i) (.int j)=some (.bl (decide (i=j))):=by simp[oEq,fl,qL]
@[simp]theorem zDR(i j:Int):kL (.int i) (.int j)=some (.bl (!decide (i=j))):=by simp[kL,fl,qL]
@[simp]theorem MD(b:Bool):L7 (.bl b)=some b:=rfl
@[simp]theorem zDQ(l:List D):rm (.lst l)=some l:=rfl
@[simp]theorem Wm(i:Int):MA (.int i)=some i:=rfl
@[simp]theorem zDN(l:List D):au [.lst l]=some (.int l.length):=rfl
@[simp]theorem zDO (l:List D):au [.tup l]=some (.int l.length):=rfl
@[simp]theorem zDd (k:List Key)(l:List D):yl [.du k l]=some (.int k.length):=rfl
@[simp]theorem zDp (l:List D):qv [.lst l]=some (.lst l):=rfl
@[simp]theorem zDk (a b:D):dX (.tup [a,b]) (.int 0)=some a:=rfl
@[simp]theorem zDD (a b:D):dX (.tup [a,b]) (.int 1)=some b:=rfl
def mu{l:List α}{k:Nat}{d:α}(h:l[k]?=some d):iI l (k:Int)=some d:=by have a:=(bV.mp h).1;unfold iI ie;rwa[ao (by omega),ao (by omega)]
def FI{k:Nat}(h:l[k]?=some d):aJ (.lst l) (.int (k:Int))=some d:=mu h
def AB(h0:0<=i)(h:l[i.toNat]?=some d):aJ (.lst l) (.int i)=some d:=by
 have e:i=i.toNat:=by lia
 rw[e];exact FI h
def AD(h0:0<=n)(h:n<=100000):l' [.int n]=some (uI 0 n.toNat):=by show cO _ _ _=_;rw[gQ (by lia)]
def FJ(h0:-100000<=a/\a<=100000)(h:-100000<=b/\b<=100000):l' [.int a,.int b]=some (uI a (b-a).toNat):=by show cO _ _ _=_;rw[gQ (by lia)]
def ME(n:Nat):uI 0 n=(List.range n).map fun(k:Nat)=>D.int (k:Int):=by unfold uI;simp
def AE(l:List D):rq l=(l.zipIdx).map fun p=>D.tup [.int (p.2:Int),p.1]:=by unfold rq;rw[List.mapIdx_eq_zipIdx_map]
@[simp]theorem zDS (a b:α):([a,b].length<=sizeLine)=True:=by simp[sizeLine]
noncomputable def sv:Option D->Sl|none=>.no|some d=>.v d
def jy(h:δ[i]?=some (sv o)):aQ i d δ=some (δ.set i (.v d)):=by unfold aQ;rw[h];cases o<;>rfl
def Wn(h:δ[i]?=some (sv o)):c8 i d δ=some (δ.set i (.o d)):=by unfold c8;rw[h];cases o<;>rfl
@[simp]theorem zDA:sv none=.no:=rfl
@[simp]theorem zDz (d:D):sv (some d)=.v d:=rfl
def dk(L:List Int):D:=.du (L.map .inl) (L.map fun _=>.bl true)
def Wo(L:List Int)(t:Int):gT (L.map .inl) (L.map fun _=>.bl true) (.inl t)=if t∈L then some (.bl true)else none:=by induction L with|nil=>rfl|cons a l d=>
 simp[gT];by_cases h:a=t;.simp_all
 .grind
def Wq(L:List Int)(t:Int):putL (L.map .inl) (L.map fun _=>.bl true) (.inl t) (.bl true)=L.map fun _=>.bl true:=by induction L with|nil=>rfl|cons a l c=>simp[putL,c]
def Wr(L:List Int)(t:Int):putD (L.map .inl) (L.map fun _=>.bl true) (.inl t) (.bl true)=dk (if t∈L then L else L++[t]):=by
 unfold putD;by_cases h:t∈L;.rw[ao (by simp_all),ao h,Wq];rfl
 .rw[ak (by simp_all),ak h];simp[dk]
@[simp]theorem zCA(L:List Int)(t:Int):rB (.int t) (dk L)=some (.bl (!decide (t∈L))):=by simp[rB,rA,dk,Wo];grind
@[simp]theorem zC5 (L:List Int):yl [dk L]=some (.int L.length):=by simp[dk]
def Ws(h:δ[i]?=some (.o (dk L)))(h1:mk δ=.ok (.int t))(h2:me δ=.ok (.bl true))(a:L.length<=100000):qP i mk me δ=.nx (δ.set i (.o (dk (if t∈L then L else L++[t])))):=by unfold qP;rw[h];simp only[dk,h2,h1,R.ja,rA];rw[gQ (by rw[aF];exact FG a),Wr];rfl
noncomputable def iL(l:List Int):D:=.lst (l.map .int)
def vS{α:Type}(enc:α->D)(p:α->Bool)(l:List α)(h:∀x∈l,f (enc x)=.ok (if p x=true then some (enc x)else none)):nZ f (l.map enc)=.ok ((l.filter p).map enc):=by rw[Ct _ _ l h];induction l with|nil=>rfl|cons a l e=>
 by_cases d:p a=true;.simp_all
 simp_all
def lG{α:Type}(enc:α->D)(g:α->D)(l:List α)(h:∀x∈l,f (enc x)=.ok (some (g x))):nZ f (l.map enc)=.ok (l.map g):=by rw[Ct _ _ l h,List.filterMap_eq_map']
def iv(h1:mi δ=.ok l)(d:l.length<=100000)(h2:nZ (gh b a me (cP δ c n)) l=.ok r):eZ mi c n b a me δ=.ok (.lst r):=by unfold eZ;rw[h1,R.aA,gQ (small d),h2];rfl
def jn(h:mi δ=.ok l):cY mi b m δ=kJ b m l δ:=by unfold cY;simp_all
def iA(h:m (mI nv ds)=.rt d)(a:autoParam (ds.length=np) zak):bE np nv m ds=.ok d:=by unfold bE;simp_all
def MF(h:m (mI nv ds)=.nx δ)(a:autoParam (ds.length=np) zak):bE np nv m ds=.ok .non:=by unfold bE;simp_all
def gi(h:m (mI nv ds)=.ro d)(a:autoParam (ds.length=np) zak):cC np nv m ds=.ok d:=by unfold cC;simp_all
def bG(h:m δ=.nx a):aq m n δ=n a:=by unfold aq;rw[h]
def iW(h:me δ=.ok d)(h2:b d δ=some a):aD me b δ=.nx a:=by unfold aD;simp_all
def uQ(h:n δ=.ok true):bg n m m' δ=m δ:=by unfold bg;simp_all
def iK(h:n δ=.ok false):bg n m m' δ=m' δ:=by unfold bg;simp_all
def jo{g:Type}(enc:g->D)(P:List g->En->Prop)(a:List g)(step:∀pre x post δ,a=pre++x::post->P pre δ->∃c nN,b (enc x) δ=some c/\(m c=.nx nN\/m c=.ct nN)/\P (pre++[x]) nN)(δ:En)(h:P [] δ):∃nN,kJ b m (a.map enc) δ=.nx nN/\P a nN:=by
 have f:∀(post pre:List _)(δ:En),a=pre++post->P pre δ->∃nN,kJ b m (post.map enc) δ=.nx nN/\P a nN:=by intro post;induction post with|nil=>intro pre δ e h;exact⟨_,rfl,by simp_all⟩|cons x post n=>intro pre δ e h;obtain⟨c,nN,p,d,l⟩:=step _ x _ _ e h;obtain⟨k,q,j⟩:=n _ _ (by rw[e];simp) l;refine⟨_,?_,j⟩;rw[bR];unfold kJ;rw[p];rcases d with d|d<;>(simp[d];exact q)
 exact f _ _ _ rfl h
@[simp]theorem zDn(l:List Int):au [iL l]=some (.int l.length):=by simp[iL]
@[simp]theorem zDP (l:List Int):rm (iL l)=some (l.map .int):=rfl
def FK{α:Type}{l:List α}{pre post:List (α×Nat)}{x:α×Nat}(h:l.zipIdx=pre++x::post):x.2=pre.length/\l[x.2]?=some x.1/\∀q∈pre,q.2<x.2:=by
 have b:∀(k:Nat)(y:α×Nat),(pre++x::post)[k]?=some y->l[k]?=some y.1/\y.2=k:=by intro k y c;rw[<-h,List.getElem?_zipIdx]at c;cases e:l[k]? with|none=>simp_all|some a=>grind
 obtain⟨i,d⟩:=b pre.length x (by simp);refine⟨d,by simp_all,fun q f=>?_⟩;obtain⟨k,c,e⟩:=ly f;obtain⟨_,g⟩:=b k q (by rw[fm c,b8 c,e]);lia
def Wt{l:List D}(h:k<=l.length):zaj l none (some (k:Int))=l.take k:=by
 unfold zaj;have e:HT.lE l.length l.length (some k)=k:=by show(if k<0 then((k:Int)+l.length).toNat else min _ _)=k;grind
 rw[e];rfl
def MG{l:List D}(h:k<=l.length):zaj l (some (k:Int)) none=l.drop k:=by
 unfold zaj;have e:HT.lE l.length 0 (some k)=k:=by show(if k<0 then((k:Int)+l.length).toNat else min _ _)=k;grind
 rw[e];show(l.drop k).take (l.length-k)=_;rw[oq (by simp)]
def Wu(l:List Int)(lo hi:Option Int):∃cs:List Int,zaj (l.map .int) lo hi=cs.map .int/\cs.length<=l.length:=by refine⟨(l.drop (HT.lE l.length 0 lo)).take (HT.lE l.length l.length hi-HT.lE l.length 0 lo),?_,by rw[qi,rX];lia⟩;unfold zaj;simp
def MH(h:l.length+r.length<=100000):iu (.lst l) (.lst r)=some (.lst (l++r)):=by show cO _ _ _=_;rw[gQ (small h)]
end PM
namespace PM
section
variable{K:Kx}{ca:Nat->Addr}{an:Nat->Str}{XO:di}{E:zag->XK}{ta tb te:TE}{ma mb me:En->R D}{X:Cx}
def MI:R2:=fun x y H Q=>∃l b c a,x=.ref l/\y=.ref b/\Rd H l (.lst c)/\Rd H b (.lst a)/\c.length+a.length<=sizeLine/\∀p,H p=none->Q (.ref p) (upd H p (.lst (c++a)))
def Cv:iG X (binaryOp .Add) MI:=by
 rintro f s t H x y v u Q I o g ⟨l,b,p,G,rfl,rfl,m,h,A,q⟩;cases o;cases g;obtain⟨z,c,n,r,e⟩:=m.ok I.bB;obtain⟨B,a,C,d,k⟩:=h.ok I.bB;have w:=r.length;have j:=d.length;refine PySem.P.add_list e k ?_ (by rw[cV,cV];lia);have i:c.toArray++a.toArray=(c++a).toArray:=by simp
 rw[i];exact⟨.ref _,_,I.EG (r.append d) (by rw[eJ];omega),rfl,q _ I.fresh⟩
def FN:L4 K MI iu:=by intro F H x y i j d Q s m k e q;cases i with
 |lst l=>cases j with
  |lst r=>
  simp[iu]at e;unfold cO at e;split at e;.cases e;obtain⟨a,u,rfl,n,h⟩:=m;obtain⟨b,t,rfl,o,g⟩:=k;exact⟨a,b,_,_,rfl,rfl,n,o,by rwa[h.length,g.length],fun p c=>q p F _ (.eY s c) (s.free c) c ⟨_,cu,h.append g⟩⟩
  simp_all|_=>cases e
 |_=>cases e
theorem qT:∀{ns:List Int}{xs:List V},ay K F (ns.map .int) xs->xs=ns.map V.int|[],xs,h=>by simpa[ay]using h|n::ns,xs,h=>by obtain⟨v,r,rfl,rfl,b⟩:=h;rw[qT b];rfl
def AF:List V->Hp->VK->Prop:=fun b H Q=>∃(p:Addr)(a:List Int),b=[.ref p]/\Rd H p (.lst (a.map V.int))/\Q (.int a.sum) H
def Wv(h:e_ ds=some d):∃ns:List Int,ds=[.lst (ns.map .int)]/\d=.int ns.sum:=by
 unfold e_ at h;split at h;.rename_i l;cases z:de l with|none=>simp_all|some ns=>rw[z]at h;cases h;exact⟨_,by rw[rC z],rfl⟩
 simp_all
def tX:SC K AF e_:=by intro F H l i d Q s r e q;obtain⟨k,rfl,rfl⟩:=Wv e;cases r with|cons r g=>cases g;obtain⟨a,j,rfl,f,h⟩:=r;have c:=qT h;subst c;exact⟨a,_,rfl,f,q _ F H (.refl s) rfl⟩
def su(o:X.calm=true):lD X (.builtin "sum") AF:=by
 rintro g s J H L M Q I r ⟨p,b,rfl,m,q⟩;obtain⟨u,rfl,G⟩:=kW r;cases G;obtain⟨z,d,n,j,e⟩:=m.ok I.bB;obtain⟨c,rfl,w⟩:∃c:List _,d=(b.zip c).map (fun p=>Value.int p.1 p.2)/\c.length=b.length:=by clear e m q z;induction b generalizing d with|nil=>cases j;simp|cons a l v=>cases j with|cons h t=>obtain⟨i,rfl⟩:=h;obtain⟨c,rfl,B⟩:=v _ t;exact⟨i::c,rfl,by simp[B]⟩
 have y:((b.zip c).map (fun p=>Value.int p.1 p.2)).toArray=intItems (b.zip c).toArray:=by simp[intItems]
 rw[y]at e;refine sum_intListG (I.ok.hd o) ⟨_,e,rfl,n,rfl⟩ fun S i N C=>?_;have x:preSum (numAt (b.zip c).toArray) (b.zip c).toArray.size=b.sum:=by rw[preSum_eq,oq (by simp)];have:(b.zip c).map _=b:=nz (by lia);rw[this]
 rw[x];exact⟨.int _,H,I.kept C,⟨_,rfl⟩,q⟩
def Ww {K:W.Frag}{S T:String}(h2:W.kitMeta T=true)(h3:(PySem.fastBuiltinMro S).map (·.contains (.type T))=some true):W.kitOne K (.type S) (.type T)=some true:=by
 unfold W.kitOne
 split
 ·rfl
 · show(if W.kitMeta T=true then W.subIn K _ _ else none)=some _
   rw[ao h2]
   exact h3
noncomputable def AG:D->String|.non=>"NoneType"|.bl _=>"bool"|.int _=>"int"|.str _=>"str"|.tup _=>"tuple"|.lst _=>"list"|.du _ _=>"dict"|.c_ _=>"list"|.exc _=>"object"|.fd _ _=>"object"|.obj _ _ _=>"object"
def Wx {K:W.Frag}:W.kitOne K (.type "NoneType") (.type "int")=some false:=L2.bQ rfl rfl rfl
def iJ {K:W.Frag}:W.kitOne K (.type "bool") (.type "int")=some true:=Ww rfl (rfl)
def Wy {K:W.Frag}:W.kitOne K (.type "str") (.type "int")=some false:=L2.bQ rfl (by decide+kernel) (by decide+kernel)
def Wz {K:W.Frag}:W.kitOne K (.type "tuple") (.type "int")=some false:=L2.bQ rfl (by decide+kernel) (by decide+kernel)
def WA {K:W.Frag}:W.kitOne K (.type "list") (.type "int")=some false:=L2.bQ rfl rfl rfl
def WB {K:W.Frag}:W.kitOne K (.type "dict") (.type "int")=some false:=L2.bQ rfl (by decide+kernel) (by decide+kernel)
def WC {K:W.Frag}:W.kitOne K (.type "NoneType") (.type "bool")=some false:=L2.bQ rfl rfl rfl
def WD {K:W.Frag}:W.kitOne K (.type "int") (.type "bool")=some false:=L2.bQ rfl rfl rfl
def WE {K:W.Frag}:W.kitOne K (.type "str") (.type "bool")=some false:=L2.bQ rfl rfl rfl
def WG {K:W.Frag}:W.kitOne K (.type "tuple") (.type "bool")=some false:=L2.bQ rfl (by decide+kernel) rfl
def WH {K:W.Frag}:W.kitOne K (.type "list") (.type "bool")=some false:=L2.bQ rfl (by decide+kernel) (by decide+kernel)
def WI {K:W.Frag}:W.kitOne K (.type "dict") (.type "bool")=some false:=L2.bQ rfl rfl rfl
def WJ{K:W.Frag}:W.kitOne K (.type "NoneType") (.type "list")=some false:=L2.bQ rfl rfl rfl
def WK{K:W.Frag}:W.kitOne K (.type "bool") (.type "list")=some false:=L2.bQ rfl (by decide+kernel) (by decide+kernel)
def WL{K:W.Frag}:W.kitOne K (.type "int") (.type "list")=some false:=L2.bQ rfl (by decide+kernel) (by decide+kernel)
def WM{K:W.Frag}:W.kitOne K (.type "str") (.type "list")=some false:=L2.bQ rfl (by decide+kernel) (by decide+kernel)
def WN{K:W.Frag}:W.kitOne K (.type "tuple") (.type "list")=some false:=L2.bQ rfl (by decide+kernel) (by decide+kernel)
def WO{K:W.Frag}:W.kitOne K (.type "dict") (.type "list")=some false:=L2.bQ rfl (by decide+kernel) (by decide+kernel)
def WQ{K:W.Frag}:W.kitOne K (.type "NoneType") (.type "tuple")=some false:=L2.bQ (rfl) rfl rfl
def WR{K:W.Frag}:W.kitOne K (.type "bool") (.type "tuple")=some false:=L2.bQ rfl (by decide+kernel) (by decide+kernel)
def WS{K:W.Frag}:W.kitOne K (.type "int") (.type "tuple")=some false:=L2.bQ rfl (by decide+kernel) (by decide+kernel)
def WT{K:W.Frag}:W.kitOne K (.type "str") (.type "tuple")=some false:=L2.bQ rfl (by decide+kernel) (by decide+kernel)
def WU{K:W.Frag}:W.kitOne K (.type "list") (.type "tuple")=some false:=L2.bQ (by rfl) (by decide+kernel) (rfl)
def WV{K:W.Frag}:W.kitOne K (.type "dict") (.type "tuple")=some false:=L2.bQ (by rfl) (by decide+kernel) (by rfl)
def FO {K:W.Frag}(d:D)(h:ym d=true):W.kitOne K (.type (AG d)) (.type "int")=some (pD "int" d):=by cases d with|non=>exact Wx|bl b=>exact iJ|int b=>rfl|str b=>exact Wy|tup b=>exact Wz|lst b=>exact WA|du b b'=>exact WB|c_ b=>cases h|exc b=>cases h|fd b b'=>cases h|obj b b' WW=>cases h
def FP {K:W.Frag}(d:D)(h:ym d=true):W.kitOne K (.type (AG d)) (.type "bool")=some (pD "bool" d):=by cases d with|non=>exact WC|bl b=>rfl|int b=>exact WD|str b=>exact WE|tup b=>exact WG|lst b=>exact WH|du b b'=>exact WI|c_ b=>cases h|exc b=>cases h|fd b b'=>cases h|obj b b' WW=>cases h
def MJ{K:W.Frag}(d:D)(h:ym d=true):W.kitOne K (.type (AG d)) (.type "list")=some (pD "list" d):=by cases d with|non=>exact WJ|bl b=>exact WK|int b=>exact WL|str b=>exact WM|tup b=>exact WN|lst b=>rfl|du b a=>exact WO|c_ b=>cases h|exc b=>cases h|fd b a=>cases h|obj b a g=>cases h
def MK{K:W.Frag}(d:D)(h:ym d=true):W.kitOne K (.type (AG d)) (.type "tuple")=some (pD "tuple" d):=by cases d with|non=>exact WQ|bl b=>exact WR|int b=>exact WS|str b=>exact WT|tup b=>rfl|lst b=>exact WU|du b a=>exact WV|c_ b=>cases h|exc b=>cases h|fd b a=>cases h|obj b a g=>cases h
def vU(M:∀d,ym d=true->W.kitOne K.f (.type (AG d)) (.type c)=some (pD c d))(U:mB K XO E ta ma):SE K XO E (qs (LN K.f) (gb ta (gb (tC (.ty c)) dB))) (m1 (fB c) ma):=by
 intro Λ F0 Z F H u δ Q I a;refine U _ _ _ F H _ _ _ I (a.bind.imp fun d G C n g x f=>?_);by_cases e:ym d=true;case neg=>cases d with|c_ _=>exact g.elim|exc _=>exact g.elim|fd _ _=>exact g.elim|obj _ _ _=>exact g.elim|_=>exact absurd rfl e
 have t:eM E XO u G C (fun d L w=>∀v,Rep K L d v->Q v w) (.ok (.bl (pD c d))):=by cases d with|c_ l=>cases e|exc l=>cases e|fd _ _=>cases e|obj _ _ _=>cases e|_=>exact g
 suffices h:iH _ _ x _ from⟨x,_,_,_,_,rfl,rfl,h,M d e,(t _ _ (.refl n.fh) _ rfl)⟩
 cases d with|non=>subst f;exact .non|bl b=>subst f;exact .bl _|int b=>subst f;exact .int _|str b=>subst f;exact .str _|tup l=>obtain⟨p,S,rfl,m,r⟩:=f;exact .tup (n.fh _ _ m)|lst l=>
 obtain⟨p,S,rfl,m,r⟩:=f;rcases m with h|⟨o,h⟩;.exact .lst h
 .exact .jr h|du ks l=>obtain⟨p,y,rfl,m,r⟩:=f;exact .dK m|c_ l=>cases e|exc l=>cases e|fd _ _=>cases e|obj _ _ _=>cases e
noncomputable def toPy:Nat->D->PyData|_,.non=>.none|_,.int i=>.int i|n+1,.tup l=>.tuple (l.map (toPy n))|n+1,.lst l=>.list (l.map (toPy n))|_,_=>.none
def yn:∀(n:Nat)(d:D),gM n d=true->(toPy n d).canLay0=true/\(toPy n d).depth<=n:=by intro n;induction n with
 |zero=>intro d h;cases d with|non=>exact⟨rfl,aC _⟩|int i=>exact⟨rfl,aC _⟩|_=>cases h
 |succ n t=>
 have b:∀l:List D,l.all (gM n)=true->PyData.canLayAll0 (l.map (toPy n))=true/\PyData.depthAll (l.map (toPy n))<=n:=by intro l;induction l with|nil=>intro _;exact⟨rfl,bM _⟩|cons a l f=>
  intro h;rw[k_,kQ]at h;obtain⟨c,o⟩:=t a h.1;obtain⟨s,u⟩:=f h.2;refine⟨?_,?_⟩;.simp[PyData.canLayAll0,c,s]
  .simp[PyData.depthAll];lia
 intro d h;cases d with|non=>exact⟨rfl,bM _⟩|int i=>exact⟨rfl,bM _⟩|tup l=>obtain⟨c,o⟩:=b l h;exact⟨by simpa[toPy,PyData.canLay0]using c,by simp[toPy,PyData.depth];omega⟩|lst l=>obtain⟨c,o⟩:=b l h;exact⟨by simpa[toPy,PyData.canLay0]using c,by simp[toPy,PyData.depth];omega⟩|_=>cases h
open Classical in
theorem Cw:∀(n:Nat)(d d':D),gM n d=true->gM n d'=true->PyData.eqv (toPy n d) (toPy n d')=decide (d=d'):=by intro n;induction n with
 |zero=>intro d d' h c;cases d with
  |non=>cases d'<;>first|(simp[toPy,PyData.eqv];done)|cases c
  |int i=>cases d' with|int j=>simp[toPy,PyData.eqv];grind|_=>first|(simp[toPy,PyData.eqv])|cases c
  |_=>cases h
 |succ n u=>
  have k:∀l e:List D,l.all (gM n)=true->e.all (gM n)=true->PyData.eqvAll (l.map (toPy n)) (e.map (toPy n))=decide (l=e):=by intro l;induction l with|nil=>intro e _ _;cases e<;>simp[PyData.eqvAll]|cons a l r=>intro e h c;cases e with|nil=>rfl|cons b e=>rw[k_,kQ]at h c;simp only[bR,PyData.eqvAll,u a b h.1 c.1,r _ h.2 c.2];by_cases w:a=b<;>by_cases v:l=e<;>simp
  intro d d' h c;cases d with
  |non=>cases d'<;>first|(simp[toPy,PyData.eqv];done)|cases c
  |int i=>cases d' with|int j=>simp[toPy,PyData.eqv];grind|_=>first|(simp[toPy,PyData.eqv])|cases c
  |tup l=>cases d' with|tup e=>simp only[toPy,PyData.eqv,k l _ h c];simp|_=>first|(simp[toPy,PyData.eqv])|cases c
  |lst l=>cases d' with|lst e=>simp only[toPy,PyData.eqv,k l _ h c];simp|_=>first|(simp[toPy,PyData.eqv])|cases c
  |_=>cases h
def ML(I:Inv X pins σ H s)(M:av F H):∀(n:Nat)(d:D)(v:V)(u:Value),gM n d=true->Rep ⟨X.K,ca,an⟩ F d v->zaf v u->∃f,PySem.Reads s.heap u (toPy n d) f:=by intro n;induction n with
 |zero=>intro d v u h r b;cases d with|non=>subst r;cases b;exact⟨_,.none⟩|int i=>subst r;obtain⟨t,rfl⟩:=b;exact⟨_,.int i t⟩|_=>cases h
 |succ n U=>
 have p:∀(l:List D)(g:List V)(w:List _),l.all (gM n)=true->ay ⟨X.K,ca,an⟩ F l g->Vals g w->∃f,PySem.ReadsAll s.heap w (l.map (toPy n)) f:=by intro l;induction l with|nil=>intro g w _ r b;subst r;cases b;exact⟨_,.nil⟩|cons a l A=>intro g w h r b;rw[k_,kQ]at h;obtain⟨v,r',rfl,T,Q⟩:=r;cases b with|cons b x=>obtain⟨f,m⟩:=U a v _ h.1 T b;obtain⟨bs,q⟩:=A _ _ h.2 Q x;exact⟨_,.cons m q⟩
 intro d v u h r b;cases d with|non=>subst r;cases b;exact⟨_,.none⟩|int i=>subst r;obtain⟨t,rfl⟩:=b;exact⟨_,.int i t⟩|tup l=>obtain⟨a,g,rfl,m,q⟩:=r;cases b;obtain⟨G,C,⟨o,e,c,k,B⟩,_⟩:=I.tuple (.inl (.inl (M _ _ m)));obtain⟨f,Z⟩:=p l _ _ h q C;exact⟨_,.tuple e c B (by omega)⟩|lst l=>obtain⟨a,g,rfl,m,q⟩:=r;cases b;obtain⟨G,C,⟨o,k,e,c,_,B⟩,_⟩:=I.list (.inl (PM.av.mT M m));obtain⟨f,Z⟩:=p l _ _ h q C;exact⟨_,.list e c B (by omega)⟩|_=>cases h
def WX(I:Inv X pins σ H s)(m:av F H)(n:Nat):∀(l:List D)(vs:List V)(us:List Value),l.all (gM n)=true->ay ⟨X.K,ca,an⟩ F l vs->Vals vs us->∃f,PySem.ReadsAll s.heap us (l.map (toPy n)) f:=by intro l;induction l with|nil=>intro vs us _ r c;subst r;cases c;exact⟨_,.nil⟩|cons a l e=>intro vs us h r c;rw[k_,kQ]at h;obtain⟨v,p,rfl,g,j⟩:=r;cases c with|cons c d=>obtain⟨f,i⟩:=ML I m n a v _ h.1 g c;obtain⟨q,k⟩:=e _ _ h.2 j d;exact⟨_,.cons i k⟩
def yo(I:Inv X pins σ H s)(i:av F H)(h:gM n d=true)(r:Top ⟨X.K,ca,an⟩ F H d v)(b:zaf v u):∃g,PySem.Reads s.heap u (toPy n d) g:=by cases d with
 |lst l=>cases n with|zero=>cases h|succ n=>obtain⟨a,C,rfl,z,m⟩:=r;cases b;obtain⟨p,w,⟨o,k,e,c,_,A⟩,_⟩:=I.list (.inl z);obtain⟨g,B⟩:=WX I i n l _ _ h m w;exact⟨_,.list e c A (by simpa using B)⟩
 |du y l=>cases n<;>cases h|obj c y l=>cases n<;>cases h|_=>exact ML (ca:=ca) (an:=an) I i n _ v u h r b
open Classical in
def uR(K:Kx)(c:Bool):R2:=fun x y H Q=>∃(F:Hp)(b a:D),av F H/\Top K F H b x/\Top K F H a y/\gM 8 b=true/\gM 8 a=true/\Q (.bl (if c=true then !decide (b=a)else decide (b=a))) H
def WY(o:X.A.units+64<cLine):iG X (compareOp .Eq) (uR ⟨X.K,ca,an⟩ false):=by rintro d s r H x y v u Q I g e ⟨F,l,p,c,i,f,b,a,q⟩;obtain⟨n,h⟩:=yo I c b i g;obtain⟨m,j⟩:=yo I c a f e;obtain⟨k,t⟩:=yn 8 _ b;obtain⟨m1,m2⟩:=yn 8 _ a;refine SeqAt.compareEq_reads h j k m1 (by lia) ?_;rw[Cw 8 _ _ b a];exact⟨.bl _,H,I,rfl,q⟩
def WZ(o:X.A.units+64<cLine):iG X (compareOp .NotEq) (uR ⟨X.K,ca,an⟩ true):=by rintro d s r H x y v u Q I g e ⟨F,l,p,c,i,f,b,a,q⟩;obtain⟨n,h⟩:=yo I c b i g;obtain⟨m,j⟩:=yo I c a f e;obtain⟨k,t⟩:=yn 8 _ b;obtain⟨m1,m2⟩:=yn 8 _ a;refine SeqAt.compareNe_reads h j k m1 (by lia) ?_;rw[Cw 8 _ _ b a];exact⟨.bl _,H,I,rfl,q⟩
def W0:SR K (uR K false) sr:=by
 intro F H x y f c d Q s a b e q;unfold sr cO at e;split at e;.rename_i h;cases e;exact⟨F,_,_,s,a,b,h.1,h.2,q _ F H (.refl s) rfl⟩
 .cases e
def W2:SR K (uR K true) qQ:=by
 intro F H x y f c d Q s a b e q;unfold qQ cO at e;split at e;.rename_i h;cases e;exact⟨F,_,_,s,a,b,h.1,h.2,q _ F H (.refl s) rfl⟩
 simp_all
end
end PM
namespace L2
def FQ(K:W.Frag)(a:Addr)(n:Nat):It:=⟨fun i H=>i<n/\∃b,eE K H a b/\b.length=n,fun i H x c=>c=H/\∀b,eE K H a b->b[n-1-i]?=some x,fun i _=>n<=i⟩
def W3{P:Program}{K:W.Frag}(a g:Addr)(n:Nat):Turn P w K tg (FQ K a n) [g] g (fun i h=>i<=n/\h.IsRevIter g a ((n:Int)-1-i))where
 mem:=by simp
 obj:=fun i h st b j=>by
  have e:b=g:=by simp_all
  subst e;obtain⟨_,o,e,c,d⟩:=st;exact⟨o,e,fun v z=>by rw[d]at z;cases z⟩
 keep:=fun i h m st k=>⟨st.1,st.2.at fun o e=>k g (by simp) o e⟩;item:=by
  intro X Q L O N i l s Z H E I q st D;subst Q L O;obtain⟨hi,M,R,hn⟩:=D;obtain⟨its,U,p,hz⟩:=I.list R;have T:M[n-1-i]?=some (M[n-1-i]'(by lia)):=b8 _;obtain⟨u,hu,ru⟩:=U.get T;obtain⟨B,G,f2,t,C,r⟩:=q g (by simp);have J:(n:Int)-1-i=(n-1-i:Nat):=by lia
  have f:=st.2;rw[J]at f;refine wpAny_pyNext_rev_item f p.isList (x:=u) (by simpa using hu) fun m A Y=>?_;have S:Inv X _ _ H {s with heap:=m}:=I.turned (fun b o j e=>(Y.2 b j).trans e) B G t C r;have y:m.IsRevIter g a (n-1-(i+1)):=by
   have e1:n-1-((i+1):Int)=n-1-i-1:=by lia
   simp_all
  obtain⟨o,e,c,d⟩:=id A;exact⟨u,rfl,El e c d rfl ⟨_,H,S,ru,⟨rfl,fun ys hy=>by rwa[I.fP hy R]⟩,⟨hi,y⟩,fun b j=>(q b j).1⟩⟩
 done:=by
  intro X Q L O N i l s Z H E I q st D;obtain⟨B,G,f2,t,C,r⟩:=q g (by simp);have f:=st.2;have J:(n:Int)-1-i=-1:=by have:n<=i:=D;lia
  rw[J]at f;exact wpAny_pyNext_rev_end (I.ok.hd N) f fun m eb=>⟨rfl,I.turned (fun b o j e=>eb b o j e) B G t C r⟩
 self:=fun _ _ _ _ _ st h=>oU st.2 h
noncomputable def MN(scope a:Scope):Scope:={scope with names:=scope.names.map fun(n,k)=>if(k==.free&&a.kind==.function&&a.names.lookup n==some .cell)then(n,.cell)else(n,k)}
section
variable{X:Cx}
def xb(K:W.Frag)(f:TA):zah:=fun e H R=>f e H fun d c=>∃a b,d=[.ref a]/\eE K c a b/\R (FQ K a b.length) c
def MO(z:Gl X "reversed")(v:X.mg "reversed"=none)(r:PA X [l] n)(k:autoParam (starEach [l] X.env=[(false,eval l X.env)]) zak):PI X D (.Call (.Name "reversed" p) [l] [] pos) (xb X.K n):=by
 intro f s G H R I h;refine Call_ (nV I z v boot_reversed (ew (bK (r _ _ s _ H _ I h) fun A g ⟨_,_,c,x,j⟩=>?_) k rfl));obtain⟨a,i,e,w,q⟩:=j;subst e;obtain⟨u,rfl,t⟩:=kW x;cases t;obtain⟨d,m,y,C⟩:=c.list w;have E:=m.length;refine call_reversed_list y.isList ?_;have st:(g.heap.push (revObj a _)).IsRevIter _ a (i.length-1-(0:Nat)):=⟨_,b7 _ rfl,rfl,by
 have e:((i.length:Int)-1-(0:Nat))=d.toArray.size-1:=by simp_all
 rw[e];rfl⟩;refine oU st (⟨_,_,_,_,_,rfl,c.kept fun b o e=>aO _ e,W3 a _ _,⟨bM _,st⟩,fun b B=>?_,q⟩);have e:b=g.heap.objs.size:=by simp_all
 subst e;exact c.ki (aC _) (c.bB.fresh (aC _))
end
end L2
namespace PM
section
variable{K:Kx}{XO:di}{E:zag->XK}
def MP(r:ay K m ds vs)(h:∀c b,P c b->av m c/\av c b/\eE K.f b a vs):kY K (FQ K.f a vs.length) P ds.reverse:=by
 intro c b p i;obtain⟨g,k,q⟩:=h _ _ p;have l:=r.length;refine⟨fun d e=>?_,fun o=>?_⟩
 . have j:i<ds.length:=by have:=(bV.mp e).1;simp_all
   rw[List.getElem?_reverse j]at e;obtain⟨v,s,n⟩:=r.get e;refine⟨⟨by lia,_,q,rfl⟩,fun x t y=>?_⟩;obtain⟨rfl,y⟩:=y;have z:=y _ q;rw[l,s]at z;cases z;exact⟨_,.refl k,Rep.mono g _ n⟩
 .have:=fJ.mp o;rw[lA]at this;show vs.length<=i;lia
def MQ(h:qR l=some r):∃x,l=[.lst x]/\r=x.reverse:=by
 unfold qR at h;split at h;.simp_all
 simp_all
def MR(h:SA K XO E e ml):SI K XO E (xb K.f e) (qS ml):=by intro k u p F H s m R I a;refine h _ _ _ F H _ _ _ I (a.bind.imp fun j o n c b g r=>?_);cases q:qR _ with|none=>rw[q]at b;exact b.elim|some z=>obtain⟨l,rfl,rfl⟩:=MQ q;obtain⟨v,rfl,f⟩:=ay.one r;obtain⟨a,g,rfl,d,i⟩:=f;exact⟨a,_,rfl,.inl (PM.av.mT c.fh d),b _ _ (.refl c.fh) _ (MP i fun w t x=>⟨x.1,x.2,.inl (PM.av.rd x.2 (PM.av.mT x.1 d))⟩)⟩
def MS(h:sk K XO E e ml):wX K XO E (xb K.f e) (qS ml):=by intro k p v F H s m R I a;refine h _ _ _ F H _ _ _ I (a.bind.imp fun u o n g b i r=>?_);cases q:qR _ with|none=>rw[q]at b;exact b.elim|some z=>obtain⟨l,rfl,rfl⟩:=MQ q;cases r with|cons r f=>cases f;obtain⟨a,i,rfl,c,j⟩:=r;exact⟨a,_,rfl,.inl c,b _ _ (.refl g.fh) _ (MP j fun w t x=>⟨x.ff,x.fh,.inl (PM.av.rd x.hh c)⟩)⟩
end
def kN(K:Kx):di:=fun x F _ C a=>C=.ref (K.ca x.c)/\XA K F x.c a
def xc(c:Nat)(ml:En->R (List D))(δ:En):O:=(ml δ).il δ fun l=>cO (l.length<=sizeLine) (.ex δ ⟨c⟩) .no
section
variable{K:Kx}{E:zag->XK}{ta:TE}{ma:En->R D}{t u:TS}{m n:En->O}{Λ:List (Nat×Addr×HO)}{F0 H0 F H:Hp}{σ:zag}{δ:En}
def MT(b:C=K.ca c)(d:c<16)(h:SA K (kN K) E f ml):SS K (kN K) E (LY C E f) (xc c ml):=by
 intro Λ F0 H0 F H σ δ j I a;refine h _ _ _ F H _ _ _ I ((cM.of I a).imp fun l g k e p i r=>?_);unfold cO at p;split at p;.exact⟨by rwa[r.length],p _ _ _ _ _ (I.grow e) ⟨by rw[b],by unfold XA;simp_all⟩⟩
 .exact p.elim
end
end PM
namespace L2
section
variable{P:Program}{w:World}{B:Around}{Z:Result->Shared->Prop}{J S:Addr}{fp wr:List Addr}{n:Nat}{Pv:Nat->Value->Prop}{Sn:Nat->Heap->Prop}
def W4:(toString "max"++toString ".loop":String)="max.loop":=rfl
def W5 (W:Walks P w B.in1 J fp wr n Pv Sn)(bt:Nat->Nat->Bool)(cmp:CmpOf P w B.in1 .Gt Pv bt)(nS:S∉fp)(df:Value):∀(r i:Nat)(s:Shared)(best:Value)(c:Nat),i+1+r=n->Sn (i+1) s.heap->Pv (argBest bt i) best->s.heap.get? S=some {cls:=.type "list",dict:=none,data:=.seq #[best,best] c,slots:=#[]}->(∀v h' tk,Pv (argBest bt (n-1)) v->(∀b o,b∉wr->b≠S->s.heap.get? b=some o->h'.get? b=some o)->Z (.ok (.ret v)) {s with heap:=h',toks:=tk})->codeAny (model P w) B (.builtin "max.loop" ⟨[.ref J,.none,.ref S],[("default",df)]⟩) Z s:=by
 have nw:S∉wr:=fun z=>nS (W.sub _ z)
 intro r
 induction r with
 |zero=>
 intro i s best c hr st pb atS fin
 have ei:i+1=n:=hr
 refine iY F.entry_max_loop ((rM k8 (A:=B) _).symm▸?_)
 refine ah (eD atS rfl (ah (kf (W.done s _ _ (ei▸st) fun h1 tk kp=>(ah (l_ (kp S _ nw atS) rfl (ah (gv (ax (fin best _ tk ?_ fun b o g1 g2 e=>?_))))))))))
 ·rwa [←ei]
 ·exact(fH _ _ (aN g2)).trans (kp b o g1 e)|succ r ih=>
 intro i s best c hr st pb atS fin
 have lt:i+1<n:=by lia
 refine iY F.entry_max_loop ((rM k8 (A:=B) _).symm▸(ah (eD atS rfl (ah (kf (W.item (i+1) s _ _ lt st fun v h1 tk pv Ah kp=>?_))))))
 have xf:=kp S _ nw atS
 refine ah (ax (ah (kf (dV (ah (cmp (i+1) (argBest bt i) v best _ _ _ pv pb (ah (dV (l9 (ah (gv (ax ?_))))))))))))
 cases hb:bt (i+1) (argBest bt i)with
 |true=>
 refine ah (l_ xf rfl (ah (gv ?_)))
 refine ax ⟨j9 k8 _,ih (i+1) _ v _ (by lia) (W.frame _ _ _ Ah fun b g o e=>(fH _ _ (fun z:S=b=>nS (z▸g))).trans e) ?_ (jh _ xf rfl) fun v2 h2 FR p2 k2=>?_⟩
 ·simp[argBest,hb];exact pv
 ·exact fin v2 h2 FR p2 fun b o g1 g2 e=>k2 b o g1 g2 ((fH _ _ (aN g2)).trans (kp b o g1 e))|false=>
 refine ah (gv ?_)
 refine ax ⟨j9 k8 _,ih (i+1) _ best c (by lia) Ah ?_ xf fun v2 h2 FR p2 k2=>?_⟩
 ·simp[argBest,hb,uf];exact pb
 ·exact fin v2 h2 FR p2 fun b o g1 g2 e=>k2 b o g1 g2 (kp b o g1 e)
def W6(W:Walks P w B.in1 J fp wr n Pv Sn)(t:Nat->Nat->Bool)(j:CmpOf P w B.in1 .Gt Pv t)(h:S∉fp)(r:Value)(st:Sn 0 s.heap)(atS:s.heap.get? S=some {cls:=.type "list",dict:=none,data:=.seq #[] c,slots:=#[]})(f0:n=0->∀h' tk,(∀b o,b∉wr->b≠S->s.heap.get? b=some o->h'.get? b=some o)->Z (.ok (.ret r)) {s with heap:=h',toks:=tk})(i:0<n->∀v h' tk,Pv (argBest t (n-1)) v->(∀b o,b∉wr->b≠S->s.heap.get? b=some o->h'.get? b=some o)->Z (.ok (.ret v)) {s with heap:=h',toks:=tk}):codeAny (model P w) B (.builtin "max.loop" ⟨[.ref J,.none,.ref S],[("default",r)]⟩) Z s:=by
 have C:S∉wr:=fun z=>h (W.sub _ z);refine iY F.entry_max_loop ((rM k8 (A:=B) _).symm▸(ah (eD atS rfl ?_)));by_cases m:n=0;.exact ah (kf (W.done s _ _ (m▸st) fun q tk d=>(ah (iZ (ax (f0 m q tk fun b o f _ e=>d b o f e))))))
 . have l:0<n:=by lia
   refine ah (kf (W.item 0 s _ _ l st fun v q tk pv k d=>?_));have a:=d S _ C atS;refine ah (ax (ah (l_ a rfl ?_)));rw[W4];refine ax ⟨rfl,W5 W _ j h _ (n-1) 0 _ v _ (by omega) (W.frame _ _ _ k fun b g o e=>(fH _ _ (fun z:S=b=>h (z▸g))).trans e) pv (jh _ a rfl) fun E D x y u=>?_⟩;exact i l _ _ _ y fun b o f p e=>u b o f p ((fH _ _ (aN p)).trans (d b o f e))
end
section
variable{P:Program}{w:World}{B:Around}{E:Value->Shared->Prop}{s:Shared}{Q:Value->Shared->Prop}{l:Addr}{xs:Array (Int×Tok)}{df:Value}
def W7(a b:Value):argsOk "max" ⟨[a],[("default",b)]⟩:=by kernel_rfl
def W8(y:B.handled=none)(C:s.heap.IsList l (intItems xs))(f0:xs.size=0->∀h' tk,(∀b o,s.heap.get? b=some o->h'.get? b=some o)->Q df {s with heap:=h',toks:=tk})(m:0<xs.size->∀v h' tk,(intItems xs)[argBest (fun i j=>decide (numAt xs i>numAt xs j)) (xs.size-1)]?=some v->(∀b o,s.heap.get? b=some o->h'.get? b=some o)->Q v {s with heap:=h',toks:=tk}):wpAny (model P w) B (call (.builtin "max") [.ref l] [("default",df)]) Q E s:=by
 have a:wpAny (model P w) B.in1 (Builtin.«max» ⟨[.ref l],[("default",df)]⟩) (fun r d=>match r with|.done f=>(match(Except.ok f:Result)with|.ok (.ret v)=>Q v d|.ok _=>False|.error e=>E e d)|.again p=>p.quiet=true/\codeAny (model P w) B p (fun r d=>match r with|.ok (.ret v)=>Q v d|.ok _=>False|.error e=>E e d) d) E s:=by
  refine ah (wpAny_of_eq (show Builtin.Builtins.bindParams "max" ["key","default"] 0 ⟨[],[("default",df)]⟩=pure [none,some df]from rfl) (ah (ax (ah (iter_intList C fun I e st c G=>?_)))));subst e;refine ah (lZ ?_);have n:∀b∈[s.heap.objs.size,l],b≠(s.heap.push {cls:=.type "list_iterator",data:=.fields #[.ref l,.int 0 0]}).objs.size:=fun b D z=>absurd (c b D) (by simp_all);have W:=Walks.list (prog:=P) (w:=w) (A:=B.in1) y s.heap.objs.size l G (intItems xs);refine ax ⟨j9 k8 _,W6 W _ (CmpOf.ints_gt (numAt xs) (fun _ _=>intItems_at)) (fun z=>n _ z rfl) df (W.frame _ _ _ st fun b _ o e=>aO _ e) (b7 _ rfl) (fun x h' tk kp=>?_) fun u v h' tk pv kp=>?_⟩
  . refine f0 (by simpa[intItems]using x) h' tk fun b o e=>?_;have g:=aO {cls:=.type "list_iterator",data:=.fields #[.ref l,.int 0 0]} e
    exact kp b o (fun z => by have:b=s.heap.objs.size:=by simp_all
                              exact dI _ (this▸aI e)) (aY (aI g)) (aO _ g)
  . refine m (by simpa[intItems]using u) v h' tk (by simpa[intItems]using pv) fun b o e=>?_;have g:=aO {cls:=.type "list_iterator",data:=.fields #[.ref l,.int 0 0]} e
    exact kp b o (fun z => by have:b=s.heap.objs.size:=by simp_all
                              exact dI _ (this▸aI e)) (aY (aI g)) (aO _ g)
 refine gu (oP F.plain_max F.entry_max ?_);simp only[checkBuiltinCall];cases H:Manifest.signature? _ with|none=>exact ax a|some q=>have t:=W7 (.ref l) df;simp[argsOk,H]at t;show wpAny _ _ (Bind.checkArgs _ q _) _ _ s;rw[t];exact ax a
end
def MU(f:TA)(g:TE):TE:=fun c H Q=>f c H fun h i=>(gb g dB) c i fun e d=>∃(y:V)(a:Addr)(b:List Int),e=[y]/\h=[.ref a]/\Rd d a (.lst (b.map V.int))/\Q (match b with|[]=>y|n::l=>.int (PM.dn l n)) d
theorem fZ:∀(l:List Int)(m:Int),m<=PM.dn l m/\(∀a∈l,a<=PM.dn l m)/\(PM.dn l m=m\/PM.dn l m∈l)
 |[],m=>⟨gW _,fun _ h=>(by cases h),.inl rfl⟩|a::l,m=>by
  obtain⟨i,g,d⟩:=fZ l (if a>m then a else m);unfold PM.dn;have e:(if a>m then a else m)=a/\a>m\/(if a>m then a else m)=m/\¬a>m:=by lia
  refine⟨by lia,fun b f=>?_,?_⟩
  . rcases aM.mp f with rfl|f;.lia
    simp_all
  . rcases d with d|d
    . rcases e with⟨e,_⟩|⟨e,_⟩;.exact .inr (by simp_all)
      lia
    .exact .inr (bx _ d)
section
variable{X:Cx}
def FT(Y:X.calm=true)(U:Gl X "max")(o:X.mg "max"=none)(A:PA X [e] ta)(hd:PE X d td)(he:autoParam (backTo pos (starEach [e] X.env)=(false,eval e X.env)::backTo pos (starEach [] X.env)) zak)(D:autoParam ((backTo pos (starEach [e] X.env)).any (·.1)=false) zak):PE X (.Call (.Name "max" p) [e] [⟨some "default",d,kp⟩] pos) (MU ta td):=by
 intro k s S H Q I h;refine hW (nV I U o boot_max ?_);refine callWith_kw (bK (A pos k s S H _ I h) fun us s1 ⟨vs,H1,I1,r1,q1⟩=>(bK (U6 hd U5 pos k s1 S H1 _ I1 q1) fun ws s2 ⟨zs,N,x,rz,y,a,c,e1,e2,R,q⟩=>?_)) he D;subst e1 e2;obtain⟨u,rfl,rx⟩:=kW r1;cases rx;obtain⟨df,rfl,ry⟩:=kW rz;obtain⟨z,r,n,O,C⟩:=R.ok x.bB;obtain⟨b,rfl,htl⟩:∃b:List Tok,r=(c.zip b).map (fun p=>Value.int p.1 p.2)/\b.length=c.length:=by clear C R q z;induction c generalizing r with|nil=>cases O;simp|cons a l ih=>cases O with|cons h t=>obtain⟨w,rfl⟩:=h;obtain⟨b,rfl,hl⟩:=ih _ t;exact⟨w::b,rfl,by simp[hl]⟩
 have Z:((c.zip b).map (fun p=>Value.int p.1 p.2)).toArray=intItems (c.zip b).toArray:=by simp[intItems]
 rw[Z]at C;have M:∀j,numAt (c.zip b).toArray j=c.getD j 0:=fun j=>by rw[numAt_eq];have:(c.zip b).map (·.1)=c:=nz (by lia);rw[this]
 have J:(c.zip b).toArray.size=c.length:=by simp_all
 refine W8 (x.ok.hd Y) ⟨_,C,rfl,n,rfl⟩ (fun L h' w G=>?_) fun hp v h' w hv G=>?_;.rw[J]at L;have:c=[]:=lz.mp L;subst this;exact⟨y,N,x.kept (t':=w) G,ry,q⟩
 .cases c with|nil=>simp_all|cons m l=>
 obtain⟨t,rfl⟩:=intItems_at hv;refine⟨.int (PM.dn l m),N,x.kept (t':=w) G,⟨t,?_⟩,q⟩;congr 1;obtain⟨g1,g2⟩:=argBest_gt (numAt ((m::l).zip b).toArray) (((m::l).zip b).toArray.size-1);obtain⟨k1,k2,k3⟩:=fZ l m;have lb:∀a∈m::l,a<=numAt ((m::l).zip b).toArray (argBest (fun i j=>decide (numAt ((m::l).zip b).toArray i>numAt ((m::l).zip b).toArray j)) (((m::l).zip b).toArray.size-1)):=fun a A=>by obtain⟨j,E,ej⟩:=ly A;have:=g2 j (by lia);rwa[M j,cz,b8 E,ej]at this
 have T:numAt ((m::l).zip b).toArray (argBest (fun i j=>decide (numAt ((m::l).zip b).toArray i>numAt ((m::l).zip b).toArray j)) (((m::l).zip b).toArray.size-1))<=PM.dn l m:=by
  generalize argBest _ _=j at g1;rw[M j];have E:j<(m::l).length:=by lia
  have o:(m::l).getD j 0∈m::l:=by rw[cz,b8 E];simp
  rcases aM.mp o with z|z;.rwa[z]
  .exact k2 _ z
 have o:=k3.elim (fun z=>by rw[z];exact gY) fun z=>bx _ z;exact p6 T (lb _ o)
end
end L2
namespace PM
section
variable{K:Kx}{XO:di}{E:zag->XK}{td te:TE}{md me:En->R D}
def W9(h:tW ds d=some r):∃ns:List Int,ds=[.lst (ns.map .int)]/\r=match ns with|[]=>d|n::l=>.int (dn l n):=by
 unfold tW at h;split at h;.simp_all
 .rename_i a l;cases z:de l with|none=>simp_all|some ns=>rw[z]at h;cases h;exact⟨a::ns,by rw[rC z];rfl,rfl⟩
 simp_all
def W_(o:sk K XO E k ml)(hd:SE K XO E td md):SE K XO E (MU k td) (uO ml md):=by intro w A N F H x v Q I a;refine o _ _ _ F H _ _ _ I (a.bind.imp fun L C B g h G r=>(hd _ _ _ _ _ _ _ _ (I.grow g) (h.bind.imp fun d S M e c y i=>?_)));cases q:tW _ d with|none=>rw[q]at c;exact c.elim|some z=>rw[q]at c;obtain⟨s,rfl,rfl⟩:=W9 q;cases r with|cons r t=>cases t;obtain⟨p,J,rfl,m,u⟩:=r;have j:=qT u;subst j;refine⟨y,p,_,rfl,rfl,PM.av.rd e.hh m,c _ _ (.refl e.fh) _ ?_⟩;cases s with|nil=>exact i|cons n l=>rfl
end
end PM
namespace L2
section
variable{X:Cx}
noncomputable def MV(h1:autoParam (attributeBase o m X.env (eval o X.env)=eval o X.env) zak)(h2:autoParam (((backTo a (starEach [e,f] X.env)).all (fun x=>!x.1)&&(backToKw a (keywordEach [] X.env)).all (fun x=>x.1.isSome)&&decide (([e,f]:List Expr).length+([]:List Keyword).length+(if([]:List Keyword).isEmpty then 0 else 1)<30))=true) zak)(h3:autoParam ((b.endLine==a.line)=true) zak)(c:autoParam (backTo a (starEach [e,f] X.env)=[(false,eval e X.env),(false,eval f X.env)]) zak):M2 X o m b e f a:=⟨h1,h2,h3,c⟩
end
end L2
namespace PM
section
variable{K:Kx}{XO:di}{E:zag->XK}{td ty tx:TE}{md my mx:En->R D}
def xh:D->D->Option D:=w9 o4 fun i j=>.int (i*2^j.toNat)
def W':SR K (rI o4 fun i j=>.int (i*2^j.toNat)) xh:=Au fun _ _ _=>by simp only[Rep]
def yp(x y:D):Option D:=match x,y with|.int i,.lst l=>(de l).map fun a=>.bl (decide (i∈a))|.int i,.tup l=>(de l).map fun a=>.bl (decide (i∈a))|_,_=>none
def uS(x y:D):Option D:=match x,y with|.int i,.lst l=>(de l).map fun a=>.bl (!decide (i∈a))|.int i,.tup l=>(de l).map fun a=>.bl (!decide (i∈a))|_,_=>none
def Cy{ns:List Int}:BU (.int i) (ns.map V.int)=decide (i∈ns):=by
 rw[wm];unfold BU;simp[p8];constructor
 . rintro⟨a,c,b⟩;have:=by simpa[tO]using b
   simp_all
 .intro h;exact⟨i,h,by simp[tO]⟩
def Cz{ns:List Int}:(ns.map V.int).all uA=true:=by rw[nq,jj];intro x _;rfl
def MW:SR K (BV K.f false) yp:=by intro F H x y j m d Q s p h e q;cases j with
 |int i=>subst p;cases m with
  |lst l=>obtain⟨a,o,rfl,g,c⟩:=h;simp only[yp]at e;cases z:de l with|none=>simp_all|some t=>rw[z]at e;cases e;have b:=rC z;subst b;have f:=qT c;subst f;exact⟨a,_,rfl,.inl (.inl g),rfl,Cz,q _ F H (.refl s) (by rw[Cy];rfl)⟩
  |tup l=>obtain⟨a,o,rfl,g,c⟩:=h;simp only[yp]at e;cases z:de l with|none=>rw[z]at e;cases e|some t=>rw[z]at e;cases e;have b:=rC z;subst b;have f:=qT c;subst f;exact⟨a,_,rfl,.inr (.inl (.inl (s _ _ g))),rfl,Cz,q _ F H (.refl s) (by rw[Cy];rfl)⟩
  |_=>cases e
 |_=>cases e
def MX:SR K (BV K.f true) uS:=by intro F H x y j m d Q s p h e q;cases j with
 |int i=>subst p;cases m with
  |lst l=>obtain⟨a,o,rfl,g,c⟩:=h;simp only[uS]at e;cases z:de l with|none=>simp_all|some t=>rw[z]at e;cases e;have b:=rC z;subst b;have f:=qT c;subst f;exact⟨a,_,rfl,.inl (.inl g),rfl,Cz,q _ F H (.refl s) (by rw[Cy];rfl)⟩
  |tup l=>obtain⟨a,o,rfl,g,c⟩:=h;simp only[uS]at e;cases z:de l with|none=>simp_all|some t=>rw[z]at e;cases e;have b:=rC z;subst b;have f:=qT c;subst f;exact⟨a,_,rfl,.inr (.inl (.inl (s _ _ g))),rfl,Cz,q _ F H (.refl s) (by rw[Cy];rfl)⟩
  |_=>cases e
 |_=>cases e
noncomputable def Xa:D->Option (List Key×List D)|.du a l=>some (a,l)|_=>none
def AH(md my mx:En->R D)(δ:En):R D:=(md δ).bind fun d=>(R.of (Xa d)).bind fun p=>(my δ).bind fun k=>(mx δ).bind fun x=>R.of ((rA k).map fun k=>(gT p.1 p.2 k).getD x)
def Xb(hd:mB K XO E td md)(t:SE K XO E ty my)(A:SE K XO E tx mx):SE K XO E (LJ td ty tx) (AH md my mx):=by intro S F0 T F H σ Y Q I a;refine hd _ _ _ F H _ _ _ I (a.bind.imp fun d N X i e x j=>?_);cases d with
 |du ks l=>have h:=j;obtain⟨p,m,rfl,L,_⟩:=h;refine⟨p,rfl,.inl ⟨_,.inl L⟩,?_⟩;change eM E _ _ _ _ _ ((my _).bind _)at e;refine t _ _ _ _ _ _ _ _ (I.grow i) (e.bind.imp fun k F2 H2 f s y G=>(A _ _ _ _ _ _ _ _ ((I.grow i).grow f) (s.bind.imp fun Z F3 H3 c b z n=>?_)));cases q:rA k with|none=>rw[q]at b;exact b.elim|some u=>rw[q]at b;obtain⟨p',o,J,g,M,C⟩:=Mi ((j.mono f.ff f.hh).mono c.ff c.hh);cases J;cases Fm q G;refine⟨o,g,b _ _ (.refl c.fh) _ ?_⟩;cases w:gT _ l _ with|none=>rw[C w];simpa[w,Option.getD_none]using n|some U=>obtain⟨v,rfl,r⟩:=M _ w;simpa[w]using r
 |_=>exact e.elim
end
end PM
namespace L2
section
variable{X:Cx}
def FU(c:TA):TE:=fun d H Q=>c d H fun b a=>∃j:Int,b=[.int j]/\∀r,a r=none->Q (.ref r) (upd a r (.l' 0 j))
def CA(l:Gl X "range")(f:X.mg "range"=none)(m:PA X [a] g)(k:autoParam (starEach [a] X.env=[(false,eval a X.env)]) zak):PE X (.Call (.Name "range" p) [a] [] pos) (FU g):=by intro c s v H Q I h;refine Call_ (nV I l f boot_range (ew (bK (m _ _ s _ H _ I h) fun r w ⟨_,_,d,n,i⟩=>?_) k rfl));obtain⟨j,e,q⟩:=i;subst e;obtain⟨u,rfl,t,rfl⟩:=kW n;refine call_range_1 ⟨.ref _,_,?_,rfl,q _ (d.bB.fresh (aC _))⟩;exact d.laid (fun b o e=>aO _ e) (aC _) ⟨_,_,_,b7 _ rfl⟩
def MY:List V->Hp->VK->Prop:=fun a H Q=>∃(r:Addr)(j:Int),a=[.ref r]/\H r=some (.l' 0 j)/\(0<=j/\j<=100000)/\∀l,H l=none->Q (.ref l) (upd H l (.lst ((List.range j.toNat).map fun k:Nat=>.int (k:Int))))
def FV(E:X.calm=true):lD X (.type "list") MY:=by
 rintro h s L H R S Q I r ⟨Z,j,rfl,w,hj,q⟩;obtain⟨u,rfl,D⟩:=kW r;cases D;obtain⟨J,M,T,e⟩:=I.bB _ _ w;have C:Builtin.Range.rangeSize 0 j 1=j.toNat:=by rw[lR];lia
 refine call_list_range (I.ok.hd E) e (small_one (by decide) (by decide) (by lia) (by lia)) C (by lia) fun N U x c' A Y a=>(⟨.ref _,_,?_,rfl,q _ (I.bB.fresh (aC _))⟩);obtain⟨O,B⟩:=a;refine I.laid A (aC _) ⟨by rw[aF,qh];exact bo (show j.toNat<=100000 by lia) (by decide),_,_,?_,by omega⟩;have c:∀(n:Nat)(l:List _)(o:Nat),l.length=n->(∀k v,l[k]?=some v->∃t,v=Value.int (o+k:Nat) t)->Vals ((List.range' o n).map fun k:Nat=>V.int k) l:=by intro n;induction n with|zero=>intro l o b _;rw[lz.mp b];exact .nil|succ n z=>intro l o b p;cases l with|nil=>simp at b|cons v l=>obtain⟨t,rfl⟩:=p 0 v rfl;refine .cons ⟨t,rfl⟩ (z l _ (by simpa using b) fun k v d=>?_);obtain⟨G,f⟩:=p (k+1) v (by simpa using d);exact⟨_,by rw[f];congr 2;lia⟩
 have:=c _ _ 0 (by omega) fun k v d=>let⟨t,f⟩:=B k v (by simpa using d);⟨t,by rw[f];congr 1;simp⟩;rwa[List.range_eq_range']
end
end L2
namespace PM
section
variable{K:Kx}{XO:di}{E:zag->XK}
def pG(l:List D):Option D:=match l with|[.int j]=>cO (0<=j/\j<=100000) (some (.lst ((List.range j.toNat).map fun k:Nat=>.int (k:Int)))) none|_=>none
def uT(ml:En->R (List D))(δ:En):R D:=(ml δ).bind fun l=>R.of (pG l)
def Xd(h:pG l=some d):∃j:Int,l=[.int j]/\(0<=j/\j<=100000)/\d=.lst ((List.range j.toNat).map fun k:Nat=>.int (k:Int)):=by
 unfold pG at h;split at h
 . rename_i j;unfold cO at h;split at h;.cases h;exact⟨j,rfl,by omega,rfl⟩
   simp_all
 simp_all
def Xe(h:SA K XO E s ml):iy K XO E (qs MY (gb (FU s) dB)) (uT ml):=by intro y x z F H C w Q I a;refine h _ _ _ F H _ _ _ I (a.bind.imp fun u p t f c A r=>?_);cases q:pG _ with|none=>rw[q]at c;exact c.elim|some d=>rw[q]at c;obtain⟨j,rfl,o,rfl⟩:=Xd q;obtain⟨v,rfl,n⟩:=ay.one r;subst n;refine⟨j,rfl,fun B g=>⟨_,j,rfl,cu,o,fun l m=>?_⟩⟩;have e:Ext _ _ _ (upd _ _ (.l' 0 j)):=.eY f.fh g;have b:=e.hh.free m;refine c _ _ (e.trans (.eY e.fh m)) l (f.fh.free b) (f.hh.free b) ⟨_,cu,?_⟩;have:=ay.ints (K:=K) (F:=p) (ns:=(List.range j.toNat).map fun k:Nat=>k);rwa[cg,cg]at this
end
end PM
namespace L2
def Inv.qw(ch:List Addr)(I:Inv X pins σ H s)(d:∀b∈ch,i9 X pins H b)(k:∀b o,b∉ch->s.heap.get? b=some o->h'.get? b=some o):Inv X pins σ H {s with heap:=h',toks:=t'}:=by
 have g:∀b u,H b=some u->b∉ch:=fun b u e z=>by obtain⟨i,_⟩:=d b z;simp_all
 refine I.step (fun b l=>?_) (fun b o _ _ a e _=>k b o a e) (fun b o _ _ a e _=>⟨_,k b o a e⟩) (fun _ _ _ _ n=>n) (fun b o a e=>⟨o,k b o a e⟩) (fun _ _ e=>e) (fun _ _ _ e=>e) (fun b w e=>⟨#[],by simp_all⟩) (fun m j=>?_) (fun b u e=>?_) I.bare;.obtain⟨i,h,t,B,x,A⟩:=d b l;lia
 .obtain⟨o,y,p,f,r⟩:=j;refine⟨o,_,_,k _ o (fun z=>?_) f,r⟩;obtain⟨_,h,_⟩:=d _ z;simp_all
 .refine(I.bB b u e).hZ (fun c v a q=>k c v ?_ q) (fun _ q=>q) fun _ _ q=>q;grind
def Inv.sx(ch:List Addr)(I:Inv X pins σ H s)(h:∀b∈ch,i9 X pins H b)(k:∀b o,b∉ch->s.heap.get? b=some o->h'.get? b=some o)(x:xs.length<=sizeLine)(t:Vals xs us)(y:h'.get? s.heap.objs.size=some {cls:=.type "tuple",data:=.seq us.toArray}):Inv X pins σ (upd H s.heap.objs.size (.tup xs)) {s with heap:=h',toks:=t'}:=by
 have d:=I.bB.fresh (aC _);have B:∀b u,H b=some u->b∉ch:=fun b u e z=>by obtain⟨j,_⟩:=h b z;simp_all
 refine I.step (fun b a=>?_) (fun b o _ _ a q _=>k b o a q) (fun b o _ _ a q _=>⟨_,k b o a q⟩) (fun b o a q n=>?_) (fun b o a q=>⟨o,k b o a q⟩) (fun b i q=>?_) (fun b o i q=>?_) (fun b J q=>⟨#[],?_⟩) (fun m A=>?_) ?_ I.bare;.obtain⟨j,l,G,E,D,C⟩:=h b a;grind
 .rwa[bz (aY (aI q))]
 .rwa[bz (d9 q d)]
 .rwa[bz (d9 q d)]
 .rw[bz (d9 q d),q];simp
 .obtain⟨o,w,L,g,r⟩:=A;refine⟨o,_,_,k _ o (fun z=>?_) g,r⟩;obtain⟨_,l,_⟩:=h _ z;simp_all
 . intro b o q;by_cases a:b=s.heap.objs.size;.subst a;rw[cu]at q;cases q;exact⟨x,_,t,⟨_,y,rfl,_,rfl⟩⟩
   . rw[bz a]at q;refine(I.bB b o q).hZ (fun c v p f=>?_) (fun c f=>by rwa[bz (d9 f d)]) fun c i f=>by rwa[bz (d9 f d)]
     (first|rfl|omega|simp|simp_all|grind)
def MZ{z zah TO i1 i2 a b:Addr}(hd:[z,zah,TO,i1,i2].Nodup)(h1:IsZip h z zah TO f0)(h3:IsPair h TO u v)(m:h.IsListIter i1 a k1)(t:h.IsListIter i2 b k2)(p:PlainL h a xs)(D:PlainL h b ys):ZipApart z zah TO i1 i2 a b:=by
 obtain⟨o,n,e,c,_⟩:=p;obtain⟨M,O,f,d,_⟩:=D;obtain⟨I,Q,J,_⟩:=m;obtain⟨H,N,L,_⟩:=t;simp only[dQ,aM,dw,fy,List.nodup_nil,and_true,not_false_eq_true]at hd;obtain⟨⟨y,G,A,x⟩,⟨E,s,B⟩,⟨C,w⟩,q⟩:=hd;have g:∀{o:Obj}{l:Addr},h.get? l=some o->o.cls=.type "list"->l≠z:=fun e c r=>by grind
 have i:∀{o:Obj}{l:Addr},h.get? l=some o->o.cls=.type "list"->l≠TO:=fun e c r=>by grind
 have k:∀{o:Obj}{l:Addr},h.get? l=some o->o.cls=.type "list"->l≠i1:=fun e c r=>by simp_all
 have j:∀{o:Obj}{l:Addr},h.get? l=some o->o.cls=.type "list"->l≠i2:=fun e c r=>by grind
 exact⟨aN y,aN G,aN A,aN x,E,s,B,C,w,q,g e c,i e c,k e c,j e c,g f d,i f d,k f d,j f d⟩
def FW(K:W.Frag)(a b:Addr):It:=⟨fun i H=>∃c d x y,eE K H a c/\eE K H b d/\c[i]?=some x/\d[i]?=some y,fun i H v e=>∃p x y,v=.ref p/\H p=none/\e=upd H p (.tup [x,y])/\(∀c,eE K H a c->c[i]?=some x)/\∀d,eE K H b d->d[i]?=some y,fun i H=>∃c d,eE K H a c/\eE K H b d/\(c.length<=i\/d.length<=i)⟩
def Xf{K:W.Frag}(a b z zah TO i1 i2:Addr)(hd:[z,zah,TO,i1,i2].Nodup):Turn P w K (.Tuple es k pos) (FW K a b) [z,zah,TO,i1,i2] z (fun i h=>IsZip h z zah TO .none/\IsPair h zah (.ref i1) (.ref i2)/\(∃u v,IsPair h TO u v)/\h.IsListIter i1 a i/\h.IsListIter i2 b i)where
 mem:=by simp
 obj:=fun i h st c d=>by
  obtain⟨l,t,⟨u,v,m⟩,⟨o1,n,c1,d1⟩,o2,r,c2,d2⟩:=st;simp only[aM,dw,eB]at d;rcases d with rfl|rfl|rfl|rfl|rfl;.exact⟨_,l,fun v z=>by cases(show Data.fields _=Data.cell v from z)⟩
  .exact⟨_,t,fun v z=>by cases(show Data.seq _=Data.cell v from z)⟩
  .exact⟨_,m,fun v z=>by cases(show Data.seq _=Data.cell v from z)⟩
  .exact⟨o1,n,fun v z=>by grind⟩
  .exact⟨o2,r,fun v z=>by grind⟩
 keep:=fun i h Z st q=>by obtain⟨l,t,⟨u,v,m⟩,n,r⟩:=st;exact⟨q z (by simp) _ l,q zah (by simp) _ t,⟨u,v,q TO (by simp) _ m⟩,n.at fun o e=>q i1 (by simp) o e,r.at fun o e=>q i2 (by simp) o e⟩
 item:=by
  intro X T Y hK d i G s σ H E I N st hg;subst T Y hK;obtain⟨xs,ys,x,y,O,Q,hx,hy⟩:=hg;obtain⟨its,rv,p,hz⟩:=I.list O;obtain⟨M,A,L,Xg⟩:=I.list Q;obtain⟨u,hu,ru⟩:=rv.get hx;obtain⟨u',U,FX⟩:=A.get hy;obtain⟨l,t,⟨f,g,m⟩,n,r⟩:=st;have D:=MZ hd l m n r p L;have hT:H s.heap.objs.size=none:=I.bB.fresh (aC _);have B:∀c o,s.heap.get? c=some o->c≠s.heap.objs.size:=fun c o e=>aY (aI e);refine wpAny_pyNext_zip_item D l t m n r p.isList L.isList (x:=u) (y:=u') (by simp_all) (by simpa using U) fun Z a1 a2 a3 a4 a5 a6 R=>⟨_,rfl,?_⟩;refine wpAny_letOwnedTupleGo_zip a1 fun C b1 J=>?_;have j:Heap.SameBut z Z C:=J;have Xh:=B z _ l;have S:∀c o,c∉[z,zah,TO,i1,i2]->s.heap.get? c=some o->C.get? c=some o:=fun c o d q=>by simp only[aM,dw,eB,fy]at d;exact(j.2 c d.1).trans (R c o d.1 d.2.2.1 d.2.2.2.1 d.2.2.2.2 q)
  refine⟨.ref s.heap.objs.size,upd H s.heap.objs.size (.tup [x,y]),?_,rfl,⟨_,x,y,rfl,hT,rfl,fun Xi h=>by rw[I.fP h O];exact hx,fun x_ h=>by rw[I.fP h Q];exact hy⟩,⟨b1,(j.2 _ D.TIz).trans (R _ _ D.TIz D.TITO D.TIi1 D.TIi2 t),⟨u,u',(j.2 _ D.TOz).trans a2⟩,a3.at fun o e=>(j.2 _ D.i1z).trans e,a4.at fun o e=>(j.2 _ D.i2z).trans e⟩,fun c d=>?_⟩;.exact I.sx (t':=s.toks) [z,zah,TO,i1,i2] N S (by show 2<=sizeLine;decide) (.cons ru (.cons FX .nil)) ((j.2 _ (aN Xh)).trans a5)
  . obtain⟨f0,_⟩:=N c d;rw[bz];.exact f0
    . obtain⟨o1,e4,_⟩:=n;obtain⟨o2,e5,_⟩:=r;simp only[aM,dw,eB]at d;rcases d with rfl|rfl|rfl|rfl|rfl;.exact B _ _ l
      .exact B _ _ t
      .exact B _ _ m
      .exact B _ _ e4
      .exact B _ _ e5
 done:=by intro X T Y hK d i G s σ H E I N st hg;subst T Y hK;obtain⟨xs,ys,O,Q,he⟩:=hg;obtain⟨its,rv,p,hz⟩:=I.list O;obtain⟨M,A,L,Xg⟩:=I.list Q;obtain⟨l,t,⟨f,g,m⟩,n,r⟩:=st;have D:=MZ hd l m n r p L;have l1:=rv.length;have l2:=A.length;refine wpAny_pyNext_zip_end (I.ok.hd d) D l t m n r p.isList L.isList (he.imp (fun z=>by simp;lia) fun z=>by simp;lia) fun Z R=>⟨rfl,?_⟩;exact I.qw (t':=s.toks) [z,zah,TO,i1,i2] N fun c o d q=>by simp only[aM,dw,eB,fy]at d;exact R c o d.1 d.2.2.1 d.2.2.2.1 d.2.2.2.2 q
 self:=fun _ _ _ _ _ st h=>l8 st.1 h
section
variable{X:Cx}
def AI(K:W.Frag)(e:TA):zah:=fun g H R=>e g H fun d c=>∃a b,d=[.ref a,.ref b]/\(∃h,eE K c a h)/\(∃f,eE K c b f)/\R (FW K a b) c
def Xj(hg:Gl X "zip")(M:X.mg "zip"=none)(ha:PA X [l,g] ta)(L:autoParam (starEach [l,g] X.env=(false,eval l X.env)::starEach [g] X.env) zak)(i:autoParam ((backTo pos (starEach [g] X.env)).any (·.1)=false) zak):PI X (.Tuple es k tp) (.Call (.Name "zip" p) [l,g] [] pos) (AI X.K ta):=by
 intro B s σ H R I h;refine Call_ (nV I hg M PyProof.Rows.boot_zip (ew (bK (ha _ _ s _ H _ I h) fun us n ⟨_,_,f,S,q1⟩=>?_) L i));obtain⟨a,b,e,⟨xs,T⟩,⟨ys,j⟩,q⟩:=q1;subst e;obtain⟨u,v,rfl,J,N⟩:=xY S;cases J;cases N;obtain⟨D,rv,G,hz⟩:=f.list T;obtain⟨z,Q,o,U⟩:=f.list j;refine call_zip_2 G.isList o.isList fun Y t C A w x E hk=>?_;have O:Inv X _ _ _ {n with heap:=Y}:=f.kept hk;obtain⟨m,Z⟩:=zaa n.heap.objs.size;have r:[m+4,m+2,m+3,m,m+1].Nodup:=by simp
 rw[<-Z]at t C A w x⊢;refine l8 t ⟨_,_,_,_,_,rfl,O,Xf a b _ _ _ _ _ r,⟨t,C,⟨_,_,A⟩,w,x⟩,fun d y=>?_,q⟩;have c:n.heap.objs.size<=d:=by simp[aM,dw,eB]at y;rcases y with rfl|rfl|rfl|rfl|rfl<;>lia
 exact f.ki c (f.bB.fresh c)
end
end L2
namespace PM
section
variable{K:Kx}{XO:di}{E:zag->XK}
noncomputable def kZ(l r:List D):List D:=List.zipWith (fun x y=>.tup [x,y]) l r
def uU:List D->Option (List D)|[x,y]=>(mG x).bind fun l=>(mG y).map (kZ l)|_=>none
def xj(ml:En->R (List D))(δ:En):R (List D):=(ml δ).bind fun l=>R.of (uU l)
def Xk(h:uU l=some r):∃x y,l=[.lst x,.lst y]/\r=kZ x y:=by match l,h with|[x,y],h=>cases x with
 |lst x=>cases y with|lst y=>cases h;grind|_=>cases h
 |_=>cases h
def Xl(r:ay K C ds vs)(t:ay K C es ws)(h:∀f c,P f c->av C f/\av f c/\eE K.f c a vs/\eE K.f c b ws):kY K (FW K.f a b) P (kZ ds es):=by
 intro f c p i;obtain⟨H,o,q,g⟩:=h _ c p;unfold kZ;rw[List.getElem?_zipWith];refine⟨fun d n=>?_,fun s=>?_⟩;.cases e:ds[i]? with|none=>simp_all|some x=>cases j:es[i]? with|none=>simp_all|some y=>rw[e,j]at n;cases n;obtain⟨v,B,G⟩:=r.get e;obtain⟨w,A,k⟩:=t.get j;refine⟨⟨_,_,v,w,q,g,B,A⟩,fun Q M y=>?_⟩;obtain⟨N,L,S,rfl,l,rfl,J,I⟩:=y;have z:=J _ q;rw[B]at z;cases z;have z:=I _ g;rw[A]at z;cases z;refine⟨_,.new o l,?_⟩;have m:=H.trans (av.upd (u:=.tup [v,w]) (o.free l));exact⟨_,_,rfl,cu,.cons (Rep.mono m _ G) (.cons (Rep.mono m _ k) .nil)⟩
 .cases e:ds[i]? with|none=>exact⟨_,_,q,g,.inl (by rw[r.length];exact fJ.mp e)⟩|some x=>cases j:es[i]? with|none=>exact⟨_,_,q,g,.inr (by rw[t.length];simp_all)⟩|some y=>rw[e,j]at s;cases s
def M0(h:SA K XO E k ml):SI K XO E (AI K.f k) (xj ml):=by intro t y J F H B o R I a;refine h _ _ _ F H _ _ _ I (a.bind.imp fun C A u c d j r=>?_);cases q:uU _ with|none=>rw[q]at d;exact d.elim|some z=>obtain⟨l,s,rfl,rfl⟩:=Xk q;obtain⟨v,w,rfl,m,g⟩:=ay.two r;obtain⟨a,j,rfl,e,n⟩:=m;obtain⟨b,p,rfl,f,i⟩:=g;exact⟨a,b,rfl,⟨_,.inl (PM.av.mT c.fh e)⟩,⟨_,.inl (PM.av.mT c.fh f)⟩,d _ _ (.refl c.fh) _ (Xl n i fun L G x=>⟨x.1,x.2,.inl (PM.av.rd x.2 (PM.av.mT x.1 e)),.inl (PM.av.rd x.2 (PM.av.mT x.1 f))⟩)⟩
end
end PM
namespace PM
noncomputable def iM:List Int->Int->Int|[],m=>m|a::l,m=>iM l (if a<m then a else m)
end PM
namespace L2
theorem jL:∀(l:List Int)(m:Int),PM.iM l m<=m/\(∀a∈l,PM.iM l m<=a)/\(PM.iM l m=m\/PM.iM l m∈l)
 |[],m=>⟨gW _,fun _ h=>(by cases h),.inl rfl⟩|a::l,m=>by
  obtain⟨i,g,d⟩:=jL l (if a<m then a else m);unfold PM.iM;have e:(if a<m then a else m)=a/\a<m\/(if a<m then a else m)=m/\¬a<m:=by lia
  refine⟨by lia,fun b f=>?_,?_⟩
  . rcases aM.mp f with rfl|f;.lia
    simp_all
  . rcases d with d|d
    . rcases e with⟨e,_⟩|⟨e,_⟩;.exact .inr (by simp_all)
      lia
    .exact .inr (bx _ d)
section
variable{X:Cx}
def FY(f:List Int->Int->Int):List V->Hp->VK->Prop:=fun a H Q=>∃(p:Addr)(n:Int)(l:List Int),a=[.ref p]/\Rd H p (.lst ((n::l).map V.int))/\Q (.int (f l n)) H
def M1{ns:List Int}(d:Vals (ns.map V.int) its):∃ts:List Tok,its.toArray=intItems (ns.zip ts).toArray/\(ns.zip ts).toArray.size=ns.length/\∀j,numAt (ns.zip ts).toArray j=ns.getD j 0:=by
 obtain⟨ts,rfl,f⟩:∃ts:List _,its=(ns.zip ts).map (fun p=>Value.int p.1 p.2)/\ts.length=ns.length:=by induction ns generalizing its with|nil=>cases d;simp|cons a l k=>cases d with|cons h t=>obtain⟨e,rfl⟩:=h;obtain⟨ts,rfl,g⟩:=k t;exact⟨e::ts,rfl,by simp[g]⟩
 refine⟨ts,by simp[intItems],by simp_all,fun j=>?_⟩;rw[numAt_eq];have:(ns.zip ts).map _=ns:=nz (by omega);rw[this]
def Xm{f:Nat->Int}(a:∀j,f j=(m::l).getD j 0):f (argBest (fun i j=>decide (f i>f j)) ((m::l).length-1))=PM.dn l m:=by
 obtain⟨q,o⟩:=argBest_gt f _;obtain⟨p,d,e⟩:=fZ l m;generalize argBest _ _=j at*;have k:j<(m::l).length:=by have:(m::l).length=l.length+1:=rfl;lia
 have b:(m::l).getD j 0∈m::l:=by rw[cz,b8 k];simp
 rw[<-a j]at b;refine p6 ?_ ?_
 . rcases aM.mp b with z|z;.simp_all
   .exact d _ z
 .have h:PM.dn l m∈m::l:=e.elim (fun z=>by rw[z];simp) fun z=>bx _ z;obtain⟨i,g,n⟩:=ly h;have:=o i (by(first|rfl|lia|simp|simp_all|grind));rwa[a i,cz,b8 g,n]at this
def Xn{f:Nat->Int}(a:∀j,f j=(m::l).getD j 0):f (argBest (fun i j=>decide (f i<f j)) ((m::l).length-1))=PM.iM l m:=by
 obtain⟨q,o⟩:=argBest_lt f _;obtain⟨p,d,e⟩:=jL l m;generalize argBest _ _=j at*;have k:j<(m::l).length:=by have:(m::l).length=l.length+1:=rfl;lia
 have b:(m::l).getD j 0∈m::l:=by rw[cz,b8 k];simp
 rw[<-a j]at b;refine p6 ?_ ?_;.have h:PM.iM l m∈m::l:=e.elim (fun z=>by grind) fun z=>bx _ z;obtain⟨i,g,n⟩:=ly h;have:=o i (by lia);rwa[a i,cz,b8 g,n]at this
 . rcases aM.mp b with z|z;.lia
   .exact d _ z
def CB(h:X.calm=true):lD X (.builtin "max") (FY PM.dn):=by rintro a s A H C x Q I r ⟨p,m,l,rfl,k,q⟩;obtain⟨u,rfl,o⟩:=kW r;cases o;obtain⟨z,i,n,c,e⟩:=k.ok I.bB;obtain⟨B,d,b,f⟩:=M1 c;rw[d]at e;refine max_intList (I.ok.hd h) ⟨_,e,rfl,n,rfl⟩ (by simp_all) fun v w y g j=>?_;obtain⟨t,rfl⟩:=intItems_at g;refine⟨.int _,H,I.kept j,⟨t,?_⟩,q⟩;congr 1;rw[b];exact Xm f
def M3(h:X.calm=true):lD X (.builtin "min") (FY PM.iM):=by rintro a s A H C x Q I r ⟨p,m,l,rfl,k,q⟩;obtain⟨u,rfl,o⟩:=kW r;cases o;obtain⟨z,i,n,c,e⟩:=k.ok I.bB;obtain⟨B,d,b,f⟩:=M1 c;rw[d]at e;refine min_intList (I.ok.hd h) ⟨_,e,rfl,n,rfl⟩ (by grind) fun v w y g j=>?_;obtain⟨t,rfl⟩:=intItems_at g;refine⟨.int _,H,I.kept j,⟨t,?_⟩,q⟩;congr 1;rw[b];exact Xn f
end
end L2
namespace PM
section
variable{K:Kx}
noncomputable def yq:List D->Option D|[.int i,.int j]=>some (.int (if j>i then j else i))|_=>none
noncomputable def vV:List D->Option D|[.int i,.int j]=>some (.int (if j<i then j else i))|_=>none
def qU(f:List Int->Int->Int):List D->Option D|[.lst (.int a::l)]=>(de l).map fun b=>.int (f b a)|_=>none
def M4:SC K (fun xs H Q=>∃i j,xs=[.int i,.int j]/\Q (.int (if j>i then j else i)) H) yq:=by
 intro F H h g d Q s r e q;unfold yq at e;split at e;.rename_i i j;cases e;cases r with|cons r f=>cases f with|cons b c=>cases c;subst r b;exact⟨i,j,rfl,q _ F H (.refl s) rfl⟩
 simp_all
def M5:SC K (fun xs H Q=>∃i j,xs=[.int i,.int j]/\Q (.int (if j<i then j else i)) H) vV:=by
 intro F H h g d Q s r e q;unfold vV at e;split at e;.rename_i i j;cases e;cases r with|cons r f=>cases f with|cons b c=>cases c;subst r b;exact⟨i,j,rfl,q _ F H (.refl s) rfl⟩
 simp_all
def Xo(h:qU f ds=some d):∃(n:Int)(l:List Int),ds=[.lst ((n::l).map .int)]/\d=.int (f l n):=by
 unfold qU at h;split at h;.rename_i a l;cases z:de l with|none=>simp_all|some b=>rw[z]at h;cases h;exact⟨a,_,by rw[rC z];rfl,rfl⟩
 simp_all
def AJ:SC K (FY f) (qU f):=by intro F H m j d Q s r e q;obtain⟨n,l,rfl,rfl⟩:=Xo e;cases r with|cons r g=>cases g;obtain⟨a,k,rfl,h,i⟩:=r;have c:=qT i;subst c;exact⟨a,n,l,rfl,h,q _ F H (.refl s) rfl⟩
end
end PM
namespace L2
section
variable{X:Cx}
def M6:List V->Hp->VK->Prop:=fun d H Q=>∃(p:Addr)(c:List Int),d=[.ref p]/\Rd H p (.lst (c.map V.int))/\c.length<64/\∀a,H a=none->Q (.ref a) (upd H a (.lst ((c.mergeSort (fun a b=>decide (a<=b))).map V.int)))
def CC(c:Vals (ns.map V.int) its):IntsAre its ns:=by induction ns generalizing its with|nil=>cases c;exact .nil|cons a l d=>cases c with|cons h t=>obtain⟨f,rfl⟩:=h;exact .cons _ _ (d t)
def M7(b:IntsAre its ns):Vals (ns.map V.int) its:=by induction b with|nil=>exact .nil|cons _ _ _ d=>exact .cons ⟨_,rfl⟩ d
def Xp{ns d:List Int}(g:d.Perm ns)(j:d.Pairwise (.<=.)):d=ns.mergeSort fun a b=>decide (a<=b):=by
 have f:(ns.mergeSort fun a b=>decide (a<=b)).Pairwise (.<=.):=by have:=oj (le:=fun a b=>decide (a<=b)) (fun a b c f e=>by grind) (fun a b=>by grind) ns;simp_all
 have e:d.Perm (ns.mergeSort fun a b=>decide (a<=b)):=g.trans (oh ..).symm;exact rP (fun a b _ _ i h=>p6 i h) j f e
def Xq:lD X (.builtin "sorted") M6:=by intro d s x H y D Q I r h;obtain⟨p,A,rfl,v,w,q⟩:=h;obtain⟨u,rfl,j⟩:=kW r;cases j;obtain⟨z,m,n,f,e⟩:=v.ok I.bB;have a:=f.length;rw[aF]at a;refine sorted_ints ⟨_,e,rfl,n,rfl⟩ (CC f) (by lia) fun k B g l t=>?_;obtain⟨c,C⟩:=sortedAll_at _ _ _;rw[Xp l t]at g;refine⟨.ref _,_,?_,rfl,q _ (I.bB.fresh (fV _))⟩;refine I.laid (fun b o i=>sortedAll_old i) (fV _) ⟨?_,_,c,M7 g,by omega⟩;simp_all
end
end L2
namespace PM
section
variable{K:Kx}{XO:di}{E:zag->XK}{te:TE}{me:En->R D}
def xk:List D->Option D|[.lst l]=>(de l).bind fun c=>cO (c.length<64) (some (.lst ((c.mergeSort fun a b=>decide (a<=b)).map .int))) none|_=>none
def Xr(h:xk ds=some d):∃ns:List Int,ds=[.lst (ns.map .int)]/\ns.length<64/\d=.lst ((ns.mergeSort fun a b=>decide (a<=b)).map .int):=by
 unfold xk at h;split at h;.rename_i l;cases z:de l with|none=>simp_all|some ns=>
  rw[z]at h;simp[Option.bind]at h;unfold cO at h;split at h;.rename_i c;cases h;exact⟨_,by rw[rC z],c,rfl⟩
  simp_all
 simp_all
theorem M8:∀ns:List Int,ay K F (ns.map .int) (ns.map V.int)|[]=>.nil|n::ns=>.cons rfl (M8 _)
def M9:FE K M6 xk:=by intro F H k n d Q s r e q;obtain⟨l,rfl,j,rfl⟩:=Xr e;cases r with|cons r g=>cases g;obtain⟨a,m,rfl,h,i⟩:=r;have f:=qT i;subst f;exact⟨a,_,rfl,h,j,fun p b=>q p F _ (.eY s b) (s.free b) b ⟨_,cu,M8 _⟩⟩
theorem ay.eraseIdx {F:Hp}:∀{l:List D}{vs:List V}(k:Nat),ay K F l vs->ay K F (l.eraseIdx k) (vs.eraseIdx k)
 |[],vs,k,h=>by
  subst h
  rfl|d::l,vs,k,h=>by
  obtain⟨v,r,rfl,h1,h2⟩:=h
  cases k with|zero=>exact h2|succ k=>exact .cons h1 (ay.eraseIdx k h2)
theorem ay.dropLast(h:ay K F l vs):ay K F l.dropLast vs.dropLast:=by rw[List.dropLast_eq_take,List.dropLast_eq_take,h.length];exact h.take _
def AK(i:Nat)(b:D->En->Option En)(δ:En):O:=match δ[i]? with|some (.o (.lst l))=>(match l[l.length-1]? with|some d=>O.of (b d (δ.set i (.o (.lst l.dropLast))))|none=>.no)|_=>.no
def Xs(n:SG K g b):SS K XO E (kh (z9 K.f "list" Aa (dh i)) g) (AK i b):=by
 intro A s t F H y r x I a;unfold AK at a;split at a;.rename_i l q;obtain⟨p,f,w,h,c⟩:=I.own q;cases e:l[l.length-1]? with|none=>simp[e]at a;exact a.elim|some d=>simp[e]at a;obtain⟨v,u,k⟩:=c.get e;refine⟨_,f,.inl ⟨rfl,_,.inl (.inl h)⟩,p,_,v,rfl,rfl,h,by rwa[c.length],?_⟩;cases z:b d _ with|none=>rw[z]at a;exact a.elim|some o=>rw[z]at a;exact n _ _ _ F _ _ _ d v _ _ (I.chg (d':=.lst _) q f ⟨_,cu,c.dropLast⟩) k z fun m j=>a _ F _ j
 .exact a.elim
def Xt {k n:Nat}(h:k<n):seqIndex? (k:Int) n=some k:=by
 unfold seqIndex?
 have e:¬(k:Int)<0:=by lia
 simp[e]
 simp_all
def AL(j i:Nat)(me:En->R D)(δ:En):O:=match δ[j]?,δ[i]? with
 |some (.o (.lst r)),some (.o (.lst l))=>if i=j then .no else(me δ).il δ fun k=>match k with|.int (.ofNat k)=>(match l[k]? with|some d=>if k<2^63/\r.length<100000 then .nx ((δ.set i (.o (.lst (l.eraseIdx k)))).set j (.o (.lst (r++[d]))))else .no|none=>.no)|_=>.no
 |_,_=>.no
def M_{j i:Nat}(h:SE K XO E te me):SS K XO E (xT (x4 K.f "list" BY (dh j) (gb (x4 K.f "list" Lw (dh i) (gb te dB)) dB))) (AL j i me):=by
 intro Y N T F H Z X Dn I a;unfold AL at a;split at a
 . rename_i r l U B;split at a;.exact a.elim
   . obtain⟨S,x,ws,L,t3⟩:=I.own U;obtain⟨p,u,vs,G,s⟩:=I.own B;refine⟨_,x,.inl ⟨rfl,_,.inl (.inl L)⟩,?_⟩;refine⟨_,u,.inl ⟨rfl,_,.inl (.inl G)⟩,(h _ N T F H _ _ _ I ((cM.of I a).imp fun d F1 H1 e c v Q=>?_))⟩;split at c;.rename_i k;subst Q;cases z:l[k]? with|none=>simp[z]at c;exact c.elim|some y=>
      simp[z]at c;split at c
      . have n:=(bV.mp z).1;obtain⟨w,J,m⟩:=(s.mono e.ff).get z;have C:=(I.grow e).chg (d':=.lst _) B u ⟨_,cu,(s.mono e.ff).eraseIdx k⟩;have b:(X.set i (.o (.lst (l.eraseIdx k))))[j]?=some (.o (.lst r)):=by simp_all
        obtain⟨g,f,q,M,A⟩:=C.own b;have t:g=S:=by rw[x]at f;cases f;rfl
        subst t;refine⟨p,_,(k),k,w,rfl,rfl,e.hh _ _ G,by lia,by lia,Xt (by rw[s.length];exact n),J,?_⟩;exact⟨_,q,w,rfl,rfl,M,by rw[A.length];exact FG (by lia),c _ _ _ (C.chg b f ⟨_,cu,A.append (.cons m .nil)⟩)⟩
      .exact c.elim
     .exact c.elim
 .exact a.elim
end
end PM
namespace L2
section
variable{X:Cx}
end
end L2
namespace PM
section
variable{K:Kx}{XO:di}{E:zag->XK}{tl te:TE}{ml me:En->R D}
end
end PM
namespace L2
open Sem (wp)
section
variable{P:Program}{w:World}{B:Around}{Er:Value->Shared->Prop}{hp:Heap}{gs:Array GenState}{dr:Drawn}{tk:Nat}{os:OsState}
variable{nm q:Str}{C N:Addr}{bs bm mR:List Value}{hdct:Bool}{sn:List Str}{sub:List Value}{ab:Bool}{col:Option Bool}{dd:Option Addr}{k0 k1 k2 k3 k5:Option Value}{B0 Bn newId vK gF vL:String}{vJ:List Value}
abbrev sy(a:List Value):Obj:={cls:=.type "tuple",data:=.seq a.toArray}
noncomputable abbrev yr(C t:Addr):Obj:={cls:=.ref C,data:=.fields #[.ref t,.none,.none,.none,.bool false,.none]}
def Xu(m:ExcBaseFacts Bn newId vL vJ)(j:mR.contains (.type Bn)=true)(v:ExcBaseFacts B0 vK gF mR)(a:OwnTail hp mR bm)(f:hp.get? C=some (excClassObj nm q C N bs bm hdct sn sub ab col dd k0 k1 k2 k3 k5 newId))(l:hp.Ns N ns)(p:ns "__init__"=some (.ref y))(u:hp.get? y=some fo)(s:fo.cls=.type "function")(run:∀h' e,Heap.MadeExcOf hp h' e (.ref C) c->wpAny (model P w) B (call (.ref y) (.ref e::c)) (fun r s'=>r=.none/\Q (.done (.ret (.ref e))) s') Er ⟨h',gs,dr,tk,os⟩)(t:c.length<=sizeLine):wpAny (model P w) B (Builtin.«type.__call__» ⟨.ref C::c,[]⟩) Q Er ⟨hp,gs,dr,tk,os⟩:=by
 repeat(first|with_reducible rfl|with_reducible rfl|wp_step)
 refine codeAny_call_builtin_code (rN _ m.quiet) (wpAny_check_new_subU m j a f (codeAny_exc_new_subU m j v a f ?_ t));show wpAny _ _ _ _ _ _;have h:∀b o,hp.get? b=some o->((hp.push (sy c)).push (yr C hp.objs.size)).get? b=some o:=fun b o e=>aO _ (aO _ e);have d:=h _ _ f;have g:((hp.push (sy c)).push (yr C hp.objs.size)).Ns N ns:=let⟨o,D,z,e,r⟩:=l;⟨o,D,z,h _ _ e,r⟩;have k:((hp.push (sy c)).push (yr C hp.objs.size)).get? (hp.objs.size+1)=some (yr C hp.objs.size):=by heap_get
 have n:(Value.ref C::bm).contains (.ref C)=true:=by simp
 unfold isInstance;repeat(first|with_reducible refine wpAny_loadPart_at k ?_|(with_reducible refine wpAny_isSubtype_exc d ?_;rw[n])|wp_step)
 show wpAny _ _ (typeLookup (.ref C) _) _ _ _;refine wpAny_typeLookup_tail d g (a.keeps (h':=(hp.push (sy c)).push (yr C hp.objs.size)) h) v.mroIs v.init.lookup ?_;rw[p];refine dV (ah ?_);unfold bindSpecial;refine ah (wpAny_typeOf (T:="function") ⟨_,h _ _ u,s⟩ ?_);have i:Heap.MadeExcOf hp ((hp.push (sy c)).push (yr C hp.objs.size)) (hp.objs.size+1) (.ref C) c:=⟨h,k9 (fV _),hp.objs.size,k,k9 (aC _),aO _ (Heap.get?_push_at rfl rfl)⟩;refine ax (ah (dz (run _ _ i) (fun r s' E=>?_) fun _ _ x=>x));obtain⟨rfl,A⟩:=E;wp_walk;exact A
def Xv(n:ExcBaseFacts Bn newId vL vJ)(i:mR.contains (.type Bn)=true)(l:ExcBaseFacts B0 vK gF mR)(b:OwnTail hp mR bm)(a:hp.get? C=some (excClassObj nm q C N bs bm hdct sn sub ab col dd k0 k1 k2 k3 k5 newId))(d:hp.Ns N ns)(g:ns "__init__"=some (.ref k))(j:hp.get? k=some fo)(f:fo.cls=.type "function")(run:∀h' e,Heap.MadeExcOf hp h' e (.ref C) c->wpAny (model P w) (B.under (.builtin "type.__call__" ⟨.ref C::c,[]⟩)) (call (.ref k) (.ref e::c)) (fun r s'=>r=.none/\Q (.ref e) s') Er ⟨h',gs,dr,tk,os⟩)(h:c.length<=sizeLine):wpAny (model P w) B (call (.ref C) c) Q Er ⟨hp,gs,dr,tk,os⟩:=by
 have p:=tc_lookup;have o:=tc_bind (.ref C);refine gu (codeAny_of_tree ?_);repeat(any_goals(first|rfl|with_reducible rfl|wp_step))
 exact⟨rfl,codeAny_call_builtin_at (rN _ (by simp)) entry_typeCall (wpAny_check_type_call_sub a (Xu n i l b a d g j f (fun h' e m=>run _ e m) h))⟩
end
end L2
namespace L2
section
variable{P:Program}{w:World}{B:Around}{Er:Value->Shared->Prop}{s:Shared}{X:Cx}
end
end L2
namespace PM
section
variable{K:Kx}{XO:di}{E:zag->XK}
end
end PM
namespace L2
noncomputable def uniq(ns:List Int):List Int:=ns.foldl step_dedup []
section
variable{X:Cx}
def M':List V->Hp->VK->Prop:=fun c H Q=>∃(p:Addr)(b:List Int),c=[.ref p]/\Rd H p (.lst (b.map V.int))/\b.length<4000/\∀a,H a=none->Q (.ref a) (upd H a (.set (fun k=>(uniq b).any (.==k)) (uniq b).length))
def Na(ns:List Int):firstMet (fun i=>ns.getD i 0) ns.length=uniq ns:=by unfold firstMet uniq;congr 1;refine jS (by simp) fun i a b=>?_;simp_all
def FZ(l:X.calm=true):lD X (.type "set") M':=by
 intro d s C H B A Q I r h;obtain⟨p,m,rfl,j,w,q⟩:=h;obtain⟨u,rfl,k⟩:=kW r;cases k;obtain⟨z,c,n,g,e⟩:=j.ok I.bB;have t:=g.length;have a:c.toArray.size=m.length:=by simp_all
 refine PySem.call_set_list (I.ok.hd l) ⟨_,e,rfl,n,rfl⟩ (by simpa using CC g) (by unfold scanBound;lia) fun x y f v=>?_;rw[a,Na]at f;refine⟨.ref _,_,?_,rfl,q _ (I.bB.fresh (aC _))⟩;exact I.laid (fun b o i=>v b o (aI i) i) (aC _) f
def Nb:zQ X (qM X.K):=by
 rintro f s L H x y v u Q I h l ⟨p,D,i,z,rfl,rfl,n,A,q⟩;cases h;obtain⟨t,rfl⟩:=l;obtain⟨b,r,c,B⟩:=I.list n;obtain⟨j,e,g,G,m,k⟩:=EB A;obtain⟨w,C,a⟩:=r.get g;have E:=r.length;have J:=zW;by_cases d:0<=i
 . have o:i.toNat=j:=by rw[seqIndex_of d k]at e;simp_all
   exact wpAny_getItem_list c.isList d (by lia) (by simp_all) ⟨z,H,I,a,q⟩
 . have o:(i+b.toArray.size).toNat=j:=by rw[lU (by lia) m]at e;rw[cV];simp_all
   exact wpAny_getItem_list_neg c.isList (by lia) (by simp_all) (by lia) (by simp_all) ⟨z,H,I,a,q⟩
def F6:List V->Hp->VK->Prop:=fun a H Q=>∃(p:Addr)(S:Int->Bool)(n:Nat),a=[.ref p]/\H p=some (.set S n)/\Q (.int n) H
def AM:lD X (.builtin "len") F6:=by rintro b s v H l k Q I r ⟨p,S,n,rfl,d,q⟩;obtain⟨u,rfl,h⟩:=kW r;cases h;obtain⟨o,m,j,t,e,a,g,_,_,i,c,f⟩:=I.bB p _ d;exact call_len_set e a g c (by unfold scanBound at i;lia) ⟨.int n,H,I.tok _,⟨_,by rw[f]⟩,q⟩
end
end L2
namespace PM
section
variable{K:Kx}{XO:di}{E:zag->XK}
def sA:List D->Option D|[.lst l]=>(de l).bind fun a=>cO (a.length<4000) (some (.int (uniq a).length)) none|_=>none
def Xw(h:sA ds=some d):∃ns:List Int,ds=[.lst (ns.map .int)]/\ns.length<4000/\d=.int (uniq ns).length:=by
 unfold sA at h;split at h;.rename_i l;cases z:de l with|none=>simp_all|some ns=>
  rw[z]at h;simp[Option.bind]at h;unfold cO at h;split at h;.rename_i a;cases h;exact⟨_,by rw[rC z],a,rfl⟩
  simp_all
 simp_all
def Xx(h:sk K XO E k ml):SE K XO E (qs F6 (gb (qs M' k) dB)) (aK sA ml):=by intro z v t F H w o Q I a;refine h _ _ _ F H _ _ _ I (a.bind.imp fun s u B g c y r=>?_);cases q:sA _ with|none=>rw[q]at c;exact c.elim|some d=>rw[q]at c;obtain⟨A,rfl,l,rfl⟩:=Xw q;cases r with|cons r m=>cases m;obtain⟨p,x,rfl,f,n⟩:=r;have j:=qT n;subst j;refine⟨p,_,rfl,f,l,fun b i=>⟨b,_,_,rfl,cu,c _ _ (.eY g.fh i) _ rfl⟩⟩
end
end PM
namespace L2
section
variable{X:Cx}
end
end L2
namespace PM
section
variable{K:Kx}{XO:di}{E:zag->XK}{tk te:TE}{mk me:En->R D}
end
section
variable{K:Kx}{XO:di}{E:zag->XK}{ta tb te:TE}{ma mb me:En->R D}{t u:TS}{m n:En->O}{Λ:List (Nat×Addr×HO)}{F0 H0 F H F' H' F1 H1:Hp}{σ:zag}{δ:En}{Dn:zae}
def bp(a:List (List Int)):D:=.lst (a.map iL)
structure ku(H:Hp)(a:Addr)(bs:List Addr)(ll:List (List Int)):Prop where
 top:H a=some (.lst (bs.map .ref))len:bs.length=ll.length
 row:∀(i:Nat)(b:Addr)(l:List Int),bs[i]?=some b->ll[i]?=some l->H b=some (.lst (l.map .int))nd:(a::bs).Nodup
def ku.mono(e:av H H')(t:ku H a bs c):ku H' a bs c:=⟨e _ _ t.top,t.len,fun i b l f d=>e _ _ (t.row i b l f d),t.nd⟩
def ku.obj(t:ku H a bs d):∀b∈a::bs,∃o,H b=some o:=fun b c=>by
 rcases aM.mp c with rfl|c;.exact⟨_,t.top⟩
 . obtain⟨i,f,e⟩:=ly c;have g:i<d.length:=by rwa[<-t.len]
   exact⟨_,t.row i b d[i] (by simp_all) (b8 _)⟩
def sC(l:List Int):Tr:=.l (l.map fun i=>.d (.int i))
def iw(a:List (List Int)):Tr:=.l (a.map sC)
theorem iN:∀{l:List Int}{vs:List V}{fp:List Addr},aV K F H (l.map fun i=>.d (.int i)) vs fp↔vs=l.map .int/\fp=[]
 |[],vs,fp=>by rfl|i::l,vs,fp=>by
  constructor;.rintro⟨v,r,b,c,rfl,rfl,⟨rfl,rfl⟩,h⟩;obtain⟨rfl,rfl⟩:=iN.mp h;simp
  .rintro⟨rfl,rfl⟩;exact⟨_,_,_,_,rfl,rfl,⟨rfl,rfl⟩,iN.mpr ⟨rfl,rfl⟩⟩
def qx:dF K F H (sC l) v fp↔∃b,v=.ref b/\fp=[b]/\H b=some (.lst (l.map .int)):=by
 constructor;.rintro⟨a,d,e,rfl,rfl,f,c⟩;obtain⟨rfl,rfl⟩:=iN.mp c;simp_all
 .rintro⟨b,rfl,rfl,h⟩;exact⟨b,_,_,rfl,rfl,h,iN.mpr ⟨rfl,rfl⟩⟩
theorem iO:∀{e:List (List Int)}{vs:List V}{bs:List Addr},aV K F H (e.map sC) vs bs↔vs=bs.map .ref/\bs.length=e.length/\∀(i:Nat)(b:Addr)(l:List Int),bs[i]?=some b->e[i]?=some l->H b=some (.lst (l.map .int))
 |[],vs,bs=>by
  simp only[List.map_nil,aV];constructor;.rintro⟨rfl,rfl⟩;simp
  .rintro⟨rfl,h,_⟩;cases bs with|nil=>simp|cons _ _=>simp at h
 |l::e,vs,bs=>by
  constructor;.rintro⟨v,r,z,y,rfl,rfl,p,w⟩;obtain⟨b,rfl,rfl,A⟩:=qx.mp p;obtain⟨rfl,q,x⟩:=iO.mp w;refine⟨rfl,by simp[q],fun i c r s g=>?_⟩;cases i with|zero=>simp_all|succ i=>exact x i c r (by simp_all) (by simp_all)
  .rintro⟨rfl,h,j⟩;cases bs with|nil=>simp at h|cons b bs=>exact⟨_,_,_,_,rfl,rfl,qx.mpr ⟨b,rfl,rfl,j 0 b l rfl rfl⟩,iO.mpr ⟨rfl,by simpa using h,fun i c r s g=>j (i+1) c r (by simp_all) (by simpa using g)⟩⟩
def iP:Tab K F H a bs (iw h)↔ku H a bs h:=by
 constructor;.intro t;have:=t.ok;obtain⟨j,k,i,l,c,f,d⟩:=this;cases c;obtain⟨rfl,g,e⟩:=iO.mp d;exact⟨f,g,e,t.nd⟩
 .intro t;exact⟨⟨a,_,_,rfl,rfl,t.top,iO.mpr ⟨rfl,t.len,t.row⟩⟩,t.nd⟩
noncomputable def CD:Tr->Option Int|.d (.int i)=>some i|_=>none
noncomputable def vW{α:Type}(f:Tr->Option α):List Tr->Option (List α)|[]=>some []|t::b=>(f t).bind fun x=>(vW f b).bind fun r=>some (x::r)
def F7:Tr->Option (List Int)|.l a=>vW CD a|_=>none
def CF:Tr->Option (List (List Int))|.l a=>vW F7 a|_=>none
theorem F8{f:Tr->Option b}{g:b->Tr}(h:∀t x,f t=some x->t=g x):∀{ts:List Tr}{l:List b},vW f ts=some l->ts=l.map g|[],l,e=>by cases e;rfl|t::ts,l,e=>by unfold vW at e;cases q:f t with|none=>simp_all|some x=>rw[q]at e;cases c:vW f ts with|none=>simp_all|some r=>rw[c]at e;cases e;rw[h t x q,F8 h c];rfl
theorem F9 {α:Type}{f:Tr->Option α}{g:α->Tr}(h:∀x,f (g x)=some x):∀(l:List α),vW f (l.map g)=some l
 |[]=>rfl|x::l=>by
  show(f (g x)).bind _=_
  rw[h x]
  show(vW f (l.map g)).bind _=_
  rw[F9 h l];rfl
def Xy{t:Tr}(h:CD t=some i):t=.d (.int i):=by unfold CD at h;lia
def Xz{t:Tr}(h:F7 t=some l):t=sC l:=by
 unfold F7 at h;split at h;.rw[F8 (fun _ _=>Xy) h];rfl
 simp_all
def XB{t:Tr}(h:CF t=some a):t=iw a:=by
 unfold CF at h;split at h;.rw[F8 (fun _ _=>Xz) h];rfl
 simp_all
@[simp]theorem XC (ll:List (List Int)):CF (iw ll)=some ll:=F9 (fun l=>F9 (f:=CD) (fun _=>rfl) l) ll
theorem F_:∀(ts:List Tr),gd ts=ts.map mS|[]=>rfl|t::ts=>by simp[gd,F_ _]
@[simp]theorem zC6(a:List (List Int)):mS (iw a)=bp a:=by unfold iw bp;simp only[mS,F_,cg];congr 1;apply fO;intro l _;show mS _=iL l;unfold sC iL;simp only[mS,F_,cg];rfl
variable(K XO E)in
def yt(t:TE)(m:En->R (List (List Int))):Prop:=∀Λ F0 H0 F H σ δ Q,aw K Λ F0 H0 F H σ δ->eM E XO σ F H (fun d F' H'=>∀a c,ku H' a c d->(∀b∈a::c,F' b=none/\H b=none)->Q (.ref a) H') (m δ)->t σ H Q
def sD:D->Option (List Int)|.lst l=>de l|_=>none
def XD(h:sD d=some l):d=iL l:=by cases d with|lst x=>rw[rC h];rfl|_=>cases h
def uV(b:D->En->Option En)(me:En->R D)(δ:En)(d:D):R (List Int):=match b d δ with|none=>.no|some a=>(me a).iz.bind fun x=>R.of (sD x)
def qV(f:D->R (List Int)):List D->R (List (List Int))|[]=>.ok []|d::l=>(f d).bind fun o=>(qV f l).bind fun r=>.ok (o::r)
def yu(mi:En->R (List D))(c:List Nat)(n:Nat)(b:D->En->Option En)(me:En->R D)(δ:En):R (List (List Int)):=(mi δ).bind fun a=>cO (a.length<=sizeLine) (qV (uV b me (cP δ c n)) a).iz .no
def XE(h:qV f (d::l)=.ok r):∃o a,f d=.ok o/\qV f l=.ok a/\r=o::a:=by unfold qV at h;cases q:f d with|no=>simp_all|ex x=>simp_all|ok o=>rw[q]at h;cases b:qV f l with|no=>simp_all|ex x=>simp_all|ok a=>rw[b]at h;cases h;simp
def Ga{n:Nat}(hi:wX K XO E wi mi)(Aw:L.Nodup)(hg:SG K g b)(hw:BW b)(he:iy K XO EN te me):yt K XO E (x9 wi L n g none te) (yu mi L n b me):=by
 intro Λ F0 H0 F H σ δ Q I a;refine hi Λ F0 H0 F H σ δ _ I (a.bind.imp fun v F1 H1 e1 Y J hJ p hp=>?_);unfold cO at Y;split at Y;case isFalse=>exact Y.elim
 rename_i hsz;have I1:=I.grow e1;obtain⟨s,Ic,pk,uM⟩:=Fu (n:=n) I1 Aw;cases B:(qV (uV b me (cP δ L n)) v).iz with|no=>rw[B]at Y;exact Y.elim|ex x=>cases q2:qV (uV b me (cP δ L n)) v<;>(rw[q2]at B;cases B)|ok l=>
 rw[B]at Y;have qg:=bF B;have S:∀x∈s,∃d,(cP δ L n)[x.1]?=some (.l d):=fun x hx=>(Ic.fj x hx).1;have Ax:∀x∈s,x.2.1≠p:=fun x hx e=>by obtain⟨o,ho⟩:=uM x hx;lia
 have p0:H0 p=none:=I1.ext.hh.free hp;have f1:F1 p=none:=e1.fh.free hp;refine⟨fun i k ys U N=>∃F2 l1 l2 G,aw K s F0 H0 F2 N U (cP δ L n)/\Ext F1 H1 F2 N/\ys=G.map .ref/\ku N p G l1/\(∀c∈p::G,F2 c=none/\H1 c=none)/\qV (uV b me (cP δ L n)) (v.drop i)=.ok l2/\l=l1++l2/\k=v.length-i/\i<=v.length/\ys.length<=i,⟨_,F1,[],l,[],?_,.eY e1.fh hp,rfl,⟨cu,rfl,fun i c r h=>by simp at h,by simp⟩,fun c hc=>?_,qg,rfl,rfl,bM _,aC _⟩,?_⟩;.exact Ic.grow (.eY e1.fh hp)
 .rw[bj.mp hc];exact⟨f1,hp⟩
 rintro i k ys U N ⟨F2,l1,l2,G,I2,x2,rfl,tb,A,qd,rfl,rfl,Mr,Ay⟩;refine⟨tb.top,?_⟩;by_cases uN:i<v.length;.have e:v.drop i=v[i]::v.drop (i+1):=nr uN;rw[e]at qd;obtain⟨Z,l3,f,q3,rfl⟩:=XE qd;obtain⟨h1,h2⟩:=(hJ F2 N x2 i).1 v[i] (by simp);refine .inr ⟨h1,fun X vP H'=>∃F' C,aw K s F0 H0 F' H' vP (cP δ L n)/\Ext F1 H1 F' H'/\X=C.map .ref/\ku H' p C (l1++[Z])/\(∀c∈p::C,F' c=none/\H1 c=none)/\X.length<=i+1,fun X vP H' ⟨F',C,w1,w2,w3,w4,w5,w6⟩=>⟨_,by omega,F',l1++[Z],l3,C,w1,w2,w3,w4,w5,q3,by simp,rfl,uN,w6⟩,fun x H' y=>?_⟩;obtain⟨F3,e3,rx⟩:=h2 x H' y;unfold uV at f;cases qb:b v[i] (cP δ L n)with|none=>rw[qb]at f;cases f|some T=>rw[qb]at f;dsimp only at f;refine hg s F0 H0 F3 H' U _ _ x T _ (I2.grow e3) rx qb fun vI I3=>?_;unfold LQ;simp only[if_true];cases qm:me T with|no=>rw[qm]at f;cases f|ex x=>rw[qm]at f;cases f|ok d=>
   rw[qm]at f;simp only[R.bF,R.aA]at f;have ed:d=iL Z:=by cases qa:sD d with|none=>rw[qa]at f;cases f|some r=>rw[qa]at f;cases f;exact XD qa
   subst ed;refine he s F0 H0 F3 H' vI T _ I3 ?_;rw[qm];intro F5 H5 e5 c c0 c1 co;have z:=e3.trans e5;obtain⟨vs,cv,cr⟩:=co;have ex:=qT cr;subst ex;have Nc:=tb.mono z.hh;have z2:F5 p=none:=z.nw p _ (A p (by simp)).1 tb.top;have Nd:N c=none:=e3.hh.free c1;have rZ:∀q∈p::G,q≠c:=fun q hq ee=>by obtain⟨o,ho⟩:=tb.obj q hq;rw[ee,Nd]at ho;cases ho
   refine⟨Nc.top,?_,F5,G++[c],((I3.grow e5).qu (hw _ _ _ qb) S).side pk Ax p0 z2,?_,by simp,⟨?_,by simp[tb.len],fun j q r M g2=>?_,?_⟩,fun q hq=>?_,by simpa using Ay⟩;.lia
   .have w:=x2.trans z;exact⟨w.ff,fun c o q=>by rw[bz (d9 q hp)];exact w.hh c o q,fun c o q=>by rw[bz (d9 q z2)];exact w.fh c o q,w.nw⟩
   .rw[cu];simp
   . have qp:q≠p:=fun ee=>by
       have hm:=eL M;rw[ee]at hm;rcases bJ.mp hm with w|w;.exact(dQ.mp tb.nd).1 w
       .exact rZ p (by simp) (bj.mp w)
     rw[bz qp];by_cases hj:j<G.length;.rw[fm hj]at M;rw[fm (by rw[<-tb.len];exact hj)]at g2;exact Nc.row j q r M g2
     . rw[jk (by omega)]at M;rw[jk (by rw[<-tb.len];omega),<-tb.len]at g2;have j0:j-G.length=0:=by have:=(bV.mp M).1;simp at this;omega
       rw[j0]at M g2;simp at M g2;subst M g2;exact cv
   .rw[<-jQ,el];exact⟨tb.nd,by simp,fun q hq r hr ee=>rZ q hq (by rw[ee];exact bj.mp hr)⟩
   . rw[<-jQ]at hq;rcases bJ.mp hq with w|w;.obtain⟨o,ho⟩:=tb.obj q w;exact⟨z.nw q o (A q w).1 ho,(A q w).2⟩
     .rw[bj.mp w];exact⟨c0,x2.hh.free Nd⟩
 . have e:i=v.length:=by lia
   subst e;rw[p_]at qd;cases qd;refine .inl ⟨(hJ F2 N x2 _).2 (by simp),Y F2 N x2 p G (by rw[dg];exact tb) fun c hc=>⟨(A c hc).1,e1.hh.free (A c hc).2⟩⟩
def XF(i:Nat)(δ:En):Bool:=(List.range δ.length).all fun j=>j==i||match δ[j]? with|some (.p _)=>false|_=>true
def aw.Gb(I:aw K Λ F0 H0 F H σ δ)(hl:∃x,δ[i]?=some x/\∀d,x≠.l d)(e:Ext F H F' H')(t:Tab K F' H' a bs T)(h0:∀b∈a::bs,F' b=none/\H b=none):aw K Λ F0 H0 F' H' (σ.set i (some (.ref a))) (δ.set i (.p T)):=by
 obtain⟨x,hx,XG⟩:=hl;have hi:i<δ.length:=(bV.mp hx).1;have r:i<σ.length:=by rwa[I.len]
 have fresh:∀(k:Nat)(b:Addr),k≠i->Sl.own δ[k]?=true->σ[k]?=some (some (.ref b))->b∉a::bs:=fun k b hki g M h=>by have z:=I.slot k;have hn':=(h0 b h).2;cases q:δ[k]? with|none=>rw[q]at g;cases g|some y=>rw[q]at g z;cases y with|no=>cases g|v d=>cases g|o d=>obtain⟨c,z1,_,_,z4⟩:=z;obtain⟨u,hu⟩:=z4.obj;simp_all|l d=>obtain⟨c,z1,_,_,z4⟩:=z;obtain⟨u,hu⟩:=z4.obj;simp_all|p l2=>obtain⟨c,cs,z1,z2,_⟩:=z;rw[M]at z1;cases z1;obtain⟨u,hu⟩:=z2.obj b (by simp);simp_all
 have J:=I.grow e;have f3:∀b∈a::bs,H0 b=none/\F' b=none:=fun b h=>⟨I.ext.hh.free (h0 b h).2,(h0 b h).1⟩;refine⟨J.ext,by simp[I.len],fun j=>?_,fun j k b Q w g2 N Z=>?_,fun y hy=>?_,fun j l2 w=>?_⟩
 . by_cases B:i=j;.subst B;rw[bf hi,bf r];exact⟨a,bs,rfl,t,f3⟩
   .rw[aL B,aL B];exact J.slot j
 . by_cases e1:i=j;.subst e1;rw[bf r]at N;cases N;rw[aL Q]at g2 Z;exact fresh k a (aN Q) g2 Z (by simp)
   . by_cases G:i=k;.subst G;rw[bf r]at Z;cases Z;rw[aL e1]at w N;exact fresh j a (aN e1) w N (by simp)
     .rw[aL e1]at w N;rw[aL G]at g2 Z;exact I.dist j k b Q w g2 N Z
 . obtain⟨⟨d',w⟩,g2,N⟩:=J.fj y hy;have ne:i≠y.1:=by intro B;rw[<-B,hx]at w;exact XG d' (dU w)
   exact⟨⟨d',by rwa[aL ne]⟩,by rwa[aL ne],N⟩
 . have old:∀(k:Nat)(T2:Tr),k≠i->δ[k]?=some (.p T2)->∃A f,σ[k]?=some (some (.ref A))/\Tab K F' H' A f T2/\(∀b∈A::f,b∉a::bs)/\(∀b∈A::f,H0 b=none/\F' b=none)/\(∀(j:Nat)(b:Addr),j≠k->Sl.own δ[j]?=true->σ[j]?=some (some (.ref b))->b∉A::f)/\∀(j:Nat)(T':Tr),j≠k->δ[j]?=some (.p T')->∃Y s,σ[j]?=some (some (.ref Y))/\Tab K F' H' Y s T'/\∀b∈Y::s,b∉A::f:=fun k T2 g q=>by
     obtain⟨A,f,s1,X,U,s4,s5⟩:=I.tab q;refine⟨A,f,s1,X.mono e.ff e.hh,fun b h S=>?_,fun b h=>?_,s4,fun j T' hj L=>?_⟩;.obtain⟨o,C⟩:=X.obj b h;rw[(h0 b S).2]at C;cases C
     .obtain⟨o,C⟩:=X.obj b h;exact⟨(U b h).1,e.nw b o (U b h).2 C⟩
     .obtain⟨Y,s,u1,u2,u3⟩:=s5 j T' hj L;exact⟨Y,s,u1,u2.mono e.ff e.hh,u3⟩
   by_cases B:i=j
   . subst B;rw[bf hi]at w;cases w;refine⟨a,bs,bf r,t,f3,fun k b g C M h=>?_,fun k l3 g L=>?_⟩;.rw[aL (aN g)]at C M;exact fresh k b g C M h
     .rw[aL (aN g)]at L;obtain⟨A,f,s1,X,U,_⟩:=old k l3 g L;exact⟨A,f,by rwa[aL (aN g)],X,U⟩
   . rw[aL B]at w;obtain⟨A,f,s1,X,U,s4,s5,s6⟩:=old j l2 (aN B) w;refine⟨A,f,by rwa[aL B],X,s4,fun k b g C M h=>?_,fun k l3 g L=>?_⟩
     . by_cases G:i=k;.subst G;rw[bf r]at M;cases M;exact U a h (by simp)
       .rw[aL G]at C M;exact s5 k b g C M h
     . by_cases G:i=k;.subst G;rw[bf hi]at L;cases L;exact⟨a,bs,bf r,t,fun b h S=>U b S h⟩
       .rw[aL G]at L;obtain⟨Y,s,u1,u2,u3⟩:=s6 k l3 g L;exact⟨Y,s,by rwa[aL G],u2,u3⟩
def CG(me:En->R (List (List Int)))(i:Nat)(δ:En):O:=(me δ).il δ fun a=>match δ[i]? with|none=>.no|some (.l _)=>.no|some _=>if XF i δ=true then .nx (δ.set i (.p (iw a)))else .no
def Nf{i:Nat}(h:yt K XO E te f):SS K XO E (kh te (tK i)) (CG f i):=by intro Λ F0 H0 F H σ δ Dn I a;refine h _ _ _ F H σ _ _ I ((cM.of I a).imp fun g F1 H1 e c p k t b=>?_);cases q:δ[i]? with|none=>simp[q]at c;exact c.elim|some x=>simp[q]at c;cases x with|l d=>exact c.elim|no|v d|o d|p j=>
 dsimp at c;split at c;.exact c _ _ _ (I.Gb ⟨_,q,fun d z=>by cases z⟩ e (iP.mpr t) b)
 .exact c.elim
structure TabAt(K:Kx)(H0 F H:Hp)(σ:zag)(δ:En)(i:Nat)(a:Addr)(bs:List Addr)(T:Tr):Prop where
 is:δ[i]?=some (.p T)at':σ[i]?=some (some (.ref a))tab:Tab K F H a bs T
 free:∀b∈a::bs,H0 b=none/\F b=none
 dist:∀(j:Nat)(b:Addr),j≠i->Sl.own δ[j]?=true->σ[j]?=some (some (.ref b))->b∉a::bs
 one:∀(j:Nat)(T':Tr),j≠i->δ[j]?=some (.p T')->∃a' mz,σ[j]?=some (some (.ref a'))/\Tab K F H a' mz T'/\∀b∈a'::mz,b∉a::bs
def aw.tabAt(I:aw K Λ F0 H0 F H σ δ)(b:δ[i]?=some (.p T)):∃a bs,TabAt K H0 F H σ δ i a bs T:=let⟨a,_,d,c,g,e,f⟩:=I.tab b;⟨a,_,b,d,c,g,e,f⟩
def TabAt.grow(t:TabAt K H0 F H σ δ i a bs T)(e:Ext F H F' H'):TabAt K H0 F' H' σ δ i a bs T:=⟨t.is,t.at',t.tab.mono e.ff e.hh,fun b c=>let⟨o,h⟩:=t.tab.obj b c;⟨(t.free b c).1,e.nw b o (t.free b c).2 h⟩,t.dist,fun j p f g=>let⟨_,_,k,l,d⟩:=t.one j _ f g;⟨_,_,k,l.mono e.ff e.hh,d⟩⟩
def aw.Gd{u:HO}(I:aw K Λ F0 H0 F H σ δ)(t:TabAt K H0 F H σ δ i a bs T)(Y:b∈a::bs)(t':Tab K F (upd H b u) a mz T')(sub:∀c∈mz,c∈bs):aw K Λ F0 H0 F (upd H b u) σ (δ.set i (.p T')):=by
 have f:=t.is;have hi:i<δ.length:=(bV.mp f).1;have fb:=t.free b Y;have e:∀c∈a::mz,c∈a::bs:=fun c k=>by
   rcases aM.mp k with rfl|k;.simp
   .exact bx _ (sub c k)
 have N:∀(j:Nat)(c:Addr),i≠j->Sl.own δ[j]?=true->σ[j]?=some (some (.ref c))->c≠b:=fun j c hj Q S g=>t.dist j c (aN hj) Q S (by simp_all);have ow:∀r:Nat,Sl.own (δ.set i (.p T'))[r]?=true->Sl.own δ[r]?=true:=by
   intro r h;by_cases g:i=r;.subst g;rw[f];rfl
   .rwa[aL g]at h
 refine⟨⟨I.ext.ff,fun c w q=>?_,fun c w q=>?_,I.ext.nw⟩,by simp[I.len],fun j=>?_,fun j r c XH s g2 g3 g4=>?_,fun y hy=>?_,fun j l2 s=>?_⟩;.rw[bz (d9 q fb.1)];exact I.ext.hh c w q
 .rw[bz (d9 q fb.2)];exact I.ext.fh c w q
 . by_cases g:i=j;.subst g;rw[bf hi];exact⟨a,mz,t.at',t',fun c k=>t.free c (e c k)⟩
   .rw[aL g];have w:=I.slot j;cases q:δ[j]? with|none=>trivial|some y=>rw[q]at w;cases y with|no=>trivial|v d=>exact w|o d=>obtain⟨c,C,Z,U,w4⟩:=w;exact⟨c,C,Z,U,w4.at (bz (N j c g (by rw[q];rfl) C))⟩|l d=>obtain⟨c,C,Z,U,w4⟩:=w;exact⟨c,C,Z,U,w4.at (bz (N j c g (by rw[q];rfl) C))⟩|p l2=>obtain⟨a',mz,M,J,G⟩:=t.one j l2 (aN g) q;obtain⟨c,cs,C,Z,U⟩:=w;rw[M]at C;cases C;have X:=B9 Z J;subst X;exact⟨_,cs,M,J.at' fun x f=>bz fun z=>G x f (z▸Y),U⟩
 .exact I.dist j _ c XH (ow j s) (ow _ g2) g3 g4
 . obtain⟨⟨d2,s⟩,g2,g3⟩:=I.fj y hy;have ne:i≠y.1:=by intro g;simp_all
   exact⟨⟨_,by rwa[aL ne]⟩,g2,by rwa[bz (N _ _ ne (by rw[s];rfl) g2)]⟩
 . by_cases g:i=j
   . subst g;rw[bf hi]at s;cases s;refine⟨a,_,t.at',t',fun c k=>t.free c (e c k),fun r c A Q S k=>?_,fun r l3 A B=>?_⟩;.exact t.dist _ c A (ow _ Q) S (e c k)
     .rw[aL (aN A)]at B;obtain⟨a',cs,M,J,G⟩:=t.one _ _ A B;exact⟨_,_,M,J.at' fun x f=>bz fun z=>G x f (z▸Y),fun x f L=>G x f (e x L)⟩
   . rw[aL g]at s;obtain⟨a2,bs2,s1,s2,s3,s4,s5⟩:=I.tab s;obtain⟨a',cs,M,J,G⟩:=t.one j _ (aN g) s;rw[M]at s1;cases s1;have X:=B9 s2 J;subst X;refine⟨_,_,M,J.at' fun x f=>bz fun z=>G x f (z▸Y),s3,fun r c A Q S k=>s4 _ c A (ow _ Q) S k,fun r l3 A B=>?_⟩;by_cases e2:i=r;.subst e2;rw[bf hi]at B;cases B;exact⟨a,_,t.at',t',fun x f L=>G x L (e x f)⟩
     .rw[aL e2]at B;obtain⟨a3,cs3,v1,v2,v3⟩:=s5 _ _ A B;obtain⟨a4,cs4,x1,x2,x3⟩:=t.one _ _ (aN e2) B;rw[v1]at x1;cases x1;have X:=B9 v2 x2;subst X;exact⟨_,_,v1,v2.at' fun x f=>bz fun z=>x3 x f (z▸Y),v3⟩
def aw.Ge(I:aw K Λ F0 H0 F H σ δ)(t:TabAt K H0 F H σ δ i a bs (iw s))(g:bs[k]?=some b):aw K Λ F0 H0 F (upd H b (.lst (row.map .int))) σ (δ.set i (.p (iw (s.set k row)))):=by
 have tb:=iP.mp t.tab;have o:=eL g;have l:=(bV.mp g).1;have h:=dQ.mp tb.nd;refine I.Gd t (bx _ o) (iP.mpr ⟨?_,by simp[tb.len],fun j c r f d=>?_,tb.nd⟩) fun c q=>q;.rw[bz (show a≠b from fun z=>h.1 (z▸o))];exact tb.top
 . by_cases e:k=j;.subst e;rw[g]at f;cases f;rw[bf (by rw[<-tb.len];exact l)]at d;cases d;exact cu
   .rw[aL e]at d;rw[bz (fun z=>e ((rV l h.2).mp (by simp_all)))];exact tb.row j c r f d
def tabOf:Option Sl->Option (List (List Int))|some (.p T)=>CF T|_=>none
def XI(h:tabOf x=some a):x=some (.p (iw a)):=by
 unfold tabOf at h;split at h;.rw[XB h]
 simp_all
@[simp]theorem zDm (ll:List (List Int)):tabOf (some (.p (iw ll)))=some ll:=XC ll
def yw(i:Nat)(mk mj me:En->R D)(δ:En):O:=match tabOf δ[i]? with
 |some b=>(me δ).il δ fun v=>(mk δ).il δ fun k=>match v,k with|.int v,.int k=>(match ie b.length k with|some c=>(match b[c]? with|some a=>(mj δ).il δ fun j=>(match j with|.int j=>(match ie a.length j with|some d=>.nx (δ.set i (.p (iw (b.set c (a.set d v)))))|none=>.no)|_=>.no)|none=>.no)|none=>.no)|_,_=>.no
 |none=>.no
def Ng(h1:SE K XO E tk mk)(h2:SE K XO E U mj)(h:SE K XO E te me):SS K XO E (kh te (wA (tL (qM K.f) (dh i) tk) U BS)) (yw i mk mj me):=by
 intro Λ F0 H0 F H σ δ Dn I a;unfold yw at a;split at a
 . rename_i G N;have q:=XI N;obtain⟨p,f,ta⟩:=I.tabAt q;have T:=ta.at';have o:=iP.mp ta.tab;refine h Λ F0 H0 F H σ δ _ I ((cM.of I a).imp fun v F1 H1 e c x Z=>⟨_,T,?_⟩);refine h1 Λ F0 H0 F1 H1 σ δ _ (I.grow e) ((cM.of (I.grow e) c).imp fun k Y H2 s b y X=>?_);have w:=(I.grow e).grow s;have B:=(o.mono e.hh).mono s.hh;split at b;.rename_i v k;subst X Z;cases z:ie G.length k with|none=>rw[z]at b;exact b.elim|some d=>rw[z]at b;dsimp at b;cases l:G[d]? with|none=>rw[l]at b;exact b.elim|some r=>
    rw[l]at b;have kl:d<f.length:=by rw[o.len];exact(bV.mp l).1
    have J:f[d]?=some f[d]:=b8 kl;refine⟨p,f.map .ref,k,.ref f[d],rfl,rfl,.inl (.inl B.top),?_,?_⟩;.unfold iI;rw[aF,o.len,z];simp
    . refine h2 Λ F0 H0 Y H2 σ δ _ w ((cM.of w b).imp fun j F3 H3 A g u S=>?_);have M:=w.grow A;have L:=B.mono A.hh;split at g;.rename_i j;subst S;cases C:ie _ j with|none=>rw[C]at g;exact g.elim|some Q=>rw[C]at g;refine⟨f[d],r.map _,j,Q,rfl,rfl,L.row _ _ _ J l,by simp_all,?_⟩;rw[<-List.map_set];exact g _ _ _ (M.Ge (((ta.grow e).grow s).grow A) J)
      .exact g.elim
   .exact b.elim
 .exact a.elim
noncomputable def CH(i:Nat)(δ:En):O:=match δ[i]? with|some (.p T)=>.ro (mS T)|_=>.no
open Classical in
def jc(F H:Hp)(bs:List Addr):Hp:=fun b=>if b∈bs then H b else F b
mutual
theorem Nh {F1:Hp}(s:av F F1):∀(T:Tr){v:V}{fp:List Addr},dF K F H T v fp->(∀b∈fp,F1 b=H b)->Rep K F1 (mS T) v
 |.d x,v,fp,h,_=>Rep.mono s x h.2|.l _,v,fp,h,e=>by
  obtain⟨a,f,y,rfl,p,k,j⟩:=h
  subst p
  exact⟨a,_,rfl,(e a (by simp)).trans k,CI s _ j fun b g=>e b (bx _ g)⟩|.t _,v,fp,h,e=>by
  obtain⟨a,f,rfl,k,j⟩:=h
  exact⟨a,_,rfl,s _ _ k,CI s _ j e⟩
theorem CI {F1:Hp}(s:av F F1):∀(o:List Tr){f:List V}{fp:List Addr},aV K F H o f fp->(∀b∈fp,F1 b=H b)->ay K F1 (gd o) f
 |[],f,fp,h,_=>by
  simp only[aV]at h
  rw[h.1]
  simp only[gd]
  exact .nil|t::o,f,fp,h,e=>by
  simp only[aV]at h
  obtain⟨v,r,w,q,rfl,p,k,j⟩:=h
  subst p
  simp only[gd]
  exact .cons (Nh s t k fun b g=>e b (gX _ g)) (CI s o j fun b g=>e b (cN _ g))
end
def XJ:SS K XO E (oY (dh i)) (CH i):=by
 intro Λ F0 H0 F H σ δ Dn I a;unfold CH at a;split at a
 . rename_i T q;obtain⟨p,e,v,r,f,_⟩:=I.tab q;have k:av F (jc F H _):=fun b o h=>by unfold jc;rwa[ak fun z=>by rw[(f b (bx _ z)).2]at h;cases h]
   have A:av (jc F H e) H:=fun b o h=>by
     unfold jc at h;split at h;.exact h
     .exact I.same b o h
   have B:jc F H e p=none:=by unfold jc;rw[ak (dQ.mp r.nd).1];exact(f p (by simp)).2
   refine⟨_,v,a p _ H ⟨I.ext.ff.trans k,I.ext.hh,A,fun b o g c=>?_⟩ B (f p (by simp)).1 ?_⟩;.unfold jc;rw[ak fun z=>by rw[(f b (bx _ z)).1]at c;cases c];exact I.ext.nw b o g c
   . have j:=r.ok;have s:∀b∈e,jc F H e b=H b:=fun b s=>by unfold jc;grind
     cases T with|d x=>cases j.1|t w=>obtain⟨J,C,g,c,_⟩:=j;cases g;simp_all|l w=>obtain⟨J,C,L,g,c,G,y⟩:=j;cases c;exact⟨_,G,CI k _ y s⟩
 .exact a.elim
end
end PM
namespace L2
section
variable{X:Cx}{x:Str}{np E7 pos:Pos}{body:List Stmt}{E8:Stmt}{Am:List Stmt}{D':Addr}{tb:(zag->XK)->TS}{th:TS}
end
end L2
namespace PM
section
variable{K:Kx}{E:zag->XK}
end
end PM
namespace L2
section
variable{prog:Program}{w:World}{A:Around}{R:Result->Shared->Prop}{I S:Addr}{fp wr:List Addr}{n:Nat}{P:Nat->Value->Prop}{zag:Nat->Heap->Prop}{bt:Nat->Nat->Bool}
end
end L2
namespace PM
section
variable{K:Kx}
end
end PM
namespace L2
section
variable {X : Cx}
def Ni(c:TA):TE:=fun d H Q=>c d H fun b a=>∃i j:Int,b=[.int i,.int j]/\∀r,a r=none->Q (.ref r) (upd a r (.l' i j))
def Nj(l:Gl X "range")(n:X.mg "range"=none)(g:PA X [a,b] k)(w:autoParam (starEach [a,b] X.env=[(false,eval a X.env),(false,eval b X.env)]) zak)(c:autoParam (starEach [b] X.env=[(false,eval b X.env)]) zak):PE X (.Call (.Name "range" p) [a,b] [] pos) (Ni k):=by intro f s A H Q I h;refine Call_ (nV I l n boot_range (ew (bK (g _ _ s _ H _ I h) fun v z ⟨_,_,d,m,r⟩=>?_) (by simp_all) (by rw[c];rfl)));obtain⟨i,j,e,q⟩:=r;subst e;obtain⟨u,y,rfl,⟨t,rfl⟩,⟨x,rfl⟩⟩:=xY m;refine call_range_2 ⟨.ref _,_,?_,rfl,q _ (d.bB.fresh (aC _))⟩;exact d.laid (fun b o e=>aO _ e) (aC _) ⟨_,_,_,b7 _ rfl⟩
def Nk:List V->Hp->VK->Prop:=fun a H Q=>∃(r:Addr)(i j:Int),a=[.ref r]/\H r=some (.l' i j)/\(0<=i/\i<=j/\j<=100000)/\∀l,H l=none->Q (.ref l) (upd H l (.lst ((List.range (j-i).toNat).map fun k:Nat=>.int (i+(k:Int)))))
def Nl(E:X.calm=true):lD X (.type "list") Nk:=by
 rintro m s σ H S T Q I r ⟨D,i,j,rfl,C,hj,q⟩;obtain⟨u,rfl,G⟩:=kW r;cases G;obtain⟨M,N,U,e⟩:=I.bB D _ C;have y:Builtin.Range.rangeSize i j 1=((j-i).toNat:Int):=by rw[lR];lia
 refine call_list_range (I.ok.hd E) e (small_one (by lia) (by omega) (by lia) (by omega)) y (by lia) fun O Y w c' x Z a=>(⟨.ref _,_,?_,rfl,q _ (I.bB.fresh (aC _))⟩);obtain⟨R,B⟩:=a;refine I.laid x (aC _) ⟨by rw[aF,qh];exact bo (by lia) (show 100000<=sizeLine by decide),_,_,?_,by omega⟩;have c:∀(n:Nat)(l:List _)(o:Nat),l.length=n->(∀k v,l[k]?=some v->∃t,v=Value.int (i+(o+k:Nat)) t)->Vals ((List.range' o n).map fun k:Nat=>V.int (i+k)) l:=by intro n;induction n with|zero=>intro l o b _;rw[lz.mp b];exact .nil|succ n A=>intro l o b p;cases l with|nil=>simp at b|cons v l=>obtain⟨t,rfl⟩:=p 0 v rfl;refine .cons ⟨t,rfl⟩ (A l _ (by simpa using b) fun k v h=>?_);obtain⟨L,J⟩:=p (k+1) v (by simp_all);exact⟨_,by rw[J];congr 3;try lia⟩
 have:=c _ _ 0 (by omega) fun k v h=>let⟨t,_⟩:=B k v (by simpa using h);⟨t,by congr 1⟩;rw[List.range_eq_range'];omega
end
end L2
namespace PM
section
variable{K:Kx}{XO:di}{E:zag->XK}
def vX(l:List D):Option D:=match l with|[.int i,.int j]=>cO (0<=i/\i<=j/\j<=100000) (some (.lst ((List.range (j-i).toNat).map fun k:Nat=>.int (i+(k:Int))))) none|_=>none
def xl(ml:En->R (List D))(δ:En):R D:=(ml δ).bind fun l=>R.of (vX l)
def XM(h:vX l=some d):∃i j:Int,l=[.int i,.int j]/\(0<=i/\i<=j/\j<=100000)/\d=.lst ((List.range (j-i).toNat).map fun k:Nat=>.int (i+(k:Int))):=by
 unfold vX at h;split at h
 . rename_i i j;unfold cO at h;split at h;.cases h;exact⟨i,j,rfl,by omega,rfl⟩
   simp_all
 simp_all
def XN(h:SA K XO E u ml):iy K XO E (qs Nk (gb (Ni u) dB)) (xl ml):=by intro C B y F H z x Q I a;refine h _ _ _ F H _ _ _ I (a.bind.imp fun G s A f c J r=>?_);cases q:vX _ with|none=>rw[q]at c;exact c.elim|some d=>rw[q]at c;obtain⟨i,j,rfl,t,rfl⟩:=XM q;obtain⟨v,L,rfl,p,w⟩:=r;obtain⟨N,rfl,g⟩:=ay.one w;subst p g;refine⟨i,j,rfl,fun M m=>⟨_,i,j,rfl,cu,t,fun l o=>?_⟩⟩;have e:Ext _ _ _ (upd _ _ (.l' i j)):=.eY f.fh m;have b:=e.hh.free o;refine c _ _ (e.trans (.eY e.fh o)) l (f.fh.free b) (f.hh.free b) ⟨_,cu,?_⟩;have:=ay.ints (K:=K) (F:=s) (ns:=(List.range (j-i).toNat).map fun k:Nat=>i+k);rwa[cg,cg]at this
end
end PM
namespace L2
section
variable{X:Cx}{a b c:Expr}{ta tb tc:TE}{pos:Pos}
end
end L2
namespace PM
section
variable{K:Kx}{XO:di}{E:zag->XK}{ta tb tc:TE}{ma mb mc:En->R D}
end
end PM
namespace L2
section
variable{X:Cx}{e st:Expr}{te ts:TE}{p2 pos:Pos}
end
end L2
namespace PM
section
variable{K:Kx}{XO:di}{E:zag->XK}{te ts:TE}{me ms:En->R D}
theorem ay.append':∀{l m:List D}{vs ws:List V},ay K F l vs->ay K F m ws->ay K F (l++m) (vs++ws)|[],_,vs,_,h,k=>by have:vs=[]:=h;simp_all|d::l,m,vs,ws,h,k=>by obtain⟨v,r,rfl,a,b⟩:=h;exact⟨v,_,rfl,a,ay.append' b k⟩
theorem ay.reverse:∀{l:List D}{vs:List V},ay K F l vs->ay K F l.reverse vs.reverse|[],vs,h=>by have:vs=[]:=h;simp_all|d::l,vs,h=>by obtain⟨v,r,rfl,a,b⟩:=h;rw[lK,lK];exact ay.append' (ay.reverse b) ⟨v,_,rfl,a,rfl⟩
end
end PM
namespace L2
def XQ:typeLookup (.type "list_reverseiterator") "__len__"=pure none:=by rw[typeLookup_type,builtinLookup_eq_fast];rfl
def XR:typeLookup (.type "list_reverseiterator") "__length_hint__"=pure (some (.builtin "list_reverseiterator.__length_hint__")):=by rw[typeLookup_type,builtinLookup_eq_fast];kernel_rfl
section
variable {prog : Program} {w : World} {A : Around} {E : Value->Shared->Prop} {s : Shared}
def XS(C:A.handled=none)(n:l≠I)(h:S≠I)(t:S≠l)(a:s.heap.IsRevIter I l ((items.size:Int)-1))(G:s.heap.IsList l items)(L:s.heap.get? S=some {cls:=.type "list",data:=.seq #[] y})(hz:items.size<=sizeLine)(D:∀h' tk c g,(∀b o,b≠S->b≠I->s.heap.get? b=some o->h'.get? b=some o)->h'.get? S=some {cls:=.type "list",dict:=none,data:=.seq c g,slots:=#[]}->ItemsOf (fun i v=>items[items.size-1-i]?=some v) c items.size->R (.ok (.ret q)) {s with heap:=h',toks:=tk}):wpAny (model prog w) A.in1 (Builtin.List.listExtendWith (.ref S) (.ref I) q) (fun r s'=>match r with|.done f=>R (.ok f) s'|.again g=>g.quiet=true/\codeAny (model prog w) A g R s') (fun e s'=>R (.error e) s') s:=by
 have u:S∉[I,l]:=by simp[h,t]
 have B:Builtin.List.listSameRef (.ref S) (.ref I)=false:=by simp[Builtin.List.listSameRef,h]
 refine ah (wpAny_typeOf a.typeIs ?_);have N:(Value.type "list_reverseiterator"==Value.type "list")=false:=by decide
 have M:(Value.type "list_reverseiterator"==Value.type "tuple")=false:=by decide
 simp[B,uf];refine ah (oU a (ah (dV ?_)));refine ah (wpAny_specialOf a.typeIs XQ ?_);refine ah (wpAny_specialOf a.typeIs XR ?_);generalize p:("list_reverseiterator.__length_hint__":String)=H;subst p;refine ah (wpAny_isInstance (b:=true) a.typeIs (by rw[isSubtype_type];kernel_rfl) (ax ?_));refine ax ⟨j9 F.plain_extend_loop _,codeAny_extend_loopS ((Walks.listRev (prog:=prog) (w:=w) (A:=A.in1) C I l n _).toS) hz S u _ _ 0 _ _ _ rfl (bM _) ?_ L (ItemsOf.nil _) fun s' c g x k j=>?_⟩;.exact⟨bM _,by simpa using a,G⟩
 . rw[Moved.eq_with x];refine D _ _ _ _ (fun b o z m e=>x.heap b o (fun d=>?_) e) k j;rcases aM.mp d with J|d;.exact z J
   .exact m (bj.mp d)
def XT(B:A.handled=none)(t:l≠I)(j:s.heap.IsRevIter I l ((items.size:Int)-1))(x:s.heap.IsList l items)(hz:items.size<=sizeLine)(z:∀h' tk a u,(∀b o,b≠I->s.heap.get? b=some o->h'.get? b=some o)->h'.get? s.heap.objs.size=some {cls:=.type "list",dict:=none,data:=.seq a u,slots:=#[]}->ItemsOf (fun i v=>items[items.size-1-i]?=some v) a items.size->Q (.ref s.heap.objs.size) {s with heap:=h',toks:=tk}):wpAny (model prog w) A (call (.type "list") [.ref I]) Q E s:=by refine callType_codes (Q₁:=fun m c=>m=.ref s.heap.objs.size/\c={s with heap:=s.heap.push {cls:=.type "list",data:=.seq #[]}}) F.called_list (F.typeCall_list_1 _) F.entry_list_init (code_list_new _ ⟨rfl,rfl⟩) fun m c g=>?_;obtain⟨rfl,rfl⟩:=g;have p:(s.heap.push {cls:=.type "list",data:=.seq #[]}).get? _=some _:=b7 _ rfl;have k:=let⟨o,e,_⟩:=j;aI e;have n:=let⟨o,e,_⟩:=x;aI e;refine⟨⟨_,p,rfl⟩,F.args_list_init_2 _ _,?_⟩;refine ah (ah (eD p rfl (ax ?_)));refine ah (l_ p rfl ?_);have f:=jh (Obj.mapSeq (fun _=>(#[]))) p rfl;have d:∀b o,b≠s.heap.objs.size->s.heap.get? b=some o->((s.heap.push {cls:=.type "list",data:=.seq #[]}).update _ (Obj.mapSeq (fun _=>#[]))).get? b=some o:=fun b o r e=>(fH _ _ (aN r)).trans (aO _ e);exact XS B t (eO k) (eO n) (j.at fun o e=>d I o (aY k) e) (x.at fun o e=>d l o (aY n) e) f hz fun h' tk a u y q h=>⟨rfl,z _ _ _ _ (fun b o r e=>y b o (aY (aI e)) r (d b o (aY (aI e)) e)) q h⟩
end
section
variable{X:Cx}{l:Expr}{tl:TE}
def Nm(K:W.Frag)(tl:TE):TE:=fun d H Q=>tl d H fun x b=>∃a c,x=.ref a/\eE K b a c/\∀p,b p=none->Q (.ref p) (upd b p (.lst c.reverse))
def XU(O:X.calm=true)(N:Gl X "list")(R:X.mg "list"=none)(n:Gl X "reversed")(k:X.mg "reversed"=none)(J:PE X l tl)(y:autoParam (starEach [l] X.env=[(false,eval l X.env)]) zak):PE X (.Call (.Name "list" p) [.Call (.Name "reversed" p') [l] [] z] [] pos) (Nm X.K tl):=by
 intro A s σ H Q I h;refine Call_ (nV I N R dM (ew ?_ rfl rfl));refine ng (Call_ (nV I n k boot_reversed (ew ?_ y rfl)));rw[y];refine ng (bK (J _ s _ H _ I h) fun u s1 ⟨x,_,j,G,B⟩=>(pX ?_));obtain⟨a,S,rfl,D,q⟩:=B;cases G;obtain⟨f,r,t,hz⟩:=j.list D;have w:=r.length;refine call_reversed_list t.isList (pX ?_);have v:=let⟨o,e,_⟩:=t.isList;aI e;refine XT (j.ok.hd O) (aY v) ⟨_,b7 _ rfl,rfl,rfl⟩ (t.isList.push _) (by simp_all) fun U Z c Y M m d=>?_;have E:c=f.reverse.toArray:=by
  have T:c.size=f.length:=by have:=d.1;omega
  apply Array.ext';apply iD;intro i;by_cases L:i<f.length
  . have C:i<c.size:=by lia
    have:=d.2 i c[i] (by rw[Array.getElem?_eq_getElem _]);rw[cV,List.getElem?_toArray]at this;rw[ue,Array.getElem?_eq_getElem C,List.getElem?_reverse L,<-this]
  .rw[fJ.mpr (by simp_all),fJ.mpr (by simpa using by lia)]
 subst E;refine⟨.ref _,_,j.laid (o:=.lst _) (fun b ob e=>M b _ (aY (aI e)) (aO _ e)) ?_ ⟨by rwa[lA],_,_,r.reverse,m⟩,rfl,q _ (j.bB.fresh ?_)⟩;.rw[iC];omega
 .rw[iC];omega
end
end L2
namespace PM
section
variable{K:Kx}{XO:di}{E:zag->XK}{te:TE}{me:En->R D}
def Gf(me:En->R D)(δ:En):R D:=(me δ).bind fun d=>match d with|.lst l=>.ok (.lst l.reverse)|_=>.no
def Nn(h:mB K XO E te me):iy K XO E (Nm K.f te) (Gf me):=by intro m k j F H t u Q I a;refine h _ _ _ F H _ _ _ I (a.bind.imp fun d s o b e v r=>?_);cases d with|lst l=>obtain⟨p,n,rfl,g,i⟩:=r;refine⟨p,_,rfl,.inl g,fun q c=>e _ _ (.eY b.fh c) q (b.fh.free c) (b.hh.free c) ⟨_,cu,ay.reverse i⟩⟩|_=>exact e.elim
end
end PM
namespace L2
open PySem PySem.Spec PyProof.Rows Builtin Builtin.ObjectAttr
noncomputable def Gg:List Value->Bool|.ref _::r=>Gg r|l=>l==[.type "ValueError",.type "Exception",.type "BaseException",.type "object"]
theorem Np(b:Value):∀{l:List Value},Gg l=true->refuseLoop b "__setattr__" l=pure ()|.ref c::r,e=>by rw[refuseLoop_ref];exact Np _ e|[],e=>rfl|.type n::r,e=>by have:=eR.mp e;rw[this];exact PySem.F.store_ValueError.passes _|.none::r,e=>by have:=eR.mp e;simp_all|.bool _::r,e=>by have:=eR.mp e;simp_all|.int _ _::r,e=>by have:=eR.mp e;simp_all|.str _ _::r,e=>by have:=eR.mp e;simp_all|.builtin _::r,e=>by have:=eR.mp e;simp_all
def Gh(K:W.Frag)(C:Addr):Bool:=(W.clsIn K C).any fun a=>Gg a.mro
section
variable{prog:Program}{w:World}{A:Around}{E:Value->Shared->Prop}{s:Shared}{K:PySem.W.Frag}{x C:Addr}{ox:Obj}{od:Option Obj}{name:Str}{tk:Tok}{v:Value}{R:Result->Shared->Prop}
def XW(X:K.In s.heap)(I:W.InstAt s.heap x ox C od)(i:W.mroIn K C (.type "object")=some true)(t:Gh K C=true)(o:W.takerIn K C name=some none)(h:∀b,wpAny (model prog w) A.in1 (storeInOwnDict (.ref x) (.ref C) (.str name tk) name v b) (fun j s'=>match j with|.done f=>R (.ok f) s'|.again k=>k.quiet=true/\codeAny (model prog w) A k R s') (fun e s'=>R (.error e) s') s):codeAny (model prog w) A (.call (.builtin "object.__setattr__") ⟨[.ref x,.str name tk,v],[]⟩) R s:=by
 have d:=PySem.F.store_object;obtain⟨z,y,q⟩:=oH t;have g:W.Looks (model prog w) s.heap (isInstance _ _) _:=I.type.andThen (W.looks_mroIn X i);refine oP d.slot.plain d.entry (@W.check_slot _ _ _ s _ _ _ _ _ _ _ d.kind d.split g (d.args _ _ v) ?_);obtain⟨c,m,u⟩:=Option.bind_eq_some_iff.mp o;have l:W.Looks (model prog w) _ (mroOf (.ref C)) _:=(oM X y).andThen .now;have p:W.Looks (model prog w) s.heap (storeTaker? c) none:=by cases c with|none=>exact .now|some a=>
  obtain⟨b,n,r⟩:=oy.mp u;refine(W.looks_takesIn X n).andThen ?_;cases b;.exact .now
  simp_all
 rw[W.osa_eq,refuse_eq];refine ah (ah (I.type.here (ah (l.here ?_))));rw[Np _ q];exact ax (ah (I.type.here (ah ((W.looks_findIn X m).here (ah (p.here (h _)))))))
def XX(X:K.In s.heap)(p:s.heap.get? x=some ox)(L:ox.cls=.ref C)(q:ox.dict=none)(k:ox.data=.fields vs)(Y:W.findIn K (.ref C) "__setattr__"=some (some (.builtin "object.__setattr__")))(N:W.mroIn K C (.type "object")=some true)(c:Gh K C=true)(ht:W.takerIn K C name=some none)(hh:W.hasDictIn K C=true)(h:∀h' M,(∀b o,b≠x->s.heap.get? b=some o->h'.get? b=some o)->h'.get? x=some {ox with dict:=some s.heap.objs.size}->h'.Ns1 s.heap.objs.size (fun y=>if y=name then some v else none)->s.heap.objs.size+1<=h'.objs.size->Q () {s with heap:=h',toks:=M}):wpAny (model prog w) A (setAttr (.ref x) name v) Q E s:=by
 have I:W.InstAt s.heap x ox C none:=⟨p,L,by unfold W.notCls;rw[k],by simp_all⟩;refine W.set_plain X I Y (XW (s:={s with toks:=s.toks+1}) X I N c ht fun b=>?_);obtain⟨cd,B,G⟩:=oH hh;obtain⟨c,g,d,t,os⟩:=s;obtain⟨oc,odi,XY,m⟩:=ox;dsimp at L q k p h X I⊢;subst L q k;obtain⟨l,a⟩:=zaa ({cls:=.type "dict",data:=.dict #[]}:Obj);obtain⟨n,f⟩:=zaa ((c.push l).update x fun u=>{u with dict:=some c.objs.size}:Heap);have S:x≠c.objs.size:=fun z=>absurd (aI p) (by simp_all);have O:(c.push l).get? x=some ⟨.ref C,none,.fields vs,m⟩:=aO _ p;refine ah (ax (ah (ah (wpAny_loadPart p (ah ((oM X B).here ?_))))));rw[G];rw[<-a];refine ah (wpAny_alloc' (ah (wpAny_update' O (ax ?_))));have H:n.get? c.objs.size=some l:=by rw[f];exact(Heap.get?_update_ne _ _ _ _ (aN S)).trans (Heap.get?_push_at rfl (by rw[a];rfl))
 have j:n.Ns1 c.objs.size (fun _=>none):=Heap.Ns1.of_empty ⟨l,#[],_,H,by rw[a],fun u hu=>absurd hu (by simp),fun _=>rfl⟩;rw[<-f];refine ah (ax (ah (wpAny_nsSet1 j fun U T same=>?_)));obtain⟨oD,_,_,r,i,D⟩:=T.count (Within.cons name v Within.nil);refine ah (wpAny_lookBehind r ?_ ?_);.rw[i];refine pastItsLine_dict (bo D ?_);simp_all
 wp_walk;have Z:n.get? x=some ⟨.ref C,some c.objs.size,.fields vs,m⟩:=by rw[f];exact jh _ O rfl
 refine h U _ (fun b u nb e=>?_) ((same.2 x S).trans Z) T (aI r);have J:b≠c.objs.size:=fun z=>absurd (aI e) (by rw[z];exact dI _);refine(same.2 b J).trans ?_;rw[f];exact(Heap.get?_update_ne _ _ _ _ nb).trans (aO _ e)
end
structure sE(K:W.Frag)(C:Addr):Prop where
 z:gG K C
 sa:W.findIn K (.ref C) "__setattr__"=some (some (.builtin "object.__setattr__"))ov:Gh K C=true
def jz(C:Addr)(b:Option Addr)(vs:Array Value)(ea:Addr):HO:=.ext fun h=>∃a,h.get? ea=some a/\a.cls=.ref C/\a.dict=b/\a.data=.fields vs
def Nq(h1:h.get? ea=some b)(h2:b.cls=.ref C)(h3:b.dict=a)(g:b.data=.fields vs):dE P w H h ea (jz C a vs ea):=⟨⟨_,h1,h2,h3,g⟩,⟨_,h1⟩,fun j i ⟨_,e,f,c,d⟩ k=>⟨_,k _ e,f,c,d⟩⟩
def XZ(K:W.Frag)(h g:TE)(f:Str):TS:=fun D c H=>g c H fun y i=>h c i fun x b=>∃a C e,x=.ref a/\b a=some (jz C none e a)/\sE K C/\aB K C f/\∀d,b d=none->D.nx c (upd (upd b a (jz C (some d) e a)) d (.xd [(f,y)]))
section
variable{X:Cx}{o e value:Expr}{f:Str}{pos pos' zX:Pos}{ta tv:TE}
def Nr(B:PE X o ta)(M:PE X value tv)(T:swapsWith value (some (.Attribute o f pos')) pos.line X.env=pure false):PS X (.Assign [.Attribute o f pos'] value pos) (XZ X.K ta tv f):=by
 intro m s σ H D I h;refine plainObj_wpAny_Assign_Attribute (bK (M _ s _ H _ I h) fun u s1 ⟨y,_,R,_,q⟩=>bK (B _ _ _ _ _ R q) fun J t ⟨x,_,b,E,a,C,_,U,i,c,n,G⟩=>?_) T;subst U;obtain rfl:J=Value.ref a:=E;obtain⟨⟨ob,Y,w,Z,l⟩,_⟩:=b.bB a _ i;refine XX b.h_ Y w Z l c.sa c.z.hm c.ov n.vF c.z.hd fun L j hk d N S=>?_;have r:=b.bB.fresh (aC _);have k:t.heap.objs.size≠a:=fun z=>by rw[<-z,r]at i;cases i
 have O:Inv X _ _ _ {t with heap:=L,toks:=j}:=b.write (by rw[i];exact True.intro) (.inl rfl) hk ⟨_,d⟩ (Nq d w rfl l);refine⟨_,_,O.vM (by rwa[bz k]) ?_ ?_ ?_ ?_ ?_,G _ r⟩;.exact k9 b.sz
 .exact eO b.lt
 .intro x c e;obtain⟨v,o,Q,_⟩:=b.cell x c e;exact aY (aI Q)
 .intro p A;exact aY (aI (b.pin p A).1)
 . refine⟨_,N,fun g=>?_⟩;show gO (match g==f with|true=>some y|false=>none) _;by_cases z:g=f;.rwa[ao z,show(g==f)=true by grind]
   .rw[ak z,show(g==f)=false by simpa using z];trivial
end
section
variable{M:Model}{A:Around}{E:Value->Shared->Prop}{s:Shared}{B:Heap}{env:Env}{outer l:List Env}{L e:Addr}{Q:Unit->Shared->Prop}
def X0(c:A.frames=some (env::outer))(g:env.frame=some L)(a:B.StaysIn s.heap)(h:s.heap.FunFrames B (env::outer))(f:s.heap.get? e=some b)(hd:b.data=.fields vs)(h1:vs[1]?=some .none)(d:B.get? e=none)(k:∀h',kj B (env::outer) e b.cls b.dict (rawInt L) h'->s.heap.UpToSlots h'->Q () {s with heap:=h'}):wpAny M A (noteFrame (.ref e) env) Q E s:=by unfold noteFrame;simp[g];exact ah (cL f hd h1 (E1 c h g f hd (ud.mp h1).1 a d k))
end
def kv(H:Hp)(a:Addr):Hp:=fun b=>if b=a then none else H b
def xn(h:b≠a):kv H a b=H b:=by unfold kv;simp_all
section
variable {P : Program} {w : World} {K : PySem.W.Frag} {mg : Str->Option Value} {base : Heap} {N : List Str} {qual : Str} {scope : Scope} {f : Addr} {cd : Value} {A : Around} {outer : List Env} {s0 : Shared} {H0 : Hp} {E : XK}
def X1(I:Inv (kn P w K mg base N qual scope f cd A outer s0 H0 E) pins σ H s)(r:H ea=some (jz C p vs ea))(h0:s0.heap.get? ea=none)(M:vs[1]?=some .none)(q:E (.ref C) p (kv H ea)):(kn P w K mg base N qual scope f cd A outer s0 H0 E).xe (.ref ea) s:=by
 obtain⟨⟨ob,Y,X,g3,g4⟩,_⟩:=I.bB ea _ r;have D:∀i∈(kn P w K mg base N qual scope f cd A outer s0 H0 E).stack,∀a,i.frame=some a->a∈ea::kR (kn P w K mg base N qual scope f cd A outer s0 H0 E).stack:=fun i r a T=>bx _ (lB.mpr ⟨i,r,T⟩);have h:=I.stack;refine ah (X0 (B:=W.hideAll s.heap (ea::kR (kn P w K mg base N qual scope f cd A outer s0 H0 E).stack)) I.ok.frames rfl (fun b o e=>oN _ e) (W.funFrames_hide h D) Y g4 M (W.hideAll_none _ (by simp)) fun h1 U up1=>(E2 U fun Z y t=>?_));have g:∀b o,s.heap.get? b=some o->b∉ea::kR (kn P w K mg base N qual scope f cd A outer s0 H0 E).stack->(W.hideAll s.heap (ea::kR (kn P w K mg base N qual scope f cd A outer s0 H0 E).stack)).get? b=some o:=fun b o e c=>oJ _ e c;have d:∀{b:Addr}{u:HO},H b=some u->(∀O,u≠.ext O)->b≠ea:=fun e n z=>by subst z;rw[r]at e;exact n _ (dU e).symm
 have l:Un (kn P w K mg base N qual scope f cd A outer s0 H0 E).fs [] H0 (kv H ea) s0.heap s.heap:=⟨I.base.keep,I.base.slot,fun b o e n S=>by
   unfold kv;split;.rfl
   .exact I.base.free b o e n S,I.base.there,fun b J e=>by have z:=I.base.kg b J e;rwa[xn (d z (fun _ w=>by cases w))],fun b o u e=>by have z:=I.base.js b o u e;rwa[xn (d z (fun _ w=>by cases w))],fun b Q e=>let⟨m,z⟩:=I.base.h7 b Q e;⟨m,by rwa[xn (d z (fun _ w=>by cases w))]⟩⟩;obtain⟨u,j⟩:=E3 (h1:=s0.heap) (h2:=s.heap) (h3:=Z) (B:=W.hideAll s.heap (ea::kR (kn P w K mg base N qual scope f cd A outer s0 H0 E).stack)) (fr:=kR (kn P w K mg base N qual scope f cd A outer s0 H0 E).stack) Un.refl (l.mono (fun b c=>bx _ c) (fun b c=>c)) I.ok.above I.gy (fun b c=>bx _ c) I.ok.tJ (fun b c o e=>by obtain⟨_,x,R,hn⟩:=h.mem (bx _ c);simp_all) (up1.trans t) y.stays (fun b o e c=>by
   obtain⟨x,e'⟩:=I.base.there b o e (by show b∉[];simp);have L:b≠ea:=fun z=>by simp_all
   refine⟨x,g b x e' (fun z=>(aM.mp z).elim L c),fun n=>?_⟩;have k:=I.base.keep b o e n (fun z=>c (bx _ z)) (by show b∉[];simp);simp_all);refine⟨ea,C,p,kv H ea,rfl,⟨I.os,I.bare,u,_,by rw[X,g3]at y;exact y.pop,?_,j⟩,q⟩;intro a o e;have G:a≠ea:=fun z=>by unfold kv at e;simp_all
 rw[xn G]at e;refine(I.bB a o e).hZ (fun b v c q=>g b v q fun z=>?_) (fun b q=>by rwa[xn (d q (fun _ w=>by cases w))]) fun b _ q=>by rwa[xn (d q (fun _ w=>by cases w))]
 rcases aM.mp z with z|z
 . subst z;rcases c with c|c;.exact G c.symm
   .exact d c (fun _ w=>by cases w) rfl
 . have n:=I.jG b z;rcases c with rfl|c;.rw[e]at n;cases n
   .rw[c]at n;cases n
end
def X2{K:W.Frag}(X:K.In h)(G:h.Ns N m)(e:W.nsIn K N n=some (some v)):m n=some v:=by
 obtain⟨o,i,g,c,f,_,d⟩:=G;unfold W.nsIn at e;split at e
 . rename_i b;cases((X _ _ b).symm.trans c);cases f;split at e;.rename_i a;cases e;refine(d n).symm.trans ?_;simp only[nsFind,findBy];rw[<-Array.find?_toList,a];rfl
   simp_all
 .cases e
noncomputable def yx(K:W.Frag)(C:Addr)(b:List Value)(newId:String)(d:Addr):Bool:=match K.lookup C with|some ⟨.type "type",_,.cls a,e⟩=>(match a.mro,e.toList with|.ref c::f,[_,_,_,_,some (.builtin n),_]=>c==C&&n==newId&&!a.hasDel&&W.tailIn K b f&&W.nsOkIn K a.ns&&W.nsIn K a.ns "__init__"==some (some (.ref d))|_,_=>false)|_=>false
def X3{K:W.Frag}(X:K.In h)(q:yx K C d newId g=true):∃bm N nm e bs hdct sn sub ab col dd k0 k1 k2 k3 k5 mN,h.get? C=some (excClassObj nm e C N bs bm hdct sn sub ab col dd k0 k1 k2 k3 k5 newId)/\h.Ns N mN/\mN "__init__"=some (.ref g)/\OwnTail h d bm:=by
 unfold yx at q;split at q
 . rename_i dd f p l;split at q;.rename_i t bm k0 k1 k2 k3 n k5 k m;simp[eR]at q;obtain⟨⟨⟨⟨⟨rfl,rfl⟩,a⟩,o⟩,b⟩,c⟩:=q;obtain⟨nm,bs,r,u,e,s,sn,sub,ab,col,i⟩:=f;subst k a;obtain⟨j⟩:=p;subst m;exact⟨_,_,_,_,_,_,_,_,_,_,_,_,_,_,_,_,_,X _ _ l,.of_isNs (oK X b),X2 X (.of_isNs (oK X b)) c,W.tail_of_in X o⟩
   simp_all
 simp_all
section
variable{M:Model}{A:Around}{E:Value->Shared->Prop}{env:Env}
variable{nm q:Str}{C N:Addr}{bs bm:List Value}{hdct:Bool}{sn:List Str}{sub:List Value}{ab:Bool}{col:Option Bool}{dd:Option Addr}{k0 k1 k2 k3 k5:Option Value}{newId:String}
def X4(b:bm.contains (.type "BaseException")=true)(n:A.handled=none)(h:wpAny M A x (fun v a=>∃e c,v=.ref e/\a.heap.get? C=some (excClassObj nm q C N bs bm hdct sn sub ab col dd k0 k1 k2 k3 k5 newId)/\a.heap.get? e=some c/\c.cls=.ref C/\(∃vs,c.data=.fields vs/\vs[1]?=some .none)/\E (.ref e) a) E s):wpAny M A (raiseStmt env (some x) none) Q E s:=by
 have i:(Value.ref C::bm).contains (.type "BaseException")=true:=by rw[List.contains_cons,b,Bool.or_true]
 unfold raiseStmt;refine ah (dz h (fun v a f=>?_) fun _ _ x=>x);obtain⟨e,c,rfl,p,w,k,⟨vs,l,o⟩,t⟩:=f;obtain⟨u,g,d,z,os⟩:=a;obtain⟨y,j,r,m⟩:=c;subst k l;repeat(first|with_reducible rfl|with_reducible rfl|(with_reducible refine wpAny_isSubtype_exc p ?_;rw[i])|wp_step)
 rw[o];refine ax ?_;exact ax (wpAny_raiseNew_none n t)
end
def Gi(X:Cx)(E:zag->XK):Prop:=∀(b:List (Addr×Obj))(e:zag)(H:Hp)(s:Shared)(c C:Addr)(a:Option Addr)(d:Array Value),Inv X b e H s->H c=some (jz C a d c)->X.fA.heap.get? c=none->d[1]?=some .none->E e (.ref C) a (kv H c)->X.xe (.ref c) s
def Gj(C:Addr)(sp:Sp)(E:zag->XK)(t:TA):TS:=fun _ f H=>t f H fun c d=>c.length<=sizeLine/\∀e b,d e=none->sp (.ref e::c) (upd d e (jz C none b e)) (fun v g=>v=.non/\∃a,g e=some (jz C a b e)/\E f (.ref C) a (kv g e)) E0
section
variable {P : Program} {w : World} {K : PySem.W.Frag} {mg : Str->Option Value} {base : Heap} {N : List Str} {qual : Str} {scope : Scope} {f : Addr} {cd : Value} {A : Around} {outer : List Env} {s0 : Shared} {H0 : Hp} {E : XK}
def Nt:Gi (kn P w K mg base N qual scope f cd A outer s0 H0 E) (fun _=>E):=fun _ _ _ _ _ _ _ _ I c b a q=>X1 I c b a q
end
section
variable{X:Cx}{CX:jl}{k:Nat}{fa:Addr}{fd:FuncData}{ps:List Str}{sp:Sp}{x:Str}{np dN pos:Pos}{ij:Expr}{rest:List Expr}{C:Addr}{mR vJ:List Value}{newId Bn B vK vL gF:String}{E:zag->XK}{t:TA}
def X5(hex:X.ex=[])(hc:X.calm=true)(hg:Gl X x)(X6:X.mg x=some (.ref C))(hk:yx X.K C mR newId fa=true)(Fn:ExcBaseFacts Bn newId vL vJ)(X7:mR.contains (.type Bn)=true)(FB:ExcBaseFacts B vK gF mR)(hE:Gi X E)(F:cA X.prog X.w X.K X.mg X.base CX k fa fd ps sp)(hr:cj (k+1) X.A)(hb:zad X.K fd ps [])(Q:W.isFn X.K (.ref fa)=true)(hx:nW CX X E0)(ha:PA X (ij::rest) t)(he:autoParam (starEach (ij::rest) X.env=(false,eval ij X.env)::starEach rest X.env) zak)(i:autoParam ((backTo dN (starEach rest X.env)).any (·.1)=false) zak)(X8:autoParam ((x==("__debug__":Str))=false) zam):PS X (.Raise (some (.Call (.Name x np) (ij::rest) [] dN)) none pos) (Gj C sp E t):=by
 intro b s L H D I h;obtain⟨tl,N,nm,qn,bs,J,sn,sub,ab,col,dd,k0,k1,k2,k3,k5,mN,hC,hN,U,T⟩:=X3 I.ok.mod.vy hk;have w:(backTo dN (starEach (ij::rest) X.env)).any (·.1)=false:=by rw[he];show(false||(backTo dN (starEach rest X.env)).any (·.1))=false;rw[i];rfl
 refine ah (fY (X4 (C:=C) (nm:=nm) (q:=qn) (N:=N) (bs:=bs) (bm:=tl) (hdct:=J) (sn:=sn) (sub:=sub) (ab:=ab) (col:=col) (dd:=dd) (k0:=k0) (k1:=k1) (k2:=k2) (k3:=k3) (k5:=k5) (newId:=newId) (T.hasType FB.hasBase) (I.ok.hd hc) ?_));refine ah (dz (wpAny_Call_ofName (zC I hg X6 ?_ X8)) (fun v X9 y=>ah (fY (ax y))) fun _ _ x=>x);refine ah (dV ?_);have hA:=ha dN b s L H _ I h;rw[he]at hA w⊢;refine pV (bK hA fun l s1 ⟨vs,H1,j,r1,z,q⟩=>?_);have bk:=j.bk;have A:=bk _ _ hC;have fI:∃G,s1.heap.get? fa=some G/\G.cls=.type "function":=by have z:=eR.mp Q;obtain⟨G,e1,e2⟩:=oy.mp z;exact⟨G,j.h_ _ _ e1,e2⟩
 obtain⟨G,X_,R⟩:=fI;obtain⟨hp,g,d,tk,os⟩:=s1;refine ah (fY ?_);simp only[w];refine ah (wpAny_keeperOf_exc A (ah (Xv Fn X7 FB (T.keeps bk) A (hN.keeps bk) U X_ R (fun h' e hm=>?_) (by show l.length<=sizeLine;rw[<-r1.length];exact z))));obtain⟨t,ht,_,_⟩:=hm.there;have n:hp.get? e=none:=hm.new;have nH:H1 e=none:=j.bB.none_of n;have h0:X.fA.heap.get? e=none:=by cases z:X.fA.heap.get? e with|none=>rfl|some o=>obtain⟨o',e'⟩:=j.base.there e o z (by rw[hex];simp);rw[show hp.get? e=some o' from e']at n;cases n
 have I2:Inv X b L H1 {heap:=h',gens:=g,drawn:=d,toks:=tk,os:=os}:=j.kept hm.keeps;have O:=I2.vM (ea:=e) (o:=jz C none #[.ref t,.none,.none,.none,.bool false,.none] e) nH h0 (fun z=>by obtain⟨m,⟨o,es,ep,M,_⟩,_⟩:=j.loc;rw[z,show hp.get? X.env.locals=some o from M]at n;cases n) (fun x c ec z=>by obtain⟨v,o,M,_⟩:=j.cell x c ec;rw[z,n]at M;cases M) (fun p Z z=>by have a:=(j.pin p Z).1;rw[z,n]at a;cases a) (Nq ht rfl rfl rfl);have hq:=q e #[.ref t,.none,.none,.none,.bool false,.none] nH;have r2:Vals (V.ref e::vs) (Value.ref e::l):=.cons rfl r1;have hl:(Value.ref e::l++[]).length=ps.length:=by rw[dg,<-r2.length];exact F.len _ _ _ _ hq
 have bb:=hb _ (Value.ref e::l) O.h_ hl;rw[dg]at bb;refine gu (gr (F.run _ X.stack _ _ ⟨Value.ref e::l,[]⟩ (Value.ref e::l) _ _ E0 (hr.make C l []) (O.ux.make C l []) bb r2 hq) fun r s' f=>?_);cases r with|error er=>exact hx b L _ _ er s' O f|ok fl=>cases fl with|ret u=>obtain⟨v,H',Y,rv,ev,du,eH,qE⟩:=O.after f;subst ev;obtain⟨⟨ob,g1,g2,g3,g4⟩,_⟩:=Y.bB e _ eH;exact⟨rv,ah (dV (wpAny_point (ax ⟨e,ob,rfl,Y.bk _ _ hC,g1,g2,⟨_,g4,rfl⟩,hE b L _ _ e C _ _ Y eH h0 rfl qE⟩)))⟩|next=>exact False.elim f|brk=>exact False.elim f|cont=>exact False.elim f
end
end L2
namespace PM
def yy(K:W.Frag)(a:Str):Sp:=fun d H Q _=>∃(e C:Addr)(c:Array Value)(n:Int),d=[.ref e,.int n]/\H e=some (jz C none c e)/\sE K C/\aB K C a/\∀b,H b=none->Q .non (upd (upd H e (jz C (some b) c e)) b (.xd [(a,.int n)]))
def Nu{K}{a c b:Str}(h:yy K a vs H Q E):vs.length=[c,b].length:=by obtain⟨_,_,_,_,rfl,_⟩:=h;rfl
def xo(P:Program)(w:World)(K:W.Frag)(mg:Str->Option Value)(a:Heap)(c:Addr)(ps:List Str)(sp:Sp):Prop:=∃b,cA P w K mg a mw 1 c b ps sp/\zad K b ps []
section
variable{X:Cx}{fa:Addr}{ps:List Str}{sp:Sp}{x:Str}{np dN pos:Pos}{ij:Expr}{rest:List Expr}{C:Addr}{mR vJ:List Value}{newId Bn B vK vL gF:String}{E:zag->XK}{t:TA}
def Nv(e:X.ex=[])(n:X.calm=true)(p:Gl X x)(f:X.mg x=some (.ref C))(m:yx X.K C mR newId fa=true)(k:ExcBaseFacts Bn newId vL vJ)(b:mR.contains (.type Bn)=true)(j:ExcBaseFacts B vK gF mR)(g:Gi X E)(G:xo X.prog X.w X.K X.mg X.base fa ps sp)(l:cj 2 X.A)(c:W.isFn X.K (.ref fa)=true)(h:PA X (ij::rest) t)(o:autoParam (starEach (ij::rest) X.env=(false,eval ij X.env)::starEach rest X.env) zak)(a:autoParam ((backTo dN (starEach rest X.env)).any (·.1)=false) zak)(d:autoParam ((x==("__debug__":Str))=false) zam):PS X (.Raise (some (.Call (.Name x np) (ij::rest) [] dN)) none pos) (Gj C sp E t):=let⟨_,F,i⟩:=G;X5 e n p f m k b j g F l i c bL h o a d
end
noncomputable def uW:List D->Option Int|[.int n]=>some n|_=>none
def X'(h:uW l=some n):l=[.int n]:=by unfold uW at h;grind
def Gk(c0:Nat)(ml:En->R (List D))(δ:En):O:=(ml δ).il δ fun l=>match uW l with|some n=>cO (0<=n) (.ex δ ⟨c0+16*(n.toNat+1)⟩) .no|none=>.no
section
variable{K:Kx}{XO:di}{E:zag->XK}{ta:TE}{ma:En->R D}{Λ:List (Nat×Addr×HO)}{F0 H0 F H:Hp}{σ:zag}{δ:En}
def Nw(G:c0<16)(B:∀k,C=K.ca (c0+16*(k+1)))(s:∀k,K.an (c0+16*(k+1))=c)(A:sE K.f C)(N:aB K.f C c)(h:SA K (kN K) E Q ml):SS K (kN K) E (Gj C (yy K.f c) E Q) (Gk c0 ml):=by intro Λ F0 H0 F H σ δ T I a;refine h _ _ _ F H _ _ _ I ((cM.of I a).imp fun l U x e p S r=>?_);cases q:uW l with|none=>rw[q]at p;exact p.elim|some n=>
 rw[q]at p;have J:=X' q;subst J;simp at p;unfold cO at p;split at p
 . obtain⟨v,rfl,M⟩:=r.one;subst M;refine⟨by show 1<=sizeLine;decide,fun f y t=>⟨_,C,_,n,rfl,cu,A,N,fun g d=>⟨rfl,some g,?_,?_⟩⟩⟩
   . have i:f≠g:=fun z=>by rw[<-z,cu]at d;cases d
     rw[bz i,cu]
   . have i:g≠f:=fun z=>by rw[z,cu]at d;cases d
     have m:=by rw[bz i]at d;exact d
     have L:kv (upd (upd (upd x f (jz C none y f)) f (jz C (some g) y f)) g (.xd [(c,.int n)])) f=upd x g (.xd [(c,.int n)]):=by
      funext b;by_cases j:b=f;.subst j;rw[bz (aN i),t];unfold kv;simp
      . rw[xn j];by_cases u:b=g;.subst u;rw[cu,cu]
        .rw[bz u,bz u,bz j,bz j]
     rw[L];refine p _ _ _ _ _ ((I.grow e).grow (Ext.new (o:=.xd _) (I.grow e).same m)) ⟨by rw[B _],(⟨_,rfl,?_⟩)⟩;rw[cu,s];have:((c0+16*(n.toNat+1))/16:Nat)-1=n:=by omega
     rw[this]
 .exact p.elim
end
end PM
namespace L2
def Lx(ky:Nat->Int)(i j:Nat):Prop:=ky i<ky j\/(ky i=ky j/\i<j)
def Lx.trans(h:Lx ky a b)(h':Lx ky b c):Lx ky a c:=by unfold Lx at*;lia
def Lx.le(h:Lx ky a b):ky a<=ky b:=by unfold Lx at h;lia
abbrev cF(p:Array Nat)(j:Nat):Nat:=p.getD j 0
def AN(a:j<=p.size)(k:Nat):cF (W.kas_rev p i j) k=if i<=k/\k<j then cF p (i+j-1-k)else cF p k:=by unfold cF W.kas_rev;rw[og,getElem?_mirror_all a,og,og];grind
def Ya(a:s<p.size)(hd:d<=s)(k:Nat):cF (bubble p s d) k=if k=s-d then cF p s else if s-d<k/\k<=s then cF p (k-1)else cF p k:=by unfold cF;rw[og,getElem?_bubble a d hd,og,og,og];grind
def Arr(N:Nat)(p:Array Nat):Prop:=p.Perm (List.toArray (List.range N))
section
variable{N:Nat}{p:Array Nat}
def Arr.list(h:Arr N p):p.toList.Perm (List.range N):=by simpa using Array.perm_iff_toList_perm.mp h
theorem Arr.size(h:Arr N p):p.size=N:=by have:=h.size_eq;simp_all
def Arr.get(h:Arr N p)(hi:i<N):p.toList[i]?=some (cF p i):=by
 have:i<p.size:=by rwa[h.size]
 simp_all
def Arr.lt(h:Arr N p){i:Nat}(hi:i<N):cF p i<N:=by have:=h.list.mem_iff.mp (eL (h.get hi));simp_all
def Arr.inj(h:Arr N p)(hi:i<N)(c:j<N)(e:cF p i=cF p j):i=j:=by
 have d:=h.list.nodup_iff.mpr hU;have b:=h.get hi;have a:=h.get c;rw[<-e]at a;have f:i<p.toList.length:=by grind
 exact(rV f d).mp (b.trans a.symm)
def Arr.below(h:Arr N p)(b:∀j,n<=j->j<N->cF p j=j)(hi:i<n)(c:n<=N):cF p i<n:=by
 by_cases a:cF p i<n;.exact a
 .have l:=h.lt (show i<N by lia);have:=h.inj (by lia) l (b _ (by lia) l).symm;lia
def Arr.rev(h:Arr N p)(i j:Nat):Arr N (W.kas_rev p i j):=(mirror_perm p i j _).trans h
def Arr.Yb(h:Arr N p)(s d:Nat):Arr N (bubble p s d):=(bubble_perm p s d).trans h
end
section
variable{ky:Nat->Int}{N:Nat}{cmp:Nat->Nat->(Bool->Shared->Prop)->Shared->Prop}
def nO(ky:Nat->Int)(N:Nat)(cmp:Nat->Nat->(Bool->Shared->Prop)->Shared->Prop):Prop:=∀i j,i<N->j<N->∀(C:Bool->Shared->Prop)(s:Shared),C (decide (ky i<ky j)) s->cmp i j C s
structure Pre(ky:Nat->Int)(N:Nat)(p:Array Nat)(n:Nat):Prop where
 arr:Arr N p
 le:n<=N
 ord:∀i j,i<j->j<n->Lx ky (cF p i) (cF p j)rest:∀j,n<=j->j<N->cF p j=j
def Nx{g:Nat->Nat}(h:∀j,0<j->j<n->Lx ky (g (j-1)) (g j)):∀i j,i<j->j<n->Lx ky (g i) (g j):=by intro i j;induction j with|zero=>lia|succ j f=>
 intro k d;have a:=h _ (by lia) d;by_cases e:i=j;.simp_all
 .exact(f (by lia) (by lia)).trans a
def Ny(u:nO ky N cmp)(l:Arr N p):∀(f n:Nat)(s:Shared),1<=n->n+f<=N->(∀m,n<=m->m<=n+f->(∀j,n<=j->j<m->¬ky (cF p j)<ky (cF p (j-1)))->(m<n+f->ky (cF p m)<ky (cF p (m-1)))->G m s)->(W.kas_asc p f n).kasWp cmp G s:=by intro f;induction f with|zero=>intro n s q o k;exact k n (aC _) (aC _) (fun j a b=>by omega) (fun a=>by lia)|succ f t=>
 intro n s q o k;refine u _ _ (l.lt (by lia)) (l.lt (by omega)) _ s ?_;by_cases g:ky (cF p n)<ky (cF p (n-1));.rw[da g];exact k n (aC _) (by lia) (fun j a b=>by omega) fun _=>g
 . rw[cX g];refine t _ s (by lia) (by lia) fun m a b c d=>k m (by lia) (by lia) (fun j v r=>?_) (fun e=>d (by lia));by_cases e:j=n;.subst e;exact g
   .exact c j (by lia) r
structure Ds(ky:Nat->Int)(N:Nat)(p:Array Nat)(n q:Nat):Prop where
 arr:Arr N p
 le:n<=N
 qn:q<n
 rest:∀j,n<=j->j<N->cF p j=j
 ord:∀i j,i<j->j<n-1-q->Lx ky (cF p j) (cF p i)low:∀i j,i<n-1-q->n-1-q<=j->j<n->ky (cF p j)<ky (cF p i)CJ:∀i j,n-1-q<=i->i<j->j<n->ky (cF p i)=ky (cF p j)/\cF p i<cF p j
def Ds.turn(D:Ds ky N p n q)(g':∀k,cF d k=if n-1-q<=k/\k<n then cF p (n-1-q+n-1-k)else cF p k):∀i j,i<j->j<n->Lx ky (cF d j) (cF d i):=by
 intro i j f e;rw[g',g'];by_cases a:n-1-q<=i;.rw[ao ⟨by omega,e⟩,ao ⟨a,by omega⟩];have:=D.CJ (n-1-q+n-1-j) (n-1-q+n-1-i) (by omega) (by omega) (by omega);exact .inr this
 . by_cases b:n-1-q<=j;.rw[ao ⟨b,e⟩,ak (by omega)];exact .inl (D.low i _ (by omega) (by omega) (by omega))
   .rw[ak (by omega),ak (by omega)];exact D.ord i j f (by omega)
def Ds.next(D:Ds ky N p n q)(f:n<N)(l:Arr N d)(g':∀k,cF d k=if n-1-q<=k/\k<n then cF p (n-1-q+n-1-k)else cF p k)(lt:ky (cF p n)<ky (cF p (n-1))):Ds ky N d (n+1) 0:=by
 have h:cF d n=cF p n:=by simp_all
 refine⟨l,f,by lia,fun j a b=>?_,fun i j a b=>(D.turn g') i j a (by lia),fun i j a b c=>?_,fun i j a b c=>by lia⟩;.rw[g',ak (by lia)];exact D.rest j (by lia) b
 . have g:j=n:=by lia
   subst g;rw[h,g'];by_cases z:j-1-q<=i
   . rw[ao ⟨z,by lia⟩];have e:ky (cF p (j-1-q+j-1-i))=ky (cF p (j-1)):=by
      by_cases y:j-1-q+j-1-i=j-1;.rw[y]
      .exact(D.CJ _ _ (by omega) (by lia) (by omega)).1
     omega
   .rw[ak (by lia)];have:=D.low i (j-1) (by lia) (by omega) (by omega);omega
def Yc(t:nO ky N cmp)(k:∀p m q,Ds ky N p m q->G (p,m,q) s):∀(f:Nat)(p:Array Nat)(n q:Nat),n+f=N->Ds ky N p n q->(W.kas_desc f p n q).kasWp cmp G s:=by intro f;induction f with|zero=>intro p n q _ D;exact k p n q D|succ f h=>
 intro p n q w D;have v:=D.qn;refine t (cF p n) (cF p (n-1)) (D.arr.lt (by lia)) (D.arr.lt (by lia)) _ s ?_;by_cases g:ky (cF p n)<ky (cF p (n-1))
 . rw[da g];dsimp only;rw[ao rfl];by_cases l:q>0;.rw[ao l];refine h _ (n+1) 0 (by lia) (D.next (by lia) (D.arr.rev _ _) (fun k=>?_) g);have e:=AN (p:=p) (i:=n-(q+1)) (j:=n) (by lia) k;rwa[show n-(q+1)=n-1-q by lia]at e⊢
   . rw[ak l];refine h _ (n+1) 0 (by lia) (D.next (by lia) D.arr (fun k=>?_) g);by_cases z:n-1-q<=k/\k<n;.grind
     .grind
 . rw[cX g];refine t (cF p (n-1)) (cF p n) (D.arr.lt (by lia)) (D.arr.lt (by lia)) _ s ?_;by_cases d:ky (cF p (n-1))<ky (cF p n);.rw[da d];exact k p n q D
   . rw[cX d];have u:=D.rest n (aC _) (by lia);refine h p (n+1) (q+1) (by lia) ⟨D.arr,by lia,by lia,fun j a b=>D.rest j (by lia) b,fun i j a b=>D.ord i j a (by lia),fun i j a b c=>?_,fun i j a b c=>?_⟩
     . by_cases e:j=n;.subst e;have:=D.low i (j-1) (by lia) (by lia) (by lia);lia
       .exact D.low i j (by lia) (by lia) (by lia)
     . by_cases e:j=n
       . subst e;refine⟨?_,by rw[u];exact(D.arr.below (i:=i) D.rest (by omega) (by lia))⟩;by_cases y:i=j-1;.subst y;lia
         .have:=(D.CJ i (j-1) (by lia) (by lia) (by lia)).1;lia
       .exact D.CJ i j (by lia) b (by lia)
def Nz(r:nO ky N cmp)(g:Arr N p)(h1:1<=n)(q:n<=N)(f:∀i j,i<j->j<n->Lx ky (cF p j) (cF p i))(rest:∀j,n<=j->j<N->cF p j=j)(k:∀m l,1<=m->Pre ky N l m->G (m,l) s):(W.kas_tail3 n N p).kasWp cmp G s:=by
 unfold W.kas_tail3;rw[jX];have h:=AN (i:=0) (by rwa[g.size]);have d:∀j,n<=j->j<N->cF _ j=j:=fun j a b=>by rw[h,ak (by lia)];simp_all
 refine Ny r (g.rev 0 n) _ n s h1 (by lia) fun m a b c _=>k m _ (by omega) ⟨g.rev 0 n,by lia,Nx fun j u o=>?_,fun j x y=>d j (by lia) y⟩;by_cases t:j<n;.rw[h,h,ao ⟨by lia,by omega⟩,ao ⟨by lia,t⟩];exact f _ _ (by omega) (by omega)
 . have w:=c j (by lia) o;have z:=d j (by lia) (by lia);have v:cF (W.kas_rev p 0 n) (j-1)<j:=by
    by_cases e:j=n;.subst e;exact(g.rev 0 j).below d (by lia) q
    .rw[d _ (by lia) (by lia)];lia
   unfold Lx;omega
def NA(e:nO ky N cmp)(h:n<N)(D:Ds ky N p (n+1) 0)(k:∀m f,1<=m->Pre ky N f m->G (m,f) s):(W.kas_descPart n N p).kasWp cmp G s:=by
 unfold W.kas_descPart;rw[jX];refine Yc e (fun f m q c=>?_) _ p _ 0 (by lia) D;have l:=c.qn;have d:=c.le;by_cases g:q>0
 . rw[ao g];refine Nz (n:=m) e (c.arr.rev _ _) (by lia) d (c.turn fun k=>?_) (fun j a b=>?_) k;.have z:=AN (i:=m-(q+1)) (by rwa[c.arr.size]) k;grind
   .show cF (W.kas_rev _ _ m) j=j;rw[AN (by rwa[c.arr.size]),ak (by lia)];exact c.rest j a b
 . rw[ak g];refine Nz (n:=m) e c.arr (by lia) d (c.turn fun k=>?_) c.rest k;by_cases z:m-1-q<=k/\k<m;.rw[ao z];congr 1;lia
   .rw[ak z]
def Yd(N:Nat):Arr N (List.toArray (List.range N)):=Array.Perm.refl _
def oa{N j:Nat}(h:j<N):cF (List.toArray (List.range N)) j=j:=by simp_all
def Ye(o:nO ky N cmp)(I:1<=N)(k:∀m r,1<=m->Pre ky N r m->G (m,r) s):(W.kas_count N (List.toArray (List.range N))).kasWp cmp G s:=by
 unfold W.kas_count;rw[jX];have f:=Yd N;refine Ny o f (N-1) 1 s (aC _) (by lia) fun n a b c d=>?_;have p:Pre ky N (List.toArray (List.range N)) n:=⟨f,by lia,Nx fun j L B=>by have w:=c j (by lia) B;rw[oa (show j<N by lia),oa (show j-1<N by lia)]at w⊢;unfold Lx;lia,fun j _ y=>oa y⟩;by_cases e:n=N;.rw[ao (by simp[e])];exact k n _ (by omega) p
 . rw[ak (by simp[e])];have E:=d (by lia);rw[oa (show n<N by omega),oa (show n-1<N by lia)]at E;by_cases A:n>1
   . rw[ao A];refine o _ _ (f.lt (by lia)) (f.lt (by omega)) _ s ?_;rw[oa (show 0<N by lia),oa (show n-1<N by omega)];by_cases t:ky 0<ky (n-1);.rw[da t];dsimp only;rw[ao rfl];exact k n _ (by omega) p
     . rw[cX t];dsimp only;rw[ak (by simp)];have g:∀i,i<n->ky i=ky (n-1):=fun i v=>by
         have H:ky 0<=ky i:=by
          by_cases z:i=0;.subst z;exact gW _
          .have:=(p.ord 0 i (by lia) v).le;rwa[oa (show 0<N by lia),oa (show i<N by lia)]at this
         have J:ky i<=ky (n-1):=by
          by_cases z:i=n-1;.subst z;exact gW _
          .have:=(p.ord i (n-1) (by lia) (by lia)).le;rwa[oa (show n-1<N by lia),oa (show i<N by lia)]at this
         lia
       have l:∀k,k<N->cF (W.kas_rev (List.toArray (List.range N)) 0 n) k=if k<n then n-1-k else k:=fun k u=>by
         rw[AN (by rw[f.size];lia)];by_cases z:k<n;.rw[ao ⟨by lia,z⟩,ao z,oa (by lia)];lia
         .rw[ak (by lia),ak z,oa u]
       refine NA o (by lia) ⟨f.rev 0 n,by lia,by lia,fun j x y=>?_,fun i j x y=>?_,fun i j x y z=>?_,fun i j x y z=>by lia⟩ k;.rw[l j y,ak (by lia)]
       .rw[l j (by lia),l i (by lia),ao (by lia),ao (by lia)];exact .inr ⟨by rw[g (n-1-j) (by lia),g (n-1-i) (by lia)],by lia⟩
       . have q:j=n:=by lia
         subst q;rwa[l j (by lia),l i (by lia),ak (by lia),ao (by lia),g (j-1-i) (by lia)]
   . have C:n=1:=by lia
     subst C;refine NA o (by omega) ⟨f,by lia,by lia,fun j x y=>oa y,fun i j x y=>by lia,fun i j x y z=>?_,fun i j x y z=>by lia⟩ k;have q:j=1:=by lia
     have D:i=0:=by lia
     subst q D;rwa[oa (show 1<N by omega),oa (show 0<N by lia)]
def Yf(v:nO ky N cmp)(h:Pre ky N p k)(w:k<N)(d:∀l,l<=k->(∀j,j<l->ky (cF p j)<=ky (cF p k))->(∀j,l<=j->j<k->ky (cF p k)<ky (cF p j))->G l s):∀(f l r:Nat),l<=r->r<=k->r-l<=f->(∀j,j<l->ky (cF p j)<=ky (cF p k))->(∀j,r<=j->j<k->ky (cF p k)<ky (cF p j))->(W.kas_place p k f l r).kasWp cmp G s:=by
 intro f;induction f with|zero=>
  intro l r t g u a b;have e:r=l:=by lia
  subst e;exact d r g a b|succ f o=>
  intro l r t g u a b;unfold W.kas_place;by_cases e:l≥r
  . rw[ao e];have A:r=l:=by lia
    subst A;exact d r g a b
  . rw[ak e];refine v _ _ (h.arr.lt w) (h.arr.lt (by lia)) _ s ?_;have c:∀i j,i<=j->j<k->ky (cF p i)<=ky (cF p j):=fun i j x y=>by
     by_cases z:i=j;.subst z;lia
     .exact(h.ord i j (by lia) y).le
    by_cases q:ky (cF p k)<ky (cF p ((l+r)/2));.rw[da q];refine o l _ (by lia) (by lia) (by omega) a fun j x y=>?_;have:=c _ j x y;lia
    .rw[cX q];refine o _ r (by lia) g (by omega) (fun j x=>?_) b;have:=c j ((l+r)/2) (by lia) (by lia);lia
def Yg(w:nO ky N cmp)(h:∀p,Pre ky N p N->G p s):∀(f:Nat)(p:Array Nat)(k:Nat),k+f=N->Pre ky N p k->(W.kas_bin f p k).kasWp cmp G s:=by
 intro f
 induction f with|zero=>
 intro p k e c;have A:k=N:=by omega
 subst A;exact h p c|succ f v=>
 intro p k e c;unfold W.kas_bin;rw[jX];refine Yf w c (by lia) (fun l B a b=>v _ (k+1) (by lia) ?_) k 0 k (by lia) (aC _) (by lia) (fun j x=>by lia) fun j x y=>by lia
 have g:=Ya (p:=p) (s:=k) (d:=k-l) (by rw[c.arr.size];lia) (by lia);have C:=c.rest k (aC _) (by lia);have u:∀i,i<k->cF p i<k:=fun i z=>c.arr.below c.rest z c.le;rw[show k-(k-l)=l by lia]at g;refine⟨c.arr.Yb _ _,by lia,fun i j x y=>?_,fun j x y=>?_⟩
 . rw[g,g];by_cases n:i=l;.rw[ao n,ak (by lia),ao ⟨by lia,by omega⟩];exact .inl (b (j-1) (by lia) (by omega))
   . rw[ak n];by_cases q:j=l;.rw[ao q,ak (by lia)];have E:=a i (by lia);have D:=u i (by lia);unfold Lx;omega
     . rw[ak q];by_cases o:l<i/\i<=k;.rw[ao o,ao ⟨by lia,by omega⟩];exact c.ord _ _ (by omega) (by omega)
       . rw[ak o];by_cases m:l<j/\j<=k;.rw[ao m];exact c.ord _ _ (by lia) (by omega)
         .rw[ak m];exact c.ord _ _ x (by lia)
 .rw[g,ak (by lia),ak (by lia)];exact c.rest j (by lia) y
def Yh(c:nO ky N cmp)(d:1<=N)(a:∀p,Pre ky N p N->G p s):(W.kas_sort N).kasWp cmp G s:=by
 unfold W.kas_sort;rw[jX];refine Ye c d fun m p h b=>?_;by_cases e:m<N
 . rw[ao e];have g:max m 1=m:=by lia
   rw[g];exact Yg c a _ p m (by lia) b
 . rw[ak e];have f:m=N:=by have:=b.le;lia
   subst f;exact a p b
end
noncomputable def mX(ky:Nat->Int)(N:Nat):List Nat:=(List.range N).mergeSort fun i j=>decide (ky i<ky j\/(ky i=ky j/\i<=j))
def vY(ky:Nat->Int)(N:Nat):(mX ky N).Perm (List.range N):=oh ..
def Yi(ky:Nat->Int)(N:Nat):(mX ky N).Pairwise (Lx ky):=by have h:=oj (le:=fun i j=>decide (ky i<ky j\/(ky i=ky j/\i<=j))) (fun a b c d f=>by lia) (fun a b=>by grind) (List.range N);have e:(mX ky N).Nodup:=(vY _ N).nodup_iff.mpr hU;refine(List.Pairwise.and h e).imp fun{a b} h=>?_;have d:=h.1;simp at d;unfold Lx;lia
def Yj(c:l.Perm (List.range N))(d:l.Pairwise (Lx ky)):l=mX ky N:=rP (fun a b _ _ f e=>by unfold Lx at*;lia) d (Yi _ N) (c.trans (vY _ N).symm)
def Yk(b:Pre ky N p N):p.toList=mX ky N:=by
 refine Yj b.arr.list ?_;rw[List.pairwise_iff_getElem];intro i j h g d;have k:=b.arr.size;have c:i<N:=by simp_all
 have a:j<N:=by simp_all
 have f:=b.arr.get c;have e:=b.arr.get a;rw[b8 h]at f;rw[b8 g]at e;rw[dU f,dU e];exact b.ord i j d a
end L2
namespace L2
section
variable{prog:Program}{w:World}{A:Around}{E:Value->Shared->Prop}{s:Shared}
abbrev Kp(g h:Heap):Prop:=∀b o,g.get? b=some o->h.get? b=some o
def Yl{n:Nat}(q:A.handled=none)(l:IsRange s.heap r a b c t u v)(p:Builtin.Range.small a b c=true)(x:Builtin.Range.rangeSize a b c=n)(y:n<=2^24)(z:∀h' tk d,Kp s.heap h'->ItemsOf (fun i v=>∃t,v=.int (a+i*c) t) d n->Q d.toList {s with heap:=h',toks:=tk}):wpAny (model prog w) A (collect (.ref r)) Q E s:=by
 have h:∀R,(∀h' tk d j,Kp s.heap h'->h'.get? s.heap.objs.size=some (seqObj "list" d j)->ItemsOf (fun i v=>∃t,v=.int (a+i*c) t) d n->R (.ok (.ret (.ref s.heap.objs.size))) {s with heap:=h',toks:=tk})->codeAny (model prog w) A (.builtin "proto.collect" ⟨[.ref r],[]⟩) R s:=by intro R m;refine iY F.entry_proto_collect ((rM F.plain_proto_collect _).symm▸(ah (wpAny_newList (ax ⟨j9 F.plain_list_iadd _,iY F.entry_list_iadd ((rM F.plain_list_iadd _).symm▸?_)⟩) (by simp))));have atS:(s.heap.push _).get? _=some (seqObj "list" #[] 0):=b7 _ rfl;refine wpAny_extend_range (s:={s with heap:=s.heap.push _}) q (aO _ l) p x y _ _ 0 atS fun h' tk d j k g f=>m _ _ _ _ (fun b o e=>?_) g f;exact k b o (aY (aI e)) (aO _ e)
 exact ah (wpAny_runValue (h _ fun h' tk d j k g f=>ah (wpAny_load g (ax (z _ _ _ k f)))))
def Ym{its:List Value}(f:env.scope.kind=.function)(j:env.kindOf x=some .free)(c:env.cells.lookup x=some cc)(b:s.heap.IsCell cc (some (.ref a)))(k:env.kindOf n=some .local)(d:s.heap.Ns env.locals m)(l:m n=some (.int i t))(p:s.heap.IsList a its.toArray)(h0:0<=i)(e:i<2^63)(hi:its[i.toNat]?=some (.int z tz))(g:(x==("__debug__":Str))=false)(q:(x==("__classdict__":Str))=false)(o:(n==("__debug__":Str))=false)(h:Q (.int (-z) s.toks) {s with toks:=s.toks+1}):wpAny (model prog w) A (eval (.UnaryOp .USub (.Subscript (.Name x r) (.Name n y) u) v) env) Q E s:=UnaryOp_ (Subscript_ (j_ (wpAny_loadName_free f j c b (j_ (oS f k d l (item_listR p h0 e (by simpa using hi) (neg_int h) rfl)) o) q) g))
def Yn{f cc c a:Addr}{d:Arguments}{J l:Value}{its:List Value}(T:A.depth<recursionLimit)(ho:s.heap.get? f=some (W.kla_obj "<lambda>" q d (.UnaryOp .USub (.Subscript (.Name x p1) (.Name n N) p3) X) g cl J c l))(G:s.heap.CodeRec (.ref c) q)(m:s.heap.NoLimit)(S:∀v:Value,bindArgs (W.kla_fn "<lambda>" q d (.UnaryOp .USub (.Subscript (.Name x p1) (.Name n N) p3) X) g cl J (.ref c) l) ⟨[v],[]⟩=pure [(n,v)])(M:g.kind=.function)(p:g.isCoroutine=false)(u:g.isGenerator=false)(I:∀y∈g.names,y.2≠.cell)(L:g.names.lookup n=some .local)(O:g.names.lookup x=some .free)(D:cl.lookup x=some cc)(j:s.heap.IsCell cc (some (.ref a)))(U:s.heap.IsList a its.toArray)(h0:0<=i)(C:i<2^63)(hi:its[i.toNat]?=some (.int z tz))(R:(x==("__debug__":Str))=false)(Z:(x==("__classdict__":Str))=false)(Y:(n==("__debug__":Str))=false)(h:∀h' tk t',Kp s.heap h'->Q (.int (-z) t') {s with heap:=h',toks:=tk}):wpAny (model prog w) A (call (.ref f) [.int i t]) Q E s:=by
 refine gu (W.kla_callFunE T ho rfl p u rfl G ?_);rw[S];refine ax (wpAny_newFunctionEnv I (fun y hy=>?_) (fun h1 H k=>⟨m.fresh _ k,?_⟩) M)
 . obtain rfl:y=(n,.int i t):=by simp_all
   exact L
 have B:=fun b o e=>k.extBut b o (aY (aI e)) (aO _ e);exact W.kla_codeExpr (Ym (t:=t) M O D (j.keeps B) L H (by simp) (let⟨o,e,r⟩:=U;⟨o,B _ _ e,r⟩) h0 C hi R Z Y (h _ _ _ B))
def CK{g:Heap}(e:g.get? a=some (seqObj "list" xs n))(f:Array Value->Array Value):∃c,(g.update a (Obj.mapSeq f)).get? a=some (seqObj "list" (f xs) c):=⟨_,get?_update_seq e f⟩
def CL(k:Kp g h)(c:g.get? a=none)(f:Obj->Obj):Kp g (h.update a f):=fun b o e=>((nj h a f).2 b (fun z=>by simp_all)).trans (k b o e)
def NB(h:IntsAre vs kz)(hi:i<kz.length):∃t,vs.getD i .none=.int (kz.getD i 0) t:=let⟨t,e⟩:=h.get i (kz.getD i 0) (by simp[hi]);⟨t,by rw[cz,e];rfl⟩
def Yo{vs:List Value}(D:Heap)(na:D.get? a=none)(X:D.get? k=none)(H:k≠a)(K0:Kp D s.heap)(S:s.heap.get? k=some (seqObj "list" b e))(ha:s.heap.get? a=some (seqObj "list" #[] l))(B:IntsAre b.toList kz)(o:kz.length=vs.length)(L:vs.length<64)(O:∀h' c,Kp D h'->h'.get? a=some (seqObj "list" (List.toArray ((mX (fun i=>kz.getD i 0) vs.length).map fun i=>vs.getD i .none)) c)->P (.done (.ret .none)) {s with heap:=h'}):wpAny (model prog w) A (ksk_end a false vs.toArray l (.ref k) b) P E s:=by
 have q:b.size=vs.length:=by have:=B.length;rw[qG]at this;lia
 have f:∀(st:SortSt),(arrOf st).map (·.2)=List.toArray ((mX (fun i=>kz.getD i 0) vs.length).map fun i=>vs.getD i .none)->failedOf st=none->wpAny (model prog w) A (ksk_tail a false l (.ref k) st) P E s:=by
  intro st I hf;obtain⟨ck,hck⟩:=CK S fun _=>#[];have g:(s.heap.update k (Obj.mapSeq fun _=>(#[]:Array Value))).get? a=some (seqObj "list" #[] l):=((nj s.heap k _).2 a H.symm).trans ha;obtain⟨ca,U⟩:=CK g fun _=>(arrOf st).map (·.2);have T:=CL (CL K0 X (Obj.mapSeq fun _=>(#[]:Array Value))) na (Obj.mapSeq fun _=>(arrOf st).map (·.2));have ln:((arrOf st).map (·.2)).size=vs.length:=by rw[I,cV,aF,(vY _ _).length_eq,qh]
  unfold ksk_tail;try rfl
  refine ah (listUpdate_at S rfl (ah (gv (ah (seqEpoch_at g rfl (ah (listUpdate_at g rfl ?_ (bM _) (bo (lN ln) (by rw[fz];lia)))))))) (by rw[q,fz];lia) (bM _));rw[hf];simp only[bne_self_eq_false,uf,if_false];refine ax (O _ ca T ?_);grind
 unfold ksk_end;try rfl
 simp only[uf,if_false];by_cases n:vs.toArray.size<2;.rw[ao n,ao n];refine ah (ax (f _ ?_ rfl));match vs,n,o,q with
  |[],_,_,z=>
   have:b=#[]:=Array.eq_empty_of_size_eq_zero z;subst this;have l:mX (fun i=>kz.getD i 0) 0=[]:=by have:=vY (fun i=>kz.getD i 0) 0;simpa using this
   show(((#[]:Array Value).zip #[]).map (·.2))=List.toArray ((mX _ 0).map _);simp_all|[v],_,_,z=>
   have l:mX (fun i=>kz.getD i 0) 1=[0]:=by have:=vY (fun i=>kz.getD i 0) 1;simpa using this
   show(((b.zip #[v])).map (·.2))=List.toArray ((mX _ 1).map _);rw[l];apply Array.toList_inj.mp;rw[Array.toList_map,show(#[v]:Array Value)=List.toArray [v]from rfl,ksk_zip];have:b.toList.length=1:=by rwa[qG]
   match b.toList,this with|[y],_=>rfl
  |_::_::_,h,_,_=>simp at h;lia
 .rw[ak n,ak n];rw[cV]at n;rw[ksk_kind B (by lia)];refine ah (ax ?_);have run:=W.kat_run (prog:=prog) (w:=w) (A:=A) (E:=E) (s:=s) (vs:=vs) (ks:=b.toList) (κ:=oneType') (Q:=fun st m=>m=s/\(arrOf st).map (·.2)=List.toArray ((mX (fun i=>kz.getD i 0) vs.length).map fun i=>vs.getD i .none)/\failedOf st=none) (G:=fun p m=>m=s/\p.toList=mX (fun i=>kz.getD i 0) vs.length) (by rwa[qG]) (by lia) L (fun p st m q1 J M R=>⟨R.1,by rw[W.kat_snds (by rwa[qG]) J,R.2],M⟩) (Yh (ky:=fun i=>kz.getD i 0) (N:=vs.length) (fun i j hi hj C m hC=>by obtain⟨t,Y⟩:=NB B (i:=i) (by lia);obtain⟨u,eu⟩:=NB B (i:=j) (by lia);unfold W.kas_ask;rw[Y,eu];exact W.kat_lt_int hC) (by lia) fun p hp=>⟨rfl,Yk hp⟩);refine ah (dz run (fun r m Z=>?_) fun _ _ x=>x);obtain⟨⟨⟩,st⟩:=r;obtain⟨rfl,J,M⟩:=Z;exact f st J M
def Yp{vs:List Value}{kz:List Int}(l:Heap)(na:l.get? a=none)(K0:Kp l s.heap)(N:s.heap.get? a=some (seqObj "list" vs.toArray n))(I:kz.length=vs.length)(Z:vs.length<64)(B:∀(i:Nat)(v:Value)(k:Int),vs[i]?=some v->kz[i]?=some k->∀(h:Heap)(tk:Nat),Kp l h->∀Q:Value->Shared->Prop,(∀h' T t',Kp h h'->Q (.int k t') {s with heap:=h',toks:=T})->wpAny (model prog w) A (call (.ref f) [v]) Q (fun _ _=>False) {s with heap:=h,toks:=tk})(fin:∀h' tk c,Kp l h'->h'.get? a=some (seqObj "list" (List.toArray ((mX (fun i=>kz.getD i 0) vs.length).map fun i=>vs.getD i .none)) c)->P (.done (.ret .none)) {s with heap:=h',toks:=tk}):wpAny (model prog w) A (ksk_tree a (.ref f) false) P E s:=by
 have la:=aI N;obtain⟨e1,G⟩:=CK N fun _=>#[];refine ah (listItems_at N rfl (ah (listUpdate_at N rfl ?_ (by rw[cV,fz];lia) (bM _))));refine ah (seqEpoch_at G rfl (ah (wpAny_newTuple ?_ (by show vs.length<=_;rw[fz];lia))));refine ah (wpAny_newList (dV ?_) (bM _));obtain⟨g,p⟩:=zaa (((s.heap.update a (Obj.mapSeq fun _=>(#[]:Array Value))).push (seqObj "tuple" vs.toArray 0)).objs.size);have t:g=s.heap.objs.size+1:=by rw[p,size_push',Heap.size_update]
 have nk:l.get? g=none:=by cases q:l.get? g with|none=>rfl|some o=>have z:=aI (K0 _ _ q);rw[t]at z;exact absurd z (by simp)
 have y:g≠a:=by rw[t];exact eO (jU la)
 obtain⟨r,d⟩:=zaa (((s.heap.update a (Obj.mapSeq fun _=>(#[]:Array Value))).push (seqObj "tuple" vs.toArray 0)).push (seqObj "list" #[] 0));have K2:Kp l r:=fun b o e=>by rw[d];exact aO _ (aO _ ((CL K0 na (Obj.mapSeq fun _=>(#[]:Array Value))) b o e))
 have R:r.get? a=some (seqObj "list" #[] e1):=by rw[d];exact aO _ (aO _ G)
 have U:r.get? g=some (seqObj "list" #[] 0):=by rw[d,p];exact b7 _ rfl
 rw[<-p,<-d];refine ah (iZ ?_);rw[List.forIn_toArray];refine ah (ksk_fold (fun i s'=>∃h' tk m e,s'={s with heap:=h',toks:=tk}/\Kp l h'/\h'.get? g=some (seqObj "list" m e)/\h'.get? a=some (seqObj "list" #[] e1)/\IntsAre m.toList (kz.take i)) vs 0 _ ⟨r,s.toks,#[],0,rfl,K2,U,R,by simpa using IntsAre.nil⟩ ?step ?D);case step=>
  rintro j x s' hx ⟨h',tk,m,e,rfl,M,J,Y,H⟩;simp only[Nat.zero_add]at H⊢;have hj:j<vs.length:=(bV.mp hx).1;obtain⟨k,u⟩:∃k,kz[j]?=some k:=⟨_,b8 (by lia)⟩;have hz:m.size<=vs.length:=by have h1:=H.length;rw[qG,qi]at h1;lia
  refine ah (lV (dz (B j x k hx u h' tk M _ fun h3 tk3 O L=>?C) (fun _ _ z=>z) fun _ _ hF=>hF.elim));case C=>
  obtain⟨c2,Yq⟩:=CK (L _ _ J) (·.push (.int k O));have ek:kz.take (j+1)=kz.take j++[k]:=by rw[List.take_add_one,u];simp
  have ea:(m.push (Value.int k O)).toList=m.toList++[Value.int k O]:=by simp
  refine ah (listUpdate_at (L _ _ J) rfl ?_ (by rw[fz];lia) (bo (lN (Array.size_push ..)) (by rw[fz];lia)));exact ax ⟨rfl,_,_,m.push (.int k O),c2,rfl,CL (fun b o q=>L _ _ (M b o q)) nk _,Yq,((nj _ _ _).2 a y.symm).trans (L _ _ Y),by rw[ea,ek];exact ksk_snoc H⟩
 case D=>
  rintro s' ⟨h',tk,m,e,rfl,M,J,Y,H⟩;have X:=by rwa[oq (by lia)]at H
  exact ah (listItems_at J rfl (Yo _ na nk y M J Y X I Z fun h3 c S q=>fin _ _ c S q))
def Yr{kz:List Int}(hh:A.handled=none)(Z:IsRange s.heap r 0 b 1 t u v)(hb:b=(kz.length:Nat))(h64:kz.length<64)(p:∀(i:Nat)(t:Tok)(k:Int),kz[i]?=some k->∀(h:Heap)(tk:Nat),Kp s.heap h->∀Q:Value->Shared->Prop,(∀h' G t',Kp h h'->Q (.int k t') {s with heap:=h',toks:=G})->wpAny (model prog w) A.in1.in1 (call (.ref f) [.int (i:Nat) t]) Q (fun _ _=>False) {s with heap:=h,toks:=tk})(L:∀D h' tk n c,s.heap.get? D=none->Kp s.heap h'->IntsAre n.toList ((mX (fun i=>kz.getD i 0) kz.length).map fun i:Nat=>(i:Int))->h'.get? D=some (seqObj "list" n c)->Q (.ref D) {s with heap:=h',toks:=tk}):wpAny (model prog w) A (call (.builtin "sorted") [.ref r] [(Str.ofString "key",.ref f)]) Q E s:=by
 refine call_function_entry_kw kind_sorted plain_sorted entry_sorted (ksk_s1 _ _) ?_;unfold Builtin.«sorted»;refine ah (m:=checkCount "sorted" 1 1 _) (ax ?_);have sz:Builtin.Range.rangeSize 0 b 1=(kz.length:Int):=by rw[lR];lia
 refine ah (Yl (A:=A.in1) hh Z (small_one (by decide) (by decide) (by lia) (by lia)) sz (by lia) fun C g a U d=>?_);have y:a.toList.length=kz.length:=by rw[qG];exact d.1
 have X:∀i v,a.toList[i]?=some v->∃t,v=Value.int (i:Nat) t:=fun i v e=>(let⟨t,S⟩:=d.2 i v (by simp_all);⟨t,by rw[S];simp⟩);refine ah (wpAny_newList ?_ (by rw[y,fz];lia));obtain⟨D,I⟩:=zaa C.objs.size;have T:(C.push (seqObj "list" a.toList.toArray 0)).get? D=some (seqObj "list" a.toList.toArray 0):=by rw[I];exact b7 _ rfl
 have R:s.heap.get? D=none:=by cases q:s.heap.get? D with|none=>rfl|some o=>have z:=aI (U _ _ q);rw[I]at z;exact absurd z (dI _)
 show wpAny _ _ _ _ _ {s with heap:=C.push (seqObj "list" a.toList.toArray 0),toks:=g};rw[<-I];refine ah (dV (wpAny_call_entry_kw slot_list_sort ⟨_,T,rfl⟩ entry_list_sort ?x (ksk_l1 _ _)));case x=>
 show wpAny (model prog w) A.in1.in1 (Builtin.«list.sort» ⟨[.ref D],[(Str.ofString "key",.ref f)]⟩) _ _ _;rw[ksk_t1];refine Yp (s:={s with heap:=C.push (seqObj "list" a.toList.toArray 0),toks:=g}) s.heap R (fun b o e=>aO _ (U b o e)) T y.symm (by lia) (fun i v k Y hk h tk J Q' hQ=>?_) fun h' tk c J q=>⟨_,rfl,?_⟩;.obtain⟨t,rfl⟩:=X i v Y;exact p i t k hk h tk J Q' hQ
 . refine ax ⟨_,rfl,?_⟩;rw[y]at q;refine L D h' tk _ c R J ?_ q;have H:∀l:List Nat,(∀i∈l,i<kz.length)->IntsAre (l.map fun i=>a.toList.getD i .none) (l.map fun i:Nat=>(i:Int)):=fun l=>by induction l with|nil=>intro _;exact .nil|cons i l ih=>
    intro M;have B:i<a.toList.length:=by rw[y];exact M i gY
    obtain⟨t,S⟩:=X i (a.toList[i]) (b8 B);have e:a.toList.getD i .none=.int (i:Nat) t:=by rwa[cz,b8 B]
    rw[bR,bR,e];exact .cons _ _ (ih fun j hj=>M j (bx _ hj))
   simpa using H _ fun i B=>by have:=(vY _ _).mem_iff.mp B;simpa using this
end
section
variable{X:Cx}{pins:List (Addr×Obj)}{σ:zag}{H:Hp}{s:Shared}{h':Heap}
def Inv.AO(I:Inv X pins σ H s)(k:Kp s.heap h')(n:s.heap.get? a=none)(h:dE X.prog X.w (upd H a o) h' a o):Inv X pins σ (upd H a o) {s with heap:=h',toks:=t'}:=by
 have d:=I.bB.none_of n;have i:∀b u,s.heap.get? b=some u->b≠a:=fun b u e z=>by simp_all
 refine I.un ⟨fun b u q _ _ _=>k b u q,fun b u q _ _ _=>⟨_,k b u q⟩,fun b u q z _=>by rwa[bz (i b u q)],fun b u q _=>⟨u,k b u q⟩,fun b g q=>by rwa[bz (d9 q d)],fun b u g q=>by rwa[bz (d9 q d)],fun b j q=>⟨#[],by rw[bz (d9 q d),q];simp⟩⟩ fun b u e=>?_;by_cases f:b=a;.subst f;rw[cu]at e;simp_all
 .rw[bz f]at e;exact(I.bB b u e).hZ (fun c v _ q=>k c v q) (fun c q=>by rwa[bz (d9 q d)]) fun c g q=>by rwa[bz (d9 q d)]
def Inv.filled(I:Inv X pins σ H s)(l:H P=some (.oX ps))(k:∀b o,b≠P->s.heap.get? b=some o->h'.get? b=some o)(n:s.heap.get? c=none)(p:∃o,h'.get? c=some o)(f:iE (upd H c (.own P)) h' P ps):Inv X pins σ (upd H c (.own P)) {s with heap:=h',toks:=t'}:=by
 have a:=I.bB.none_of n;have m:∀b u,s.heap.get? b=some u->b≠c:=fun b u e z=>by simp_all
 have g:∀b,H b=none->b≠P:=fun b e z=>by lia
 have t:c≠P:=g c a;have r:∃o,h'.get? P=some o:=let⟨_,_,_,_,_,_,_,e,_⟩:=f;⟨_,e⟩;refine I.un ⟨fun b u q z _ _=>k b u (g b z) q,fun b u q z _ _=>⟨u.slots,k b u (g b z) q⟩,fun b u q z _=>by rwa[bz (m b u q)],fun b u q _=>?_,fun b j q=>by rwa[bz (d9 q a)],fun b u j q=>by rwa[bz (d9 q a)],fun b ps q=>⟨#[],by rw[bz (d9 q a),q];simp⟩⟩ fun b u e=>?_
 . by_cases z:b=P;.simp_all
   simp_all
 . by_cases h:b=c;.subst h;rw[cu]at e;cases e;exact p
   . rw[bz h]at e;by_cases z:b=P;.subst z;rw[l]at e;cases e;exact f
     . refine(I.bB b u e).hZ (fun d v i q=>k d v ?_ q) (fun d q=>by rwa[bz (d9 q a)]) fun d j q=>by rwa[bz (d9 q a)]
       rcases i with rfl|i;.exact z
       .rintro rfl;simp_all
def mJ(mg:Str->Option Value)(h:Heap):Prop:=∃b a,mg "__builtins__"=some (.ref b)/\b≠builtinsNs/\h.get? b=some a/\a.cls=.type "module"/\a.dict=some builtinsNs/\a.data=.plain
def Ys(I:Inv X pins σ H s)(hT:tabOf X.K=some (P,#[.str (X.env.qual++"<lambda>") 0,rawInt pos.line,rawInt pos.col]))(hC:W.codeHdIn X.K c P=true)(N:X.env.code=.ref c)(r:closureFor B X.env=pure cl)(A:defaultsOf a X.env=([],[]))(hB:mJ X.mg X.base)(h:∀(f k:Addr)(pm g:Value)(H':Hp)(s':Shared),av H H'->Inv X pins σ H' s'->s'.heap.get? f=some (W.kla_obj "<lambda>" (X.env.qual++"<lambda>") a i B cl pm k g)->s'.heap.CodeRec (.ref k) (X.env.qual++"<lambda>")->Q (.ref f) s'):wpAny (model X.prog X.w) X.A (eval (.Lambda a i B pos) X.env) Q E s:=by
 refine W.kla_eval A ?_;obtain⟨v,G⟩:=I.ok.tb.grown I.base.h7 _ hT;obtain⟨q,tq,ln,co,mr,O,Y,U,e3⟩:=I.bB P _ G;have J:Value.str (X.env.qual++"<lambda>") 0::rawInt pos.line::rawInt pos.col::v.toList=.str q tq::rawInt ln::rawInt co::mr:=by rw[<-Y];simp
 have l:s.heap.Ns mainGlobals X.mg:=I.mod.glob.keeps I.bk;have S:W.CodeHd s.heap c P:=W.codeHd_of_K I.h_ hC;have p:∀b o,X.base.get? b=some o->b≠P:=fun b o e z=>by have:=(I.bs b o e).2;rw[z,G]at this;cases this
 have L:mainGlobals≠P:=let⟨o,es,ep,e,_⟩:=I.mod.glob;p _ _ e;have y:s.heap.BuiltinsAt X.mg P:=by obtain⟨bm,ob,b1,b2,T,b4,b5,b6⟩:=hB;refine⟨bm,ob,b1,b2,fun z=>?_,p _ _ T,I.bk _ _ T,b4,b5,b6⟩;obtain⟨o,es,ep,e,d,_⟩:=I.mod.glob;grind
 injection J with f1 f2;injection f1 with f3 f4;injection f2 with C f6;injection f6 with M f8;injection C with C _;injection M with M _;subst f3 C M;rcases e3 with rfl|⟨k,o,vs,u,rfl,r1,r2,r3,r4⟩;.refine W.kla_makeFunction (mg:=X.mg) r I.ok.glob l N S U trivial rfl L y fun k g h' tk hx x uN w D=>?_;obtain⟨_,oc,vs,t,z,j,Z,R⟩:=id w;cases z;have m:Kp h' (h'.push (W.kla_obj "<lambda>" (X.env.qual++"<lambda>") a i B cl ((X.mg "__name__").getD .none) k g)):=fun b o e=>aO _ e;refine h _ _ _ g _ _ (av.upd (I.bB.none_of (k9 x))) ((I.filled (t':=tk) G (fun b o hb e=>hx b o hb e) (k9 x) ⟨_,j⟩ ⟨_,_,_,_,_,_,Y,D,.inr ⟨_,_,_,t,rfl,cu,j,Z,R⟩⟩).kept m) (b7 _ rfl) ⟨_,_,_,t,rfl,m _ _ j,Z,R⟩
 .refine W.kla_makeFunctionHit (cv:=.ref k) r I.ok.glob l N S U trivial (by simp[codeAmong,rawInt]) y fun g h' tk hk hsz=>?_;have m:Kp s.heap (h'.push (W.kla_obj "<lambda>" (X.env.qual++"<lambda>") a i B cl ((X.mg "__name__").getD .none) k g)):=fun b o e=>aO _ (hk b o e);exact h _ _ _ g H _ (av.refl _) (I.kept m) (b7 _ rfl) ⟨_,o,_,u,rfl,m _ _ r2,r3,r4⟩
def NC(f:TA)(g:Nat):TE:=fun σ H Q=>f σ H fun e c=>∃(r a:Addr)(b:List Int),e=[.ref r]/\c r=some (.l' 0 (b.length:Nat))/\σ[g]?=some (some (.ref a))/\Rd c a (.lst (b.map V.int))/\b.length<64/\∀d D,av c d->d D=none->Q (.ref D) (upd d D (.lst ((mX (fun i=>-(b.getD i 0)) b.length).map fun i:Nat=>V.int (i:Int))))
def Yt(hc:X.calm=true)(hr:cj k X.A)(hg:Gl X "sorted")(hm:X.mg "sorted"=none)(ha:PA X [L] ta)(hT:tabOf X.K=some (P,#[.str (X.env.qual++"<lambda>") 0,rawInt lp.line,rawInt lp.col]))(hC:W.codeHdIn X.K c P=true)(CM:X.env.code=.ref c)(hB:mJ X.mg X.base)(uC:∀cc,X.env.cells.lookup x=some cc->closureFor g X.env=pure [(x,cc)])(J:defaultsOf b X.env=([],[]))(hb:∀(q:Str)(cl:List (Str×Addr))(pm C v:Value)(c:Addr),bindArgs (W.kla_fn "<lambda>" q b (.UnaryOp .USub (.Subscript (.Name x p1) (.Name n p2) p3) p4) g cl pm (.ref c) C) ⟨[v],[]⟩=pure [(n,v)])(hN:X.N[ix]?=some x)(N:X.env.kindOf x=some .cell)(hk:g.kind=.function)(Yu:g.isCoroutine=false)(S:g.isGenerator=false)(T:∀y∈g.names,y.2≠.cell)(hn:g.names.lookup n=some .local)(hx:g.names.lookup x=some .free)(d1:(x==("__debug__":Str))=false)(d2:(x==("__classdict__":Str))=false)(d3:(n==("__debug__":Str))=false)(he:autoParam (backTo pos (starEach [L] X.env)=(false,eval L X.env)::backTo pos (starEach [] X.env)) zak)(Yv:autoParam ((backTo pos (starEach [L] X.env)).any (·.1)=false) zak):PE X (.Call (.Name "sorted" p0) [L] [⟨some "key",.Lambda b (.UnaryOp .USub (.Subscript (.Name x p1) (.Name n p2) p3) p4) g lp,l⟩] pos) (NC ta ix):=by
 intro pins s σ H Q I h;refine hW (nV I hg hm rfl (callWith_kw (bK (ha pos pins s σ H _ I h) fun us s1 ⟨vs,H1,I1,r1,r,a,j,e1,Y,hs,hq,hl,q⟩=>?_) he Yv));subst e1;obtain⟨u,rfl,rx⟩:=kW r1;cases rx;obtain⟨m0,Yw,p⟩:=I1.loc;obtain⟨u0,ru,R⟩:=p ix x _ hN hs (.inr (.inl N));obtain⟨cc,E⟩:∃cc,X.env.cells.lookup x=some cc:=by
   rcases R with⟨z,_⟩|⟨_,cc,e,_⟩;.rw[N]at z;cases z
   simp_all
 show wpAny _ _ (evalAll ((do let v<-eval _ X.env;standAt pos;pure v)::[])) _ _ s1;refine wpAny_evalAll_cons (ah (Ys I1 hT hC CM (uC cc E) J hB fun f c' pm C H2 O M w hf G=>ah (fY (ax (wpAny_evalAll_nil ?_)))));show wpAny _ _ (call (.builtin "sorted") [.ref r] [(Str.ofString "key",.ref f)]) _ _ O;obtain⟨t,u1,v1,Yx⟩:=w.bB r _ (M _ _ Y);have Yy:Rd H2 a (.lst (j.map V.int)):=hq.elim (fun z=>.inl (M _ _ z)) fun⟨o,z⟩=>.inr ⟨o,M _ _ z⟩;obtain⟨z,Z,cnt,rv,Yz⟩:=Yy.ok w.bB;have B:O.heap.IsCell cc (some (.ref a)):=by
   obtain⟨m,hns,p⟩:=w.loc;obtain⟨u0,ru,R⟩:=p ix x _ hN hs (.inr (.inl N));cases ru;rcases R with⟨z,_⟩|⟨_,c2,e,q⟩;.rw[N]at z;cases z
   .rw[E]at e;cases e;exact q
 refine Yr (A:=X.A) (kz:=j.map fun z=>-z) (w.ok.hd hc) Yx (by rw[aF]) (by rw[aF];exact hl) (fun i t k d h' tk l Q' hQ=>?_) fun D h' tk U cD nD l io hD=>?_;.rw[bX]at d;cases e:j[i]? with|none=>rw[e]at d;cases d|some z=>rw[e]at d;have ek:-z=k:=dU d;subst ek;obtain⟨tz,ez⟩:=(CC rv).get i z e;exact Yn (s:={O with heap:=h',toks:=tk}) (A:=X.A.in1.in1) (its:=Z) (tz:=tz) (show X.A.depth<recursionLimit from hr.depth) (l _ _ hf) (G.keeps l) (w.nolimit.keeps l) (fun v=>hb _ _ _ _ v _) hk Yu S T hn hx (by simp) (B.keeps l) ⟨_,l _ _ Yz,rfl,cnt,rfl⟩ (by lia) (by have:=(bV.mp e).1;lia) (by simpa using ez) d1 d2 d3 hQ
 . have eK:(fun i=>(j.map fun z=>-z).getD i 0)=fun i=>-(j.getD i 0):=by funext i;rw[cz,bX,cz];cases j[i]?<;>rfl
   rw[eK,aF]at io;refine⟨.ref D,_,w.AO (a:=D) (o:=.lst ((mX (fun i=>-(j.getD i 0)) j.length).map fun i:Nat=>V.int (i:Int))) l nD ⟨?_,U.toList,cD,?_,by simpa using hD⟩,rfl,q H2 D M (w.bB.none_of nD)⟩;.rw[aF,(vY _ _).length_eq,qh];exact bo (gm hl) (by decide)
   .have:=M7 io;rwa[cg]at this
end
end L2
namespace PM
section
variable{K:Kx}{XO:di}{E:zag->XK}
def bH(ns:List Int):List Int:=(mX (fun i=>-(ns.getD i 0)) ns.length).map fun i:Nat=>(i:Int)
def xq(d:D):Option D:=match d with|.lst l=>(de l).bind fun a=>cO (a.length<64) (some (.lst ((bH a).map .int))) none|_=>none
def CN(i:Nat)(δ:En):R D:=match δ[i]? with|some (.v d)=>R.of (xq d)|_=>.no
def YA(h:xq d=some d'):∃ns:List Int,d=.lst (ns.map .int)/\ns.length<64/\d'=.lst ((bH ns).map .int):=by
 unfold xq at h;split at h;.rename_i l;cases z:de l with|none=>simp_all|some ns=>
  rw[z]at h;simp at h;unfold cO at h;split at h;.rename_i a;cases h;exact⟨_,by rw[rC z],a,rfl⟩
  simp_all
 simp_all
def YB(h:ns.length<64):xq (.lst (ns.map .int))=some (.lst ((bH ns).map .int)):=by simp[xq,pE,gQ h]
def YC:iy K XO E (NC (gb (FU (gb (qs (fun xs H Q=>∃p ys,xs=[.ref p]/\(eE K.f H p ys\/kH K.f H p ys)/\Q (.int ys.length) H) (gb (dh i) dB)) dB)) dB) i) (CN i):=by intro M L N F H T x Q I a;have k:=I.slot i;unfold CN at a;cases e:x[i]? with|none=>rw[e]at a;exact a.elim|some y=>cases y with
 |v d=>rw[e]at a k;dsimp at a;cases q:xq d with|none=>rw[q]at a;exact a.elim|some U=>
  rw[q]at a;obtain⟨G,rfl,B,rfl⟩:=YA q;obtain⟨u,t,z⟩:=k;obtain⟨X,S,rfl,C,A⟩:=z;have j:=qT A;subst j;have f:=PM.av.mT I.ext.fh C;refine⟨_,t,_,_,rfl,.inl (.inl f),(⟨_,rfl,fun r n=>⟨r,_,_,rfl,by rw[cu,aF],t,?_,B,fun Y D w m=>?_⟩⟩)⟩;.exact PM.av.rd (av.upd n) f
  .have g:=(av.upd n).trans w;have s:Ext F H F _:=⟨.refl _,g,I.ext.fh.trans g,fun _ _ h _=>h⟩;have b:=g.free m;refine a F _ (s.trans (.eY s.fh m)) D (I.ext.fh.free b) b ⟨_,cu,?_⟩;have:=ay.ints (K:=K) (F:=F) (ns:=bH G);unfold bH at this;rw[cg,cg]at this;unfold bH;rwa[cg]
 |no=>rw[e]at a;exact a.elim|o d=>rw[e]at a;exact a.elim|l d=>rw[e]at a;exact a.elim|p d=>rw[e]at a;exact a.elim
end
end PM
namespace L2
def YD{K:W.Frag}(h:tabOf K=some T):∃(q:Str)(a cl:Int),T.2=#[.str q 0,rawInt a,rawInt cl]:=by
 obtain⟨p,_,e⟩:=List.exists_of_findSome?_eq_some h;split at e
 . split at e;.obtain⟨P,_,e⟩:=oy.mp e;grind
   grind
 grind
def AQ(K:W.Frag)(P:Addr):Bool:=(match tabOf K with|some t=>t.1==P|none=>false)&&(K.lookup P).isNone&&K.any fun p=>match p.2.data with
 |.func a=>match a.code with|.ref c=>W.codeHdIn K c P|_=>false
 |_=>false
def YE{K:W.Frag}(h:AQ K P=true):(∃a,tabOf K=some (P,a))/\K.lookup P=none/\∃c,W.codeHdIn K c P=true:=by
 unfold AQ at h;simp only[kQ]at h;obtain⟨⟨b,d⟩,f⟩:=h;refine⟨?_,by simpa using d,?_⟩
 . split at b;.grind
   simp_all
 . obtain⟨p,_,e⟩:=p8.mp f;split at e
   . split at e;.exact⟨_,e⟩
     .cases e
   .cases e
section
variable{P:Program}{w:World}{K:PySem.W.Frag}{mg mb:Str->Option Value}{CX:jl}{k:Nat}{fa a tP:Addr}{fd:FuncData}{x:Str}{sp:Sp}{dY:Shared}{vs:List Value}{ns:List Int}
def YF(KX:K.In dY.heap)(hT:AQ K tP=true)(I:dY.heap.get? tP=some (W.tabObj #[]))(M:dY.heap.Ns mainGlobals mg)(g:dY.heap.Ns builtinsNs mb)(YG:∀y:Str,y≠"__name__"->mb y=bootBuiltins y)(lim:dY.heap.NoLimit)(bm:mJ mg dY.heap)(hg:dY.gens=#[])(C:dY.heap.get? a=some (seqObj "list" vs.toArray 0))(hi:IntsAre vs ns)(hl:ns.length<=sizeLine)(hr:cj k callerA)(F:∀B:Heap,K.In B->B.Ns mainGlobals mg->mJ mg B->cA P w K mg B CX k fa fd [x] sp)(bd:∀(s:Shared)(u:Value),BindsTo s fd ⟨[u],[]⟩ [(x,u)])(YH:∀H:Hp,eE K H a (ns.map V.int)->sp [.ref a] H (fun v _=>v=.bl true) fun _ _ _=>False)(Y:∀H e s',CX [] H dY (fun _ _ _=>False) e s'->False):codeAny (model P w) callerA (.call (.ref fa) ⟨[.ref a],[]⟩) (fun r s'=>r=.ok (.ret (.bool true))/\OldK dY.heap s'.heap/\s'.os=dY.os/\AllBare s'.gens) dY:=by
 obtain⟨⟨A,eT⟩,nT,c,cT⟩:=YE hT;obtain⟨q,ln,cl,l⟩:=YD eT;dsimp only at l;have rv:=LM hi;have aP:a≠tP:=fun z=>by grind
 obtain⟨D,L⟩:∃D:Hp,D=fun b=>if b=a then(if(K.lookup a).isNone then some (.jr (seqObj "list" vs.toArray 0) (.lst (ns.map V.int)))else none)else none:=⟨_,rfl⟩;have E:D a=if(K.lookup a).isNone then some (.jr (seqObj "list" vs.toArray 0) (.lst (ns.map V.int)))else none:=by rw[L];simp
 have YI:∀b,b≠a->D b=none:=fun b g=>by rw[L];simp_all
 obtain⟨H,eH⟩:=zaa (upd D tP (.oX A));have HT:H tP=some (.oX A):=by rw[eH];exact cu
 have HA:H a=D a:=by rw[eH];exact bz aP
 have Q:∀b u,H b=some u->(b=tP/\u=.oX A)\/(b=a/\K.lookup a=none/\u=.jr (seqObj "list" vs.toArray 0) (.lst (ns.map V.int))):=fun b u e=>by
  by_cases U:b=tP;.subst U;rw[HT]at e;simp_all
  . rw[eH,bz U]at e;by_cases R:b=a
    . subst R;rw[E]at e;split at e;.rename_i z;cases e;exact .inr ⟨rfl,by simpa using z,rfl⟩
      simp_all
    .rw[YI b R]at e;cases e
 have Z:g_ P w H dY.heap:=fun b u e=>by
  rcases Q b u e with⟨rfl,rfl⟩|⟨rfl,_,rfl⟩;.exact⟨q,0,ln,cl,[],#[],by rw[l],I,.inl rfl⟩
  .exact⟨C,by rw[aF];exact hl,vs,_,rv,C⟩
 have hS:eE K H a (ns.map V.int):=by cases z:K.lookup a with|none=>exact .inl (.inr ⟨_,by rw[HA,E,z];rfl⟩)|some o=>have e:=KX a o z;rw[C]at e;cases e;exact .inr ⟨_,vs.toArray,_,z,rfl,rfl,rfl,by rwa[cV,hi.length],by omega⟩
 have YJ:∀{b:Addr}{o:Obj}{T:Array DictEntry}{S:Nat},dY.heap.get? b=some o->o.data=.dict T S->H b=none:=fun{b o T S} e d=>by cases z:H b with|none=>rfl|some u=>
    rcases Q b u z with⟨rfl,_⟩|⟨rfl,_,_⟩;.rw[I]at e;cases e;cases d
    .rw[C]at e;cases e;cases d
 have j:∀{b:Addr}{m:Str->Option Value},dY.heap.Ns b m->(mf dY.heap H).Ns b m:=fun{b m}⟨o,T,S,e,d,r⟩=>⟨o,T,S,Eg e (YJ e d),d,r⟩;have O:K.In (mf dY.heap H):=fun b o e=>Eg (KX b o e) (by cases z:H b with|none=>rfl|some u=>
    rcases Q b u z with⟨rfl,_⟩|⟨rfl,y,_⟩;.rw[nT]at e;cases e
    .rw[y]at e;cases e);have hM:Mod K mg (mf dY.heap H):=⟨O,j M,⟨mb,j g,YG⟩,let⟨mc,U,R⟩:=lim;⟨mc,j U,R⟩⟩;have X:mJ mg (mf dY.heap H):=by obtain⟨m,o,b1,b2,J,b4,b5,b6⟩:=bm;refine⟨m,o,b1,b2,Eg J ?_,b4,b5,b6⟩;cases z:H m with|none=>rfl|some u=>
    rcases Q m u z with⟨rfl,_⟩|⟨rfl,_,_⟩;.rw[I]at J;cases J;cases b4
    .rw[C]at J;cases J;cases b6
 have tb:qI K H:=fun t e=>by rw[eT]at e;cases e;exact⟨#[],by rw[HT];simp⟩
 have e0:pd P w K mg (mf dY.heap H) callerA [] dY H:=⟨rfl,hM,fun b o e=>Uw e,lN (Uv _ _),trivial,fun b g=>absurd (show b∈([]:List Addr)from g) (by simp),Z,.of_eq hg,tb⟩;refine gr ((F _ O (j M) X).run callerA [] dY H ⟨[.ref a],[]⟩ [.ref a] [.ref a] _ _ hr e0 (bd dY (.ref a)) (.cons rfl .nil) (YH H hS)) fun r s' h=>?_;match r,h with
 |.error e,h=>exact(Y H e s' h).elim|.ok (.ret u),h=>
  obtain⟨v,H',os,G,un,n,r',q'⟩:=h;subst q';obtain rfl:u=Value.bool true:=r';have N:∃f,s'.heap.get? tP=some (W.tabObj f):=by obtain⟨more,z⟩:=un.h7 tP _ HT;obtain⟨_,_,_,_,_,f,_,e,_⟩:=n tP _ z;exact⟨f,e⟩
  obtain⟨f,i⟩:=N;have p:∀b o,b≠tP->dY.heap.get? b=some o->s'.heap.get? b=some o:=fun b o g e=>by cases z:H b with|none=>exact un.keep b o e z (by intro y;exact absurd (show b∈([]:List Addr)from y) (by simp)) (by simp)|some u=>
      rcases Q b u z with⟨rfl,_⟩|⟨rfl,_,rfl⟩;.exact absurd rfl g
      .obtain⟨e2,_⟩:=n _ _ (un.js _ _ _ z);rw[C]at e;cases e;exact e2
  refine⟨rfl,⟨fun b o e=>?_,fun b o e=>?_⟩,os,G⟩
  . by_cases g:b=tP;.subst g;rw[I]at e;cases e;exact .inr (.inl ⟨((W.codeHd_of_K KX cT).tab I).isCodeTable,rfl,#[],f,rfl,by rw[i];simp⟩)
    .exact .inl (p b o g e)
  . by_cases g:b=tP;.subst g;exact⟨_,i⟩
    .exact⟨o,p b o g e⟩|.ok .next,h=>exact False.elim h|.ok .brk,h=>exact False.elim h|.ok .cont,h=>exact False.elim h
end
def sF{l:W.OpenLaw}{q:Program}{K:Params->W.Frag}{CX:World->jl}{sp:World->Sp}(M:l.most=some n)(A:n<=sizeLine)(y:d.params.defaults=[])(J:cj k callerA)(E:∀(w:World)(h:Heap),I w h->(K w.params).In h)(r:∀(w:World)(h:Heap),I w h->∀t∈[U],h.get? t=some (W.tabObj #[]))(S:∀w:World,AQ (K w.params) U=true)(F:∀(w:World)(mg:Str->Option Value)(i:Addr)(h:Heap),(K w.params).In h->h.Ns mainGlobals mg->mg d.name=some (.ref i)->∃fd:FuncData,(∀(s:Shared)(u:Value),BindsTo s fd ⟨[u],[]⟩ [(x,u)])/\∀B:Heap,(K w.params).In B->B.Ns mainGlobals mg->mJ mg B->cA l.prog w (K w.params) mg B (CX w) k i fd [x] (sp w))(m:∀(w:World)(H:Hp)(a:Addr)(ns:List Int),ns.length<=n->eE (K w.params) H a (ns.map V.int)->sp w [.ref a] H (fun v _=>v=.bl true) fun _ _ _=>False)(j:∀(w:World)(H:Hp)(s:Shared)(e:Value)(s':Shared),CX w [] H s (fun _ _ _=>False) e s'->False):W.WalkO q z XP I l.row.toRowW d [] (fun f vs=>PySem.call f vs):=by refine LL.nI M y fun w C D mg mb i o pm cd N a vs ns G Y Z X Q p g c b L=>?_;obtain⟨fd,O,R⟩:=F w _ _ _ (E w _ Y) G.T.g p;exact YF (E w _ Y) (S w) (r w _ Y _ gY) G.T.g G.T.b G.T.builtins G.T.nolimit G.T.bmain L g c (bo b A) J R O (fun H T=>m w H a _ b T) fun H e s'=>j w H _ e _
section
variable{X:Cx}
end
end L2
namespace PM
section
variable{K:Kx}{XO:di}{E:zag->XK}
end
end PM
namespace L2
section
variable{prog:Program}{w:World}{A:Around}{E:Value->Shared->Prop}{s:Shared}{X:Cx}{pins:List (Addr×Obj)}{σ:zag}{R:Result->Shared->Prop}
end
end L2
namespace PM
section
variable{K:Kx}{XO:di}{E:zag->XK}
end
end PM
namespace L2
section
variable{X:Cx}{pins:List (Addr×Obj)}{σ:zag}{H:Hp}{s:Shared}{a:Addr}{bU:List (Key×V)}
end
def KV.len{bU:List (Key×V)}(r:KV bU vs):vs.length=bU.length:=by induction r with|nil=>rfl|cons _ _ b=>simp[b]
section
variable{X:Cx}
def ND:List V->Hp->VK->Prop:=fun c H Q=>∃a b,c=[.ref a]/\Rd H a (.dK b)/\∀l,H l=none->Q (.ref l) (upd H l (.dK b))
def YK:lD X (.type "dict") ND:=by rintro f s w H p t Q I r ⟨a,g,rfl,n,q⟩;obtain⟨u,rfl,o⟩:=kW r;cases o;obtain⟨z,h,v,d,m⟩:=x5 I.bB n;refine kt_call_dict h m (by rwa[d.len]) fun i k l=>?_;have j:∀b u,s.heap.get? b=some u->i.get? b=some u:=fun b u e=>(l.2 b (aY (aI e))).trans (aO _ e);exact⟨.ref _,_,I.laid j (aC _) (LD z (by have:=I.big;exact jY.mpr (eO this)) d k),rfl,q _ (I.bB.fresh (aC _))⟩
end
end L2
namespace PM
section
variable{K:Kx}{XO:di}{E:zag->XK}
end
end PM
namespace L2
structure sG(P:Program)(w:World)(K:W.Frag)(mg:Str->Option Value)(base:Heap)(CX:jl)(k:Nat)(x:Str)(ps:List Str)(sp:Sp)(d:V):Prop where ex:∃(f:Addr)(fd:FuncData),cA P w K mg base CX k f fd ps sp/\mg x=some (.ref f)/\W.keepIn K (.ref f)=true/\zad K fd ps []/\∃u,zaf d u/\zad K fd ps [u]
section
variable{P:Program}{w:World}{K:PySem.W.Frag}{mg:Str->Option Value}{base:Heap}{CX:jl}{k:Nat}{x:Str}{ps:List Str}{sp:Sp}{d:V}
def sG.has(G:sG P w K mg base CX k x ps sp d):uD P w K mg base CX k x ps sp:=by obtain⟨f,g,a,b,c,e,_⟩:=G.ex;exact⟨f,_,a,b,c,e⟩
end
section
variable{X:Cx}{CX:jl}{k:Nat}{x:Str}{ps:List Str}{sp:Sp}{E:XK}{p pos:Pos}{a b:Expr}{ta tb:TE}{d:V}
end
def YL{K:W.Frag}{n:Nat}(hd:fd.defaults=.ref T)(f:K.lookup T=some o)(g:o.data=.seq #[u] n)(h3:∀us:List Value,us.length=ps.length->∃a,bindArgs fd ⟨us,[]⟩=seqItems? fd.defaults>>=a/\a (some #[u])=pure (ps.zip us))(h2:∀us:List Value,us.length+1=ps.length->∃a,bindArgs fd ⟨us,[]⟩=seqItems? fd.defaults>>=a/\a (some #[u])=pure (ps.zip (us++[u]))):zad K fd ps []/\zad K fd ps [u]:=by
 constructor;.intro s us d b;rw[dg]at b⊢;obtain⟨a,c,e⟩:=h3 _ b;exact .of_defaults hd (d T o f) g c e
 .intro s us d b;obtain⟨a,c,e⟩:=h2 _ (by simpa using b);exact .of_defaults hd (d T o f) g c e
structure qW(K:W.Frag)(x qual:Str)(st:Stmt)(f:Addr)(fd:FuncData)(d:V):Prop where
 ex:∃(oc:Value)(od:Option Addr)(T:Addr)(kV doc pm:Value)(an:Option Addr)(rk ct:Value)(uy:Array (Option Value)),fd=W.fnOf x qual (nJ st) (kI st) (cb st) (.ref T) kV doc pm an rk ct/\K.lookup f=some ⟨oc,od,.func fd,uy⟩/\W.codeIn K rk qual=true/\∃(o:Obj)(u:Value)(n:Nat),K.lookup T=some o/\o.data=.seq #[u] n/\zaf d u
 kp:W.keepIn K (.ref f)=true
section
variable{P:Program}{w:World}{K:PySem.W.Frag}{mg:Str->Option Value}{base:Heap}{d:V}
def qW.binds{st:Stmt}(F:qW K x c st f fd d)(h3:∀(T:Addr)(kV b g:Value)(an:Option Addr)(a h u:Value)(us:List Value),us.length=ps.length->∃e,bindArgs (W.fnOf x c (nJ st) (kI st) (cb st) (.ref T) kV b g an a h) ⟨us,[]⟩=seqItems? (.ref T)>>=e/\e (some #[u])=pure (ps.zip us))(h2:∀(T:Addr)(kV b g:Value)(an:Option Addr)(a h u:Value)(us:List Value),us.length+1=ps.length->∃e,bindArgs (W.fnOf x c (nJ st) (kI st) (cb st) (.ref T) kV b g an a h) ⟨us,[]⟩=seqItems? (.ref T)>>=e/\e (some #[u])=pure (ps.zip (us++[u]))):zad K fd ps []/\∃u,zaf d u/\zad K fd ps [u]:=by obtain⟨t,v,T,kV,b,g,an,a,h,p,rfl,s,r,o,u,n,q,l,k⟩:=F.ex;obtain⟨j,m⟩:=YL rfl q l (fun us i=>h3 T _ _ _ _ _ _ u _ i) fun us i=>h2 T _ _ _ _ _ _ u _ i;exact⟨j,u,k,m⟩
end
structure mK(K:W.Frag)(x:Str)(st:Stmt)(f:Addr)(fd:FuncData)(d:V):Prop where ns:W.nsIn K mainGlobals x=some (some (.ref f))fn:qW K x x st f fd d
def qX{K:W.Frag}{st:Stmt}{kV d g b h:Value}(a:W.nsIn K mainGlobals x=some (some (.ref f)))(l:K.lookup f=some ⟨o,od,.func (W.fnOf x x (nJ st) (kI st) (cb st) (.ref T) kV d g an b h),m⟩)(c:W.codeIn K b x=true)(k:W.keepIn K (.ref f)=true)(t:K.lookup T=some ⟨j,od',.seq #[.int i tk] n,e⟩):∃f fd,mK K x st f fd (.int i):=⟨f,_,a,⟨⟨_,_,T,_,_,_,_,_,_,_,rfl,l,c,_,_,n,t,rfl,_,rfl⟩,k⟩⟩
def mK.has{K:W.Frag}{st:Stmt}(D:mK K x st f fd d)(X:K.In h)(G:h.Ns mainGlobals mg)(c:cA P w K mg a CX k f fd ps sp)(b:zad K fd ps []/\∃u,zaf d u/\zad K fd ps [u]):sG P w K mg a CX k x ps sp d:=⟨f,_,c,dy X G D.ns,D.fn.kp,b⟩
end L2
namespace PM
noncomputable def k4:List Str->List D->Str->Option D|a::r,d::t,f=>if a=f then some d else k4 r t f|_,_,_=>none
noncomputable def putN:List Str->Str->List Str|[],f=>[f]|a::r,f=>if a=f then a::r else a::putN r f
noncomputable def fC:List Str->List D->Str->D->List D|[],_,_,d=>[d]|a::r,l,f,d=>if a=f then d::l.drop 1 else match l with|x::t=>x::fC r t f d|[]=>[]
section
variable{K:Kx}{F H:Hp}
theorem Gm:∀{fs:List (Str×V)}{ks:List Str}{l:List D}{d:D},fs.map (·.1)=ks->ay K F l (fs.map (·.2))->k4 ks l f=some d->∃v,fs.lookup f=some v/\Rep K F d v|[],ks,l,d,b,j,h=>by subst b;cases l<;>cases h|(g,x)::fs,ks,l,d,b,j,h=>by subst b;cases l with|nil=>cases h|cons y l=>
 obtain⟨v,r,e,n,m⟩:=j;cases e;rw[bR,k4]at h;by_cases c:g=f;.simp_all
 .rw[ak c]at h;obtain⟨v,p,o⟩:=Gm rfl m h;grind
theorem Gn:∀{fs:List (Str×V)},f∉fs.map (·.1)->fs.lookup f=none|[],_=>rfl|(g,x)::fs,h=>by simp only[bR,aM,fy]at h;rw[fq,jY.mpr h.1];exact Gn h.2
theorem xr(j:Rep K F d v):∀{fs:List (Str×V)}{l:List D},ay K F l (fs.map (·.2))->(f9 f v fs).map (·.1)=putN (fs.map (·.1)) f/\ay K F (fC (fs.map (·.1)) l f d) ((f9 f v fs).map (·.2))|[],l,_=>⟨rfl,.cons j .nil⟩|(g,x)::fs,l,h=>by cases l with|nil=>cases h|cons y l=>
 obtain⟨u,r,e,n,m⟩:=h;cases e;unfold f9;rw[bR];by_cases c:g=f;.rw[ao c];refine⟨by rw[putN,ao c];rfl,?_⟩;rw[fC,ao c];exact .cons j m
 .rw[ak c];obtain⟨a,b⟩:=xr j m;refine⟨by rw[putN,ak c,bR,a],?_⟩;rw[fC,ak c];exact .cons n b
end
def bh(b:Nat->Bool)(f:Str)(d:D):Option D:=match d with|.obj c a l=>if b c=true then k4 a l f else none|_=>none
section
variable{K:Kx}{XO:di}{E:zag->XK}{ta te:TE}{ma me:En->R D}
def AR(g:∀c,e c=true->dP K.f (K.ca c)/\aB K.f (K.ca c) f)(h:mB K XO E ta ma):SE K XO E (uw K.f ta f) (m1 (bh e f) ma):=by
 intro L B u F H A J Q I a;refine h _ _ _ F H _ _ _ I (a.bind.imp fun d w t m b x n=>?_)
 cases d with|obj c y l=>
 obtain⟨p,C,G,rfl,j,o,r⟩:=n;change eM E _ _ _ _ _ (R.of (if e c=true then k4 _ l f else none))at b;by_cases z:e c=true;.rw[ao z]at b;cases q:k4 _ l f with|none=>rw[q]at b;exact b.elim|some d=>rw[q]at b;obtain⟨v,s,k⟩:=Gm o r q;exact⟨p,_,_,_,v,rfl,j,(g c z).1,(g c z).2,s,b _ _ (.refl m.fh) _ k⟩
 .rw[ak z]at b;exact b.elim|_=>exact b.elim
end
def sH(δ:En):Prop:=∀i:Nat,Sl.own δ[i]?=false
section
variable{K:Kx}{XO:di}{E:zag->XK}{F0 H0 F H:Hp}{σ:zag}{δ:En}
def aw.nP(I:aw K [] F0 H0 F H σ δ)(f:sH δ)(h0:H0 x=none)(h:F x=none):aw K [] F0 H0 F (upd H x u) σ δ:=by
 refine⟨⟨I.ext.ff,fun b o q=>?_,fun b o q=>?_,I.ext.nw⟩,I.len,fun i=>?_,fun i j a _ e _ _ _=>?_,fun y k=>(by cases k),fun i g e=>?_⟩;.rw[bz (d9 q h0)];exact I.ext.hh _ _ q
 .rw[bz (d9 q h)];exact I.ext.fh _ _ q
 .have z:=I.slot i;have o:=f i;cases q:δ[i]? with|none=>trivial|some s=>rw[q]at z o;cases s with|no=>trivial|v d=>exact z|o d=>cases o|l d=>cases o|p g=>cases o
 .rw[f i]at e;cases e
 .have:=f i;rw[e]at this;cases this
def fD(m1 m2:En->List Str->List D->R (List Str×List D))(δ:En)(ks:List Str)(l:List D):R (List Str×List D):=(m1 δ ks l).bind fun p=>m2 δ p.1 p.2
def runN(c np:Nat)(m:En->List Str->List D->R (List Str×List D))(ds:List D):R D:=if ds.length=np then(m (.no::ds.map .v) [] []).bind fun p=>.ok (.obj c p.1 p.2)else .no
noncomputable def isObj(c:Nat)(m:Str)(d:D):Option Unit:=match d with|.obj b a _=>if b=c/\m∉a then some ()else none|_=>none
def dH(c:Nat)(m:Str)(f:List D->R D)(ma:En->R D)(ml:En->R (List D))(δ:En):R D:=(ma δ).bind fun d=>(R.of (isObj c m d)).bind fun _=>(ml δ).bind fun l=>(f (d::l)).iz
def NF(h:isObj c m d=some u):∃ks l,d=.obj c ks l/\m∉ks:=by
 unfold isObj at h;split at h
 . split at h;.simp_all
   simp_all
 simp_all
def mY(k:C=K.ca c)(s:SE K XO E o ma)(h:SA K XO E y ml):SE K XO E (wF C m (so K XO f) [] E' o y) (dH c m f ma ml):=by intro A F0 H0 F H σ δ Q I a;refine s _ _ _ F H _ _ _ I (a.bind.imp fun d X T g b x j=>?_);cases q:isObj c m d with|none=>rw[q]at b;exact b.elim|some u=>rw[q,R.bI,R.aA]at b;obtain⟨S,l,rfl,G⟩:=NF q;have e:=j;obtain⟨p,J,L,rfl,t,z,Y⟩:=j;exact⟨p,_,_,rfl,by rw[k];exact g.fh _ _ t,Gn (by rwa[z]),(h _ _ _ _ _ _ _ _ (I.grow g) (b.bind.imp fun M F2 H2 i n U r=>⟨_,_,i.fh,by rw[dg];exact .cons (Rep.mono i.ff _ e) r,eM.imp (fun d Z B N p v w=>p v w) (eM.any n)⟩))⟩
def xt(y:C=K.ca c)(w:SE K XO E n ma)(h:SA K XO E z ml):iy K XO E (wF C m (tV K XO f) [] E' n z) (dH c m f ma ml):=by intro B F0 H0 F H σ δ Q I a;refine w _ _ _ F H _ _ _ I (a.bind.imp fun d Y U e b x k=>?_);cases q:isObj c m d with|none=>rw[q]at b;exact b.elim|some u=>rw[q,R.bI,R.aA]at b;obtain⟨T,l,rfl,L⟩:=NF q;have i:=k;obtain⟨p,M,N,rfl,j,A,Z⟩:=k;exact⟨p,_,_,rfl,by rw[y];exact e.fh _ _ j,Gn (by rwa[A]),(h _ _ _ _ _ _ _ _ (I.grow e) (b.bind.imp fun S F2 H2 g s X r=>⟨_,_,g.fh,by rw[dg];exact .cons (Rep.mono g.ff _ i) r,eM.imp (fun d F3 G J p v t j o=>p v t (e.hh.free (g.hh.free j)) o) (eM.any s)⟩))⟩
end
end PM
namespace L2
section
variable{prog:Program}{w:World}{A:Around}{E:Value->Shared->Prop}{s:Shared}
def NG(a:s.heap.IsTupleIter d t i)(h:s.heap.IsTuple t items)(k:items[i]?=some x)(j:∀h',h'.IsTupleIter d t (i+1)->Heap.SameBut d s.heap h'->Q x {s with heap:=h'}):wpAny (model prog w) A (Builtin.SmallTypes.nextOf (.ref d)) Q E s:=by obtain⟨o,c,g,b⟩:=id a;obtain⟨l,e,_,m,f⟩:=h;refine ah (j' a.typeIs pZ (ka pZ a.typeIs F.entry_tuple_iterator_next ?_ (F.args_tuple_iterator_next_1 _)));show wpAny _ _ (field _ 0>>=_) _ _ s;refine ah (cL c b rfl (ah (cL c b rfl (ah (eD e f ?_)))));simp[k];refine ah (ke c b (by simp) (ax ⟨x,rfl,ax (j _ ⟨_,jh _ c (lP (jV b _)),(Obj.cls_mapFields ..).trans g,?_⟩ (nj ..))⟩));rw[jV b];rfl
def Gp(g:A.handled=none)(a:s.heap.IsTupleIter h t i)(l:s.heap.IsTuple t items)(j:items[i]?=none)(k:∀h' e,Heap.ExtBut h s.heap h'->(∃o,h'.get? e=some o/\o.cls=.type "StopIteration")->E (.ref e) {s with heap:=h'}):wpAny (model prog w) A (Builtin.SmallTypes.nextOf (.ref h)) Q E s:=by
 obtain⟨o,d,q,c⟩:=id a;obtain⟨p,b,_,n,f⟩:=l;refine ah (j' a.typeIs pZ (ka pZ a.typeIs F.entry_tuple_iterator_next ?_ (F.args_tuple_iterator_next_1 _)));show wpAny _ _ (field _ 0>>=_) _ _ s;refine ah (cL d c rfl (ah (cL d c rfl (ah (eD b f ?_)))));simp[j];refine ah (iZ (ah (ke d c (by simp) (ah (ah (m:=firstArgMember _ _) (wpAny_of_eq rfl (lZ (ah (wpAny_handled ?_)) (by size_fits))))))));first|rw[g]|rw[g]
 exact ah (ax (wpAny_throw (k _ _ (((nj ..).extBut.push _).push _) ⟨_,b7 _ rfl,rfl⟩)))
def YM(k:A.handled=none)(c t:Addr)(d:t≠c)(items:Array Value):Draws prog w A c [c,t] items.size (fun i v=>items[i]?=some v) (fun i h=>h.IsTupleIter c t i/\h.IsTuple t items)where live:=fun _ _ st=>let⟨o,j,_⟩:=st.1;⟨o,j⟩;frame:=fun _ _ _ st f=>⟨st.1.at fun o e=>f _ (by simp) o e,st.2.at fun o e=>f t (by simp) o e⟩;item:=fun i s Q E m st l=>NG st.1 st.2 (x:=items[i]) (by simp) fun n b a=>l _ _ _ (by simp) ⟨b,st.2.extBut a.extBut d⟩ a;done:=fun s Q E st g=>Gp k st.1 st.2 (by simp) g
end
open AutoSeq1 (wpAny_loadPart')in
theorem YN(l:Addr)(items:Array Value)(n:Nat)(e:Option Addr)(m:Array (Option Value)):Meets (Builtin.«enumerate.__new__» ⟨[.type "enumerate",.ref l],[]⟩) (fun _ R s=>s.heap.get? l=some {cls:=.type "tuple",dict:=e,data:=.seq items n,slots:=m}/\R (.ok (.ret (.ref (s.heap.push {cls:=.type "tuple_iterator",data:=.fields #[.ref l,.int 0 0]}).objs.size))) {s with heap:=(s.heap.push {cls:=.type "tuple_iterator",data:=.fields #[.ref l,.int 0 0]}).push {cls:=.type "enumerate",data:=.fields #[.none,.bool false,.ref s.heap.objs.size,rawInt 0,.none,.none]}}):=.of_wp fun i w A R s h=>by
 obtain⟨j,g,d,k,os⟩:=s;obtain⟨a,h⟩:=h;have f:=sub_enumerate;have b:Heap.IsTuple (Shared.heap ⟨j,g,d,k,os⟩) l items:=⟨_,a,rfl,n,rfl⟩;wp_walk using lY a;refine wpAny_stack_any fun st=>ax ?_;split
 . rename_i c _ _ _ _ _;cases(c==Value.type "enumerate");.wp_walk using lY a,oV b;exact⟨_,rfl,h⟩
   .wp_walk using lY a,oV b;exact⟨_,rfl,h⟩
 .wp_walk using lY a,oV b;exact⟨_,rfl,h⟩
def YO(j:s.heap.IsTuple l items)(h:∀h',IsEnum h' (s.heap.objs.size+1) s.heap.objs.size 0 .none->h'.IsTupleIter s.heap.objs.size l 0->h'.objs.size=s.heap.objs.size+2->(∀b o,s.heap.get? b=some o->h'.get? b=some o)->Q (.ref (s.heap.objs.size+1)) {s with heap:=h'}):wpAny (model prog w) A (call (.type "enumerate") [.ref l]) Q E s:=by
 obtain⟨⟨c,d,m,p⟩,g,i,n,k⟩:=j;subst i k;refine callType_new F.called_enumerate rfl (F.typeCall_enumerate_1 _) (F.newCall_enumerate_1 _) (fun e=>F.args_object_init_2 _ _) F.entry_enumerate_new (YN l _ n _ _) ⟨g,?_⟩;have f:(s.heap.push {cls:=.type "tuple_iterator",data:=.fields #[.ref l,.int 0 0]}).objs.size=s.heap.objs.size+1:=iC ..;rw[f];have a:IsEnum ((s.heap.push {cls:=.type "tuple_iterator",data:=.fields #[.ref l,.int 0 0]}).push {cls:=.type "enumerate",data:=.fields #[.none,.bool false,.ref s.heap.objs.size,rawInt 0,.none,.none]}) (s.heap.objs.size+1) s.heap.objs.size 0 .none:=by have:=b7 (s.heap.push {cls:=.type "tuple_iterator",data:=.fields #[.ref l,.int 0 0]}) (o:={cls:=.type "enumerate",data:=.fields #[.none,.bool false,.ref s.heap.objs.size,rawInt 0,.none,.none]}) rfl;grind
 exact⟨⟨_,a,rfl⟩,h _ a ⟨_,aO _ (b7 _ rfl),rfl,rfl⟩ (by simp) fun b o x=>aO _ (aO _ x)⟩
def YQ{w:World}{i:Nat}(n:A.handled=none)(g:IsEnum s.heap e f i h)(a:s.heap.IsTupleIter f t i)(l:s.heap.IsTuple t items)(j:items[i]?=none)(p:∀h',Heap.ExtBut f s.heap h'->Q none {s with heap:=h'}):wpAny (model prog w) A (pyNext (.ref e)) Q E s:=by have d:s.TypeIs (.ref e) _:=⟨_,g,rfl⟩;refine ah (lV (j' d F.slot_enumerate_next (ka F.slot_enumerate_next d F.entry_enumerate_next ?_ (F.args_enumerate_next_1 _))));show wpAny _ _ (field _ 2>>=_) _ _ _;refine ah (cL g rfl rfl (ah (Gp n a l j fun h' x b c=>?_)));obtain⟨o,k,m⟩:=c;exact ah (wpAny_isInstance ⟨o,k,m⟩ isSubtype_stop (ax (p _ b)))
def Gq(K:W.Frag)(a:Addr):It:=⟨fun i H=>∃b x,kH K H a b/\b[i]?=some x,fun i H x c=>∃p y,x=.ref p/\H p=none/\c=upd H p (.tup [.int i,y])/\∀b,kH K H a b->b[i]?=some y,fun i H=>∃b,kH K H a b/\b.length<=i⟩
def YR{K:W.Frag}(a e m:Addr)(t:e≠m):Turn P w K (.Tuple es k pos) (Gq K a) [e,m] e (fun i h=>(∃g,IsEnum h e m i g)/\h.IsTupleIter m a i)where
 mem:=by simp
 obj:=fun i h st b f=>by
  obtain⟨⟨g,h1⟩,o,h2,c,d⟩:=st;rcases aM.mp f with rfl|f;.exact⟨_,h1,fun v z=>by cases(show Data.fields _=Data.cell v from z)⟩
  .rw[bj.mp f];exact⟨o,h2,fun v z=>by grind⟩
 keep:=fun i h Z st k=>let⟨⟨g,h1⟩,h2⟩:=st;⟨⟨g,k e (by simp) _ h1⟩,h2.at fun o q=>k m (by simp) o q⟩;item:=by
  intro X hP R S U i J s σ H E I O st T;subst hP R S;obtain⟨xs,x,N,hx⟩:=T;obtain⟨j,Y,p,hz⟩:=I.tuple N;obtain⟨u,hu,ru⟩:=Y.get hx;obtain⟨⟨g,r⟩,l⟩:=st;have M:s.heap.IsTuple a j.toArray:=p;have hT:H s.heap.objs.size=none:=I.bB.fresh (aC _);have eT:e≠s.heap.objs.size:=aY (aI r);have iT:m≠s.heap.objs.size:=let⟨_,z,_⟩:=l;aY (aI z);have YS:a≠m:=fun z=>by obtain⟨o1,z1,c1,_⟩:=l;obtain⟨o2,G,Q,_⟩:=M;rw[z,z1]at G;cases G;rw[c1]at Q;simp at Q
  have ae:a≠e:=fun z=>by obtain⟨o2,G,Q,_⟩:=M;rw[z,r]at G;cases G;simp at Q
  have li:i<j.toArray.size:=by have:=(bV.mp hu).1;simpa using this
  refine wpAny_pyNext_enum_itemD (YM (prog:=X.prog) (w:=X.w) (A:=X.A.in1) (I.ok.hd U) m a YS j.toArray) r ⟨l,M⟩ li t (by simp[t,aN ae]) fun y Z tk hy ho C ht hsz hk=>⟨_,rfl,?_⟩;have ey:y=u:=by
    have:j.toArray[i]?=some u:=by simpa using hu
    rw[this]at hy;cases hy;rfl
  subst ey;refine wpAny_letOwnedTupleGo_enum ho fun YT L D=>?_;have n:Heap.SameBut e Z YT:=D;refine⟨.ref s.heap.objs.size,upd H s.heap.objs.size (.tup [.int i,x]),?_,rfl,⟨_,x,rfl,hT,rfl,fun ys YU=>by rwa[I.qK YU N]⟩,⟨⟨_,by simpa using L⟩,C.1.at fun o q=>(n.2 _ t.symm).trans q⟩,fun b f=>?_⟩;.refine I.sx _ O (fun b o f q=>?_) (by show 2<=sizeLine;decide) (.cons ⟨tk,rfl⟩ (.cons ru .nil)) ((n.2 _ eT.symm).trans ht);simp[aM,dw,eB,fy]at f;exact(n.2 b f.1).trans (hk b o f.1 f.2 q)
  . obtain⟨f0,_⟩:=O b f;rcases aM.mp f with rfl|f;.rwa[bz eT]
    .rw[bj.mp f]at f0⊢;rwa[bz iT]
 done:=by intro X hP R S U i J s σ H E I O st T;subst hP R S;obtain⟨xs,N,hx⟩:=T;obtain⟨j,Y,p,hz⟩:=I.tuple N;obtain⟨⟨g,r⟩,l⟩:=st;have M:s.heap.IsTuple a _:=p;obtain⟨g0,g1,g2,g3,g4,g5⟩:=O m (by simp);have hl:=Y.length;refine YQ (I.ok.hd U) r l M (by simp;lia) fun Z eb=>⟨rfl,I.turned (fun b o f q=>eb b o f q) g0 g1 g3 g4 g5⟩
 self:=fun _ _ _ _ _ st h=>let⟨⟨_,r⟩,_⟩:=st;l7 r h
section
variable{X:Cx}
def NH(K:W.Frag)(d:TA):zah:=fun e H R=>d e H fun c b=>∃a,c=[.ref a]/\(∃f,kH K b a f)/\R (Gq K a) b
def YV(J:Gl X "enumerate")(z:X.mg "enumerate"=none)(w:PA X [l] y)(E:autoParam (starEach [l] X.env=[(false,eval l X.env)]) zak):PI X (.Tuple es k M) (.Call (.Name "enumerate" p) [l] [] pos) (NH X.K y):=by
 intro j s O H R I h;refine Call_ (nV I J z boot_enumerate (ew (bK (w _ _ s _ H _ I h) fun L d ⟨_,_,f,A,o⟩=>?_) E rfl));obtain⟨a,e,⟨N,t⟩,q⟩:=o;subst e;obtain⟨u,rfl,x⟩:=kW A;cases x;obtain⟨r,Q,C,S⟩:=f.tuple t;refine YO C fun B m i D G=>?_;have v:Inv X _ _ _ {d with heap:=B}:=f.kept G;have g:d.heap.objs.size+1≠d.heap.objs.size:=by lia
 refine l7 m ⟨_,_,_,_,_,rfl,v,YR a _ _ g,⟨⟨_,m⟩,i⟩,fun b n=>?_,q⟩;have c:d.heap.objs.size<=b:=by
  rcases aM.mp n with rfl|n;.lia
  simp_all
 exact f.ki c (f.bB.fresh c)
def NI(K:W.Frag):R2:=fun x y H Q=>∃a b c d,x=.ref a/\y=.ref b/\kH K H a c/\kH K H b d/\c.length+d.length<=sizeLine/\(c=[]->Q (.ref b) H)/\(c≠[]->d=[]->Q (.ref a) H)/\(c≠[]->d≠[]->∀p,H p=none->Q (.ref p) (upd H p (.tup (c++d))))
def YW:iG X (binaryOp .Add) (NI X.K):=by
 rintro p s T H x y v u Q I h m ⟨a,b,q,N,rfl,rfl,l,o,G,A,C,B⟩;by_cases c:q=[];.cases h;cases m;obtain⟨M,L,E,_⟩:=I.tuple l;obtain⟨j,U,D,_⟩:=I.tuple o;obtain⟨⟨w,R,k,O⟩,i,r,n,t⟩:=id E;obtain⟨⟨g,J,data2,z⟩,d,e,S,f⟩:=id D;subst r t e f;exact concat_meets ⟨_,i,rfl⟩ ⟨_,d,rfl⟩ noFill_tuple_add seq_tuple_add oF oB (oA _ _) (tuple_addW0 a b _ _ n _ _ _ _ _ (by simp[(L.jI.mpr c)])) ⟨i,d,⟨.ref b,H,I,rfl,A c⟩⟩
 .exact U_ _ s _ H _ _ v u Q I h m ⟨a,b,_,_,rfl,rfl,l,o,c,G,C c,B c⟩
end
end L2
namespace PM
section
variable{K:Kx}{XO:di}{E:zag->XK}
def YX(r:ay K n ds vs)(h:∀b c,P b c->av n b/\av b c/\kH K.f c a vs):kY K (Gq K.f a) P (rq ds):=by
 intro b c p i;obtain⟨l,g,q⟩:=h _ _ p;unfold rq;rw[List.getElem?_mapIdx];refine⟨fun d f=>?_,fun t=>?_⟩;.cases e:ds[i]? with|none=>simp_all|some x=>rw[e]at f;cases f;obtain⟨v,k,m⟩:=r.get e;refine⟨⟨_,v,q,k⟩,fun s u y=>?_⟩;obtain⟨o,w,rfl,j,rfl,y⟩:=y;have z:=y _ q;rw[k]at z;cases z;exact⟨_,.new g j,⟨_,_,rfl,cu,.cons rfl (.cons (Rep.mono (l.trans (av.upd (g.free j))) _ m) .nil)⟩⟩
 .refine⟨_,q,?_⟩;cases e:ds[i]? with|none=>rw[r.length];simp_all|some x=>simp_all
def AS:List D->Option (List D)|[.tup l]=>some (rq l)|_=>none
def Gr(ml:En->R (List D))(δ:En):R (List D):=(ml δ).bind fun l=>R.of (AS l)
def YY(h:AS l=some r):∃x,l=[.tup x]/\r=rq x:=by unfold AS at h;grind
def NJ(h:SA K XO E e ml):SI K XO E (NH K.f e) (Gr ml):=by intro k u p F H s m R I a;refine h _ _ _ F H _ _ _ I (a.bind.imp fun j o n c b g r=>?_);cases q:AS _ with|none=>rw[q]at b;exact b.elim|some z=>obtain⟨l,rfl,rfl⟩:=YY q;obtain⟨v,rfl,f⟩:=ay.one r;obtain⟨a,g,rfl,d,i⟩:=f;exact⟨a,rfl,⟨_,.of (c.fh _ _ d)⟩,b _ _ (.refl c.fh) _ (YX i fun w t x=>⟨x.1,x.2,.of (x.2 _ _ (x.1 _ _ d))⟩)⟩
def AU(x y:D):Option D:=match x,y with|.tup l,.tup r=>cO (l.length+r.length<=sizeLine) (some (.tup (l++r))) none|_,_=>none
def NK:SR K (NI K.f) AU:=by
 intro F H x y v w d Q s o m e q;unfold AU at e;split at e
 . rename_i l r;unfold cO at e;split at e
   . cases e;obtain⟨a,j,rfl,g,f⟩:=o;obtain⟨b,t,rfl,n,h⟩:=m;have A:=f.length;have B:=h.length;refine⟨a,b,_,_,rfl,rfl,.of (s _ _ g),.of (s _ _ n),by lia,fun z=>?_,fun k u=>?_,fun k u p i=>?_⟩;.have:l=[]:=vx (by simp_all);refine q _ F H (.refl s) ?_;simp[Rep];simp_all
     .have:r=[]:=vx (by simp_all);exact q _ F H (.refl s) ⟨a,_,rfl,g,by simp_all⟩
     .have c:Ext F H (upd F p (.tup (j++t))) _:=.new s i;exact q _ _ _ c ⟨p,_,rfl,cu,(f.mono c.ff).append (h.mono c.ff)⟩
   simp_all
 simp_all
end
end PM
namespace L2
structure sJ(P:Program)(w:World)(K:W.Frag)(mg:Str->Option Value)(base:Heap)(CX:jl)(k:Nat)(x:Str)(C:Addr)(ps:List Str)(sp:Sp):Prop where ex:∃(f:Addr)(fd:FuncData),Mk K C f/\cA P w K mg base CX k f fd ps sp/\mg x=some (.ref C)/\zad K fd ps []
structure pH(P:Program)(w:World)(K:W.Frag)(mg:Str->Option Value)(base:Heap)(CX:jl)(k:Nat)(m:Str)(C:Addr)(ps:List Str)(sp:Sp):Prop where ex:∃(f:Addr)(fd:FuncData),dP K C/\Meth K C m f/\cA P w K mg base CX k f fd ps sp/\zad K fd ps []
section
variable{X:Cx}{CX:jl}{k:Nat}{x m:Str}{C:Addr}{ps:List Str}{sp:Sp}{E:XK}{p pos apos:Pos}{e o:Expr}{es:List Expr}{t:TA}{ta:TE}
def yz(G:sJ X.prog X.w X.K X.mg X.base CX k x C ps sp)(d:cj (k+1) X.A)(h:Gl X x)(c:nW CX X E)(i:PA X (e::es) t)(a:autoParam ((x==("__debug__":Str))=false) zam)(g:autoParam (starEach (e::es) X.env=(false,eval e X.env)::starEach es X.env) zak)(b:autoParam ((backTo pos (starEach es X.env)).any (·.1)=false) zak):PE X (.Call (.Name x p) (e::es) [] pos) (Ex C sp [] E t):=let⟨f,n,M,F,l,j⟩:=G.ex;U4 M F d h l j .nil c i a g b
def mL(G:pH X.prog X.w X.K X.mg X.base CX k m C ps sp)(h:cj k X.A)(l:nW CX X E)(g:PE X o ta)(i:PA X (e::es) t)(a:autoParam (starEach (e::es) X.env=(false,eval e X.env)::starEach es X.env) zak)(b:autoParam ((backTo pos (starEach es X.env)).any (·.1)=false) zak)(r:autoParam (eval (.Call (.Attribute o m apos) (e::es) [] pos) X.env=(eval o X.env>>=fun d=>standAt apos.atName>>=fun _=>holding [d] (getMethod d m pl)>>=fun q=>callWith pos q.1 q.2 (backTo pos (starEach (e::es) X.env)) (backToKw pos (keywordEach [] X.env)))) zak):PE X (.Call (.Attribute o m apos) (e::es) [] pos) (wF C m sp [] E ta t):=let⟨f,_,c,n,F,j⟩:=G.ex;U1 g c n F h j .nil l i a b r
def yA(G:pH X.prog X.w X.K X.mg X.base CX k m C ps sp)(h:cj k X.A)(g:nW CX X E)(d:PE X o ta)(j:autoParam (eval (.Call (.Attribute o m apos) [] [] pos) X.env=(eval o X.env>>=fun a=>standAt apos.atName>>=fun _=>holding [a] (getMethod a m pl)>>=fun q=>callWith pos q.1 q.2 (backTo pos (starEach [] X.env)) (backToKw pos (keywordEach [] X.env)))) zak):PE X (.Call (.Attribute o m apos) [] [] pos) (wF C m sp [] E ta dB):=let⟨f,_,c,b,F,i⟩:=G.ex;U2 d c b F h i .nil g j
end
end L2
namespace PM
section
variable{K:Kx}{XO:di}{E:zag->XK}{F0 H0 F H:Hp}{σ:zag}{δ:En}
open Classical in
def uX(H:Hp)(p:Addr):Hp:=fun b=>if b=p then none else H b
def YZ{H:Hp}:av (uX H p) H:=fun b o h=>by unfold uX at h;simp_all
def NL{H:Hp}:uX H p p=none:=by unfold uX;simp
def Gs{H:Hp}(h:b≠p):uX H p b=H b:=by unfold uX;simp_all
end
section
variable{K:Kx}{XO:di}{E:zag->XK}{F0 H0 F H F1 H1 F' H':Hp}
def uY(s:av F a):av (cE F1 H1 F) (cE F1 H1 a):=fun b o h=>by
 unfold cE at h⊢;split at h;.cases h
 .rename_i z;rw[ak z];exact s _ _ h
def Gu(x:Ext F H F' H')(h0:F' p=none)(h1:H p=none)(o:H' p=some (.lst vs)):Ext F H (upd F' p (.lst vs)) H':=by
 refine⟨fun b u h=>?_,x.hh,fun b u h=>?_,fun q u d c=>?_⟩;.have:=x.ff b u h;rw[bz (d9 this h0)];omega
 . by_cases z:b=p;.subst z;rw[cu]at h;simp_all
   .rw[bz z]at h;exact x.fh b u h
 .rw[bz (d9 c h1)];exact x.nw q u d c
variable(K)in
def pK(c:Nat)(t:TS)(m:En->List Str->List D->R (List Str×List D)):Prop:=∀(F1 H1 F H:Hp)(b:zag)(d:En)(x g:Addr)(e:List (Str×V))(l:List D)(f:zae),sH d->aw K [] (iq F1 H1) H1 F H b d->b[0]?=some (some (.ref x))->H1 x=none->F x=none->H x=some (.ins (K.ca c) g e)->ay K (cE F1 H1 F) l (e.map (·.2))->(match m d (e.map (·.1)) l with|.no=>False|.ok p=>∀F' H' a,aw K [] (iq F1 H1) H1 F' H' b d->F' x=none->H' x=some (.ins (K.ca c) g a)->a.map (·.1)=p.1->ay K (cE F1 H1 F') p.2 (a.map (·.2))->f.nx b H'|.ex _=>False)->t f b H
def lH(f:Str)(me:En->R D)(δ:En)(ks:List Str)(l:List D):R (List Str×List D):=(me δ).iz.bind fun d=>cO (ks.length<1000/\mV d=true) (.ok (putN ks f,fC ks l f d)) .no
def qY(f:Str)(me:En->R D)(δ:En)(ks:List Str)(l:List D):R (List Str×List D):=(me δ).iz.bind fun d=>cO (ks.length<1000/\∃r,d=.lst r/\nL r=true) (.ok (putN ks f,fC ks l f d)) .no
def Y0(g:dP K.f (K.ca c)/\aB K.f (K.ca c) f)(h:SE K XO E k me):pK K c (ju K.f (dh 0) k f) (lH f me):=by intro F1 H1 F H N B x G p l A n I t m o i u a;refine h _ _ _ F H _ _ _ I ?_;unfold lH at a;cases q:me _ with|no=>rwa[q]at a|ex J=>rw[q]at a;exact a.elim|ok d=>
 rw[q]at a;intro y M e v r;simp only[R.bF,R.aA,cO]at a;by_cases z:(p.map (·.1)).length<1000/\mV d=true;.rw[ao z]at a;have b:=e.nw x _ o i;have j:=I.grow e;obtain⟨w,s⟩:=xr (f:=f) (Cm j.ext d z.2 r) (u.mono (uY e.ff));exact⟨_,t,x,_,_,_,rfl,(e.hh _ _ i),g.1,g.2,by simp_all,(a _ _ _ (j.nP n m b) b cu w s)⟩
 .grind
def Y1(t:dP K.f (K.ca c)/\aB K.f (K.ca c) f)(h:iy K XO E G me):pK K c (ju K.f (dh 0) G f) (qY f me):=by intro F1 H1 F H σ δ x dx n l Dn Y I A T J k U a;refine h _ _ _ F H _ _ _ I ?_;unfold qY at a;cases q:me _ with|no=>rwa[q]at a|ex xx=>rw[q]at a;exact a.elim|ok d=>
 rw[q]at a;intro m H2 e p i g o;simp[R.bF,R.aA,cO]at a;by_cases z:(n.map (·.1)).length<1000/\∃r,d=.lst r/\nL r=true
 . rw[ao z]at a;obtain⟨z1,r,rfl,Z⟩:=z;obtain⟨y,g1,C⟩:=o;have X:=e.nw x _ J k;have s:=Gu e i g g1;have B:=d9 k g;have j:upd m p (.lst y) x=none:=by rwa[bz B]
   have v:=I.grow s;have S:=Az v.ext r Z (C.mono fun b u L=>by rwa[bz (d9 L i)]);have N:Rep K (cE F1 H1 (upd m p (.lst y))) (.lst r) (.ref p):=by refine⟨p,_,rfl,?_,S⟩;unfold cE;rw[ak (fun w=>w.2 (I.ext.hh.free g))];exact cu
   obtain⟨Q,M⟩:=xr N (U.mono (uY s.ff));exact⟨_,A,x,_,_,n,rfl,(e.hh _ _ k),t.1,t.2,by simp_all,a _ _ _ (v.nP Y T j) j cu Q M⟩
 .rw[ak z]at a;simp_all
theorem NM{R:D->V->Prop}:∀{ds:List D}{vs:List V},tQ R ds vs->ds.length=vs.length|_,_,.nil=>rfl|_,_,.cons _ t=>by rw[fK,fK,NM t]
end
end PM
namespace L2
structure MethAt(K:W.Frag)(C:Addr)(m qual:Str)(st:Stmt)(f:Addr)(fd:FuncData):Prop where
 at_:W.findIn K (.ref C) m=some (some (.ref f))NN:W.isFn K (.ref f)=true
 fn:jJ K m qual st f fd
def qZ{K:W.Frag}{st:Stmt}{kV e g d h:Value}(a:W.findIn K (.ref C) m=some (some (.ref f)))(i:W.isFn K (.ref f)=true)(l:K.lookup f=some ⟨n,od,.func (W.fnOf m b (nJ st) (kI st) (cb st) .none kV e g an d h),j⟩)(c:W.codeIn K d b=true)(k:W.keepIn K (.ref f)=true):∃f fd,MethAt K C m b st f fd:=⟨f,_,a,i,B5 l c k⟩
section
variable{P:Program}{w:World}{K:PySem.W.Frag}{mg:Str->Option Value}{base:Heap}{CX:jl}{k:Nat}{x m qual:Str}{C:Addr}{st:Stmt}{f:Addr}{fd:FuncData}{ps:List Str}{sp:Sp}
def MethAt.Gv(D:MethAt K C m qual st f fd)(c:dP K C)(a:cA P w K mg base CX k f fd ps sp)(b:zad K fd ps []):pH P w K mg base CX k m C ps sp:=⟨f,_,c,⟨D.at_,D.NN,D.fn.kp⟩,a,b⟩
def MethAt.Gw(D:MethAt K C "__init__" qual st f fd)(mk:W.makesIn K C=true)(c:W.keepIn K (.ref C)=true)(a:mg x=some (.ref C))(d:cA P w K mg base CX k f fd ps sp)(b:zad K fd ps []):sJ P w K mg base CX k x C ps sp:=⟨f,_,⟨mk,D.at_,D.NN,c⟩,d,a,b⟩
end
def xv(t u:TE):TE:=fun a H Q=>t a H Q\/u a H Q
section
variable{X:Cx}{CX:jl}{k:Nat}{x:Str}{C:Addr}{ps:List Str}{sp:Sp}{E:zag->XK}{p pos:Pos}{e:Expr}{es:List Expr}{t:TA}
def jA(h:PE X e c)(g:PE X e d):PE X e (xv c d):=fun b s f H Q I a=>a.elim (h _ s _ H Q I) (g _ s _ H Q I)
end
end L2
namespace PM
section
variable{K:Kx}{XO:di}{E:zag->XK}{F0 H0 F H F1 H1 F' H':Hp}
def Y2(e:Ext (iq F H) H F' H')(h:kN K x F' H' C b):kN K x (cE F H F') H' C b:=by
 refine⟨h.1,?_⟩;have a:=h.2;unfold XA at a⊢;split;.simp_all
 .rename_i c;rw[ak c]at a;obtain⟨g,d,f⟩:=a;exact⟨_,d,FD e f (fun _ z=>by cases z) (fun _ z=>by cases z) (fun _ _ z=>by cases z) (fun _ _ _ z=>by cases z)⟩
variable(K XO E)in
def iQ(c:Nat)(t:TS)(m:En->List Str->List D->R (List Str×List D)):Prop:=∀(F1 H1 F H:Hp)(b:zag)(e:En)(x h:Addr)(f:List (Str×V))(l:List D)(g:zae),sH e->aw K [] (iq F1 H1) H1 F H b e->b[0]?=some (some (.ref x))->H1 x=none->F x=none->H x=some (.ins (K.ca c) h f)->ay K (cE F1 H1 F) l (f.map (·.2))->(match m e (f.map (·.1)) l with|.no=>False|.ok p=>∀F' H' a,aw K [] (iq F1 H1) H1 F' H' b e->F' x=none->H' x=some (.ins (K.ca c) h a)->a.map (·.1)=p.1->ay K (cE F1 H1 F') p.2 (a.map (·.2))->g.nx b H'|.ex i=>∀C d F' H',Ext (iq F1 H1) H1 F' H'->XO i F' H' C d->E b C d H')->t g b H
def Y3:lH f me δ ks l≠.ex x:=by unfold lH cO;cases me _ with|ok d=>simp[R.bF];grind|_=>exact fun h=>by cases h
def Y4:qY f me δ ks l≠.ex x:=by unfold qY cO;cases me _ with|ok d=>simp[R.bF];split<;>exact fun h=>by cases h|_=>exact fun h=>by cases h
theorem pK.x(h:pK K c t m)(b:∀δ ks l x,m δ ks l≠.ex x):iQ K XO E c t m:=by intro F1 H1 F H u δ x n s l r g I i j d f e a;refine h _ _ F H _ _ x _ _ l _ g I i j d f e ?_;cases q:m _ _ l with|no=>rwa[q]at a|ok p=>rwa[q]at a|ex o=>exact(b _ _ _ _ q).elim
def NO(b:dP K.f (K.ca c)/\aB K.f (K.ca c) f)(h:SE K XO E a me):iQ K XO E c (ju K.f (dh 0) a f) (lH f me):=(Y0 b h).x fun _ _ _ _=>Y3
def NP(b:dP K.f (K.ca c)/\aB K.f (K.ca c) f)(h:iy K XO E a me):iQ K XO E c (ju K.f (dh 0) a f) (qY f me):=(Y1 b h).x fun _ _ _ _=>Y4
def sL(me:En->R D)(δ:En)(ks:List Str)(l:List D):R (List Str×List D):=(me δ).bind fun _=>.ok (ks,l)
def Y5(h:SE K XO E g me):iQ K XO E c (xT g) (sL me):=by intro F1 H1 F H m n x s u l w p I y A i b j a;refine h _ _ _ F H _ _ _ I ?_;unfold sL at a;cases q:me _ with|no=>simp_all|ex B=>rw[q]at a;exact fun C f F' H' e z=>a C _ _ _ (I.ext.trans e) z|ok d=>rw[q]at a;intro k G e v r;exact a _ _ _ (I.grow e) (e.nw x _ i b) (e.hh _ _ b) rfl (j.mono (uY e.ff))
def sM{m1 m2:En->List Str->List D->R (List Str×List D)}(h1:iQ K XO E c t m1)(h2:iQ K XO E c u m2):iQ K XO E c (wu t u) (fD m1 m2):=by intro F1 H1 F H z y x C v l w f I e g m k j a;unfold fD at a;refine h1 _ _ F H _ _ x _ _ l _ f I e g m k j ?_;cases q:m1 _ _ l with|no=>simp_all|ex B=>rwa[q]at a|ok p=>rw[q]at a;intro F' H' n o b d i h;refine h2 _ _ _ _ _ _ x _ _ _ _ f o e g b d h ?_;rwa[i]
def allI:List D->Bool|[]=>true|.int _::l=>allI l|_::_=>false
theorem NQ{F F':Hp}:∀{l:List D}{vs:List V},allI l=true->ay K F l vs->ay K F' l vs|[],vs,_,h=>h|d::l,vs,c,h=>by cases d with|int n=>obtain⟨v,r,g,f,b⟩:=h;exact⟨v,r,g,f,NQ c b⟩|_=>cases c
def qy:av (cE F H F') F':=fun b o h=>by unfold cE at h;simp_all
def vZ(c:Nat)(f:Str)(me:En->R D)(δ:En)(ks:List Str)(l:List D):R (List Str×List D):=(me (δ.set 0 (.v (.obj c ks l)))).iz.bind fun d=>cO (ks.length<1000/\0<δ.length/\∃r,d=.lst r/\allI r=true) (.ok (putN ks f,fC ks l f d)) .no
def Gx(hc:dP K.f (K.ca c)/\aB K.f (K.ca c) f)(h:iy K XO E te me):iQ K XO E c (ju K.f (dh 0) te f) (vZ c f me):=by
 intro F1 H1 F H σ k x Q g l Dn X I hx h0 hF hH hl a;have M:av F (upd F x (.ins (K.ca c) Q g)):=fun b o q=>by rwa[bz (d9 q hF)]
 have xe:Ext (iq F1 H1) H1 (upd F x (.ins (K.ca c) Q g)) H:=by
  refine⟨I.ext.ff.trans M,I.ext.hh,fun b o q=>?_,fun q u L n=>?_⟩
  . by_cases z:b=x;.subst z;rw[cu]at q;simp_all
    .rw[bz z]at q;exact I.ext.fh _ _ q
  .rw[bz (d9 n h0)];exact I.ext.nw q u L n
 have C:sH (k.set 0 (.v (.obj c (g.map (·.1)) l))):=fun i=>by cases i with
  |zero=>cases k with|nil=>rfl|cons s r=>rfl
  |succ i=>rw[aL (by omega)];exact X _
 have I':aw K [] (iq F1 H1) H1 (upd F x (.ins (K.ca c) Q g)) H σ (k.set 0 (.v (.obj c (g.map (·.1)) l))):=by refine⟨xe,by rw[I.len,ny],fun i=>?_,fun i j a _ S _ _ _=>(by rw[C i]at S;cases S),fun y hy=>(by cases hy),fun i ll S=>(by have:=C i;rw[S]at this;cases this)⟩;cases i with
  |zero=>cases k with|nil=>trivial|cons s r=>refine⟨.ref x,hx,?_⟩;exact⟨x,Q,g,rfl,cu,rfl,(hl.mono qy).mono M⟩
  |succ i=>rw[aL (by omega)];have z:=I.slot (i+1);have N:=X (i+1);cases q:k[i+1]? with|none=>trivial|some s=>rw[q]at z N;cases s with|no=>trivial|v d=>obtain⟨v,z1,T⟩:=z;exact⟨v,z1,Rep.mono M _ T⟩|o d=>cases N|l d=>cases N|p ll=>cases N
 refine h [] _ _ _ H σ _ _ I' ?_;unfold vZ at a;cases q:me (k.set 0 (.v (.obj c (g.map (·.1)) l)))with|no=>rwa[q]at a|ex xx=>rw[q]at a;exact a.elim|ok d=>
  rw[q]at a;intro F2 H2 e p hp0 m o;simp only[R.bF,R.aA,cO]at a;by_cases z:(g.map (·.1)).length<1000/\0<k.length/\∃r,d=.lst r/\allI r=true
  . rw[ao z]at a;obtain⟨z1,_,r,rfl,T⟩:=z;obtain⟨Z,L,n⟩:=o;have xp:x≠p:=d9 hH m;have e':Ext F H (uX F2 x) H2:=by
     refine⟨fun b o q=>?_,e.hh,fun b o q=>e.fh _ _ (YZ b o q),fun b u L n=>?_⟩;.rw[Gs (d9 q hF)];exact e.ff _ _ (M _ _ q)
     . by_cases w:b=x;.subst w;exact NL
       .rw[Gs w];exact e.nw b u (by rwa[bz w]) n
    have e3:=Gu e' (by rwa[Gs (aN xp)]) m L;have G:upd (uX F2 x) p (.lst Z) x=none:=by rw[bz xp];exact NL
    have U:H1 p=none:=I.ext.hh.free m;have rp:Rep K (cE F1 H1 (upd (uX F2 x) p (.lst Z))) (.lst r) (.ref p):=by refine⟨p,Z,rfl,?_,NQ T n⟩;unfold cE;rw[ak (fun w=>w.2 U)];exact cu
    obtain⟨g3,g4⟩:=xr rp (hl.mono (uY e3.ff));exact⟨_,hx,x,_,_,_,rfl,(e.hh _ _ hH),hc.1,hc.2,by simp_all,a _ _ _ ((I.grow e3).nP X h0 G) G cu g3 g4⟩
  grind
def yB(K:Kx)(c:Nat)(f:List D->R D):Sp:=fun h H Q E=>∃(x b:Addr)(g:List V)(F a:Hp)(e:List D),h=.ref x::g/\H=upd (upd a b (.own x)) x (.ins (K.ca c) b [])/\a x=none/\a b=none/\b≠x/\av F a/\tQ (vQ K F a) e g/\eM (fun _=>E) (kN K) [] F a (fun d F' H'=>F' x=none->Own K F' H' d x->Q .non H') (f e)
def NR{E:XK}{ps:List Str}(b:ps.length=np+1)(h:yB K c (runN c np m) vs H Q E):vs.length=ps.length:=by
 obtain⟨x,d,f,F,g,e,rfl,rfl,_,_,_,_,r,a⟩:=h;unfold runN at a;split at a;.have:=NM r;simp;lia
 .exact a.elim
def NS{E:XK}(h:iQ K (kN K) (fun _=>E) c t m)(hn:N.length=np+1)(sp:yB K c (runN c np m) vs H Q E):t {nx:=fun _ H'=>Q .non H',rt:=Q} (L2.start N vs) H:=by
 obtain⟨x,dx,g,F,n,l,rfl,rfl,u,G,ne,s,M,a⟩:=sp;unfold runN at a;split at a;case isFalse=>exact a.elim
 case isTrue hl=>
 have r:=Ck s M;have A:=FA s;have I:=r.length;have st:L2.start N (.ref x::g)=some (.ref x)::g.map some:=by unfold L2.start;rw[show N.length-(V.ref x::g).length=0 by simp_all];simp
 rw[st];have B:=A.free u;have k:sH (.no::l.map .v):=fun i=>by cases i with|zero=>rfl|succ i=>rw[List.getElem?_cons_succ,bX];cases l[i]?<;>rfl
 have X:aw K [] (iq F n) n (iq F n) n (some (V.ref x)::g.map some) (.no::l.map .v):=by refine⟨.refl A,by simp[I],fun i=>?_,fun i j a _ w _ _ _=>(by rw[k i]at w;cases w),fun y J=>(by cases J),fun i ll w=>by grind⟩;cases i with|zero=>trivial|succ i=>rw[List.getElem?_cons_succ,bX];cases q:l[i]? with|none=>trivial|some d=>obtain⟨v,Y,U⟩:=r.get q;exact⟨v,by simp_all,U⟩
 refine h F _ _ _ _ _ x _ _ _ _ k ((X.nP k G (A.free G)).nP k u B) rfl u B cu .nil ?_;rw[List.map_nil];cases q:m _ _ _ with|no=>rwa[q]at a|ex xx=>rw[q]at a;exact fun C L F' H' e z=>a C _ _ _ (Co e) (Y2 e z)|ok p=>rw[q]at a;intro F' H' S I' Z o e1 T;refine a _ _ (Co I'.ext) ?_ ⟨_,_,o,e1,T⟩;unfold cE;simp_all
def Y6(j:C=K.ca c)(h:vR K (kN K) E n ml):iy K (kN K) E (Ex C (yB K c f) [] y n) (bu f ml):=by intro w F0 H0 F H A p Q I a;refine h _ _ _ F H _ _ _ I (a.bind.imp fun v F1 H1 i b B r x t g e m=>⟨x,_,_,_,_,_,by simp,by rw[j],g,e,m,i.fh,r,?_⟩);cases q:f _ with|no=>rwa[q]at b|ex z=>rw[q]at b;exact b.elim|ok d=>rw[q]at b;exact fun L G l k o=>⟨rfl,b _ _ l x k (i.hh.free g) o⟩
noncomputable def cG(i a:Nat)(m1 m2:En->R D)(δ:En):R D:=match δ[i]? with|some (.v (.obj c _ _))=>if c=a then m1 δ else m2 δ|_=>.no
def pL{m1 m2:En->R D}(h1:SE K XO E b m1)(h2:SE K XO E c m2):SE K XO E (xv b c) (cG i e m1 m2):=by
 intro g F0 H0 F H d f Q I a;unfold cG at a;split at a
 . split at a;.exact .inl (h1 _ _ _ F H _ _ Q I a)
   .exact .inr (h2 _ _ _ F H _ _ Q I a)
 .exact a.elim
def yC{m1 m2:En->R D}(h1:iy K XO E b m1)(h2:iy K XO E c m2):iy K XO E (xv b c) (cG i e m1 m2):=by
 intro g F0 H0 F H d f Q I a;unfold cG at a;split at a
 . split at a;.exact .inl (h1 _ _ _ F H _ _ Q I a)
   .exact .inr (h2 _ _ _ F H _ _ Q I a)
 .exact a.elim
end
end PM
namespace L2
section
variable{prog:Program}{w:World}{A:Around}{E:Value->Shared->Prop}{s:Shared}
def Y7{Q:Value->Shared->Prop}(D:ZipApart z d a i j l t)(hz:IsZip s.heap z d a .none)(h3:IsPair s.heap d (.ref i) (.ref j))(h4:IsPair s.heap a p q)(h1:s.heap.IsListIter i l k)(h2:s.heap.IsTupleIter j t m)(hl:s.heap.IsList l xs)(ht:s.heap.IsTuple t ys)(hx:xs[k]?=some x)(hy:ys[m]?=some y)(hQ:∀h',IsZip h' z d a (rawInt s.heap.objs.size)->IsPair h' a x y->h'.IsListIter i l (k+1)->h'.IsTupleIter j t (m+1)->IsPair h' s.heap.objs.size x y->(∀c o,c≠z->c≠a->c≠i->c≠j->s.heap.get? c=some o->h'.get? c=some o)->Q (.ref s.heap.objs.size) {s with heap:=h'}):wpAny (model prog w) A (Builtin.«zip.__next__» ⟨[.ref z],[]⟩) (fun M s'=>∃v,M=.done (.ret v)/\Q v s') E s:=by
 show wpAny _ A (field (.ref z) 2>>=_) _ _ s;refine ah (cL hz rfl (x:=.bool false) rfl ?_);show wpAny _ A (field (.ref z) 3>>=_) _ _ s;refine ah (cL hz rfl (x:=.ref d) rfl (ah (eD h3 rfl ?_)));show wpAny _ A (Builtin.SmallTypes.ownedTupleIsFree (.ref z)>>=_) _ _ s;refine ah ?_;unfold Builtin.SmallTypes.ownedTupleIsFree;refine ah (cL hz rfl (x:=.none) rfl (ax ?_));simp only[if_true];refine ah (iZ ?_);refine ah (cL hz rfl (x:=.ref a) rfl ?_);refine ah (i7 hz (by simp) fun g1 H g=>?_);replace H:IsZip g1 z d a .ellipsis:=H;refine ah ?_;simp only[List.zipIdx_cons,List.zipIdx_nil,rT,List.forIn_nil];refine ah (ah (l5 ?_));show wpAny _ A (Builtin.SmallTypes.nextOf (.ref i)>>=_) _ _ _;refine ah (wpAny_nextOf_list_item (h1.extBut g.extBut D.i1z) (hl.extBut g.extBut D.l1z) hx fun g2 p2 h=>ax ?_);have O:IsPair g2 a p q:=h.extBut _ _ D.TOi1 (g.extBut _ _ D.TOz h4);refine ah (eD O rfl (ah (oW O fun g3 u3 n=>?_)));refine ah (gv (ax (ah (ah (l5 ?_)))));refine ah (NG (((h2.extBut g.extBut D.i2z).extBut h.extBut D.i12.symm).extBut n.extBut D.TOi2.symm) (((ht.extBut g.extBut D.l2z).extBut h.extBut D.l2i1).extBut n.extBut D.l2TO) hy fun g4 p4 u=>ax ?_);have T:IsPair g4 a x q:=u.extBut _ _ D.TOi2 u3;refine ah (eD T rfl (ah (oW T fun b C r=>?_)));replace C:IsPair b a x y:=C;refine ah (gv (ax (ax ?_)));refine ah (eD C rfl (ah (wpAny_newTuple (hsz:=by show 2<=sizeLine;decide) ?_)));have S:b.objs.size=s.heap.objs.size:=by rw[r.1,u.1,n.1,h.1,g.1]
 have X:IsZip b z d a .ellipsis:=r.extBut _ _ D.TOz.symm (u.extBut _ _ D.i2z.symm (n.extBut _ _ D.TOz.symm (h.extBut _ _ D.i1z.symm H)));have k5:∀c o,c≠z->c≠a->c≠i->c≠j->s.heap.get? c=some o->b.get? c=some o:=fun c o f G I J e=>r.extBut _ _ G (u.extBut _ _ J (n.extBut _ _ G (h.extBut _ _ I (g.extBut _ _ f e))));have i5:b.IsListIter i l (k+1):=((p2.extBut n.extBut D.TOi1.symm).extBut u.extBut D.i12).extBut r.extBut D.TOi1.symm;have j5:b.IsTupleIter j t (m+1):=p4.extBut r.extBut D.TOi2.symm;have R:z<b.objs.size:=aI X;refine ah ?_;have z6:IsZip (b.push {cls:=.type "tuple",data:=.seq #[x,y]}) z d a .ellipsis:=aO _ X;refine ah (i7 z6 (by simp) fun g7 z7 Y=>?_);refine i7 z7 (by simp) fun L Z U=>?_;have B:∀c o,c≠z->b.get? c=some o->L.get? c=some o:=fun c o f e=>U.extBut _ _ f (Y.extBut _ _ f (aO _ e));have N:IsPair L b.objs.size x y:=U.extBut _ _ (eO R) (Y.extBut _ _ (eO R) (b7 _ rfl));rw[S]at Z N;refine ax ⟨_,rfl,?_⟩;show Q (.ref b.objs.size) _;rw[S];exact hQ L Z (B _ _ D.TOz C) (i5.at fun o e=>B _ o D.i1z e) (j5.at fun o e=>B _ o D.i2z e) N fun c o f G I J e=>B c o f (k5 c o f G I J e)
def Y8(L:A.handled=none)(D:ZipApart z g d i j l t)(hz:IsZip s.heap z g d .none)(h3:IsPair s.heap g (.ref i) (.ref j))(T:IsPair s.heap d p q)(h1:s.heap.IsListIter i l k)(h2:s.heap.IsTupleIter j t m)(O:s.heap.IsList l xs)(ht:s.heap.IsTuple t ys)(Z:xs[k]?=none\/ys[m]?=none)(C:∀h' e,(∀c o,c≠z->c≠d->c≠i->c≠j->s.heap.get? c=some o->h'.get? c=some o)->(∃o,h'.get? e=some o/\o.cls=.type "StopIteration")->E (.ref e) {s with heap:=h'}):wpAny (model prog w) A (Builtin.«zip.__next__» ⟨[.ref z],[]⟩) Q E s:=by
 show wpAny _ A (field (.ref z) 2>>=_) _ _ s;refine ah (cL hz rfl (x:=.bool false) rfl ?_);refine ah (cL hz rfl (x:=.ref g) rfl (ah (eD h3 rfl ?_)));refine ah ?_;unfold Builtin.SmallTypes.ownedTupleIsFree;refine ah (cL hz rfl (x:=.none) rfl (ax ?_));refine ah (iZ ?_);refine ah (cL hz rfl (x:=.ref d) rfl (ah (i7 hz (by simp) fun g1 M a=>?_)))
 refine ah ?_;refine ah (ah (l5 ?_));cases H:xs[k]? with|none=>
 refine ah (wpAny_nextOf_list_end L (h1.extBut a.extBut D.i1z) (O.extBut a.extBut D.l1z) H fun v e b ⟨G,u,B⟩=>?_);have z2:IsZip v z g d .ellipsis:=b _ _ D.i1z.symm M;have n:e≠z:=fun r=>by grind
 exact i7 z2 (by simp) fun R _ f=>C R e (fun c o h _ y _ r=>f.extBut _ _ h (b _ _ y (a.extBut _ _ h r))) ⟨G,f.extBut _ _ n u,B⟩|some x=>
 have X:ys[m]?=none:=Z.resolve_left (by grind);refine ah (wpAny_nextOf_list_item (h1.extBut a.extBut D.i1z) (O.extBut a.extBut D.l1z) H fun v p2 b=>ax ?_);have N:IsPair v d p q:=b.extBut _ _ D.TOi1 (a.extBut _ _ D.TOz T);refine ah (eD N rfl (ah (oW N fun R u3 f=>?_)));refine ah (gv (ax ?_));refine ah (ah (l5 (ah (Gp L (((h2.extBut a.extBut D.i2z).extBut b.extBut D.i12.symm).extBut f.extBut D.TOi2.symm) (((ht.extBut a.extBut D.l2z).extBut b.extBut D.l2i1).extBut f.extBut D.l2TO) X fun U e I ⟨G,u,B⟩=>?_))));have Y:IsZip U z g d .ellipsis:=I _ _ D.i2z.symm (f.extBut _ _ D.TOz.symm (b.extBut _ _ D.i1z.symm M));have n:e≠z:=fun r=>by grind
 exact i7 Y (by simp) fun S _ J=>C S e (fun c o h c2 y c4 r=>J.extBut _ _ h (I _ _ c4 (f.extBut _ _ c2 (b.extBut _ _ y (a.extBut _ _ h r))))) ⟨_,J.extBut _ _ n u,B⟩
end
noncomputable def yD(h:Heap)(l t:Addr):Heap:=((((h.push {cls:=.type "list_iterator",data:=.fields #[.ref l,.int 0 0]}).push {cls:=.type "tuple_iterator",data:=.fields #[.ref t,.int 0 0]}).push {cls:=.type "tuple",data:=.seq #[.ref h.objs.size,.ref (h.objs.size+1)]}).push {cls:=.type "tuple",data:=.seq #[.none,.none]}).push {cls:=.type "zip",data:=.fields #[.none,.bool false,.bool false,.ref (h.objs.size+2),.ref (h.objs.size+3)]}
def Y9(l t:Addr)(xs ys:Array Value):Meets (Builtin.«zip.__new__» ⟨[.type "zip",.ref l,.ref t],[]⟩) (fun _ R s=>s.heap.IsList l xs/\s.heap.IsTuple t ys/\R (.ok (.ret (.ref (s.heap.objs.size+4)))) {s with heap:=yD s.heap l t}):=.of_wp fun e w A R s h=>by obtain⟨a,g,d,c,os⟩:=s;obtain⟨j,f,h⟩:=h;have b:=sub_zip;have i:Heap.IsList (Shared.heap ⟨a,g,d,c,os⟩) l xs:=j;have k:IsTup (Shared.heap ⟨a.push {cls:=.type "list_iterator",data:=.fields #[.ref l,.int 0 0]},g,d,c,os⟩) t ys:=IsTup.push f _;wp_walk using wpAny_pyIter_list i,iter_tuple k;refine⟨_,rfl,?_⟩;simp only[iC]at h⊢;exact h
def Y_(j:s.heap.IsList l xs)(k:s.heap.IsTuple t ys)(h:∀h',IsZip h' (s.heap.objs.size+4) (s.heap.objs.size+2) (s.heap.objs.size+3) .none->IsPair h' (s.heap.objs.size+2) (.ref s.heap.objs.size) (.ref (s.heap.objs.size+1))->IsPair h' (s.heap.objs.size+3) .none .none->h'.IsListIter s.heap.objs.size l 0->h'.IsTupleIter (s.heap.objs.size+1) t 0->(∀c o,s.heap.get? c=some o->h'.get? c=some o)->Q (.ref (s.heap.objs.size+4)) {s with heap:=h'}):wpAny (model prog w) A (call (.type "zip") [.ref l,.ref t]) Q E s:=by
 refine callType_new F.called_zip (by decide) (F.typeCall_zip_2 _ _) (F.newCall_zip_2 _ _) (fun d=>F.args_object_init_3 d _ _) F.entry_zip_new (Y9 l t xs ys) ⟨j,k,?_⟩;obtain⟨n,b⟩:=zaa s.heap.objs.size;have a:∀(h:Heap)(o:Obj)(m:Nat),h.objs.size=m->o.isFreed=false->(h.push o).get? m=some o:=fun h o m e f=>by rw[<-e];exact b7 _ f
 have g:IsZip (yD s.heap l t) (n+4) (n+2) (n+3) .none:=by rw[b];exact a _ _ _ (by simp) rfl
 have q:IsPair (yD s.heap l t) (n+3) .none .none:=by rw[b];exact aO _ (a _ _ _ (by simp) rfl)
 have p:IsPair (yD s.heap l t) (n+2) (.ref n) (.ref (n+1)):=by rw[b];exact aO _ (aO _ (a _ _ _ (by simp) rfl))
 have r:(yD s.heap l t).get? (n+1)=some {cls:=.type "tuple_iterator",data:=.fields #[.ref t,.int 0 0]}:=by rw[b];exact aO _ (aO _ (aO _ (a _ _ _ (by simp) rfl)))
 have i:(yD s.heap l t).get? n=some {cls:=.type "list_iterator",data:=.fields #[.ref l,.int 0 0]}:=by rw[b];exact aO _ (aO _ (aO _ (aO _ (a _ _ _ rfl rfl))))
 rw[<-b]at h⊢;exact⟨⟨_,g,rfl⟩,h _ g p q ⟨_,i,rfl,rfl⟩ ⟨_,r,rfl,rfl⟩ fun c o x=>aO _ (aO _ (aO _ (aO _ (aO _ x))))⟩
def NT(hd:[z,l,g,i,j].Nodup)(h1:IsZip h z l g f0)(h3:IsPair h g u v)(C:h.IsListIter i a k)(t:h.IsTupleIter j b m)(p:PlainL h a xs)(x:h.IsTuple b ys)(M:b≠g):ZipApart z l g i j a b:=by
 obtain⟨o,n,e,c,_⟩:=p;obtain⟨O,d,f,_⟩:=x;obtain⟨Q,N,D,_⟩:=C;obtain⟨R,q,I,_⟩:=t;simp[dQ,aM,dw,fy,List.nodup_nil,and_true,not_false_eq_true]at hd;obtain⟨⟨A,L,J,G⟩,⟨H,s,B⟩,⟨y,w⟩,E⟩:=hd;refine⟨aN A,aN L,aN J,aN G,H,s,B,y,w,E,fun r=>?_,fun r=>?_,fun r=>?_,fun r=>?_,fun r=>?_,M,fun r=>?_,fun r=>?_⟩;.subst r;rw[h1]at e;cases e;simp at c
 .grind
 .simp_all
 .simp_all
 .subst r;rw[h1]at d;cases d;simp at f
 .subst r;rw[N]at d;cases d;rw[D]at f;simp at f
 .subst r;rw[q]at d;cases d;rw[I]at f;simp at f
def xw(K:W.Frag)(a b:Addr):It:=⟨fun i H=>∃c d x y,eE K H a c/\H b=some (.tup d)/\c[i]?=some x/\d[i]?=some y,fun i H v e=>∃p x y,v=.ref p/\H p=none/\e=upd H p (.tup [x,y])/\(∀c,eE K H a c->c[i]?=some x)/\∀d,H b=some (.tup d)->d[i]?=some y,fun i H=>∃c d,eE K H a c/\H b=some (.tup d)/\(c.length<=i\/d.length<=i)⟩
def Y'{K:W.Frag}(a b z L t i j:Addr)(hd:[z,L,t,i,j].Nodup):Turn P w K (.Tuple es k pos) (xw K a b) [z,L,t,i,j] z (fun n h=>IsZip h z L t .none/\IsPair h L (.ref i) (.ref j)/\(∃u v,IsPair h t u v)/\h.IsListIter i a n/\h.IsTupleIter j b n)where
 mem:=by simp
 obj:=fun n h st c d=>by
  obtain⟨l,J,⟨u,v,B⟩,⟨o1,G,c1,d1⟩,o2,C,c2,d2⟩:=st;simp only[aM,dw,eB]at d;rcases d with rfl|rfl|rfl|rfl|rfl;.exact⟨_,l,fun v z=>by trivial⟩
  .exact⟨_,J,fun v z=>by trivial⟩
  .exact⟨_,B,fun v z=>by trivial⟩
  .exact⟨o1,G,fun v z=>by grind⟩
  .exact⟨o2,C,fun v z=>by grind⟩
 keep:=fun n h h' st q=>let⟨l,J,⟨u,v,B⟩,G,C⟩:=st;⟨q z (by simp) _ l,q L (by simp) _ J,⟨u,v,q t (by simp) _ B⟩,G.at fun o e=>q i (by simp) o e,C.at fun o e=>q j (by simp) o e⟩;item:=by
  intro X hP hw hK d n S s σ H E I Q st hg;subst hP hw hK;obtain⟨xs,ys,x,y,q1,O,hx,hy⟩:=hg;obtain⟨its,rv,p,hz⟩:=I.list q1;obtain⟨_,A,M,p'⟩:=I.bB b _ O;have Z:s.heap.IsTuple b A.toArray:=p';obtain⟨u,hu,ru⟩:=rv.get hx;obtain⟨u',hu',FX⟩:=M.get hy;obtain⟨l,J,⟨f,g,B⟩,G,C⟩:=st;have bt:b≠t:=fun r=>by obtain⟨f0,_⟩:=Q t (by simp);simp_all
  have D:=NT hd l B G C p Z bt;have hT:H s.heap.objs.size=none:=I.bB.fresh (aC _);have N:∀c o,s.heap.get? c=some o->c≠s.heap.objs.size:=fun c o e=>aY (aI e);have Y:s.TypeIs (.ref z) "zip":=⟨_,l,rfl⟩;refine ah (lV (j' (name:=Str.ofString "__next__") Y p5 (ka p5 Y F.entry_zip_next ?_ (F.args_zip_next_1 _))));refine Y7 D l J B G C p.isList Z (x:=u) (y:=u') (by simp_all) (by simp_all) fun h' a1 a2 a3 a4 a5 hk=>ax ⟨_,rfl,(wpAny_letOwnedTupleGo_zip a1 fun R b1 U=>?_)⟩;have m:Heap.SameBut z h' R:=U;have Za:∀c o,c∉[z,L,t,i,j]->s.heap.get? c=some o->R.get? c=some o:=fun c o d q=>by simp only[aM,dw,eB,fy]at d;exact(m.2 c d.1).trans (hk c o d.1 d.2.2.1 d.2.2.2.1 d.2.2.2.2 q)
  refine⟨.ref s.heap.objs.size,upd H s.heap.objs.size (.tup [x,y]),?_,rfl,⟨_,x,y,rfl,hT,rfl,fun Xi h=>by rwa[I.fP h q1],fun x_ h=>by rw[O]at h;cases h;exact hy⟩,⟨b1,(m.2 _ D.TIz).trans (hk _ _ D.TIz D.TITO D.TIi1 D.TIi2 J),⟨u,u',(m.2 _ D.TOz).trans a2⟩,a3.at fun o e=>(m.2 _ D.i1z).trans e,a4.at fun o e=>(m.2 _ D.i2z).trans e⟩,fun c d=>?_⟩;.exact I.sx (t':=s.toks) [z,L,t,i,j] Q Za (by show 2<=sizeLine;decide) (.cons ru (.cons FX .nil)) ((m.2 _ (aN (N z _ l))).trans a5)
  . obtain⟨f0,_⟩:=Q c d;rw[bz];.exact f0
    . obtain⟨o1,e4,_⟩:=G;obtain⟨o2,e5,_⟩:=C;simp only[aM,dw,eB]at d;rcases d with rfl|rfl|rfl|rfl|rfl;.exact N _ _ l
      .exact N _ _ J
      .exact N _ _ B
      .exact N _ _ e4
      .exact N _ _ e5
 done:=by
  intro X hP hw hK d n S s σ H E I Q st hg;subst hP hw hK;obtain⟨xs,ys,q1,O,he⟩:=hg;obtain⟨its,rv,p,hz⟩:=I.list q1;obtain⟨_,A,M,p'⟩:=I.bB b _ O;have Z:s.heap.IsTuple b A.toArray:=p';obtain⟨l,J,⟨f,g,B⟩,G,C⟩:=st;have bt:b≠t:=fun r=>by obtain⟨f0,_⟩:=Q t (by simp);rw[r,f0]at O;cases O
  have l1:=rv.length;have l2:=M.length;have Y:s.TypeIs (.ref z) "zip":=⟨_,l,rfl⟩;refine ah (lV (j' (name:=Str.ofString "__next__") Y p5 (ka p5 Y F.entry_zip_next ?_ (F.args_zip_next_1 _))));refine Y8 (I.ok.hd d) (NT hd l B G C p Z bt) l J B G C p.isList Z (he.imp (fun z=>by simp;lia) fun z=>by simp;lia) fun h' e hk ⟨oe,ho,Zb⟩=>?_;exact ah (wpAny_isInstance (T:="StopIteration") (b:=true) ⟨oe,ho,Zb⟩ isSubtype_stop (ax ⟨rfl,(I.qw (t':=s.toks) [z,L,t,i,j] Q fun c o d q=>by simp only[aM,dw,eB,fy]at d;exact hk c o d.1 d.2.2.1 d.2.2.2.1 d.2.2.2.2 q)⟩))
 self:=fun _ _ _ _ _ st h=>l8 st.1 h
section
variable{X:Cx}
def NU(K:W.Frag)(e:TA):zah:=fun g H R=>e g H fun d c=>∃a b,d=[.ref a,.ref b]/\(∃h,eE K c a h)/\(∃f,c b=some (.tup f))/\R (xw K a b) c
def Gy(Y:Gl X "zip")(L:X.mg "zip"=none)(ha:PA X [l,g] S)(N:autoParam (starEach [l,g] X.env=(false,eval l X.env)::starEach [g] X.env) zak)(o:autoParam ((backTo pos (starEach [g] X.env)).any (·.1)=false) zak):PI X (.Tuple es k tp) (.Call (.Name "zip" p) [l,g] [] pos) (NU X.K S):=by
 intro A s σ H R I h;refine Call_ (nV I Y L PyProof.Rows.boot_zip (ew (bK (ha _ _ s _ H _ I h) fun us t ⟨_,_,f,Q,Z⟩=>?_) N o));obtain⟨a,b,e,⟨xs,J⟩,⟨ys,j⟩,q⟩:=Z;subst e;obtain⟨u,v,rfl,G,M⟩:=xY Q;cases G;cases M;obtain⟨D,rv,E,hz⟩:=f.list J;obtain⟨_,w,O,r⟩:=f.bB b _ j;refine Y_ E.isList r fun h' n C B y z U=>?_;obtain⟨m,T⟩:=zaa t.heap.objs.size;have i:[m+4,m+2,m+3,m,m+1].Nodup:=by simp
 rw[<-T]at n C B y z⊢;refine l8 n ⟨_,_,_,_,_,rfl,(f.kept U),Y' a b _ _ _ _ _ i,⟨n,C,⟨_,_,B⟩,y,z⟩,fun d x=>?_,q⟩;have c:t.heap.objs.size<=d:=by simp[dw]at x;rcases x with rfl|rfl|rfl|rfl|rfl<;>lia
 exact f.ki c (f.bB.fresh c)
end
end L2
namespace PM
section
variable{K:Kx}{XO:di}{E:zag->XK}
def yE:List D->Option (List D)|[.lst x,.tup y]=>some (kZ x y)|_=>none
def xy(ml:En->R (List D))(δ:En):R (List D):=(ml δ).bind fun l=>R.of (yE l)
def Zc(h:yE l=some r):∃x y,l=[.lst x,.tup y]/\r=kZ x y:=by unfold yE at h;grind
def Zd(r:ay K A ds vs)(t:ay K A es ws)(h:∀g c,P g c->av A g/\av g c/\eE K.f c a vs/\c b=some (.tup ws)):kY K (xw K.f a b) P (kZ ds es):=by
 intro g c p i;obtain⟨C,s,q,f⟩:=h _ _ p;unfold kZ;rw[List.getElem?_zipWith];refine⟨fun d k=>?_,fun Q=>?_⟩;.cases e:ds[i]? with|none=>rw[e]at k;cases k|some x=>cases j:es[i]? with|none=>simp_all|some y=>rw[e,j]at k;cases k;obtain⟨v,o,I⟩:=r.get e;obtain⟨w,B,l⟩:=t.get j;refine⟨⟨_,_,v,w,q,f,o,B⟩,fun N S y=>?_⟩;obtain⟨J,M,L,rfl,n,rfl,G,H⟩:=y;have z:=G _ q;rw[o]at z;cases z;have z:=H _ f;rw[B]at z;cases z;refine⟨_,.new s n,?_⟩;have m:=C.trans (av.upd (u:=.tup [v,w]) (s.free n));exact⟨_,_,rfl,cu,.cons (Rep.mono m _ I) (.cons (Rep.mono m _ l) .nil)⟩
 .cases e:ds[i]? with|none=>exact⟨_,_,q,f,.inl (by rw[r.length];simp_all)⟩|some x=>cases j:es[i]? with|none=>exact⟨_,_,q,f,.inr (by rw[t.length];exact fJ.mp j)⟩|some y=>simp_all
def NV(h:SA K XO E k ml):SI K XO E (NU K.f k) (xy ml):=by intro t y J F H B o R I a;refine h _ _ _ F H _ _ _ I (a.bind.imp fun C A u c d j r=>?_);cases q:yE _ with|none=>rw[q]at d;exact d.elim|some z=>obtain⟨l,s,rfl,rfl⟩:=Zc q;obtain⟨v,w,rfl,m,g⟩:=ay.two r;obtain⟨a,j,rfl,e,n⟩:=m;obtain⟨b,p,rfl,f,i⟩:=g;exact⟨a,b,rfl,⟨_,.inl (PM.av.mT c.fh e)⟩,⟨_,c.fh _ _ f⟩,d _ _ (.refl c.fh) _ (Zd n i fun L G x=>⟨x.1,x.2,.inl (PM.av.rd x.2 (PM.av.mT x.1 e)),x.2 _ _ (x.1 _ _ f)⟩)⟩
def uZ:List D->Option D|[.tup l]=>(de l).bind fun a=>cO (a.length<4000) (some (.int (uniq a).length)) none|_=>none
def Ze(h:uZ ds=some d):∃ns:List Int,ds=[.tup (ns.map .int)]/\ns.length<4000/\d=.int (uniq ns).length:=by
 unfold uZ at h;split at h;.rename_i l;cases z:de l with|none=>simp_all|some ns=>
  rw[z]at h;simp at h;unfold cO at h;split at h;.rename_i a;cases h;exact⟨_,by rw[rC z],a,rfl⟩
  simp_all
 simp_all
end
end PM
namespace L2
def Zf:isSubtype (.type "tuple") (.type "set")=pure false:=by rw[isSubtype_type];rfl
def Zg:isSubtype (.type "tuple") (.type "frozenset")=pure false:=by rw[isSubtype_type];kernel_rfl
noncomputable abbrev sN (b:Bool):Obj:={cls:=.type "set",dict:=none,data:=.set #[] 0 (.fresh 0 0 b)}
section
variable {prog : Program} {w : World} {A : Around} {E : Value->Shared->Prop} {s : Shared}
abbrev NW (prog:Program)(w:World)(s:Shared)(vs:Array Value)(ns:List Int)(h':Heap):Prop:=h'.SetOf (intKind prog w) s.heap.objs.size (fun k'=>(firstMet (fun i=>ns.getD i 0) vs.size).any (·==k')) (firstMet (fun i=>ns.getD i 0) vs.size).length/\∀b o,b<s.heap.objs.size->s.heap.get? b=some o->h'.get? b=some o
set_option maxHeartbeats 8000000 in
theorem Zh {t:Addr}{vs:Array Value}{ns:List Int}{Q:Value->Shared->Prop}(hh:A.handled=none)(ht:s.heap.IsTuple t vs)(hi:IntsAre vs.toList ns)(hb:vs.size+1<scanBound)(h:∀(h':Heap)(tk:Nat),NW prog w s vs ns h'->Q (.ref s.heap.objs.size) {s with heap:=h',toks:=tk}):wpAny (model prog w) A (call (.type "set") [.ref t]) Q E s:=by
 obtain⟨c,tl,m1⟩:=jg.mro
 have m2:=jg.made
 have m3:=jg.sub
 refine gu (codeAny_of_tree ?_)
 show wpAny _ A.in1 (callAny (.type "set") _) _ _ s
 refine ax ⟨rN _ (by decide+kernel),iY F.entry_type_call ?_⟩
 rw[Around.under_plain (weight_type_call_type "set" [.ref t] []) rfl]
 have m4:=jg.notType
 have m5:=jg.canCreate
 have m6:=F.typeCall_set_1 (.ref t)
 repeat(any_goals(first|assumption|wp_step))
 refine gr (code_set_new_1 (.ref t) (E:=E) (Q₁:=fun ob dY=>∃b:Bool,ob=.ref s.heap.objs.size/\dY={s with heap:=s.heap.push (sN b)}) fun b=>⟨b,rfl,rfl⟩) fun r dY hr=>?_
 cases r with|error e=>exact hr|ok fl=>cases fl with
 |ret ob=>
  obtain⟨b,rfl,rfl⟩:=hr
  have gS:(s.heap.push (sN b)).get? s.heap.objs.size=some (sN b):=b7 _ rfl
  have tS:Shared.TypeIs {s with heap:=s.heap.push (sN b)} (.ref s.heap.objs.size) "set":=⟨_,gS,rfl⟩
  have n1:=jg.init.lookup
  have n2:=jg.init.bind (.ref s.heap.objs.size)
  repeat(any_goals(first|assumption|wp_step))
  refine gr (oP (R:=wants (fun r AV=>r=.none/\∃h' tk,AV={s with heap:=h',toks:=tk}/\NW prog w s vs ns h') E) jg.init.plain F.entry_set_init (check_set_init_1 tS ?_)) fun Gz AV sO=>?_
  · obtain⟨ot,et,ct,nt,dt⟩:=ht
    obtain⟨oc,od,XY,uy⟩:=ot
    simp only at ct dt
    subst ct;subst dt
    have Zi:(s.heap.push (sN b)).get? t=some {cls:=.type "tuple",dict:=od,data:=.seq vs nt,slots:=uy}:=aO _ et
    have p1:=Zf
    have p2:=Zg
    have p3:(Value.type "tuple"==Value.type "dict")=false:=by decide
    have tT:(s.heap.push (sN b)).IsTuple t vs:=⟨_,Zi,rfl,nt,rfl⟩
    unfold Builtin.«set.__init__» noKeywords Builtin.Frozenset.updateFrom
    generalize Zj:pyIter=PI
    wp_walk
    subst Zj
    refine iter_tuple tT ?_
    refine ah (wpAny_runValue ?_)
    have lt:t<s.heap.objs.size:=aI et
    have h3:A.in1.in1.in1.handled=none:=by simp[hh]
    have sz:(s.heap.push (sN b)).objs.size=s.heap.objs.size+1:=iC ..
    have ne:t≠(s.heap.push (sN b)).objs.size:=by rw[sz];exact aY (jU lt)
    have nS:s.heap.objs.size∉[(s.heap.push (sN b)).objs.size,t]:=by
     rw[sz];simp only[aM,dw,eB,fy]
     exact⟨aY (fx _),eO lt⟩
    have hv:∀(i:Nat)(v:Value),vs[i]?=some v->∃u,v=.int ((fun i=>ns.getD i 0) i) u:=fun i v hv=>IntsAre.int_at hi i v (by rw[ue];exact hv)
    refine codeAny_set_update_loopS ((Walks.tuple h3 _ t ne vs).toS) s.heap.objs.size nS (fun i=>ns.getD i 0) hv hb (vs.size-0) 0 _ (by lia) (bM _) ⟨⟨_,b7 _ rfl,rfl,rfl⟩,tT.push _⟩ ?first ?last
    case first=>
     have g:((s.heap.push (sN b)).push {cls:=.type "tuple_iterator",data:=.fields #[.ref t,.int 0 0]}).get? s.heap.objs.size=some (sN b):=aO _ gS
     exact SetOf_congr ((setObjOf_fresh (knd:=intKind prog w) b).setOf g (by unfold scanBound;lia)) (fun _=>rfl) rfl
    case last=>
     intro s' mv hS
     obtain⟨h',g',d',Zk,Zl⟩:=s'
     have eg:g'=s.gens:=mv.gens
     have ed:d'=s.drawn:=mv.drawn
     have eo:Zl=s.os:=mv.os
     subst eg;subst ed;subst eo
     show wpAny _ _ _ _ _ _
     refine ax ?_
     show wpAny _ _ (ret Value.none) _ _ _
     refine ax ⟨rfl,h',Zk,rfl,hS,fun q o hq e=>?_⟩
     refine mv.heap q o ?_ (aO _ (aO _ e))
     simp only[aM,dw,eB,fy]
     exact⟨aY hq,by rw[sz];exact aY (jU hq)⟩
  ·cases Gz with
    |error e=>exact sO|ok AW=>cases AW with
     |ret r=>
     obtain⟨rfl,h',tk,rfl,Zm⟩:=sO
     repeat(any_goals(first|assumption|wp_step))
     exact h _ _ Zm|_=>exact sO.elim
 |_=>exact hr.elim
end
section
variable {X : Cx}
def NX:List V->Hp->VK->Prop:=fun xs H Q=>∃(p:Addr)(ns:List Int),xs=[.ref p]/\H p=some (.tup (ns.map V.int))/\ns.length<4000/\∀a,H a=none->Q (.ref a) (upd H a (.set (fun k=>(uniq ns).any (·==k)) (uniq ns).length))
def NY (hc:X.calm=true):lD X (.type "set") NX:=by
 rintro pins s σ H xs us Q I r ⟨p,ns,rfl,hq,hl,q⟩
 obtain⟨u,rfl,rx⟩:=kW r
 cases rx
 obtain⟨z,its,rv,e⟩:=I.bB p _ hq
 have len:=rv.length
 have Zn:its.toArray.size=ns.length:=by simp_all
 refine Zh (I.ok.hd hc) e (by simpa using CC rv) (by unfold scanBound;lia) fun h' tk hS=>?_
 obtain⟨hS,hk⟩:=hS
 rw[Zn,Na]at hS
 refine⟨.ref _,_,?_,rfl,q _ (I.bB.fresh (aC _))⟩
 exact I.laid (fun b o hb=>hk b o (aI hb) hb) (aC _) hS
end
end L2
namespace PM
section
variable {K : Kx} {XO : di} {E : zag->XK}
def Zo {tl:TA}{ml:En->R (List D)}(h:SA K XO E tl ml):SE K XO E (qs F6 (gb (qs NX tl) dB)) (aK uZ ml):=by
 intro Λ F0 H0 F H σ δ Q I a
 refine h _ _ _ F H _ _ _ I (a.bind.imp fun ds F1 H1 e1 a1 vs r=>?_)
 cases q:uZ _ with
 |none=>rw[q]at a1;exact a1.elim|some d=>
 rw[q]at a1
 obtain⟨ns,rfl,hl,rfl⟩:=Ze q
 obtain⟨v,rfl,r1⟩:=ay.one r
 obtain⟨p,ws,rfl,h1,h2⟩:=r1
 have ei:=qT h2
 subst ei
 exact⟨p,_,rfl,e1.fh _ _ h1,hl,fun b hb=>⟨b,_,_,rfl,cu,a1 _ _ (.eY e1.fh hb) _ rfl⟩⟩
end
end PM
namespace L2
section
variable{X:Cx}
end
end L2
namespace PM
section
variable{K:Kx}{XO:di}{E:zag->XK}{ta tb te:TE}{ma mb me:En->R D}{t u:TS}{m n:En->O}{Λ:List (Nat×Addr×HO)}{F0 H0 F H F' H' F1 H1:Hp}{σ:zag}{δ:En}{Dn:zae}{to:TE}{mo:En->R D}{ti tj:TE}{mi mj:En->R D}
theorem kA:∀{l:List D}{vs:List V}{fp:List Addr},aV K F H (l.map .d) vs fp↔ay K F l vs/\fp=[]
 |[],vs,fp=>by rfl|d::l,vs,fp=>by
  constructor;.rintro⟨v,r,f,g,rfl,rfl,⟨rfl,c⟩,e⟩;obtain⟨b,rfl⟩:=kA.mp e;exact⟨⟨v,r,rfl,c,b⟩,rfl⟩
  .rintro⟨⟨v,r,rfl,c,b⟩,rfl⟩;exact⟨v,r,_,_,rfl,rfl,⟨rfl,c⟩,kA.mpr ⟨b,rfl⟩⟩
theorem aV.append:∀{ts:List Tr}{vs:List V}{a:List Addr}{us:List Tr}{ws:List V}{f2:List Addr},aV K F H ts vs a->aV K F H us ws f2->aV K F H (ts++us) (vs++ws) (a++f2)|[],vs,a,us,ws,f2,h,b=>by obtain⟨rfl,rfl⟩:=h;exact b|t::ts,vs,a,us,ws,f2,h,b=>by obtain⟨v,r,e,f,rfl,rfl,d,c⟩:=h;exact⟨v,_,_,_,rfl,by simp,d,aV.append c b⟩
end
section
variable{X:Cx}{K:Kx}{XO:di}{E:zag->XK}{te:TE}{me:En->R D}{ca:Nat->Addr}{an:Nat->Str}
open Classical in
def AX(K:Kx)(b:Bool):R2:=fun x y H Q=>∃(F:Hp)(a:D)(l:List D),av F H/\Top K F H a x/\Top K F H (.lst l) y/\gM 7 a=true/\gM 8 (.lst l)=true/\Q (.bl (if b=true then !decide (a∈l)else decide (a∈l))) H
open Classical in
theorem Zp(a:gM 7 c=true)(pl:gM 8 (.lst l)=true):((l.map (toPy 7)).any fun y=>PyData.eqv y (toPy 7 c))=decide (c∈l):=by
 rw[wm,List.any_map,p8,hV];constructor;.rintro⟨y,d,h⟩;have:PyData.eqv _ _=true:=h;rw[Cw 7 y _ ((jj.mp pl) y d) a]at this;simp_all
 .intro h;refine⟨_,h,?_⟩;show PyData.eqv _ _=true;rw[Cw 7 _ _ a a];simp
def Zq(n:X.A.units+64<cLine):iG X (compareOp .NotIn) (AX ⟨X.K,ca,an⟩ true):=by rintro d s p H x y v u Q I f e ⟨F,o,l,c,i,g,a,b,q⟩;obtain⟨m,h⟩:=yo I c a i f;obtain⟨r,j⟩:=yo I c b g e;obtain⟨k,t⟩:=yn 7 _ a;obtain⟨m1,m2⟩:=yn 8 _ b;refine SeqAt.notIn_list_reads j h m1 k (by lia) ?_;rw[Zp a b];exact⟨.bl _,H,I,rfl,q⟩
open Classical in
def AY(x y:D):Option D:=match y with|.lst l=>cO (gM 7 x=true/\gM 8 (.lst l)=true) (some (.bl (!decide (x∈l)))) none|_=>none
def Zr:SR K (AX K true) AY:=by
 intro F H x y f c d Q s a b e q;unfold AY at e;split at e
 . unfold cO at e;split at e;.rename_i h;cases e;exact⟨F,_,_,s,a,b,h.1,h.2,q _ F H (.refl s) rfl⟩
   simp_all
 simp_all
end
end PM
namespace L2
section
variable{X:Cx}
section
variable{prog:Program}{w:World}{A:Around}{E:Value->Shared->Prop}{s:Shared}{a:Addr}{xs:Array (Int×Tok)}
end
end
end L2
namespace PM
section
variable{K:Kx}
end
end PM
namespace L2
section
variable{prog:Program}{w:World}{A:Around}{E:Value->Shared->Prop}{s:Shared}
end
end L2
namespace L2
open PM
section
variable{X:Cx}{ca:Nat->Addr}{an:Nat->Str}
end
end L2
namespace PM
section
variable{K:Kx}
end
section
variable{K:Kx}{XO:di}{E:zag->XK}{F0 H0 F H F1 H1 F' H':Hp}
def q0(np:Nat)(m:En->R (List (List Int)))(ds:List D):R (List (List Int)):=if ds.length=np then m (mI 0 ds)else .no
def AZ(K:Kx)(XO:di)(f:List D->R (List (List Int))):Sp:=fun g H Q E=>∃F d,av F H/\ay K F d g/\eM (fun _=>E) XO [] F H (fun e F' H'=>∀a c,ku H' a c e->(∀b∈a::c,F' b=none/\H b=none)->Q (.ref a) H') (f d)
def Zs{E:XK}(sp:AZ K XO (q0 np m) vs H Q E):vs.length=np:=by
 obtain⟨F,b,s,r,a⟩:=sp;unfold q0 at a;split at a;.rwa[r.length]
 .exact a.elim
def Zt{E:XK}(h:yt K XO (fun _=>E) t m)(e:N.length=np)(sp:AZ K XO (q0 np m) vs H Q E):(oY t) {nx:=fun _ H'=>Q .non H',rt:=Q} (L2.start N vs) H:=by
 obtain⟨F,d,s,r,a⟩:=sp;unfold q0 at a;split at a;.rename_i b;refine h _ F H F H _ _ _ (Fw (nv:=0) s r (by omega) b) ?_;cases q:m _ with|no=>rwa[q]at a|ok g=>rwa[q]at a|ex x=>rwa[q]at a
 .exact a.elim
def A0(f:List D->R (List (List Int)))(ml:En->R (List D))(δ:En):R (List (List Int)):=(ml δ).bind fun a=>(f a).iz
def Zu(h:SA K XO E g ml):yt K XO E (r_ (AZ K XO f) [] k g) (A0 f ml):=fun j F0 H0 F H s m Q I a=>h _ _ _ F H _ _ _ I (a.bind.imp fun o F1 H1 c i l r=>⟨_,_,c.fh,by rwa[dg],eM.imp (fun x w v n p q u t e=>p q _ t fun b d=>⟨(e b d).1,c.hh.free (e b d).2⟩) (eM.any i)⟩)
def Zv(t:ku H a bs c)(h:∀b∈a::bs,G b=H b):Rep K G (mS (iw c)) (.ref a):=Nh (F:=fun _=>none) (fun _ _ z=>by cases z) _ (iP.mpr t).ok h
def u5(f:Str)(me:En->R (List (List Int)))(δ:En)(ks:List Str)(l:List D):R (List Str×List D):=(me δ).iz.bind fun a=>cO (ks.length<1000) (.ok (putN ks f,fC ks l f (mS (iw a)))) .no
def Zw:u5 f me δ ks l≠.ex x:=by unfold u5 cO;cases me _ with|ok d=>simp[R.bF];grind|_=>exact fun h=>by cases h
def Zx(y:dP K.f (K.ca c)/\aB K.f (K.ca c) f)(h:yt K XO E J me):pK K c (ju K.f (dh 0) J f) (u5 f me):=by intro F1 H1 F H σ δ x dx M l Dn L I Q h0 G n C a;refine h _ _ _ F H _ _ _ I ?_;unfold u5 at a;cases q:me _ with|no=>rwa[q]at a|ex xx=>rw[q]at a;exact a.elim|ok ll=>
 rw[q]at a;intro r k e p i Y m;simp only[R.bF,R.aA,cO]at a;by_cases v:(M.map (·.1)).length<1000
 . rw[ao v]at a;have Z:=e.nw x _ G n;have s:∀b∈p::i,jc r k (p::i) b=k b:=fun b g=>by unfold jc;simp_all
   have d:∀b,b∉p::i->jc _ k _ b=r b:=fun b g=>by unfold jc;rw[ak g]
   have B:av r (jc _ _ _):=fun b o h=>by rwa[d b fun z=>by rw[(m b z).1]at h;cases h]
   have S:av (jc _ _ (p::i)) _:=fun b o h=>by
    unfold jc at h;split at h;.exact h
    .exact e.fh b o h
   have X:x∉p::i:=fun z=>by rw[(m x z).2]at n;cases n
   have A:Ext F H _ _:=⟨e.ff.trans B,e.hh,S,fun b o g1 t=>by rw[d b fun z=>by rw[(m b z).2]at t;cases t];exact e.nw b o g1 t⟩;have j:jc r k (p::i) x=none:=by rwa[d x X]
   have N:=fun b g=>I.ext.hh.free (m b g).2;have u:∀b∈p::i,cE F1 _ (jc _ _ _) b=k b:=fun b g=>by unfold cE;rw[ak (fun w=>w.2 (N b g)),s b g]
   have T:Rep K _ _ _:=Zv Y u;obtain⟨U,g4⟩:=xr T (C.mono (uY A.ff));exact⟨_,Q,x,_,_,_,rfl,(e.hh _ _ n),y.1,y.2,by simpa using v,a _ _ _ ((I.grow A).nP L h0 j) j cu U g4⟩
 .rw[ak v]at a;exact a.elim
def NZ(b:dP K.f (K.ca c)/\aB K.f (K.ca c) f)(h:yt K XO E a me):iQ K XO E c (ju K.f (dh 0) a f) (u5 f me):=(Zx b h).x fun _ _ _ _=>Zw
variable(K XO E)in
def GA(t:TE)(m:En->R Tr):Prop:=∀f F0 H0 F H c e Q,aw K f F0 H0 F H c e->eM E XO c F H (fun T F' H'=>∀a d,Tab K F' H' a d T->(∀b∈a::d,F' b=none/\H b=none)->Q (.ref a) H') (m e)->t c H Q
end
end PM
namespace L2
section
variable{X:Cx}
def Zy(f:s.TypeIs (.ref a) "list")(h:s.TypeIs (.ref b) "list")(g:wpAny M A (call (.builtin "list.__iadd__") [.ref a,.ref b]) Q E s):wpAny M A (inplaceOp .Add (.ref a) (.ref b)) Q E s:=by
 refine dV ?_;have e:typeLookup (.type "list") _=pure _:=F.slot_list_iadd.lookup;have d:fillsInplaceSlot (.type "list") "add" (Operator.Add==.Add)=pure false:=by show(typeLookup _ _>>=fun i=>pure _)=pure _;rw[e];(rfl)
 have c:seqSlot? (.type "list") (dunderI "add")=pure (some (.builtin "list.__iadd__")):=by unfold seqSlot?;rw[e];rfl
 refine ah (wpAny_typeOf f (ah (wpAny_of_eq d (ah (wpAny_binaryOp1_none f h noFill_list_add ?_)))));exact ah (wpAny_of_eq c (ah (iZ g)))
def N0:zK:=fun x y H Q=>∃l b c a,x=.ref l/\y=.ref b/\H l=some (.lst c)/\H b=some (.lst a)/\c.length+a.length<=sizeLine/\Q (.ref l) (upd H l (.lst (c++a)))
def Zz:zL X .Add N0:=by
 rintro j s A H x y v u Q I m g ⟨l,b,w,p,rfl,rfl,i,k,B,q⟩;cases m;cases g;obtain⟨z,d,n,r,t,e⟩:=I.pe i;obtain⟨C,a,D,g,o,h⟩:=I.pe k;have f:d.toArray.size+a.toArray.size<=sizeLine:=by rw[cV,cV];lia
 have c:¬(!d.toArray.isEmpty&&Builtin.List.listTooLong (d.toArray.size+a.toArray.size))=true:=by rw[Lu f];simp_all
 refine Zy ⟨_,e,rfl⟩ ⟨_,h,rfl⟩ (jZ F.slot_list_iadd ⟨_,e,rfl⟩ F.entry_list_iadd (F.args_list_iadd_2 _ _) (AutoSeq1.list___iadd___list_list_0 l _ n b _ _ c (by lia) (by lia)) ⟨e,h,(⟨.ref l,_,I.se i e (by simp) (r.append g) ?_,rfl,q⟩)⟩);simp_all
end
end L2
namespace PM
section
variable{K:Kx}{XO:di}{E:zag->XK}{F0 H0 F H F1 H1 F' H':Hp}
def A3(i:Nat)(me:En->R D)(δ:En):O:=match δ[i]? with
 |some (.o (.lst l))=>(me δ).il δ fun d=>match d with|.lst r=>if l.length+r.length<=sizeLine then .nx (δ.set i (.o (.lst (l++r))))else .no|_=>.no
 |_=>.no
def ZA(h:iy K XO E t me):SS K XO E (wB i t N0) (A3 i me):=by
 intro B F0 H0 F H k A w I a;unfold A3 at a;split at a
 . rename_i l q;obtain⟨p,f,G,v,g⟩:=I.own q;refine⟨_,f,h _ _ _ F H _ _ _ I ((cM.of I a).imp fun d F1 H1 e c b C x u=>?_)⟩
   cases d with|lst r=>
   dsimp at c;split at c
   . obtain⟨y,n,m⟩:=u;refine⟨p,b,_,_,rfl,rfl,e.hh _ _ v,n,by rwa[g.length,m.length],?_⟩;have s:k.set i (some (.ref p))=k:=by
      refine iD fun j=>?_;by_cases z:i=j;.subst z;rw[bf (bV.mp f).1,f]
      simp_all
     show w.nx _ _;rw[s];exact c _ _ _ ((I.grow e).chg q f ⟨_,cu,(g.mono e.ff).append m⟩)
   .exact c.elim|_=>exact c.elim
 .exact a.elim
end
section
variable{K:Kx}{XO:di}{E:zag->XK}{Λ:List (Nat×Addr×HO)}{F0 H0 F H:Hp}{σ:zag}{δ:En}
end
end PM
namespace L2
section
variable{prog:Program}{w:World}{A:Around}{E:Value->Shared->Prop}{s:Shared}{X:Cx}
end
end L2
namespace PM
section
variable{K:Kx}{XO:di}{E:zag->XK}
end
end PM
namespace L2
section
variable{X:Cx}{x:Str}{C:Addr}{p pos:Pos}
end
end L2
namespace PM
section
variable{K:Kx}{XO:di}{E:zag->XK}{F0 H0 F H F1 H1 F' H':Hp}
variable(K XO E)in
def N1(t:TE)(m:En->R Tr):Prop:=∀e F0 H0 F H a d Q,aw K e F0 H0 F H a d->eM E XO a F H (fun T F' H'=>∀v c,dF K F' H' T v c->c.Nodup->(∀b∈c,F' b=none/\H b=none)->Q v H') (m d)->t a H Q
def N2(ma a:En->R D)(δ:En):R Tr:=(ma δ).bind fun x=>(a δ).bind fun y=>match y with|.lst l=>.ok (.t [.d x,.l (l.map .d)])|_=>.no
def N3(r:SE K XO E q ma)(o:iy K XO E k t):N1 K XO E (wD (gb q (gb k dB))) (N2 ma t):=by
 intro A F0 H0 F H J B Q I a;refine r _ _ _ F H _ _ _ I (a.bind.imp fun x F1 H1 g j v w=>(o _ _ _ _ _ _ _ _ (I.grow g) (j.bind.imp fun y M L h i b C p s=>⟨by simp[sizeLine],fun c e=>?_⟩)))
 cases y with|lst l=>
 obtain⟨G,u,z⟩:=s;have d:Ext _ _ (upd _ c (.tup [v,.ref b])) _:=.new h.fh e;have f:=d9 u e;refine i _ _ d _ [b] ?_ (by simp) fun y n=>?_;.exact⟨c,_,rfl,cu,v,_,_,_,rfl,rfl,⟨rfl,Rep.mono (h.ff.trans d.ff) x w⟩,_,_,_,_,rfl,rfl,⟨b,_,_,rfl,rfl,by rwa[bz f],kA.mpr ⟨z.mono d.ff,rfl⟩⟩,rfl,rfl⟩
 .rw[bj.mp n];exact⟨by rwa[bz f],g.hh.free p⟩|_=>exact i.elim
def A4(b:D->En->Option En)(me:En->R Tr)(δ:En)(d:D):R Tr:=match b d δ with|none=>.no|some a=>(me a).iz
def sP(f:D->R Tr):List D->R (List Tr)|[]=>.ok []|d::l=>(f d).bind fun o=>(sP f l).bind fun r=>.ok (o::r)
def GB(mi:En->R (List D))(c:List Nat)(n:Nat)(b:D->En->Option En)(me:En->R Tr)(δ:En):R Tr:=(mi δ).bind fun a=>cO (a.length<=sizeLine) ((sP (A4 b me (cP δ c n)) a).iz.bind fun l=>.ok (.l l)) .no
def ZC(h:sP f (d::l)=.ok r):∃o a,f d=.ok o/\sP f l=.ok a/\r=o::a:=by unfold sP at h;cases q:f d with|no=>simp_all|ex x=>simp_all|ok o=>rw[q]at h;cases b:sP f l with|no=>simp_all|ex x=>simp_all|ok a=>rw[b]at h;cases h;simp
mutual
theorem ZD:∀(T:Tr){v:V}{fp:List Addr},dF K F H T v fp->∀b∈fp,∃o,H b=some o
 |.d x,v,fp,h,b,e=>by rw[h.1]at e;cases e|.l _,v,fp,h,b,e=>by
  obtain⟨a,i,m,_,rfl,k,f⟩:=h
  rcases aM.mp e with rfl|e
  .simp_all
  .exact A5 _ f b e|.t _,v,fp,h,b,e=>let⟨a,_,_,_,f⟩:=h;A5 _ f b e
theorem A5:∀(j:List Tr){i:List V}{fp:List Addr},aV K F H j i fp->∀b∈fp,∃o,H b=some o
 |[],i,fp,h,b,e=>by
  simp only[aV]at h
  rw[h.2]at e;cases e|t::j,i,fp,h,b,e=>by
  simp only[aV]at h
  obtain⟨v,r,n,p,_,rfl,k,f⟩:=h
  rcases bJ.mp e with e|e
  .exact ZD t k b e
  .exact A5 j f b e
end
def N4(hi:wX K XO E wi mi)(Aw:L.Nodup)(hg:SG K g b)(hw:BW b)(he:N1 K XO EN te me):GA K XO E (x9 wi L n g none te) (GB mi L n b me):=by
 intro Λ F0 H0 F H σ M Q I a;refine hi Λ F0 H0 F H σ M _ I (a.bind.imp fun j F1 H1 e1 U J hJ p Z=>?_);unfold cO at U;split at U;case isFalse=>exact U.elim
 have I1:=I.grow e1;obtain⟨f,Ic,pk,uM⟩:=Fu (n:=n) I1 Aw;cases s:(sP (A4 b me (cP M L n)) j).iz with|no=>rw[s]at U;exact U.elim|ex x=>cases q2:sP (A4 b me (cP M L n)) j<;>(rw[q2]at s;cases s)|ok l=>
 rw[s]at U;have qg:=bF s;have X:∀x∈f,∃d,(cP M L n)[x.1]?=some (.l d):=fun x hx=>(Ic.fj x hx).1;have Ax:∀x∈f,x.2.1≠p:=fun x hx e=>by grind
 have p0:H0 p=none:=I1.ext.hh.free Z;have f1:F1 p=none:=e1.fh.free Z;refine⟨fun i k ys T m=>∃N B l2 G,aw K f F0 H0 N m T (cP M L n)/\Ext F1 H1 N m/\m p=some (.lst ys)/\aV K N m B ys G/\(p::G).Nodup/\(∀c∈p::G,N c=none/\H1 c=none)/\sP (A4 b me (cP M L n)) (j.drop i)=.ok l2/\l=B++l2/\k=j.length-i/\i<=j.length/\ys.length<=i,⟨_,F1,[],l,[],?_,.eY e1.fh Z,cu,by simp[aV],by simp,fun c A=>?_,qg,rfl,rfl,bM _,aC _⟩,?_⟩;.exact Ic.grow (.eY e1.fh Z)
 .rw[bj.mp A];exact⟨f1,Z⟩
 rintro i k ys T m ⟨N,B,l2,G,I2,x2,h,tb,nd,t,qd,rfl,rfl,Mr,Ay⟩;refine⟨h,?_⟩;by_cases uN:i<j.length;.have e:j.drop i=j[i]::j.drop (i+1):=nr uN;rw[e]at qd;obtain⟨Y,l3,q1,q3,rfl⟩:=ZC qd;obtain⟨h1,h2⟩:=(hJ N m x2 i).1 j[i] (by simp);refine .inr ⟨h1,fun C vP H'=>∃F' u,aw K f F0 H0 F' H' vP (cP M L n)/\Ext F1 H1 F' H'/\H' p=some (.lst C)/\aV K F' H' (B++[Y]) C u/\(p::u).Nodup/\(∀c∈p::u,F' c=none/\H1 c=none)/\C.length<=i+1,fun C vP H' ⟨F',u,w1,w2,w3,w4,w5,w6,w7⟩=>⟨_,by omega,F',B++[Y],l3,u,w1,w2,w3,w4,w5,w6,q3,by simp,rfl,uN,w7⟩,fun x H' y=>?_⟩;obtain⟨F3,e3,rx⟩:=h2 x H' y;unfold A4 at q1;cases qb:b j[i] (cP M L n)with|none=>simp_all|some GC=>
   rw[qb]at q1;refine hg f F0 H0 F3 H' T _ _ x GC _ (I2.grow e3) rx qb fun vI I3=>?_;have qm:=bF q1;refine he f F0 H0 F3 H' vI GC _ I3 ?_;rw[qm];intro F5 H5 e5 v fp tv ZE fv;have z:=e3.trans e5;have z2:F5 p=none:=z.nw p _ (t p (by simp)).1 h;have N5:∀c∈fp,m c=none:=fun c A=>e3.hh.free (fv c A).2;have rZ:∀q∈p::G,q∉fp:=fun q S w=>by
     have:∃o,m q=some o:=by
       rcases aM.mp S with rfl|S;.exact⟨_,h⟩
       .exact A5 B tb q S
     obtain⟨o,ho⟩:=this;rw[N5 q w]at ho;cases ho
   have pf:p∉G:=(dQ.mp nd).1;refine⟨z.hh _ _ h,?_,F5,G++fp,((I3.grow e5).qu (hw _ _ _ qb) X).side pk Ax p0 z2,?_,cu,aV.append (aV.at' B (aV.mono z.ff z.hh B tb) fun c A=>bz fun w=>pf (w▸A)) ?_,?_,fun q S=>?_,by simpa using Ay⟩;.lia
   .have w:=x2.trans z;exact⟨w.ff,fun c o q=>by rw[bz (d9 q Z)];exact w.hh c o q,fun c o q=>by rw[bz (d9 q z2)];exact w.fh c o q,w.nw⟩
   .exact⟨v,[],fp,[],rfl,by rw[dg],dF.at' Y tv fun c A=>bz fun w=>rZ p (by simp) (w▸A),rfl,rfl⟩
   .rw[<-jQ,el];exact⟨nd,ZE,fun q S r hr ee=>rZ q S (ee▸hr)⟩
   . rw[<-jQ]at S;rcases bJ.mp S with w|w
     . have:∃o,m q=some o:=by
        rcases aM.mp w with rfl|w;.exact⟨_,h⟩
        .exact A5 B tb q w
       obtain⟨o,ho⟩:=this;exact⟨z.nw q o (t q w).1 ho,(t q w).2⟩
     .exact⟨(fv q w).1,x2.hh.free (N5 q w)⟩
 . have e:i=j.length:=by lia
   subst e;rw[p_]at qd;cases qd;refine .inl ⟨(hJ N m x2 _).2 (by simp),U N m x2 p G ⟨?_,nd⟩ fun c A=>⟨(t c A).1,e1.hh.free (t c A).2⟩⟩;rw[dg];exact⟨p,ys,G,rfl,rfl,h,tb⟩
mutual
def v5:Tr->Bool|.d x=>mV x|.l b=>u6 b|.t b=>u6 b
def u6:List Tr->Bool|[]=>true|t::b=>v5 t&&u6 b
end
mutual
theorem N6 {G:Hp}(x:Ext (iq F1 H1) H1 F H)(g:av (cE F1 H1 F) G):∀(T:Tr){v:V}{fp:List Addr},v5 T=true->dF K F H T v fp->(∀b∈fp,G b=H b)->Rep K G (mS T) v
 |.d d,v,fp,c,h,_=>Rep.mono g d (Cm x d c h.2)|.l _,v,fp,c,h,e=>by
  obtain⟨a,j,q,rfl,rfl,o,m⟩:=h
  exact⟨a,_,rfl,by simp_all,GD x g _ c m fun b n=>e b (by simp[n])⟩|.t _,v,fp,c,h,e=>by
  obtain⟨a,j,rfl,o,m⟩:=h
  exact⟨a,_,rfl,g _ _ (FD x o (fun _ z=>by cases z) (fun _ z=>by cases z) (fun _ _ z=>by cases z) (fun _ _ _ z=>by cases z)),GD x g _ c m e⟩
theorem GD {G:Hp}(x:Ext (iq F1 H1) H1 F H)(g:av (cE F1 H1 F) G):∀(k:List Tr){j:List V}{fp:List Addr},u6 k=true->aV K F H k j fp->(∀b∈fp,G b=H b)->ay K G (gd k) j
 |[],j,fp,c,h,_=>by
  simp only[aV]at h
  simp only[gd,ay];exact h.1|t::k,j,fp,c,h,e=>by
  simp only[aV]at h
  simp only[u6,kQ]at c
  obtain⟨v,r,p,s,rfl,rfl,o,m⟩:=h
  simp only[gd]
  exact .cons (N6 x g t c.1 o fun b n=>e b (gX _ n)) (GD x g k c.2 m fun b n=>e b (cN _ n))
end
def xA(f:Str)(me:En->R Tr)(δ:En)(ks:List Str)(l:List D):R (List Str×List D):=(me δ).iz.bind fun T=>cO (ks.length<1000/\v5 T=true) (.ok (putN ks f,fC ks l f (mS T))) .no
def ZF:xA f me δ ks l≠.ex x:=by unfold xA cO;cases me _ with|ok d=>simp[R.bF];grind|_=>exact fun h=>by cases h
def ZG(B:dP K.f (K.ca c)/\aB K.f (K.ca c) f)(h:GA K XO E Z me):pK K c (ju K.f (dh 0) Z f) (xA f me):=by intro F1 H1 F H σ δ x dx L l Dn M I N h0 C m X a;refine h _ _ _ F H _ _ _ I ?_;unfold xA at a;cases q:me _ with|no=>rwa[q]at a|ex xx=>rw[q]at a;exact a.elim|ok T=>
 rw[q]at a;intro s k e p i J r;simp only[R.bF,R.aA,cO]at a;by_cases n:(L.map (·.1)).length<1000/\v5 T=true
 . rw[ao n]at a;have G:=e.hh _ _ m;have U:=e.nw x _ C m;have v:∀b∈p::i,jc s k (p::i) b=k b:=fun b g=>by unfold jc;grind
   have d:∀b,b∉p::i->jc _ k _ b=s b:=fun b g=>by unfold jc;rw[ak g]
   have y:av s (jc _ _ _):=fun b o h=>by rwa[d b fun z=>by rw[(r b z).1]at h;cases h]
   have S:av (jc _ _ (p::i)) _:=fun b o h=>by
    unfold jc at h;split at h;.exact h
    .exact e.fh b o h
   have Y:x∉p::i:=fun z=>by rw[(r x z).2]at m;cases m
   have A:Ext F H _ _:=⟨e.ff.trans y,e.hh,S,fun b o g1 t=>by rw[d b fun z=>by rw[(r b z).2]at t;cases t];exact e.nw b o g1 t⟩;have j:jc s k (p::i) x=none:=by rwa[d x Y]
   have Q:=I.grow A;have u:∀b∈p::i,cE F1 _ (jc _ _ _) b=k b:=fun b g=>by unfold cE;rw[ak (fun w=>w.2 ((fun b g=>I.ext.hh.free (r b g).2) b g)),v b g]
   obtain⟨g3,g4⟩:=xr (N6 (I.grow e).ext (uY y) T n.2 J.ok u) (X.mono (uY A.ff));exact⟨_,N,x,_,_,_,rfl,G,B.1,B.2,by simpa using n.1,a _ _ _ (Q.nP M h0 j) j cu g3 g4⟩
 .rw[ak n]at a;exact a.elim
def N7(b:dP K.f (K.ca c)/\aB K.f (K.ca c) f)(h:GA K XO E a me):iQ K XO E c (ju K.f (dh 0) a f) (xA f me):=(ZG b h).x fun _ _ _ _=>ZF
def GF:D->Bool|.lst _=>true|_=>false
def xB(f g:Str)(m:List D->R D)(a:En)(ks:List Str)(l:List D):R (List Str×List D):=match k4 ks l g with|some d=>(m [d]).iz.bind fun r=>cO (ks.length<1000/\GF r=true) (.ok (putN ks f,fC ks l f r)) .no|none=>.no
def u9(F G:Hp):Hp:=fun b=>match F b with|some o=>some o|none=>G b
def ZH(Q:dP K.f (K.ca c)/\aB K.f (K.ca c) f)(X:dP K.f (K.ca c)/\aB K.f (K.ca c) g):pK K c (ju K.f (dh 0) (r_ (tV K XO m) [] E' (gb (uw K.f (dh 0) g) dB)) f) (xB f g m):=by intro F1 H1 F H σ δ x U J l Dn hv I N h0 hF C M a;unfold xB at a;cases S:k4 (J.map (·.1)) l g with|none=>simp_all|some d=>rw[S]at a;dsimp at a;obtain⟨v,lk,rv⟩:=Gm rfl M S;have sm:av (cE F1 H1 F) H:=qy.trans I.ext.fh;refine⟨_,N,x,_,U,J,v,rfl,C,X.1,X.2,lk,cE F1 H1 F,[d],sm,by exact .cons rv .nil,?_⟩;cases q:m [d]with|no=>rwa[q]at a|ex xx=>rw[q]at a;exact a.elim|ok r=>
 rw[q]at a;simp only[R.bF,R.aA,cO]at a;intro i Y e p n B o;by_cases z:(J.map (·.1)).length<1000/\GF r=true;.rw[ao z]at a;cases r with|lst r=>
 obtain⟨j,g1,g2⟩:=o;have A:=Gu e n B g1;have mN:∀b,F b=none->cE F1 H1 F b=none:=fun b h=>by
  unfold cE;split;.rfl
  omega
 have G:av F (u9 F (upd i p (.lst j))):=fun b u h=>by unfold u9;rw[h]
 have T:Ext F H (u9 F (upd i p (.lst j))) Y:=by
  refine⟨G,e.hh,fun b u h=>?_,fun b u h hh=>?_⟩
  . unfold u9 at h;split at h;.rename_i o' hz;cases h;exact e.hh _ _ (I.ext.fh _ _ hz)
    .exact A.fh b u h
  .unfold u9;rw[h];exact A.nw b u (mN b h) hh
 have s2:av (upd i p (.lst j)) (cE F1 H1 (u9 F (upd i p (.lst j)))):=fun b u h=>by cases w:cE F1 H1 F b with|some L=>have:=A.ff b L w;rw[h]at this;cases this;exact uY G b _ w|none=>
    have t:H b=none:=by cases y:H b with|none=>rfl|some L=>have:=A.nw b L w y;simp_all
    have Z:H1 b=none:=I.ext.hh.free t;have fb:F b=none:=I.ext.fh.free t;unfold cE;unfold u9;simp_all
 have s:u9 F (upd i p (.lst j)) x=none:=T.nw x _ hF C;have rp:Rep K (cE F1 H1 (u9 F (upd i p (.lst j)))) (.lst r) (.ref p):=by refine Rep.mono s2 _ ?_;exact⟨p,_,rfl,cu,g2.mono fun b u h=>by rw[bz (d9 h n)];exact h⟩
 obtain⟨g3,g4⟩:=xr rp (M.mono (uY G));exact⟨_,N,x,_,U,_,rfl,(e.hh _ _ C),Q.1,Q.2,by simpa using z.1,a _ _ _ ((I.grow T).nP hv h0 s) s cu g3 g4⟩|_=>cases z.2
 lia
def ZI:xB f g m δ ks l≠.ex x:=by unfold xB cO;cases k4 _ l g with|none=>simp|some d=>dsimp;cases m _ with|ok d=>simp[R.bF];grind|_=>exact fun h=>by cases h
def N8(b:dP K.f (K.ca c)/\aB K.f (K.ca c) f)(a:dP K.f (K.ca c)/\aB K.f (K.ca c) g):iQ K XO E c (ju K.f (dh 0) (r_ (tV K XO m) [] d (gb (uw K.f (dh 0) g) dB)) f) (xB f g m):=(ZH b a).x fun _ _ _ _=>ZI
noncomputable def N9:List D->Option D|[.du a l]=>some (.du a l)|_=>none
def CO(ml:En->R (List D))(δ:En):R D:=(ml δ).bind fun l=>R.of (N9 l)
def ZJ(h:SA K XO E g ml):iy K XO E (qs ND g) (CO ml):=by
 intro m F0 H0 F H o n Q I a;refine h _ _ _ F H _ _ _ I (a.bind.imp fun s F1 H1 b c q r=>?_);unfold N9 at c;split at c;.obtain⟨v,rfl,e⟩:=ay.one r;obtain⟨p,k,rfl,i,j,f⟩:=e;exact⟨p,_,rfl,.inl (b.fh _ _ i),fun l d=>c _ _ (.eY b.fh d) l (b.fh.free d) (b.hh.free d) ⟨_,cu,j,f⟩⟩
 .exact c.elim
end
section
variable{K:Kx}{XO:di}{E:zag->XK}{Λ:List (Nat×Addr×HO)}{F0 H0 F H:Hp}{σ:zag}{δ:En}{F1 H1 F' H':Hp}{α:Type}{An:α->V->Hp->Hp->Hp->Prop}
noncomputable def A6(p:D×List D):Tr:=.t [.d p.1,.l (p.2.map .d)]
end
end PM
namespace HT
section
open PySem.SeqAt
open PySem.AutoSeq1 (wpAny_loadPart')
open PySem.MeetsSeq PySem.MeetsSeq2 PySem.MeetsSeq3
variable{prog:Program}{w:World}{A:Around}{E:Value->Shared->Prop}{s:Shared}
end
end HT
namespace L2
section
variable{X:Cx}{P:Program}{w:World}{K:PySem.W.Frag}{mg:Str->Option Value}{base:Heap}{d:V}
def qW.B8{st:Stmt}(F:qW K x b st f fd d)(S:bY N ps (cb st))(h:∀vs H Q E,sp vs H Q E->vs.length=ps.length)(c:∀(e:Value)(A:Around)(a:List Env)(s:Shared)(H:Hp)(vs:List V)(Q:VK)(E:XK),cj k (A.deeper (envOfC b (cb st) s.heap.objs.size f e))->sp vs H Q E->∃t,mm (kn P w K mg base N b (cb st) f e A a s H E) (kI st) t/\t {nx:=fun _ H'=>Q .non H',rt:=Q} (start N vs) H):cA P w K mg base (qO P w) (k+1) f fd ps sp:=by obtain⟨u,p,T,kV,l,o,r,e,q,m,rfl,j,i,_⟩:=F.ex;exact BR j i S h fun A a s H vs Q E n g=>c _ A _ s H _ Q E n g
end
section
variable{X:Cx}{CX:jl}{k:Nat}{x:Str}{ps:List Str}{sp:Sp}{p pos:Pos}{a:Expr}{ta:TE}{d:V}
def ZK(G:sG X.prog X.w X.K X.mg X.base CX k x ps sp d)(j:cj k X.A)(l:Gl X x)(m:nW CX X E)(n:PE X a ta)(b:autoParam ((x==("__debug__":Str))=false) zam)(h1:autoParam (starEach [a] X.env=(false,eval a X.env)::starEach [] X.env) zak)(c:autoParam ((backTo pos (starEach [] X.env)).any (·.1)=false) zak):PE X (.Call (.Name x p) [a] [] pos) (r_ sp [] E (gb ta (gb (tC d) dB))):=by obtain⟨f,q,F,o,h,_,u,i,e⟩:=G.ex;have:=Lb (p:=p) F j l o h e (.cons i .nil) m (cq n dW h1) b h1 c;exact this
end
end L2
namespace PM
section
variable{K:Kx}{XO:di}{E:zag->XK}{F0 H0 F H F1 H1 F' H':Hp}
def A7(i:Nat)(me:En->R D)(δ:En):O:=match δ[i]? with|some (.o (.lst l))=>(me δ).il δ fun d=>(match d with|.lst r=>cO (l.length+r.length<=sizeLine) (.nx (δ.set i (.o (.lst (l++r))))) .no|_=>.no)|_=>.no
def ZL(h:iy K XO E s me):SS K XO E (xT (x4 K.f "list" Lv (dh i) (gb s dB))) (A7 i me):=by
 intro z F0 H0 F H w t y I a;unfold A7 at a;split at a
 . rename_i l q;obtain⟨p,j,A,k,f⟩:=I.own q;refine⟨_,j,.inl ⟨rfl,_,.inl (.inl k)⟩,(h _ _ _ F H _ _ _ I ((cM.of I a).imp fun d F1 H1 e c b v u m=>?_))⟩
   cases d with|lst r=>
   obtain⟨x,o,g⟩:=m;dsimp at c;unfold cO at c;split at c;.exact⟨p,b,_,_,rfl,rfl,e.hh _ _ k,o,by rwa[f.length,g.length],c _ _ _ ((I.grow e).chg q j ⟨_,cu,(f.mono e.ff).append g⟩)⟩
   .exact c.elim|_=>exact c.elim
 .exact a.elim
def encC(c:List Int):D:=.tup (c.map .int)
def pS(c:List Int):List (List Int):=(List.range (c.length+1)).map (c.take .)
end
end PM
namespace L2
open Builtin Builtin.Str
section
variable{X:Cx}{tg:Expr}{pos:Pos}
end
end L2
namespace L2
section
variable{X:Cx}{a b:Expr}{ta tb:TE}{pos p1 p2 p3:Pos}
end
end L2
namespace PM
section
variable{K:Kx}{XO:di}{E:zag->XK}{ta tb te:TE}{ma mb me:En->R D}
end
end PM
namespace L2
section
variable{X:Cx}{x:Str}{pos:Pos}
end
end L2
namespace PM
section
variable{K:Kx}
end
end PM
namespace L2
section
variable{prog:Program}{w:World}{A:Around}{E:Value->Shared->Prop}{s:Shared}{X:Cx}
end
end L2
namespace PM
section
variable{K:Kx}{XO:di}{E:zag->XK}
end
end PM
namespace L2
section
variable{X:Cx}
end
end L2
namespace PM
section
variable{K:Kx}{XO:di}{E:zag->XK}{Λ:List (Nat×Addr×HO)}{F0 H0 F H F1 H1 F' H':Hp}{σ:zag}{δ:En}
end
end PM
namespace L2
section
variable{X:Cx}
end
end L2
namespace PM
section
variable{K:Kx}{XO:di}{E:zag->XK}{te:TE}{me:En->R D}
end
end PM
namespace L2
section
variable{X:Cx}{CX:jl}{k n:Nat}{x:Str}{ps:List Str}{sp:Sp}{E:XK}{p pos:Pos}{e:Expr}{es:List Expr}{t:TA}{xe:Value->Shared->Prop}{pins:List (Addr×Obj)}{σ:zag}{H:Hp}{s:Shared}
def bq(G:uD X.prog X.w X.K X.mg X.base CX k x ps sp)(f:cj n X.A)(d:nW CX X E)(i:PA X (e::es) t)(c:autoParam (k<=n) zam)(h:autoParam (Gl X x) zak)(a:autoParam ((x==("__debug__":Str))=false) zam)(g:autoParam (starEach (e::es) X.env=(false,eval e X.env)::starEach es X.env) zak)(b:autoParam ((backTo pos (starEach es X.env)).any (·.1)=false) zak):PE X (.Call (.Name x p) (e::es) [] pos) (r_ sp [] E t):=VP G (f.mono c) h d i a g b
def yF{E:zag->XK}(G:uD X.prog X.w X.K X.mg X.base CX k x ps sp)(f:cj n X.A)(d:E4 CX X E)(i:PA X (e::es) t)(c:autoParam (k<=n) zam)(h:autoParam (Gl X x) zak)(a:autoParam ((x==("__debug__":Str))=false) zam)(g:autoParam (starEach (e::es) X.env=(false,eval e X.env)::starEach es X.env) zak)(b:autoParam ((backTo pos (starEach es X.env)).any (·.1)=false) zak):PE X (.Call (.Name x p) (e::es) [] pos) (E5 sp E t):=VY G (f.mono c) h d i a g b
noncomputable def kB{N P:List Str}(h1:autoParam (a.kind=.function) zak)(h2:autoParam (a.isCoroutine=false) zak)(h3:autoParam (a.isGenerator=false) zak)(d:autoParam N.Nodup zao)(b:autoParam (N.take P.length=P) zak)(c:autoParam (∀x∈P,a.names.lookup x=some .local\/a.names.lookup x=some .cell) zao)(f:autoParam (∀y∈a.names,y.2≠.free) zao):bY N P a:=⟨h1,h2,h3,d,b,c,f⟩
end
section
variable{M:Model}{A:Around}{E:Value->Shared->Prop}{s:Shared}{B:Heap}{env ZM:Env}{outer l:List Env}{L e:Addr}{cls:Value}{du:Option Addr}{fl:Value}{Q:Unit->Shared->Prop}
end
section
variable{X:Cx}{E:XK}{C:Addr}{e:Value}{s':Shared}{prog:Program}{w:World}{A:Around}{R:Result->Shared->Prop}{s:Shared}{scope:Scope}{N':List Str}{ix:List Nat}{n:Nat}{tg elt iter:Expr}{g:TG}{te:TE}{pos:Pos}{E0:XK}{P:Program}{K:PySem.W.Frag}{mg:Str->Option Value}{base:Heap}{N:List Str}{qual:Str}{f:Addr}{cd:Value}{outer:List Env}{s0:Shared}{H0:Hp}
end
end L2
namespace PM
section
variable{K:Kx}{XO:di}{E0:XK}{te:TE}{me:En->R D}{E:zag->XK}
end
end PM
namespace L2
section
variable{X:Cx}{x:Str}{e a b o:Expr}{te ta tb to:TE}{p pos pos' apos:Pos}{tg elt:Expr}
def pS(i:Nat)(c:X.N.Nodup)(f:PE X e te)(hi:autoParam (X.N[i]?=some x) zak)(d:autoParam (Loc X.env.scope x) zau)(h:autoParam (swapsWith e (some (.Name x pos')) pos.line X.env=pure false) zak)(g:autoParam (X.fn x=true\/X.env.scope.names.lookup x=some .local) zaq):PS X (.Assign [.Name x pos'] e pos) (kh te (tK i)):=ri c hi d f h g
def pN(i:Nat)(c:X.N.Nodup)(hi:autoParam (X.N[i]?=some x) zak)(d:autoParam (Loc X.env.scope x) zau)(f:autoParam (X.fn x=true\/X.env.scope.names.lookup x=some .local) zaq):PG X (.Name x pos) (tK i):=uq c hi d f
def pB{id:String}(i:lD X (.builtin id) r)(l:X.mg x=none)(g:bootBuiltins x=some (.builtin id))(k:PA X (e::es) t)(j:autoParam (Gl X x) zak)(f:autoParam (x≠"__name__") zam)(c:autoParam ((x==("__debug__":Str))=false) zam)(h:autoParam (starEach (e::es) X.env=(false,eval e X.env)::starEach es X.env) zak)(d:autoParam ((backTo pos (starEach es X.env)).any (·.1)=false) zak):PE X (.Call (.Name x p) (e::es) [] pos) (qs r t):=tN i j l g k f c h d
def aU(h:PE X e te)(c:autoParam (starEach [e] X.env=(false,eval e X.env)::starEach [] X.env) zak):PA X [e] (gb te dB):=cq h dW c
def bS(h:PE X a ta)(g:PE X b tb)(d:autoParam (starEach [a,b] X.env=(false,eval a X.env)::starEach [b] X.env) zak)(c:autoParam (starEach [b] X.env=(false,eval b X.env)::starEach [] X.env) zak):PA X [a,b] (gb ta (gb tb dB)):=cq h (cq g dW c) d
noncomputable def pI(h:PE X a ta)(g:PE X b tb)(c:autoParam (EC b) zav):PE X (.Subscript a b pos) (tL (qM X.K) ta tb):=EE U' h g c
noncomputable def pJ(h:PE X a ta)(g:PE X b tb)(c:autoParam (EC b) zav):PE X (.Subscript a b pos) (tL (wI X.K) ta tb):=EE Lo h g c
noncomputable def pq(c:iG X (compareOp op) r)(d:PE X a ta)(f:PE X b tb)(g:behindInMarks op b=false:=by exact r9 _):PT X (.Compare a [op] [b] pos) (Es (tL r ta tb)):=o6 c d f g
def pR(h:PE X e te):mm X [.Return (some e) pos] (oY te):=cR (um h)
def pF{tb:TS}(hi:PI X tg c f)(j:PG X tg g)(k:mm X d tb)(l:PassesOwn (model X.prog X.w) X.A X.env X.xe:=by exact jW)(i:autoParam (X.calm=true) zak)(h:autoParam (∀x,foldedSetIterable c X.env x=pure x) zas):PS X (.For tg c d [] pos) (ur f g tb):=rj l i hi j k h
def pM(G:pH X.prog X.w X.K X.mg X.base CX k m C ps sp)(j:cj n X.A)(i:nW CX X E)(h:PE X o ta)(l:PA X (e::es) t)(r:autoParam (k<=n) zam)(c:autoParam (starEach (e::es) X.env=(false,eval e X.env)::starEach es X.env) zak)(d:autoParam ((backTo pos (starEach es X.env)).any (·.1)=false) zak)(g:autoParam (eval (.Call (.Attribute o m apos) (e::es) [] pos) X.env=(eval o X.env>>=fun f=>standAt apos.atName>>=fun _=>holding [f] (getMethod f m pl)>>=fun q=>callWith pos q.1 q.2 (backTo pos (starEach (e::es) X.env)) (backToKw pos (keywordEach [] X.env)))) zak):PE X (.Call (.Attribute o m apos) (e::es) [] pos) (wF C m sp [] E ta t):=mL (pl:=pl) G (j.mono r) i h l c d g
def v7(h:PE X o to)(g:PE X e te)(k:autoParam (attributeBase o "append" X.env (eval o X.env)=eval o X.env) zak)(i:autoParam (((backTo pos (starEach [e] X.env)).all (fun x=>!x.1)&&(backToKw pos (keywordEach [] X.env)).all (fun x=>x.1.isSome)&&decide (([e]:List Expr).length+([]:List Keyword).length+(if([]:List Keyword).isEmpty then 0 else 1)<30))=true) zak)(f:autoParam ((apos.endLine==pos.line)=true) zak)(c:autoParam (starEach [e] X.env=(false,eval e X.env)::starEach [] X.env) zak)(d:autoParam ((backTo pos (starEach [] X.env)).any (·.1)=false) zak)(j:autoParam (swapsWith (.Call (.Attribute o "append" apos) [e] [] pos) none pos'.line X.env=pure false) zak):PS X (.Expr (.Call (.Attribute o "append" apos) [e] [] pos) pos') (xT (x4 X.K "list" BY to (gb te dB))):=vD (z_ iX oE oG BZ h (cq g dW c) k i f c d) j
section
variable{scope:Scope}{c:Expr}{g:TG}{tc:zai}
def jq(k:Scope)(A l:List Str)(u:List Nat)(n:Nat)(h:∀{cl:List (Str×Addr)}{C:Addr}{s:Shared}{H:Hp}{fp:List Addr}{pins:List (Addr×Obj)},l.Nodup->PG (X.comp scope cl C l s H fp pins) tg g/\PE (X.comp scope cl C l s H fp pins) elt te)(D:autoParam l.Nodup zao)(q:autoParam (X.env.scope=k) zak)(B:autoParam (X.N=A) zak)(t:autoParam (scope.kind=.function) zak)(i:autoParam ((scope.names.all fun y=>y.2 !=.free||scope.names.all fun z=>!(z.1==y.1)||z.2 !=.cell)=true) zao)(m:autoParam (∀y∈scope.names,y.2=.local->scope.names.lookup y.1=some .local) zao)(r:autoParam ((scope.names.all fun y=>y.2 !=.free||(k.names.lookup y.1==some .cell||k.names.lookup y.1==some .free))=true) zao)(w:autoParam (u.length+n=l.length) zak)(v:autoParam (((List.range u.length).all fun j=>match l[j]?,A[u.getD j 0]? with|some x,some y=>x==y&&scope.names.lookup x==some .free|_,_=>false)=true) zao):gE X scope l u n tg elt [] g none te:=EZ k A l u n q B t i m r w v (fun a b c d e f=>(@h a b c d e f D).1) (fun a b c d e f=>(@h a b c d e f D).2) (.inl ⟨rfl,rfl⟩)
def pO(k:Scope)(D i:List Str)(u:List Nat)(n:Nat)(h:∀{cl:List (Str×Addr)}{C:Addr}{s:Shared}{H:Hp}{fp:List Addr}{pins:List (Addr×Obj)},i.Nodup->PG (X.comp scope cl C i s H fp pins) tg g/\PE (X.comp scope cl C i s H fp pins) elt te/\PT (X.comp scope cl C i s H fp pins) c tc)(A:autoParam i.Nodup zao)(q:autoParam (X.env.scope=k) zak)(B:autoParam (X.N=D) zak)(t:autoParam (scope.kind=.function) zak)(l:autoParam ((scope.names.all fun y=>y.2 !=.free||scope.names.all fun z=>!(z.1==y.1)||z.2 !=.cell)=true) zao)(m:autoParam (∀y∈scope.names,y.2=.local->scope.names.lookup y.1=some .local) zao)(r:autoParam ((scope.names.all fun y=>y.2 !=.free||(k.names.lookup y.1==some .cell||k.names.lookup y.1==some .free))=true) zao)(w:autoParam (u.length+n=i.length) zak)(v:autoParam (((List.range u.length).all fun j=>match i[j]?,D[u.getD j 0]? with|some x,some y=>x==y&&scope.names.lookup x==some .free|_,_=>false)=true) zao):gE X scope i u n tg elt [c] g (some tc) te:=EZ k D i u n q B t l m r w v (fun a b c d e f=>(@h a b c d e f A).1) (fun a b c d e f=>(@h a b c d e f A).2.1) (.inr ⟨_,_,rfl,rfl,fun a b c d e f=>(@h a b c d e f A).2.2⟩)
end
def sQ(i:Nat)(u:X.N.Nodup)(hi:PI X tg c k)(B:gE X scope v m n tg elt f g s te)(h:autoParam (X.N[i]?=some x) zak)(l:autoParam (Loc X.env.scope x) zau)(r:autoParam (X.calm=true) zak)(j:autoParam (swapsWith (.ListComp elt [⟨tg,c,f,0⟩] scope pos) (some (.Name x pos')) d.line X.env=pure true) zak)(t:autoParam (X.fn x=true\/X.env.scope.names.lookup x=some .local) zaq)(q:autoParam (∀x,foldedSetIterable c X.env x=pure x) zas):PS X (.Assign [.Name x pos'] (.ListComp elt [⟨tg,c,f,0⟩] scope pos) d) (kh (x9 k m n g s te) (tK i)):=VO u h l r hi B j t q
end
section
variable{P:Program}{w:World}{K:PySem.W.Frag}{mg:Str->Option Value}{base:Heap}{x q:Str}{st:Stmt}{C:Addr}{CX:jl}{k:Nat}{ps:List Str}{sp:Sp}
abbrev De(K:W.Frag)(x:Str)(st:Stmt):Prop:=∃f a,nK K x st f a
abbrev Dm(K:W.Frag)(C:Addr)(x q:Str)(st:Stmt):Prop:=∃f a,MethAt K C x q st f a
abbrev Bd(x q:Str)(st:Stmt)(ps:List Str):Prop:=∀(kV a f:Value)(e:Option Addr)(b d:Value)(c:List Value),c.length=ps.length->bindArgs (W.fnOf x q (nJ st) (kI st) (cb st) .none kV a f e b d) ⟨c,[]⟩=pure (ps.zip c)
def xC:Nat->(List Value->Prop)->Prop|0,P=>P []|n+1,P=>∀a,xC n fun l=>P (a::l)
theorem A8{P:List Value->Prop}:∀us:List Value,xC us.length P->P us|[],h=>h|a::us,h=>A8 (P:=fun l=>P (a::l)) us (h a)
def xD(h:∀(kV a f:Value)(e:Option Addr)(b d:Value),xC ps.length fun c=>bindArgs (W.fnOf x q (nJ st) (kI st) (cb st) .none kV a f e b d) ⟨c,[]⟩=pure (ps.zip c):=by intro _ _ _ _ _ _;first|exact fun _=>rfl|exact fun _ _=>rfl|exact fun _ _ _=>rfl|exact fun _ _ _ _=>rfl|exact fun _ _ _ _ _=>rfl):Bd x q st ps:=fun a b c d e f us g=>A8 us (g▸h a b c d e f)
def A9{kV b d a e:Value}(l:K.lookup f=some ⟨h,od,.func (W.fnOf x q (nJ st) (kI st) (cb st) .none kV b d an a e),g⟩)(c:W.codeIn K a q=true)(k:W.keepIn K (.ref f)=true):∃fd,jJ K x q st f fd:=⟨_,B5 l c k⟩
def hD(T:∃h:Heap,K.In h/\h.Ns mainGlobals mg)(d:De K x st)(h:∀{f fd},jJ K x x st f fd->cA P w K mg base CX k f fd ps sp)(b:Bd x x st ps:=by exact xD):uD P w K mg base CX k x ps sp:=by obtain⟨f,fd,D⟩:=d;obtain⟨_,X,G⟩:=T;exact D.has X G (h D.fn) (D.fn.binds b)
def hM(c:dP K C)(d:Dm K C x q st)(h:∀{f fd},jJ K x q st f fd->cA P w K mg base CX k f fd ps sp)(b:Bd x q st ps:=by exact xD):pH P w K mg base CX k x C ps sp:=by obtain⟨f,fd,D⟩:=d;exact D.Gv c (h D.fn) (D.fn.binds b)
def hC(c:W.makesIn K C=true/\W.keepIn K (.ref C)=true)(e:mg y=some (.ref C))(d:Dm K C "__init__" q st)(h:∀{f fd},jJ K "__init__" q st f fd->cA P w K mg base CX k f fd ps sp)(b:Bd "__init__" q st ps:=by exact xD):sJ P w K mg base CX k y C ps sp:=by obtain⟨f,fd,D⟩:=d;exact D.Gw c.1 c.2 e (h D.fn) (D.fn.binds b)
end
end L2
namespace PM
section
variable{P:Program}{w:World}{K:PySem.W.Frag}{mg:Str->Option Value}{base:Heap}{x q:Str}{st:Stmt}{f:Addr}{fd:FuncData}{k np nv:Nat}{ps N:List Str}{KK:Kx}{XO:di}
abbrev B0(P:Program)(w:World)(K:W.Frag)(mg:Str->Option Value)(base:Heap)(N:List Str)(q:Str)(st:Stmt)(f:Addr)(k:Nat)(S:(zag->XK)->TS->Prop):Prop:=∀{a:Value}{A:Around}{b:List Env}{s:Shared}{H:Hp}{E:XK},cj k (A.deeper (envOfC q (cb st) s.heap.objs.size f a))->(A.deeper (envOfC q (cb st) s.heap.objs.size f a)).units+1<cLine->N.Nodup->∃t,mm (nF mw P w K mg base N q (cb st) f a A b s H E).zH (kI st) t/\S (fun _=>E) t
abbrev B1(P:Program)(w:World)(K:W.Frag)(mg:Str->Option Value)(base:Heap)(N:List Str)(q:Str)(st:Stmt)(f:Addr)(k:Nat)(S:(zag->XK)->TS->Prop):Prop:=∀{a:Value}{A:Around}{b:List Env}{s:Shared}{H:Hp}{E:XK},cj k (A.deeper (envOfC q (cb st) s.heap.objs.size f a))->(A.deeper (envOfC q (cb st) s.heap.objs.size f a)).units+1<cLine->N.Nodup->∃t,mm (kn P w K mg base N q (cb st) f a A b s H E) (kI st) t/\S (fun _=>E) t
def hO(N:List Str)(F:jJ K x q st f fd)(h:B0 P w K mg base N q st f k fun E t=>SS KK XO E t m)(S:bY N ps (cb st):=by exact kB)(l:autoParam (np=ps.length) zak)(j:autoParam (N.length=np+nv) zak):cA P w K mg base mw (k+1) f fd ps (so KK XO (bE np nv m)):=F.ok S (fun _ _ _ _ h=>(Fx h).trans l) fun a b c d e v _ g i z=>let⟨t,p,r⟩:=@h a b c d e g i (uB i) S.nd;⟨t,p,Cj r j z⟩
def sR(N:List Str)(F:jJ K x q st f fd)(h:B1 P w K mg base N q st f k fun E t=>SS KK XO E t m)(S:bY N ps (cb st):=by exact kB)(l:autoParam (np=ps.length) zak)(j:autoParam (N.length=np+nv) zak):cA P w K mg base (qO P w) (k+1) f fd ps (so KK XO (bE np nv m)):=F.B8 S (fun _ _ _ _ h=>(Fx h).trans l) fun a b c d e v _ g i z=>let⟨t,p,r⟩:=@h a b c d e g i (uB i) S.nd;⟨t,p,Cj r j z⟩
def iB(N:List Str)(F:jJ K x q st f fd)(h:B0 P w K mg base N q st f k fun E t=>SS KK XO E t m)(S:bY N ps (cb st):=by exact kB)(l:autoParam (np=ps.length) zak)(j:autoParam (N.length=np+nv) zak):cA P w K mg base mw (k+1) f fd ps (tV KK XO (cC np nv m)):=F.ok S (fun _ _ _ _ h=>(Mv h).trans l) fun a b c d e v _ g i z=>let⟨t,p,r⟩:=@h a b c d e g i (uB i) S.nd;⟨t,p,Mu r j z⟩
def ZN(N:List Str)(F:jJ K x q st f fd)(h:B0 P w K mg base N q st f k fun E t=>iQ KK (kN KK) E c t m)(S:bY N ps (cb st):=by exact kB)(l:autoParam (ps.length=np+1) zak)(j:autoParam (N.length=np+1) zak):cA P w K mg base mw (k+1) f fd ps (yB KK c (runN c np m)):=F.ok S (fun _ _ _ _ h=>NR l h) fun a b c d e v _ g i z=>let⟨t,p,r⟩:=@h a b c d e g i (uB i) S.nd;⟨t,p,NS r j z⟩
def sS(N:List Str)(F:jJ K x q st f fd)(h:B1 P w K mg base N q st f k fun E t=>iQ KK (kN KK) E c t m)(S:bY N ps (cb st):=by exact kB)(l:autoParam (ps.length=np+1) zak)(j:autoParam (N.length=np+1) zak):cA P w K mg base (qO P w) (k+1) f fd ps (yB KK c (runN c np m)):=F.B8 S (fun _ _ _ _ h=>NR l h) fun a b c d e v _ g i z=>let⟨t,p,r⟩:=@h a b c d e g i (uB i) S.nd;⟨t,p,NS r j z⟩
end
section
variable{K:Kx}{XO:di}{E:zag->XK}{ta tb tc:TE}{ma mb mc:En->R D}
def yG(h:SE K XO E ta ma):SA K XO E (gb ta dB) (ai ma af):=fi h fT
def GG(h:SE K XO E ta ma)(g:SE K XO E tb mb):SA K XO E (gb ta (gb tb dB)) (ai ma (ai mb af)):=fi h (fi g fT)
def fc(h:mB K XO E ta ma):sk K XO E (gb ta dB) (ai ma af):=wR h yd
def GH(h:mB K XO E ta ma)(g:mB K XO E tb mb):sk K XO E (gb ta (gb tb dB)) (ai ma (ai mb af)):=wR h (wR g yd)
def sI:mB K XO E (tC (.int i)) (mC (.int i)):=dc.r
end
end PM
namespace My
open PM
noncomputable def N_:Nat->Bool|4=>true|5=>true|_=>false
def ZO (c:Nat):Bool:=N_ (c%16)
def xE:Nat->Bool|7=>true|_=>false
def qz:Nat->Bool|8=>true|9=>true|_=>false
def GI:Nat->Bool|8=>true|_=>false
def rD:Nat->Bool|11=>true|12=>true|_=>false
def rE:Nat->Bool|7=>true|8=>true|12=>true|_=>false
def u_:Nat->Bool|8=>true|9=>true|_=>false
def xF:Nat->Bool|9=>true|10=>true|_=>false
def tY:Nat->Bool|7=>true|_=>false
def yH:Nat->Bool|10=>true|_=>false
def GJ:En->O:=(aq (bg (aR (m2 oLt (aj 1) (aK au (ai (aj 0) af))))
 (aG (m2 aJ (aj 0) (aj 1))) dC)
 (aG (mC (.int 0))))
def iR:List D->R D:=bE 2 0 GJ
def Oa:En->O:=(aG (m2 oMod (m2 gf (m2 bD (m2 bD (m2 oMod (aj 0) (m2 gJ (mC (.int 10)) (mC (.int 20)))) (m2 gf (aj 1) (aj 1))) (mC (.int 3))) (m2 bD (mC (.int 39373)) (m2 gf (mC (.int 2)) (aj 1)))) (mC (.int 2147483647))))
def tZ:List D->R D:=bE 2 0 Oa
def A_:En->O:=(aq (aD (m2 oMod (aj 1) (mC (.int 5))) (aQ 2))
 (aq (aD (m2 oDiv (aj 1) (mC (.int 5))) (aQ 3))
 (aq (bg (aR (m2 oEq (aj 2) (mC (.int 0))))
 (aG (m2 oMod (aj 3) (mC (.int 4)))) dC)
 (aq (bg (aR (m2 oEq (aj 2) (mC (.int 1))))
 (aG (m2 oMod (aj 0) (m2 bD (m2 gJ (mC (.int 10)) (mC (.int 18))) (mC (.int 1))))) dC)
 (aq (bg (aR (m2 oEq (aj 2) (mC (.int 2))))
 (aG (m2 ip (m2 gJ (mC (.int 10)) (mC (.int 18))) (m2 oMod (aj 3) (mC (.int 3))))) dC)
 (aG (m2 oMod (aj 3) (mC (.int 30)))))))))
def t8:List D->R D:=bE 2 2 A_
def Ob:En->R D:=eZ (bw (ai (ag 1) af)) [5] 1 (b3 1) (some (aR (m2 oEq (m2 oMod (m2 oDiv (aj 0) (m2 xh (mC (.int 1)) (aj 1))) (mC (.int 2))) (mC (.int 1))))) (ag 1)
def GK:En->O:=(aq (aD (m2 oDiv (bu tZ (ai (ag 4) (ai (ag 3) af))) (mC (.int 16))) (aQ 5))
 (aq (aD Ob (aQ 6))
 (lF 2 (fR (ai (bu t8 (ai (ag 4) (ai (m2 oDiv (aj 5) (mC (.int 1024))) af))) (ai (ag 6) af))))))
def Oc:En->O:=cY (px (ai (ag 0) af)) (c5 2 (cB (aQ 3) (cB (aQ 4) cw))) GK
def Od:En->O:=(qP 7 (ag 9) (mC (.bl true)))
def Oe:En->O:=cY (bN (ag 6)) (aQ 9) Od
def GL:En->O:=Oe
def GN:En->O:=Ce 2 (c5 2 (cB (aQ 8) (cB (aQ 6) cw))) GL
def CP:En->R D:=eZ (bw (ai (ag 1) af)) [7] 1 (b3 1) (some (aR (m2 rB (ag 1) (aj 0)))) (ag 1)
def ZP:En->O:=(aq (aD (bA af) (c8 2))
 (aq Oc (aq (aD (mC (.du [] [])) (c8 7))
 (aq GN (cU (m2 iu (aj 2) (bA (ai (fR (ai (mC (.int 7)) (ai CP af))) af))))))))
def GO:List D->R D:=cC 2 8 ZP
def ZQ:En->O:=(qP 2 (ag 4) (mC (.bl true)))
def ZR:En->O:=cY (bN (m2 dX (m2 aJ (aj 0) (aj 3)) (mC (.int 1)))) (aQ 4) ZQ
def Of:En->O:=ZR
def ZS:En->O:=cY (bN (ag 1)) (aQ 3) Of
def ZT:En->O:=(aq (aD (mC (.du [] [])) (c8 2))
 (aq ZS (wZ 2)))
def xG:List D->R D:=cC 2 3 ZT
def Og:En->O:=(qP 2 (ag 4) (mC (.bl true)))
def Oh:En->O:=cY (bN (m2 dX (aj 3) (mC (.int 1)))) (aQ 4) Og
def GP:En->O:=Oh
def Oi:En->O:=cY (bN (ag 1)) (aQ 3) GP
def GQ:En->O:=(bg (aR (m2 rB (ag 4) (aj 2)))
 (Gk 4 (ai (ag 4) af)) dC)
def Oj:En->O:=cY (bw (ai (ag 0) af)) (aQ 4) GQ
def ZU:En->O:=(aq (aD (mC (.du [] [])) (c8 2))
 (aq Oi Oj))
def GR:List D->R D:=bE 2 3 ZU
def Ol:En->O:=(qP 4 (ag 5) (aK vV (ai (aj 2) (ai (AH (aj 4) (ag 5) (ag 2)) af))))
def Om:En->O:=cY (bN (ag 3)) (aQ 5) Ol
def Oo:En->O:=(aq (aD (CO (ai (m2 aJ (aj 1) (m1 mH (mC (.int 1)))) af)) (c8 4))
 (aq Om (ko 4 (lF 1 (ag 4)))))
def Oq:En->O:=cY (qS (ai (ag 0) af)) (c5 2 (cB (aQ 2) (cB (aQ 3) cw))) Oo
def ZV:En->O:=(aq (aD (bA (ai (mC (.du [] [])) af)) (c8 1))
 (aq Oq (cU (Gf (aj 1)))))
def GS:List D->R D:=cC 1 5 ZV
def GU:En->R Tr:=GB (bN (aj 2)) [] 2 (c5 2 (cB (b3 0) (cB (b3 1) cw))) (N2 (ag 0) (aK qv (ai (aj 1) af)))
def GV:En->List Str->List D->R (List Str×List D):=(fD (sL (nY GR (ai (ag 1) (ai (ag 2) af))))
 (fD (lH "many" (ag 1))
 (fD (xA "sets" GU)
 (xB "cheapest" "sets" GS))))
def GW:List D->R D:=runN 7 2 GV
def Ot:En->R D:=eZ (bw (ai (aK au (ai (aj 3) af)) af)) [0] 1 (b3 1) (some (aR (m2 oEq (m2 oMod (bu iR (ai (ag 0) (ai (m2 bD (mC (.int 9)) (aj 1)) af))) (mC (.int 2))) (mC (.int 1))))) (ag 1)
def Ou:En->R D:=eZ (bw (ai (aK au (ai (aj 3) af)) af)) [5,3] 1 (b3 2) (some (aR (m2 yp (aj 0) (m2 dX (m2 aJ (aj 1) (aj 2)) (mC (.int 1)))))) (ag 2)
def Ov:En->O:=(bg (aR (m2 rB (ag 5) (Cq xG (ai (ag 3) (ai (aj 4) af)))))
 (aq (aD Ou (aQ 6))
 (lF 4 (m2 aJ (aj 6) (m2 oMod (bu iR (ai (ag 0) (ai (m2 bD (mC (.int 17)) (aj 5)) af))) (aK au (ai (aj 6) af)))))) dC)
def Ow:En->O:=cY (bw (ai (ag 2) af)) (aQ 5) Ov
def ZW:En->O:=(aq (aD (m2 oMod (aj 1) (mC (.int 8))) (aQ 2))
 (aq (aD (bu GO (ai (mW (aj 0) (kr (mC (.int 2))) (kr (mC (.int 8)))) (ai (ag 2) af))) (aQ 3))
 (aq (aD Ot (c8 4))
 (aq Ow (ko 4 (cU (bA (ai (bu GW (ai (ag 2) (ai (ag 3) af))) (ai (bA (ai (ag 2) (ai (ag 3) af))) (ai (ag 4) af))))))))))
def GX:List D->R D:=cC 2 5 ZW
def Ox:En->O:=(lF 1 (m2 bD (mC (.int 1)) (m2 oMod (bu t8 (ai (ag 3) (ai (m2 oDiv (bu tZ (ai (ag 3) (ai (ag 2) af))) (mC (.int 64))) af))) (m2 gJ (mC (.int 10)) (mC (.int 18))))))
def Oy:En->O:=cY (px (ai (ag 0) af)) (c5 2 (cB (aQ 2) (cB (aQ 3) cw))) Ox
def ZX:En->O:=(aq (aD (bA af) (c8 1))
 (aq Oy (wZ 1)))
def CQ:List D->R D:=cC 1 3 ZX
def Oz:En->O:=(cU (CN 0))
def va:List D->R D:=cC 1 0 Oz
def GY:En->R Bool:=(aR (m2 kq (aj 3) (mC (.int 0))))
def GZ:En->O:=(aq (aD (m2 oMod (aj 2) (aj 3)) (aQ 4))
 (aq (aD (ag 3) (aQ 2))
 (aD (ag 4) (aQ 3))))
def OA:En->O:=uK GY GZ
def OB:En->O:=(aq (aD (aK nM (ai (aj 0) af)) (aQ 2))
 (aq (aD (aK nM (ai (aj 1) af)) (aQ 3))
 (aq OA (aG (ag 2)))))
def G0:List D->R D:=bE 2 3 OB
def OC:En->O:=(aq (bg (aR (m2 oEq (aj 1) (mC (.int 0))))
 (xc 1 (ai (mC (.str "no fraction has nought for its bottom")) af)) dC)
 (aq (aD (bu G0 (ai (ag 0) (ai (ag 1) af))) (aQ 2))
 (aq (bg (aR (m2 oLt (aj 1) (mC (.int 0))))
 (aD (m1 mH (aj 2)) (aQ 2)) dC)
 (aG (fR (ai (m2 oDiv (aj 0) (aj 2)) (ai (m2 oDiv (aj 1) (aj 2)) af)))))))
def t9:List D->R D:=bE 2 1 OC
def OD:En->O:=(aG (m1 mH (m2 oDiv (m1 mH (m2 dX (aj 0) (mC (.int 0)))) (m2 dX (aj 0) (mC (.int 1))))))
def v8:List D->R D:=bE 1 0 OD
def G1:En->R D:=eZ (bN (m1 (bh u_ "order") (aj 0))) [1] 1 (b3 1) none (m2 aJ (aj 0) (aj 1))
def G2:En->List Str->List D->R (List Str×List D):=(fD (lH "many" (ag 2))
 (fD (qY "order" (bu va (ai (ag 1) af)))
 (fD (vZ 8 "falling" G1)
 (lH "least" (bu v8 (ai (nY t9 (ai (aK e_ (ai (aj 1) af)) (ai (ag 2) af))) af))))))
def G3:List D->R D:=runN 8 2 G2
def OE:En->R D:=eZ (bw (ai (aK au (ai (aj 2) af)) af)) [3,0] 1 (b3 2) none (m2 oMod (bu iR (ai (ag 1) (ai (m2 bD (mC (.int 9)) (aj 2)) af))) (aj 0))
def ZY:En->O:=(aq (aD (bu CQ (ai (mW (aj 0) (kr (mC (.int 2))) (kr (mC (.int 8)))) af)) (aQ 2))
 (aq (aD (m2 bD (mC (.int 1)) (m2 oMod (aj 1) (mC (.int 4)))) (aQ 3))
 (cU (bA (ai (bu G3 (ai (ag 2) (ai (ag 3) af))) (ai (bA (ai (ag 2) (ai (ag 3) af))) (ai OE af)))))))
def G4:List D->R D:=cC 2 2 ZY
def OG:En->O:=(bg (aR (m2 kq (aj 3) (aj 1)))
 (Gk 5 (ai (ag 2) af)) dC)
def OH:En->O:=cY (px (ai (ag 0) af)) (c5 2 (cB (aQ 2) (cB (aQ 3) cw))) OG
def OI:En->O:=OH
def A':List D->R D:=bE 2 2 OI
def G5:En->R D:=eZ (bN (m1 (bh u_ "order") (aj 0))) [1] 1 (b3 1) none (m2 aJ (aj 0) (aj 1))
def G6:En->List Str->List D->R (List Str×List D):=(fD (sL (nY A' (ai (ag 1) (ai (ag 2) af))))
 (fD (lH "room" (ag 2))
 (fD (qY "order" (bu va (ai (ag 1) af)))
 (vZ 9 "falling" G5))))
def G7:List D->R D:=runN 9 2 G6
def OJ:En->R D:=eZ (bw (ai (m2 gf (mC (.int 2)) (aK au (ai (aj 2) af))) af)) [] 1 (b3 0) none (mC (.int 0))
def CS:En->R Bool:=(aR (m2 kq (m2 bD (m2 aJ (aj 5) (aj 9)) (aj 8)) (aj 4)))
def OK:En->O:=(aD (m2 bD (aj 9) (mC (.int 1))) (aQ 9))
def OL:En->O:=uK CS OK
def OM:En->O:=(aq (aD (m2 oMod (bu iR (ai (ag 0) (ai (m2 bD (mC (.int 9)) (aj 7)) af))) (aK au (ai (aj 2) af))) (aQ 9))
 (aq OL (aq (vO 5 (ag 9) (m2 bD (m2 aJ (aj 5) (aj 9)) (aj 8)))
 (lF 6 (ag 9)))))
def ON:En->O:=cY (px (ai (ag 2) af)) (c5 2 (cB (aQ 7) (cB (aQ 8) cw))) OM
def ZZ:En->O:=(aq (aD (bu CQ (ai (mW (aj 0) (kr (mC (.int 2))) (kr (mC (.int 8)))) af)) (aQ 2))
 (aq (aD (uO (ai (aj 2) af) (mC (.int 1))) (aQ 3))
 (aq (aD (aK vV (ai (m2 gJ (mC (.int 10)) (mC (.int 18))) (ai (m2 bD (aj 3) (m2 aJ (bA (ai (mC (.int 0)) (ai (ag 3) (ai (m2 oDiv (aj 3) (mC (.int 2))) (ai (m2 oMod (aj 1) (mC (.int 4))) af))))) (m2 oMod (m2 oDiv (aj 1) (mC (.int 4))) (mC (.int 4))))) af))) (aQ 4))
 (aq (aD OJ (c8 5))
 (aq (aD (bA af) (c8 6))
 (aq ON (ko 6 (cU (bA (ai (bu G7 (ai (ag 2) (ai (ag 4) af))) (ai (bA (ai (ag 2) (ai (ag 4) af))) (ai (ag 6) af))))))))))))
def G8:List D->R D:=cC 2 8 ZZ
def G9:En->List Str->List D->R (List Str×List D):=(fD (lH "room" (ag 1))
 (qY "things" (aK qv (ai (aj 2) af))))
def G_:List D->R D:=runN 10 2 G9
def OO:En->O:=(lF 2 (fR (ai (bu t8 (ai (ag 4) (ai (m2 oDiv (bu tZ (ai (ag 4) (ai (m2 bD (aj 3) (mC (.int 9))) af))) (mC (.int 64))) af))) (ai (m2 bD (mC (.int 1)) (m2 oMod (m2 oDiv (bu tZ (ai (ag 4) (ai (ag 3) af))) (mC (.int 32))) (mC (.int 9)))) af))))
def OP:En->O:=cY (px (ai (mW (aj 0) (kr (mC (.int 2))) (kr (mC (.int 9)))) af)) (c5 2 (cB (aQ 3) (cB (aQ 4) cw))) OO
def OQ:En->O:=(bg (kX (aR (m2 oEq (m2 oMod (bu iR (ai (ag 0) (ai (m2 bD (mC (.int 9)) (aj 3)) af))) (mC (.int 2))) (mC (.int 1)))) (aR (m2 oLe (m2 dX (m2 aJ (aj 2) (aj 3)) (mC (.int 1))) (aj 6))))
 (aq (lF 7 (ag 3))
 (aD (m2 ip (aj 6) (m2 dX (m2 aJ (aj 2) (aj 3)) (mC (.int 1)))) (aQ 6))) dC)
def OR:En->O:=cY (bw (ai (aK au (ai (aj 2) af)) af)) (aQ 3) OQ
def Z0:En->O:=(aq (aD (bA af) (c8 2))
 (aq OP (aq (aD (m2 oMod (aj 1) (mC (.int 40))) (aQ 5))
 (aq (aD (ag 5) (aQ 6))
 (aq (aD (bA af) (c8 7))
 (aq OR (ko 2 (ko 7 (cU (bA (ai (bu G_ (ai (ag 5) (ai (aj 2) af))) (ai (bA (ai (ag 5) (ai (ag 2) af))) (ai (ag 7) af)))))))))))))
def G':List D->R D:=cC 2 6 Z0
def Z1:En->O:=(aG (m2 bD (m2 gf (bu tZ (ai (ag 0) (ai (ag 1) af))) (mC (.int 2147483629))) (m2 gf (mC (.int 11)) (aj 1))))
def CT:List D->R D:=bE 2 0 Z1
def Z2:En->O:=(aG (aK nM (ai (m2 ip (m2 oMod (m2 aJ (aj 0) (aj 1)) (aj 3)) (m2 oMod (m2 aJ (aj 0) (aj 2)) (aj 3))) af)))
def yI:List D->R D:=bE 4 0 Z2
def OS:En->R D:=eZ (bw (ai (m2 gf (mC (.int 2)) (aj 1)) af)) [4] 1 (b3 1) none (bu CT (ai (m2 aJ (aj 0) (m2 oMod (aj 1) (aK au (ai (aj 0) af)))) (ai (ag 1) af)))
def Ha:En->R D:=eZ (bw (ai (ag 0) af)) [] 1 (b3 0) none (mC (.int 0))
def CU:En->R (List (List Int)):=yu (bw (ai (ag 1) af)) [1] 1 (b3 1) Ha
def OT:En->O:=(aq (aD (bu yI (ai (ag 5) (ai (ag 7) (ai (ag 8) (ai (ag 3) af))))) (aQ 9))
 (aq (aD (m2 bD (aj 9) (bu yI (ai (ag 5) (ai (m2 bD (aj 1) (aj 7)) (ai (m2 bD (aj 1) (aj 8)) (ai (ag 3) af)))))) (aQ 9))
 (aq (bg (aR (m2 oEq (m2 oMod (aj 2) (mC (.int 2))) (mC (.int 1))))
 (aq (aD (m2 bD (m2 aJ (aj 5) (aj 8)) (m2 gf (mC (.int 31)) (m2 aJ (aj 5) (m2 bD (aj 1) (aj 7))))) (aQ 10))
 (aD (m2 bD (aj 3) (m2 oMod (aj 10) (m2 bD (aj 3) (mC (.int 1))))) (aQ 9))) dC)
 (aq (yw 6 (ag 7) (ag 8) (ag 9))
 (yw 6 (ag 8) (ag 7) (ag 9))))))
def OU:En->O:=cY (bw (ai (ag 7) af)) (aQ 8) OT
def OV:En->O:=OU
def OW:En->O:=cY (bw (ai (ag 1) af)) (aQ 7) OV
def Z3:En->O:=(aq (aD (m2 oMod (bu iR (ai (ag 0) (ai (mC (.int 0)) af))) (m2 gJ (mC (.int 10)) (mC (.int 12)))) (aQ 2))
 (aq (aD (m2 aJ (bA (ai (mC (.int 5)) (ai (mC (.int 50)) (ai (m2 gf (mC (.int 4)) (m2 gJ (mC (.int 10)) (mC (.int 17)))) af)))) (m2 oMod (m2 oDiv (aj 2) (mC (.int 2))) (mC (.int 3)))) (aQ 3))
 (aq (aD (m2 iu (mW (aj 0) (kr (mC (.int 1))) jx) (bA (ai (ag 2) af))) (aQ 4))
 (aq (aD OS (aQ 5))
 (aq (CG CU 6)
 (aq OW (CH 6)))))))
def CV:List D->R D:=cC 2 9 Z3
def Hb:En->O:=(bg (aR (m2 kL (m2 aJ (m2 aJ (aj 0) (aj 2)) (aj 2)) (mC (.int 0))))
 (xc 2 (ai (mC (.str "a place is away from itself")) af)) dC)
def OX:En->O:=cY (bw (ai (ag 1) af)) (aQ 2) Hb
def Hc:En->O:=(bg (aR (m2 kL (m2 aJ (m2 aJ (aj 0) (aj 2)) (aj 3)) (m2 aJ (m2 aJ (aj 0) (aj 3)) (aj 2))))
 (xc 2 (ai (mC (.str "two places have two unlike lengths")) af)) dC)
def Z4:En->O:=cY (bw (ai (ag 2) af)) (aQ 3) Hc
def OY:En->O:=Z4
def OZ:En->O:=cY (bw (ai (ag 1) af)) (aQ 2) OY
def Hd:En->O:=(bg (aR (m2 oLt (m2 bD (m2 aJ (m2 aJ (aj 0) (aj 2)) (aj 3)) (m2 aJ (m2 aJ (aj 0) (aj 3)) (aj 4))) (m2 aJ (m2 aJ (aj 0) (aj 2)) (aj 4))))
 (xc 2 (ai (mC (.str "a way by a third place is shorter than the straight one")) af)) dC)
def Z5:En->O:=cY (bw (ai (ag 1) af)) (aQ 4) Hd
def O0:En->O:=Z5
def Z6:En->O:=cY (bw (ai (ag 1) af)) (aQ 3) O0
def O1:En->O:=Z6
def O2:En->O:=cY (bw (ai (ag 1) af)) (aQ 2) O1
def Z7:En->O:=(aq (aD (aK au (ai (aj 0) af)) (aQ 1))
 (aq OX (aq OZ O2)))
def CW:List D->R D:=bE 1 4 Z7
def O3:En->R (List (List Int)):=(yu (bN (aj 0)) [] 1 (b3 0) (aK qv (ai (aj 0) af)))
def yJ:List D->R (List (List Int)):=q0 1 O3
def He:En->List Str->List D->R (List Str×List D):=(fD (sL (nY CW (ai (ag 1) af)))
 (u5 "lengths" (A0 yJ (ai (ag 1) af))))
def Hf:List D->R D:=runN 11 1 He
def CY:En->R Bool:=(aR (m2 kq (aK au (ai (aj 3) af)) (mC (.int 0))))
def Hg:En->O:=(AL 4 3 (m2 oMod (bu iR (ai (ag 0) (ai (m2 bD (mC (.int 9)) (aK au (ai (aj 3) af))) af))) (aK au (ai (aj 3) af))))
def Z8:En->O:=uK CY Hg
def Z9:En->O:=(aq (aD (bu CV (ai (ag 0) (ai (m2 bD (mC (.int 1)) (m2 oMod (aj 1) (mC (.int 6)))) af))) (aQ 2))
 (aq (aD (uT (ai (aK au (ai (aj 2) af)) af)) (c8 3))
 (aq (aD (bA af) (c8 4))
 (aq Z8 (ko 4 (cU (bA (ai (bu Hf (ai (ag 2) af)) (ai (bA (ai (ag 2) af)) (ai (ag 4) af))))))))))
def Hh:List D->R D:=cC 2 3 Z9
def Hi:En->List Str->List D->R (List Str×List D):=(fD (sL (nY CW (ai (ag 1) af)))
 (fD (u5 "lengths" (A0 yJ (ai (ag 1) af)))
 (lH "many" (ag 2))))
def Hj:List D->R D:=runN 12 2 Hi
def O4:En->R D:=eZ (bw (ai (ag 3) af)) [0,2] 1 (b3 2) none (m2 oMod (bu iR (ai (ag 0) (ai (m2 bD (mC (.int 9)) (aj 2)) af))) (aK au (ai (aj 1) af)))
def Z_:En->O:=(aq (aD (bu CV (ai (ag 0) (ai (m2 bD (mC (.int 1)) (m2 oMod (aj 1) (mC (.int 6)))) af))) (aQ 2))
 (aq (aD (m2 bD (mC (.int 1)) (m2 oMod (m2 oDiv (aj 1) (mC (.int 6))) (aK au (ai (aj 2) af)))) (aQ 3))
 (aq (aD O4 (aQ 4))
 (cU (bA (ai (bu Hj (ai (ag 2) (ai (ag 3) af))) (ai (bA (ai (ag 2) (ai (ag 3) af))) (ai (ag 4) af))))))))
def Hk:List D->R D:=cC 2 3 Z_
def Z':En->O:=(aq (bg (aR (m2 oEq (aj 1) (mC (.int 0))))
 (cU (bu GX (ai (ag 0) (ai (ag 2) af)))) dC)
 (aq (bg (aR (m2 oEq (aj 1) (mC (.int 1))))
 (cU (bu G4 (ai (ag 0) (ai (ag 2) af)))) dC)
 (aq (bg (aR (m2 oEq (aj 1) (mC (.int 2))))
 (cU (bu G8 (ai (ag 0) (ai (ag 2) af)))) dC)
 (aq (bg (aR (m2 oEq (aj 1) (mC (.int 3))))
 (cU (bu G' (ai (ag 0) (ai (ag 2) af)))) dC)
 (aq (bg (aR (m2 oEq (aj 1) (mC (.int 4))))
 (cU (bu Hh (ai (ag 0) (ai (ag 2) af)))) dC)
 (cU (bu Hk (ai (ag 0) (ai (ag 2) af)))))))))
def CZ:List D->R D:=cC 3 0 Z'
def zqT:En->R D:=eZ (bw (ai (ag 1) af)) [] 1 (b3 0) none (mC (.int 0))
def zpm:En->O:=(yi (fun i j=>i+j) 3 (ag 5) (ag 4))
def O5:En->O:=cY (xy (ai (ag 0) (ai (ag 2) af))) (c5 2 (cB (aQ 4) (cB (aQ 5) cw))) zpm
def zt9:En->O:=(aq (aD zqT (c8 3))
 (aq O5 (aG (aK (qU dn) (ai (aj 3) af)))))
def Hl:List D->R D:=bE 3 3 zt9
def ziW:En->O:=(aq (aD (mW (m1 (bh qz "falling") (aj 0)) jx (kr (aK au (ai (aj 1) af)))) (aQ 2))
 (aG (aK yq (ai (m1 (bh GI "least") (aj 0)) (ai (bu Hl (ai (ag 2) (ai (m1 (bh rE "many") (aj 0)) (ai (ag 1) af)))) af)))))
def Ba:List D->R D:=bE 2 1 ziW
def O6:En->R D:=eZ (bw (ai (aK uZ (ai (ag 1) af)) af)) [0] 1 (b3 1) none (m1 (bh xF "room") (aj 0))
def O7:En->O:=(yi (fun i j=>i-j) 2 (ag 4) (ag 3))
def O8:En->O:=cY (xy (ai (m1 (bh qz "falling") (aj 0)) (ai (ag 1) af))) (c5 2 (cB (aQ 3) (cB (aQ 4) cw))) O7
def zjD:En->O:=(aq (aD O6 (c8 2))
 (aq O8 (wZ 2)))
def C0:List D->R D:=cC 2 3 zjD
def zkc:En->O:=(aq (aD (dH 9 "free" C0 (ag 0) (ai (ag 1) af)) (aQ 2))
 (aq (aD (m2 ip (aK e_ (ai (mW (m1 (bh qz "falling") (aj 0)) (kr (aK au (ai (aj 1) af))) jx) af)) (aK e_ (ai (aj 2) af))) (aQ 3))
 (aG (m2 bD (aK au (ai (aj 2) af)) (aK yq (ai (mC (.int 0)) (ai (bu v8 (ai (nY t9 (ai (ag 3) (ai (m1 (bh xF "room") (aj 0)) af))) af)) af)))))))
def Bb:List D->R D:=bE 2 2 zkc
def Hm:En->R D:=eZ (Gr (ai (ag 0) af)) [1] 2 (c5 2 (cB (b3 1) (cB (b3 2) cw))) (some (aR (m2 oEq (aj 2) (aj 0)))) (ag 1)
def zrn:En->O:=(cU Hm)
def v9:List D->R D:=cC 2 0 zrn
def zee:En->O:=(qP 2 (ag 4) (mC (.bl true)))
def zeL:En->O:=cY (bN (m2 dX (m2 aJ (m1 (bh tY "sets") (aj 0)) (aj 3)) (mC (.int 1)))) (aQ 4) zee
def O9:En->O:=zeL
def O_:En->O:=cY (bN (bu v9 (ai (ag 1) (ai (mC (.int 1)) af)))) (aQ 3) O9
def O':En->R D:=eZ (bw (ai (m1 (bh rE "many") (aj 0)) af)) [2] 1 (b3 1) (some (aR (m2 rB (ag 1) (aj 0)))) (ag 1)
def zfc:En->O:=(aq (aD (mC (.du [] [])) (c8 2))
 (aq O_ (cU O')))
def C1:List D->R D:=cC 2 3 zfc
def Pa:En->R D:=eZ (bN (aj 1)) [0] 1 (b3 1) none (m2 dX (m2 aJ (aj 0) (aj 1)) (mC (.int 0)))
def zuz:En->O:=(aG (aK e_ (ai Pa af)))
def Hn:List D->R D:=bE 2 0 zuz
def Ho:En->R D:=eZ (bN (dH 7 "not_covered" C1 (ag 0) (ai (ag 1) af))) [2] 1 (b3 1) none (AH (aj 0) (ag 1) (mC (.int 0)))
def zi0:En->O:=(aq (aD (m2 aJ (m1 (bh xE "cheapest") (aj 0)) (aK au (ai (aj 1) af))) (aQ 2))
 (aq (aD (uO (ai Ho af) (mC (.int 0))) (aQ 3))
 (aG (m2 bD (bu Hn (ai (m1 (bh tY "sets") (aj 0)) (ai (bu v9 (ai (ag 1) (ai (mC (.int 1)) af))) af))) (aj 3)))))
def Bc:List D->R D:=bE 2 2 zi0
def zoO:En->O:=(aG (Fd (aR (m2 kq (aK au (ai (aj 0) af)) (mC (.int 0)))) (m2 bD (m2 dX (aj 0) (m1 mH (mC (.int 1)))) (mC (.int 1))) (mC (.int 0))))
def xH:List D->R D:=bE 1 0 zoO
def Pb:En->R D:=eZ (bN (aj 2)) [0,1] 1 (b3 2) none (m2 aJ (m2 aJ (aj 0) (aj 1)) (aj 2))
def zu4:En->O:=(aG (aK (qU iM) (ai Pb af)))
def Hq:List D->R D:=bE 3 0 zu4
def Pc:En->R D:=eZ (bw (ai (aK au (ai (aj 0) af)) af)) [0,1] 1 (b3 2) none (bu Hq (ai (ag 0) (ai (ag 2) (ai (ag 1) af))))
def zAr:En->O:=(aG (aK (qU dn) (ai Pc af)))
def C2:List D->R D:=bE 2 0 zAr
def zi3:En->O:=(aq (aD (aK qv (ai (aj 1) af)) (c8 2))
 (aq (bg (aR (m2 oLt (aK au (ai (aj 1) af)) (m1 (bh rE "many") (aj 0))))
 (A3 2 (xl (ai (bu xH (ai (ag 1) af)) (ai (aK au (ai (m1 (bh rD "lengths") (aj 0)) af)) af)))) dC)
 (aG (Cp C2 (ai (m1 (bh rD "lengths") (aj 0)) (ai (aj 2) af))))))
def Be:List D->R D:=bE 2 1 zi3
def zhg:En->O:=(cU (m2 iu (bA (ai (mC (.int 0)) af)) (aK qv (ai (aj 1) af))))
def Bf:List D->R D:=cC 2 0 zhg
def Pd:En->R D:=eZ (bw (ai (m2 ip (aK au (ai (aj 1) af)) (mC (.int 1))) af)) [0,1] 1 (b3 2) none (m2 aJ (m2 aJ (aj 0) (m2 aJ (aj 1) (aj 2))) (m2 aJ (aj 1) (m2 bD (aj 2) (mC (.int 1)))))
def zp9:En->O:=(aG (aK e_ (ai Pd af)))
def C3:List D->R D:=bE 2 0 zp9
def zm1:En->O:=(aq (bg (aR (m2 oEq (aK au (ai (aj 1) af)) (mC (.int 1))))
 (aG (mC (.int 0))) dC)
 (aG (m2 bD (bu C3 (ai (ag 0) (ai (ag 1) af))) (m2 aJ (m2 aJ (aj 0) (m2 aJ (aj 1) (m1 mH (mC (.int 1))))) (m2 aJ (aj 1) (mC (.int 0)))))))
def Hr:List D->R D:=bE 2 0 zm1
def zi6:En->O:=(aG (bu Hr (ai (m1 (bh rD "lengths") (aj 0)) (ai (dH 11 "answer" Bf (ag 0) (ai (ag 1) af)) af))))
def Bg:List D->R D:=bE 2 0 zi6
def Pe:En->R D:=eZ (bN (bu v9 (ai (ag 1) (ai (mC (.int 1)) af)))) [0] 1 (b3 1) none (m2 dX (m2 aJ (m1 (bh yH "things") (aj 0)) (aj 1)) (mC (.int 0)))
def zj8:En->O:=(aG (aK e_ (ai Pe af)))
def Bh:List D->R D:=bE 2 0 zj8
def zhD:En->O:=(aG (aK au (ai (m1 (bh qz "falling") (aj 0)) af)))
def C4:List D->R D:=bE 1 0 zhD
def ziY:En->O:=(aG (aK au (ai (m1 (bh qz "falling") (aj 0)) af)))
def C5:List D->R D:=bE 1 0 ziY
def zhX:En->O:=(aG (aK au (ai (m1 (bh tY "sets") (aj 0)) af)))
def C6:List D->R D:=bE 1 0 zhX
def zh3:En->O:=(aG (m1 (bh rE "many") (aj 0)))
def C7:List D->R D:=bE 1 0 zh3
def zhp:En->O:=(aG (m2 ip (aK au (ai (m1 (bh rD "lengths") (aj 0)) af)) (mC (.int 1))))
def C8:List D->R D:=bE 1 0 zhp
def ziA:En->O:=(aG (aK au (ai (m1 (bh yH "things") (aj 0)) af)))
def C9:List D->R D:=bE 1 0 ziA
def zio:En->O:=(aq (aD (aK uZ (ai (ag 1) af)) (aQ 2))
 (cU (uT (ai (aK vV (ai (m2 bD (aj 2) (mC (.int 1))) (ai (m1 (bh rE "many") (aj 0)) af))) af))))
def C_:List D->R D:=cC 2 1 zio
def Pf:En->R D:=eZ (px (ai (aj 2) af)) [3] 2 (c5 2 (cB (b3 1) (cB (b3 2) cw))) (some (aR (m2 oLe (aj 0) (aj 2)))) (ag 1)
def zjJ:En->O:=(aq (aD (dH 9 "free" C0 (ag 0) (ai (ag 1) af)) (aQ 2))
 (aq (aD (m2 aJ (m1 (bh qz "falling") (aj 0)) (aK au (ai (aj 1) af))) (aQ 3))
 (cU (m2 iu Pf (bA (ai (aK au (ai (aj 2) af)) af))))))
def C':List D->R D:=cC 2 2 zjJ
def yK:En->O:=(bg (kX (aR (m2 yp (aj 4) (aj 3))) (aR (m2 rB (ag 4) (aj 2))))
 (cU (bA (ai (mC (.int 1)) af))) dC)
def Pg:En->O:=cY (bN (dH 7 "not_covered" C1 (ag 0) (ai (ag 1) af))) (aQ 4) yK
def ziq:En->O:=(aq (aD (m2 aJ (m1 (bh xE "cheapest") (aj 0)) (m2 bD (aK au (ai (aj 1) af)) (mC (.int 1)))) (aQ 2))
 (aq (aD (m2 dX (m2 aJ (m1 (bh tY "sets") (aj 0)) (aK au (ai (aj 1) af))) (mC (.int 1))) (aQ 3))
 (aq Pg (cU (bA (ai (mC (.int 0)) (ai (mC (.int 1)) af)))))))
def Dc:List D->R D:=cC 2 3 ziq
def zix:En->O:=(aq (aD (m2 ip (m1 (bh rE "many") (aj 0)) (aK au (ai (aj 1) af))) (aQ 2))
 (cU (xl (ai (bu xH (ai (ag 1) af)) (ai (m2 bD (m2 ip (aK au (ai (m1 (bh rD "lengths") (aj 0)) af)) (aj 2)) (mC (.int 1))) af)))))
def Dd:List D->R D:=cC 2 1 zix
def Ph:En->R D:=eZ (bw (ai (mC (.int 1)) (ai (aK au (ai (m1 (bh rD "lengths") (aj 0)) af)) af))) [1] 1 (b3 1) (some (aR (m2 uS (aj 1) (aj 0)))) (ag 1)
def zit:En->O:=(cU Ph)
def Df:List D->R D:=cC 2 0 zit
def Pj:En->R D:=eZ (bN (bu v9 (ai (ag 1) (ai (mC (.int 0)) af)))) [0] 1 (b3 1) none (m2 dX (m2 aJ (m1 (bh yH "things") (aj 0)) (aj 1)) (mC (.int 1)))
def zjj:En->O:=(aq (aD (aK e_ (ai Pj af)) (aQ 2))
 (aq (bg (aR (m2 oLe (m2 bD (aj 2) (m2 dX (m2 aJ (m1 (bh yH "things") (aj 0)) (aK au (ai (aj 1) af))) (mC (.int 1)))) (m1 (bh xF "room") (aj 0))))
 (cU (bA (ai (mC (.int 0)) (ai (mC (.int 1)) af)))) dC)
 (cU (bA (ai (mC (.int 1)) af)))))
def Dg:List D->R D:=cC 2 1 zjj
def Pk:En->R D:=eZ (qS (ai (cG 0 8 (dH 8 "ways" C_ (ag 0) (ai (ag 1) af)) (cG 0 9 (dH 9 "ways" C' (ag 0) (ai (ag 1) af)) (cG 0 7 (dH 7 "ways" Dc (ag 0) (ai (ag 1) af)) (cG 0 12 (dH 12 "ways" Dd (ag 0) (ai (ag 1) af)) (cG 0 11 (dH 11 "ways" Df (ag 0) (ai (ag 1) af)) (dH 10 "ways" Dg (ag 0) (ai (ag 1) af))))))) af)) [1] 1 (b3 1) none (m2 AU (aj 0) (fR (ai (ag 1) af)))
def zwV:En->O:=(cU Pk)
def yL:List D->R D:=cC 2 0 zwV
def Dh:En->R Bool:=(aR (m2 kq (aK au (ai (aj 6) af)) (mC (.int 0))))
def Hs:En->O:=(aq (uL (fun i j=>i+j) 5 (mC (.int 1)))
 (aq (bg (aR (m2 kq (aj 5) (aj 1)))
 (xc 3 (ai (mC (.str "more cases than may be looked at")) af)) dC)
 (aq (AK 6 (aQ 7))
 (aq (aD (cG 0 8 (dH 8 "low" Ba (ag 0) (ai (ag 7) af)) (cG 0 9 (dH 9 "low" Bb (ag 0) (ai (ag 7) af)) (cG 0 7 (dH 7 "low" Bc (ag 0) (ai (ag 7) af)) (cG 0 12 (dH 12 "low" Be (ag 0) (ai (ag 7) af)) (cG 0 11 (dH 11 "low" Bg (ag 0) (ai (ag 7) af)) (dH 10 "low" Bh (ag 0) (ai (ag 7) af))))))) (aQ 8))
 (bg (kX (aR (m2 Fs (aj 3) (mC .non))) (aR (m2 sq (aj 8) (aj 3))))
 (lF 4 (ag 7))
 (bg (aR (m2 oEq (aK au (ai (aj 7) af)) (cG 0 8 (dH 8 "steps" C4 (ag 0) af) (cG 0 9 (dH 9 "steps" C5 (ag 0) af) (cG 0 7 (dH 7 "steps" C6 (ag 0) af) (cG 0 12 (dH 12 "steps" C7 (ag 0) af) (cG 0 11 (dH 11 "steps" C8 (ag 0) af) (dH 10 "steps" C9 (ag 0) af))))))))
 (aq (lF 4 (ag 7))
 (aq (aD (ag 7) (aQ 2))
 (aD (ag 8) (aQ 3))))
 (A7 6 (bu yL (ai (ag 0) (ai (ag 7) af))))))))))
def Pl:En->O:=uK Dh Hs
def Ht:En->O:=(aq (aD (mC .non) (aQ 2))
 (aq (aD (mC .non) (aQ 3))
 (aq (aD (bA af) (c8 4))
 (aq (aD (mC (.int 0)) (aQ 5))
 (aq (aD (bA (ai (fR af) af)) (c8 6))
 (aq Pl (ko 4 (aG (fR (ai (ag 2) (ai (ag 3) (ai (ag 4) af))))))))))))
def yM:List D->R D:=bE 2 7 Ht
def Pm:En->R D:=eZ (bN (aj 0)) [] 1 (b3 0) none (mC (.int 0))
def zmU:En->O:=(vO 2 (ag 3) (ag 4))
def Pn:En->O:=cY (xy (ai (ag 0) (ai (ag 1) af))) (c5 2 (cB (aQ 3) (cB (aQ 4) cw))) zmU
def zo7:En->O:=(aq (aD Pm (c8 2))
 (aq Pn (wZ 2)))
def Di:List D->R D:=cC 2 3 zo7
def zhc:En->O:=(cU (bu Di (ai (m1 (bh u_ "order") (aj 0)) (ai (ag 1) af))))
def Dj:List D->R D:=cC 2 0 zhc
def zir:En->O:=(cU (bu Di (ai (m1 (bh u_ "order") (aj 0)) (ai (ag 1) af))))
def Dk:List D->R D:=cC 2 0 zir
def zg7:En->O:=(cU (bu v9 (ai (ag 1) (ai (mC (.int 1)) af))))
def Hu:List D->R D:=cC 2 0 zg7
def zg5:En->O:=(cU (aK qv (ai (aj 1) af)))
def Hv:List D->R D:=cC 2 0 zg5
def zhZ:En->O:=(cU (bu v9 (ai (ag 1) (ai (mC (.int 0)) af))))
def Hw:List D->R D:=cC 2 0 zhZ
def zkI:En->R D:=eZ (bN (aj 1)) [3] 1 (b3 1) (some (gI (aR (m2 oLt (aj 1) (mC (.int 0)))) (aR (m2 sq (aj 1) (aK au (ai (aj 0) af)))))) (ag 1)
def Po:En->R D:=eZ (bN (aj 1)) [3] 1 (b3 1) none (m2 dX (m2 aJ (aj 0) (aj 1)) (mC (.int 0)))
def zln:En->O:=(aq (aD (ag 0) (mE 2 (cB (aQ 2) (cB (aQ 3) cw))))
 (aq (bg (gI (aR (m2 kL (aK sA (ai (aj 1) af)) (aK au (ai (aj 1) af)))) (aR (m2 kq (aK au (ai zkI af)) (mC (.int 0)))))
 (aG (mC .non)) dC)
 (aq (bg (aR (m2 kL (aK yl (ai (bu xG (ai (ag 3) (ai (ag 1) af))) af)) (aj 2)))
 (aG (mC .non)) dC)
 (aG (aK e_ (ai Po af))))))
def Dl:List D->R D:=bE 2 2 zln
def zo6:En->R D:=eZ (bw (ai (ag 2) af)) [] 1 (b3 0) none (mC (.int 0))
def zna:En->O:=(vO 3 (ag 5) (m2 bD (m2 aJ (aj 3) (aj 5)) (aj 4)))
def Pp:En->O:=cY (xj (ai (ag 0) (ai (ag 1) af))) (c5 2 (cB (aQ 4) (cB (aQ 5) cw))) zna
def zqz:En->O:=(aq (aD zo6 (c8 3))
 (aq Pp (wZ 3)))
def Bi:List D->R D:=cC 3 3 zqz
def zi1:En->R D:=eZ (bN (aj 1)) [3] 1 (b3 1) (some (gI (aR (m2 oLt (aj 1) (mC (.int 0)))) (aR (m2 sq (aj 1) (aj 0))))) (ag 1)
def zj4:En->O:=(aq (aD (ag 0) (mE 2 (cB (aQ 2) (cB (aQ 3) cw))))
 (aq (bg (gI (aR (m2 kL (aK au (ai (aj 1) af)) (aK au (ai (aj 2) af)))) (aR (m2 kq (aK au (ai zi1 af)) (mC (.int 0)))))
 (aG (mC .non)) dC)
 (aG (aK (qU dn) (ai (bu Bi (ai (ag 2) (ai (ag 1) (ai (ag 3) af)))) af)))))
def Hx:List D->R D:=bE 2 2 zj4
def zli:En->R D:=eZ (bN (aj 1)) [2] 1 (b3 1) (some (gI (aR (m2 oLt (aj 1) (mC (.int 0)))) (aR (m2 sq (aj 1) (m2 gf (mC (.int 2)) (aK au (ai (aj 0) af))))))) (ag 1)
def zmC:En->O:=(aq (aD (ag 0) (mE 2 (cB (aQ 2) (cB (aQ 3) cw))))
 (aq (bg (gI (aR (m2 kL (aK au (ai (aj 1) af)) (aK au (ai (aj 2) af)))) (aR (m2 kq (aK au (ai zli af)) (mC (.int 0)))))
 (aG (mC .non)) dC)
 (aq (bg (aR (m2 kq (uO (ai (bu Bi (ai (ag 2) (ai (ag 1) (ai (m2 gf (mC (.int 2)) (aK au (ai (aj 2) af))) af)))) af) (mC (.int 0))) (aj 3)))
 (aG (mC .non)) dC)
 (aG (aK sA (ai (aj 1) af))))))
def Dp:List D->R D:=bE 2 2 zmC
def zlo:En->R D:=eZ (bN (aj 1)) [3] 1 (b3 1) (some (gI (aR (m2 oLt (aj 1) (mC (.int 0)))) (aR (m2 sq (aj 1) (aK au (ai (aj 0) af)))))) (ag 1)
def Hy:En->R D:=eZ (bN (aj 1)) [3] 1 (b3 1) none (m2 dX (m2 aJ (aj 0) (aj 1)) (mC (.int 1)))
def Pq:En->R D:=eZ (bw (ai (aK au (ai (aj 3) af)) af)) [3,1] 1 (b3 2) (some (aR (m2 uS (aj 2) (aj 1)))) (m2 dX (m2 aJ (aj 0) (aj 2)) (mC (.int 0)))
def zmc:En->O:=(aq (aD (ag 0) (mE 2 (cB (aQ 2) (cB (aQ 3) cw))))
 (aq (bg (gI (aR (m2 kL (aK sA (ai (aj 1) af)) (aK au (ai (aj 1) af)))) (aR (m2 kq (aK au (ai zlo af)) (mC (.int 0)))))
 (aG (mC .non)) dC)
 (aq (bg (aR (m2 kq (aK e_ (ai Hy af)) (aj 2)))
 (aG (mC .non)) dC)
 (aG (aK e_ (ai Pq af))))))
def Dq:List D->R D:=bE 2 2 zmc
def Pr:En->R D:=eZ (bw (ai (aK au (ai (aj 1) af)) af)) [2,1] 1 (b3 2) none (m2 aJ (m2 aJ (aj 0) (m2 aJ (aj 1) (m2 ip (aj 2) (mC (.int 1))))) (m2 aJ (aj 1) (aj 2)))
def zlp:En->O:=(aq (aD (m2 aJ (aj 0) (mC (.int 0))) (aQ 2))
 (aq (bg (aR (m2 qQ (aK xk (ai (aj 1) af)) (uT (ai (aK au (ai (aj 2) af)) af))))
 (aG (mC .non)) dC)
 (aG (aK e_ (ai Pr af)))))
def Dr:List D->R D:=bE 2 1 zlp
def zjo:En->R D:=eZ (bN (aj 1)) [2] 1 (b3 1) (some (gI (aR (m2 oLt (aj 1) (mC (.int 0)))) (aR (m2 sq (aj 1) (aK au (ai (aj 0) af)))))) (ag 1)
def Pt:En->R D:=eZ (bN (aj 0)) [1] 1 (b3 1) none (m2 aJ (aj 0) (aj 1))
def Pu:En->R D:=eZ (bN (aj 2)) [1] 1 (b3 1) none (aK (qU iM) (ai Pt af))
def zkM:En->O:=(aq (aD (ag 0) (mE 2 (cB (aQ 2) (cB (aQ 3) cw))))
 (aq (bg (gI (aR (m2 kL (aK au (ai (aj 1) af)) (aj 3))) (aR (m2 kq (aK au (ai zjo af)) (mC (.int 0)))))
 (aG (mC .non)) dC)
 (aG (aK (qU dn) (ai Pu af)))))
def Dt:List D->R D:=bE 2 2 zkM
def Hz:En->R D:=eZ (bN (aj 2)) [] 1 (b3 0) (some (gI (ik (aR (m1 (fB "int") (aj 0)))) (aR (m1 (fB "bool") (aj 0))))) (ag 0)
def zuq:En->O:=(aq (bg (ik (aR (m1 (fB "list") (aj 2))))
 (aG (mC .non)) dC)
 (aq (bg (aR (m2 kq (aK au (ai Hz af)) (mC (.int 0))))
 (aG (mC .non)) dC)
 (aq (bg (aR (m2 oEq (aj 0) (mC (.int 0))))
 (aG (bu Dl (ai (ag 1) (ai (ag 2) af)))) dC)
 (aq (bg (aR (m2 oEq (aj 0) (mC (.int 1))))
 (aG (bu Hx (ai (ag 1) (ai (ag 2) af)))) dC)
 (aq (bg (aR (m2 oEq (aj 0) (mC (.int 2))))
 (aG (bu Dp (ai (ag 1) (ai (ag 2) af)))) dC)
 (aq (bg (aR (m2 oEq (aj 0) (mC (.int 3))))
 (aG (bu Dq (ai (ag 1) (ai (ag 2) af)))) dC)
 (aq (bg (aR (m2 oEq (aj 0) (mC (.int 4))))
 (aG (bu Dr (ai (ag 1) (ai (ag 2) af)))) dC)
 (aG (bu Dt (ai (ag 1) (ai (ag 2) af)))))))))))
def pP:List D->R D:=bE 3 0 zuq
def HB:En->O:=(bg (aR (m2 oLt (cG 2 8 (dH 8 "low" Ba (ag 2) (ai (ag 9) af)) (cG 2 9 (dH 9 "low" Bb (ag 2) (ai (ag 9) af)) (cG 2 7 (dH 7 "low" Bc (ag 2) (ai (ag 9) af)) (cG 2 12 (dH 12 "low" Be (ag 2) (ai (ag 9) af)) (cG 2 11 (dH 11 "low" Bg (ag 2) (ai (ag 9) af)) (dH 10 "low" Bh (ag 2) (ai (ag 9) af))))))) (aj 7)))
 (aG (mC (.bl false))) dC)
def zBV:En->O:=cY (bN (ag 8)) (aQ 9) HB
def Pw:En->O:=(aq (aD (m2 oMod (bu iR (ai (ag 0) (ai (mC (.int 0)) af))) (mC (.int 6))) (aQ 1))
 (aq (aD (bu CZ (ai (ag 0) (ai (ag 1) (ai (m2 oMod (m2 oDiv (bu iR (ai (ag 0) (ai (mC (.int 0)) af))) (mC (.int 6))) (m2 gJ (mC (.int 10)) (mC (.int 12)))) af)))) (mE 3 (cB (aQ 2) (cB (aQ 3) (cB (aQ 4) cw)))))
 (aq (aD (bu yM (ai (ag 2) (ai (mC (.int 2000)) af))) (aQ 5))
 (aq (bg (gI (ik (aR (m1 (fB "tuple") (aj 5)))) (gI (aR (m2 kL (aK au (ai (aj 5) af)) (mC (.int 3)))) (ik (aR (m1 (fB "tuple") (m2 dX (aj 5) (mC (.int 0))))))))
 (aG (mC (.bl false))) dC)
 (aq (aD (ag 5) (c5 3 (cB (aQ 6) (cB (aQ 7) (cB (aQ 8) cw)))))
 (aq (bg (gI (ik (aR (m1 (fB "int") (aj 7)))) (gI (aR (m1 (fB "bool") (aj 7))) (gI (ik (aR (m1 (fB "list") (aj 8)))) (aR (m2 AY (aj 6) (aj 8))))))
 (aG (mC (.bl false))) dC)
 (aq (bg (gI (aR (m2 kL (bu pP (ai (ag 1) (ai (ag 3) (ai (cG 2 8 (dH 8 "answer" Dj (ag 2) (ai (ag 6) af)) (cG 2 9 (dH 9 "answer" Dk (ag 2) (ai (ag 6) af)) (cG 2 7 (dH 7 "answer" Hu (ag 2) (ai (ag 6) af)) (cG 2 12 (dH 12 "answer" Hv (ag 2) (ai (ag 6) af)) (cG 2 11 (dH 11 "answer" Bf (ag 2) (ai (ag 6) af)) (dH 10 "answer" Hw (ag 2) (ai (ag 6) af))))))) af)))) (aj 7))) (aR (m2 oLt (bu pP (ai (ag 1) (ai (ag 3) (ai (ag 4) af)))) (aj 7))))
 (aG (mC (.bl false))) dC)
 (aq zBV (aG (m2 sr (bu yM (ai (ag 2) (ai (mC (.int 5000)) af))) (aj 5)))))))))))
def Px:List D->R D:=bE 1 9 Pw
noncomputable def aH(n:Nat):List Int:=(List.range n).map fun(k:Nat)=>(k:Int)
def aE:t∈aH n↔0<=t/\t<(n:Int):=by
 unfold aH;rw[bT];constructor;.rintro⟨a,h,rfl⟩;simp_all
 .rintro⟨b,c⟩;exact⟨t.toNat,gZ.mpr (by lia),by lia⟩
def cZ:(aH n).length=n:=by simp[aH]
def sT(n:Nat):(aH n).Nodup:=p7 _ (fun a b h e=>h (Int.ofNat.inj e)) hU
def gg{n:Nat}(h:n<=1000):l' [.int (n:Int)]=some ((aH n).map .int):=by rw[AD (by lia) (by lia),ME,aH,cg];rfl
noncomputable def gA(L:List Int)(i:Int):Int:=L.getD i.toNat 0
def sU(h:i.toNat<L.length):L[i.toNat]?=some (gA L i):=by simp[gA,h]
theorem Py{α:Type}{f g:α->Int}:∀{l:List α},(∀x∈l,f x<=g x)->(l.map f).sum<=(l.map g).sum|[],_=>by simp|a::l,h=>by have d:=h a (by simp);have e:=Py (l:=l) fun x c=>h x (by simp[c]);simp[bR];lia
theorem HC{α:Type}{f g:α->Int}:∀{l:List α},(l.map fun x=>f x+g x).sum=(l.map f).sum+(l.map g).sum|[]=>rfl|a::l=>by have c:=HC (f:=f) (g:=g) (l:=l);simp[bR];lia
theorem Pz{α:Type}:∀{l:List α},(l.map fun _=>(0:Int)).sum=0|[]=>rfl|a::l=>by simp[Pz]
theorem PB{α:Type}:∀{l:List α},(l.map fun _=>c).sum=(l.length:Int)*c|[]=>by simp|a::l=>by rw[bR,lM,PB,fK,rO,Int.add_mul];lia
def PD{α:Type}(enc:α->D)(p:α->Bool)(g:α->D)(l:List α)(h:∀x∈l,f (enc x)=.ok (if p x=true then some (g x)else none)):nZ f (l.map enc)=.ok ((l.filter p).map g):=by induction l with|nil=>rfl|cons a l i=>
 rw[bR,nZ,(h a (by simp)),(i fun x k=>h x (by simp[k]))];by_cases e:p a=true;.simp[e]
 simp_all
def xI(ns:List Int):e_ [iL ns]=some (.int ns.sum):=by simp[e_,iL,pE]
def v_(h0:0<=k)(h1:k.toNat<L.length):aJ (iL L) (.int k)=some (.int (gA L k)):=AB h0 (by simp[sU h1])
def PF(h:δ[i]?=some (.o (iL L)))(c:mi δ=.ok (.int k))(h0:0<=k)(h1:k.toNat<L.length)(d:me δ=.ok (.int y)):yi f i mi me δ=.nx (δ.set i (.o (iL (L.set k.toNat (f (gA L k) y))))):=by
 have b:ie (L.map D.int).length k=some k.toNat:=by unfold ie;rw[ao h0,ao (by simp_all)]
 have a:(L.map D.int)[k.toNat]?=some (.int (gA L k)):=by simp[sU h1]
 unfold yi;rw[h];simp only[iL,c,R.ja,b,a,d];simp
def PH{α:Type}{f:α->Int}{l:List α}(h:∀x∈l,0<=f x):0<=(l.map f).sum:=by have:=Py h;rw[Pz]at this;omega
def p20:gJ (.int 10) (.int 20)=some (.int 100000000000000000000):=AA ⟨by decide,by decide,by decide⟩
def Du:gJ (.int 10) (.int 18)=some (.int 1000000000000000000):=AA ⟨by decide,by decide,by decide⟩
def HD(ns:List Int)(k:Nat):iR [.c_ ns,.int k]=.ok (.int (ns.getD k 0)):=by
 by_cases h:k<ns.length
 . have e:aJ (.c_ ns) (.int k)=some (.int (ns.getD k 0)):=by show(iI _ _).map _=_;rw[mu (d:=ns.getD k 0) (by simp_all)];rfl
   simp[iR,bE,mI,GJ,aq,bg,aR,aG,aj,aK,ai,af,au,h,e]
 .simp[iR,bE,mI,GJ,aq,bg,aR,aG,aj,mC,aK,ai,af,au,h,dC]
def yN(ns:List Int)(h:0<=k):iR [.c_ ns,.int k]=.ok (.int (ns.getD k.toNat 0)):=by have:=HD ns k.toNat;rwa[show(k.toNat)=k by lia]at this
def zzZ(h:m δ=.rt d):aq m n δ=.rt d:=by unfold aq;rw[h]
def zBR(h0:0<=t)(h1:t<=1000):xh (.int 1) (.int t)=some (.int (1*2^t.toNat)):=gQ ⟨h0,by lia,by decide⟩
def wa(h:δ[i]?=some (.o (.lst l)))(b:me δ=.ok d)(a:l.length<=100000):lF i me δ=.nx (δ.set i (.o (.lst (l++[d])))):=by unfold lF;rw[h];simp[b];rw[gQ (lO a (by decide))]
def rF(a:Int)(h:0<b):0<=a%b:=jO _ (by omega)
def vb(a:Int)(h:0<b):a%b<b:=jN _ h
abbrev Ps:=Int×List Int
def dZ(s:Ps):D:=.tup [.int s.1,iL s.2]
def bO(l:List Ps):D:=.lst (l.map dZ)
structure Good(n:Nat)(s:Ps):Prop where
 lo:0<=s.1hi:s.1<=1000000000000000000nd:s.2.Nodup
 mem:∀t∈s.2,0<=t/\t<(n:Int)
def zq5(n:Nat):((List.range n).map fun(k:Nat)=>(k:Int)).Nodup:=by refine p7 _ (fun a b h e=>h (Int.ofNat.inj e)) hU
def HE{n:Nat}(h:n<=1000):l' [.int (n:Int)]=some (((List.range n).map fun(k:Nat)=>(k:Int)).map .int):=by rw[AD (by omega) (by omega),ME,cg];rfl
def fE(n:Nat):List Int:=(List.range n).map fun(k:Nat)=>(k:Int)
def bP:t∈fE n↔0<=t/\t<(n:Int):=by
 unfold fE;rw[bT];constructor;.rintro⟨a,h,rfl⟩;simp_all
 .rintro⟨b,c⟩;exact⟨t.toNat,gZ.mpr (by lia),by lia⟩
def HF:(fE n).length=n:=by simp[fE]
def PJ(n:Nat):(fE n).Nodup:=zq5 n
def xJ{n:Nat}(h:n<=1000):l' [.int (n:Int)]=some ((fE n).map .int):=HE h
def lo1(t b:Int):Int:=t/(Int.gcd t b:Int)
def t_(t b:Int):Int:=b/(Int.gcd t b:Int)
def HG(h:0<b):(0:Int)<Int.gcd t b:=by have:0<Int.gcd t b:=Int.gcd_pos_of_ne_zero_right _ (by omega);lia
def zBo:lo1 t b*(Int.gcd t b:Int)=t:=Int.ediv_mul_cancel (Int.gcd_dvd_left ..)
def HH:t_ t b*(Int.gcd t b:Int)=b:=Int.ediv_mul_cancel (Int.gcd_dvd_right ..)
def zAO(h:0<b):0<t_ t b:=by
 have c:=HH (t:=t) (b:=b);rcases Int.lt_trichotomy (t_ t b) 0 with z|z|z;.have:=Int.mul_neg_of_neg_of_pos z (HG (t:=t) h);lia
 .simp_all
 omega
def zAv(h:0<b):(t_ t b).natAbs<=b.natAbs:=by
 have c:=HG (t:=t) h;have:b.natAbs=(t_ t b).natAbs*(Int.gcd t b):=by
  conv=>lhs;rw[<-(HH (t:=t) (b:=b))]
  rw[Int.natAbs_mul];simp
 rw[this];exact Nat.le_mul_of_pos_right _ (by lia)
noncomputable def ins(L:List Int)(t:Int):List Int:=if t∈L then L else L++[t]
def dO(L ts:List Int):List Int:=ts.foldl ins L
def br:∀{L:List Int}{t:Int},t∈dO L ts↔t∈L\/t∈ts:=by induction ts with|nil=>simp[dO]|cons a l d=>
 intro L t;show t∈dO _ l↔_;rw[d];unfold ins;by_cases h:a∈L;.grind
 .rw[ak h,bJ,bj];grind
def wb:∀{L:List Int},L.Nodup->(dO L ts).Nodup:=by induction ts with|nil=>intro L h;exact h|cons a l d=>
 intro L h;refine d ?_;unfold ins;by_cases z:a∈L;.simp_all
 .rw[ak z,el];exact⟨h,by simp,fun x f y g e=>by simp_all⟩
def Bj:dO L (ts++us)=dO (dO L ts) us:=by simp[dO]
def HI{L:List Int}(h:L.Nodup)(b:∀t∈L,t∈fE n):L.length<=n:=by have:=vw h b;rwa[HF]at this
theorem Bk(c:i≠j)(G:n<=1000):∀(ts:List Int)(δ:En)(L:List Int)(o:Option D),δ[j]?=some (.o (dk L))->δ[i]?=some (sv o)->L.Nodup->(∀t∈L,t∈fE n)->(∀t∈ts,t∈fE n)->∃m,kJ (aQ i) (qP j (ag i) (mC (.bl true))) (ts.map .int) δ=.nx ((δ.set j (.o (dk (dO L ts)))).set i (sv m))
 |[],δ,L,o,l,h,_,_,_=>by
  refine⟨o,?_⟩;have d:δ.set j (.o (dk L))=δ:=by
    apply iD;intro k;by_cases e:j=k;.subst e;rw[bf (bV.mp l).1,l]
    simp_all
  have f:δ.set i (sv o)=δ:=by
    apply iD;intro k;by_cases e:i=k;.subst e;rw[bf (bV.mp h).1,h]
    simp_all
  show O.nx _=.nx ((δ.set j (.o (dk L))).set i _);grind|t::ts,δ,L,o,l,h,s,E,r=>by
  have a:=(bV.mp h).1;have g:=(bV.mp l).1;have y:aQ i (.int t) _=some _:=jy h;have w:(δ.set i (.v (.int t)))[j]?=some (.o (dk L)):=by simp_all
  have A:ag i (δ.set i (.v (.int t)))=.ok (.int t):=by unfold ag;rw[bf a]
  have C:=HI s E;have p:=Ws (me:=mC _) w A rfl (by lia);obtain⟨m,B⟩:=Bk c G _ ((δ.set i (.v _)).set j (.o (dk (ins L t)))) _ (some _) (bf (by simpa using g)) (by rw[aL (aN c),bf a];rfl) (wb (ts:=[t]) s) (fun x q=>by
    rcases(br (ts:=[t])).mp q with z|z;.simp_all
    . have:=by simpa using z
      subst this;exact r x gY) (fun x q=>r x (bx _ q));refine⟨m,?_⟩;rw[bR];unfold kJ;rw[y];simp;rw[show qP j _ _ _=.nx ((δ.set i _).set j (.o (dk (ins L t))))from p];simp;rw[B];congr 1;apply iD;intro k;by_cases d:i=k;.subst d;rw[bf (by simpa using a),bf (by simpa using a)]
  . rw[aL d,aL d];by_cases f:j=k;.subst f;rw[bf (by simpa using g),bf (by omega)];rfl
    .rw[aL f,aL f,aL f,aL d]
structure eF(n:Nat)(sets:List Ps):Prop where
 good:∀s∈sets,Good n s
 x6:sets.length<=1000n1:n<=1000
def things(sets:List Ps):List Int:=sets.flatMap (·.2)
noncomputable def num(c k:Int):Int:=(c%100000000000000000000+k*k+3)*(39373+2*k)%2147483647
def zCy(c k:Int):0<=num c k:=jO _ (by decide)
def Bl(c k:Int)(h0:0<=k)(h1:k<=1000):tZ [.int c,.int k]=.ok (.int (num c k)):=by have g:=Int.mul_nonneg h0 h0;have f:=Int.mul_le_mul h1 h1 h0 (by decide);have d:eN k:=dG 1000 (by lia);have b:eN 2:=dG 1000 (by decide);have e:eN (c%100000000000000000000+k*k+3):=dG (10^21) (by lia);have a:eN (39373+2*k):=dG (10^21) (by lia);simp[tZ,bE,mI,Oa,aG,aj,mC,p20,gN,uP,d,b,e,a,num]
def dm(L:List Int)(f:Int->Int):D:=.du (L.map .inl) (L.map fun t=>.int (f t))
def PL(L:List Int)(f:Int->Int)(t:Int):gT (L.map .inl) (L.map fun t=>D.int (f t)) (.inl t)=if t∈L then some (.int (f t))else none:=by induction L with|nil=>rfl|cons a l d=>
 simp[gT];by_cases h:a=t;.simp_all
 .grind
def zAA(L:List Int)(f:Int->Int)(t v:Int):putL (L.map .inl) (L.map fun t=>D.int (f t)) (.inl t) (.int v)=L.map fun u=>.int (if u=t then v else f u):=by induction L with|nil=>rfl|cons a l d=>
 simp[putL];by_cases h:a=t;.simp_all
 .simp_all
def zCY(L:List Int)(f:Int->Int)(t v:Int):putD (L.map .inl) (L.map fun t=>D.int (f t)) (.inl t) (.int v)=dm (ins L t) (fun u=>if u=t then v else f u):=by
 unfold putD ins;by_cases h:t∈L;.rw[ao (by simp_all),ao h,zAA];rfl
 . unfold dm;have:L.map _=L.map fun u=>D.int (if u=t then v else f u):=fO fun u a=>by rw[ak (fun e:u=t=>h (e▸a))]
   grind
def PN(h:∀t∈L,f t=g t):dm L f=dm L g:=by unfold dm;rw[fO (g:=fun t=>D.int (g t)) fun t a=>by simp_all]
@[simp]theorem zCN(L:List Int)(f:Int->Int)(t:Int):rB (.int t) (dm L f)=some (.bl (!decide (t∈L))):=by simp[rB,rA,dm,PL];grind
def zyu(h:δ[i]?=some (.o (dm L f)))(h1:mk δ=.ok (.int t))(h2:me δ=.ok (.int v))(a:L.length<=100000):qP i mk me δ=.nx (δ.set i (.o (dm (ins L t) (fun u=>if u=t then v else f u)))):=by unfold qP;rw[h];simp only[dm,h2,h1,R.ja,rA];rw[gQ (by rw[aF];exact FG a),zCY];rfl
def PQ(hd:md δ=.ok (dm L f))(a:mk δ=.ok (.int t))(b:mx δ=.ok (.int v)):AH md mk mx δ=.ok (.int (if t∈L then f t else v)):=by unfold AH;rw[hd,a,b];have g:=PL L f t;show R.ok _=_;grind
def kO:List Ps->List Int|[]=>[]|s::l=>dO (kO l) s.2
noncomputable def fk:List Ps->Int->Int|[],_=>0|s::l,t=>if t∈s.2 then(if t∈kO l then min s.1 (fk l t)else s.1)else fk l t
theorem bW:∀{l:List Ps}{t:Int},t∈kO l↔∃s∈l,t∈s.2
 |[],t=>by simp[kO]|s::l,t=>by
  rw[kO,br,bW];constructor
  . rintro(⟨d,b,c⟩|h);.grind
    simp_all
  . rintro⟨d,b,c⟩;rcases aM.mp b with rfl|b;.exact .inr c
    grind
theorem HJ:∀(l:List Ps),(kO l).Nodup|[]=>by simp[kO]|s::l=>wb (HJ l)
theorem yO:∀{l:List Ps}{t:Int},t∈kO l->(∃s∈l,t∈s.2/\s.1=fk l t)/\∀s∈l,t∈s.2->fk l t<=s.1
 |[],t,h=>by simp[kO]at h|s::l,t,h=>by
  unfold fk;by_cases j:t∈s.2
  . rw[ao j];by_cases g:t∈kO l
    . rw[ao g];obtain⟨⟨k,a,b,c⟩,d⟩:=yO g;refine⟨?_,fun u e i=>?_⟩
      . rcases Int.le_total s.1 (fk l t)with z|z;.grind
        .exact⟨k,by simp[a],b,by lia⟩
      . rcases aM.mp e with rfl|e;.lia
        grind
    . rw[ak g];refine⟨⟨s,by simp,j,rfl⟩,fun u e i=>?_⟩;rcases aM.mp e with rfl|e;.lia
      .exact absurd (bW.mpr ⟨u,e,i⟩) g
  . rw[ak j];have g:t∈kO l:=by
      obtain⟨u,e,i⟩:=bW.mp h;rcases aM.mp e with rfl|e;.exact absurd i j
      .exact bW.mpr ⟨u,e,i⟩
    obtain⟨⟨k,a,b,c⟩,d⟩:=yO g;refine⟨⟨k,by simp[a],b,c⟩,fun u e i=>?_⟩;rcases aM.mp e with rfl|e;.simp_all
    grind
def fS(l:List Ps):D:=dm (kO l) (fk l)
def nQ:List Ps->List D|[]=>[fS []]|s::l=>nQ l++[fS (s::l)]
theorem PR:∀(l:List Ps),(nQ l).length=l.length+1|[]=>rfl|s::l=>by simp[nQ,PR l]
def zqS:∀(l:List Ps),∃r,nQ l=r++[fS l]|[]=>⟨[],rfl⟩|s::l=>⟨_,rfl⟩
theorem HK:∀(l:List Ps)(k:Nat),k<=l.length->(nQ l).reverse[k]?=some (fS (l.drop k))
 |[],k,h=>by
  have:k=0:=by simp_all
  subst this;rfl|s::l,0,_=>by simp[nQ]|s::l,k+1,h=>by have:=HK l k (by simp_all);simpa[nQ]using this
def zyO:aJ (.lst (l++[d])) (.int (-1))=some d:=by
 show iI _ _=_;unfold iI ie;rw[ak (by lia),ao (by grind)];have:(-1+((l++[d]).length:Int)).toNat=l.length:=by grind
 simp_all
def zyx(h:∀s∈l,Good n s):(kO l).length<=n:=HI (HJ l) fun t c=>let⟨s,b,a⟩:=bW.mp c;bP.mpr ((h s b).mem t a)
def zlP(w:eF n sets):GS [bO sets]=.ok (.lst (nQ sets).reverse):=by
 obtain⟨A,S⟩:=zaa (bO sets);obtain⟨GC,Q,k,j,i,c,rfl⟩:=jo (b:=c5 2 (cB (aQ 2) (cB (aQ 3) cw))) (m:=Oo) dZ (fun a p=>∃k j i c,p=[.v A,.o (.lst (nQ a.reverse)),sv k,sv j,sv i,sv c]) sets.reverse (by
 rintro a s y p h ⟨k,j,i,c,rfl⟩;have N:s∈sets:=List.mem_reverse.mp (by grind);have U:∀s∈a.reverse,Good n s:=fun s N=>w.good s (List.mem_reverse.mp (by rw[h];simp_all));have g:=w.good s N;obtain⟨r,K⟩:=zqS a.reverse;obtain⟨L,l⟩:=zaa (kO a.reverse);obtain⟨f,T⟩:=zaa (fk a.reverse);have Z:=zyx U;rw[<-l]at Z;have n1:=w.n1;have pl:a.length<=1000:=by
  have:sets.length=a.length+(y.length+1):=by rw[<-lA,h];simp
  have:=w.x6;lia
 obtain⟨W,B⟩:=zaa (nQ a.reverse);rw[<-B]at K;have wl:W.length<=1001:=by rw[B,PR,lA];lia
 have a1:aD (CO (ai (m2 aJ (aj 1) (m1 mH (mC (.int 1)))) af)) (c8 4) [.v A,.o (.lst W),.v (.int s.1),.v (iL s.2),sv i,sv c]=.nx [.v A,.o (.lst W),.v (.int s.1),.v (iL s.2),.o (dm L f),sv c]:=by
  refine iW (d:=dm L f) ?_ (Wn (o:=i) rfl);have ix:aJ (.lst W) (.int (-1))=some (dm L f):=by rw[K,zyO,l,T];rfl
  simp only[CO,ai,af,aj,mC,B',jK,List.getElem?_cons_succ,List.getElem?_cons_zero,R.aA,MC,R.bI,ix];rfl--the things of the set
 obtain⟨nN,Y,e,rfl⟩:=jo (b:=aQ 5) (m:=Ol) D.int (fun q p=>∃c,p=[.v A,.o (.lst W),.v (.int s.1),.v (iL s.2),.o (dm (dO L q) (fun u=>if u∈q then(if u∈L then min s.1 (f u)else s.1)else f u)),sv c]) s.2 (by
  rintro q x C p G ⟨c,rfl⟩;have M:=g.nd;rw[G]at M;have H:x∉q:=fun z=>(el.mp M).2.2 x z x (by simp) rfl;have ql:(dO L q).length<=1000:=by
    have:=HI (n:=n) (L:=dO L q) (wb (by rw[l];exact HJ _)) fun t ht=>by
     rcases br.mp ht with z|z;.rw[l]at z;obtain⟨s',E,h'⟩:=bW.mp z;exact bP.mpr ((U s' E).mem t h')
     .exact bP.mpr (g.mem t (by simp_all))
    lia
  have xi:(x∈dO L q)=(x∈L):=propext ⟨fun z=>(br.mp z).resolve_right H,fun z=>br.mpr (.inl z)⟩;refine⟨_,_,jy (o:=c) rfl,.inl (zyu (t:=x) (v:=if x∈L then min s.1 (f x)else s.1) (f:=fun u=>if u∈q then(if u∈L then min s.1 (f u)else s.1)else f u) (L:=dO L q) rfl rfl ?_ (by lia)),some (.int x),?_⟩
  . have I:=PQ (md:=aj 4) (mk:=ag 5) (mx:=ag 2) (δ:=([.v A,.o (.lst W),.v (.int s.1),.v (iL s.2),.o (dm (dO L q) (fun u=>if u∈q then(if u∈L then min s.1 (f u)else s.1)else f u)),sv c]:En).set 5 (.v (.int x))) (L:=dO L q) (f:=fun u=>if u∈q then(if u∈L then min s.1 (f u)else s.1)else f u) (t:=x) (v:=s.1) rfl rfl rfl;simp only[xi,ak H]at I;simp only[aK,ai,af];rw[I];show R.of (some (D.int (if(if x∈L then f x else s.1)<s.1 then(if x∈L then f x else s.1)else s.1)))=_;rw[R.bI];congr 2;by_cases z:x∈L;.simp only[ao z];lia
    simp_all
  . have e1:ins (dO L q) x=dO L (q++[x]):=by rw[Bj];rfl
    have e2:dm (ins (dO L q) x) (fun u=>if u=x then(if x∈L then min s.1 (f x)else s.1)else if u∈q then(if u∈L then min s.1 (f u)else s.1)else f u)=dm (dO L (q++[x])) (fun u=>if u∈q++[x]then(if u∈L then min s.1 (f u)else s.1)else f u):=by
     rw[e1];refine PN fun u _=>?_;by_cases z:u=x;.simp_all
     .simp_all
    simp_all) [.v A,.o (.lst W),.v (.int s.1),.v (iL s.2),.o (dm L f),sv c] ⟨c,by rfl⟩;have a2:Om [.v A,.o (.lst W),.v (.int s.1),.v (iL s.2),.o (dm L f),sv c]=.nx [.v A,.o (.lst W),.v (.int s.1),.v (iL s.2),.o (fS (s::a.reverse)),sv e]:=by
  refine((jn (by simp[bN,ag])).trans Y).trans ?_;have:dm (dO L s.2) (fun u=>if u∈s.2 then(if u∈L then min s.1 (f u)else s.1)else f u)=fS (s::a.reverse):=by unfold fS;rw[kO,<-l];refine PN fun u _=>?_;rw[fk,<-l,<-T]
  rw[this]
 have a3:ko 4 (lF 1 (ag 4)) [.v A,.o (.lst W),.v (.int s.1),.v (iL s.2),.o (fS (s::a.reverse)),sv e]=.nx [.v A,.o (.lst (W++[fS (s::a.reverse)])),.v (.int s.1),.v (iL s.2),.v (fS (s::a.reverse)),sv e]:=by show lF 1 (ag 4) [.v A,.o (.lst W),.v (.int s.1),.v (iL s.2),.v (fS (s::a.reverse)),sv e]=_;exact wa rfl rfl (by lia)
 refine⟨[.v A,.o (.lst W),.v (.int s.1),.v (iL s.2),sv i,sv c],[.v A,.o (.lst (W++[fS (s::a.reverse)])),.v (.int s.1),.v (iL s.2),.v (fS (s::a.reverse)),sv e],?_,.inl ?_,some (.int s.1),some (iL s.2),some (fS (s::a.reverse)),e,?_⟩;.rw[B];rcases k with _|k<;>rcases j with _|j<;>rfl
 .exact(bG a1).trans ((bG a2).trans a3)
 .rw[List.reverse_append,B];rfl) [.v A,.o (.lst [fS []]),.no,.no,.no,.no] ⟨none,none,none,none,rfl⟩;rw[List.reverse_reverse]at Q;refine gi ?_;rw[<-S];have q1:aD (bA (ai (mC (.du [] [])) af)) (c8 1) [.v A,.no,.no,.no,.no,.no]=.nx [.v A,.o (.lst [fS []]),.no,.no,.no,.no]:=by refine iW (d:=.lst [fS []]) ?_ rfl;simp[bA,ai,af,mC,sizeLine];rfl
 have X:Oq [.v A,.o (.lst [fS []]),.no,.no,.no,.no]=.nx [.v A,.o (.lst (nQ sets)),sv k,sv j,sv i,sv c]:=by refine(jn ?_).trans Q;simp[qS,ai,af,ag,S,bO,qR]
 refine(bG q1).trans ((bG X).trans ?_);simp[cU,Gf,aj]
def PU(n:Nat):(fE n).Pairwise (.<.):=by refine p7 _ (fun a b h=>?_) List.pairwise_lt_range;lia
def zki(r:eF n sets)(C:∀t∈fE n,∃s∈sets,t∈s.2):GR [.int n,bO sets]=.ok .non:=by
 obtain⟨H,E,d,c,rfl⟩:=jo (b:=aQ 3) (m:=GP) _ (fun a q=>∃d c,q=[.v _,.v _,.o (dk (dO _ (things a))),sv d,sv c]) sets (by
 rintro a s p q f ⟨d,c,rfl⟩;have u:s∈sets:=by simp_all
 obtain⟨x,h⟩:=Bk (i:=4) (j:=2) (by decide) r.n1 _ [.v _,.v _,.o (dk (dO [] (things a))),.v _,sv _] _ c rfl rfl (wb (by simp)) (fun t k=>by
   rcases br.mp k with z|z;.cases z
   .obtain⟨K,M,B⟩:=nC.mp z;exact bP.mpr ((r.good K (by grind)).mem t B)) (fun t k=>bP.mpr ((r.good s u).mem t k));refine⟨[.v (.int n),.v (bO sets),.o (dk (dO [] (things a))),.v (dZ s),sv c],[.v (.int n),.v (bO sets),.o (dk (dO (dO [] (things a)) s.2)),.v (dZ s),sv x],?_,.inl ?_,some (dZ s),x,?_⟩;.rcases d with _|d<;>rfl
 .unfold GP Oh Og;exact(jn rfl).trans h
 . rw[<-Bj];have e:things (a++[s])=things a++s.2:=by simp[things]
   simp_all) [.v _,.v (bO _),.o (dk []),.no,.no] ⟨none,none,rfl⟩;obtain⟨I,L,l,rfl⟩:=jo (b:=aQ 4) (m:=GQ) D.int (fun a q=>∃c,q=[.v (.int n),.v (bO sets),.o (dk (dO [] (things sets))),sv d,sv c]) (fE n) (by
 rintro a t p q f ⟨c,rfl⟩;have k:t∈fE n:=by rw[f];simp
 obtain⟨s,u,w⟩:=C t k;have J:t∈dO [] (things _):=br.mpr (.inr (nC.mpr ⟨s,u,w⟩));refine⟨_,_,jy rfl,.inl ?_,some (.int t),rfl⟩;simp[GQ,bg,aR,ag,aj,J,dC]) _ ⟨c,rfl⟩;have y:Oi _=.nx _:=(jn rfl).trans E;have G:Oj _=.nx _:=(jn (by simp[bw,ai,af,ag,xJ r.n1])).trans L;refine MF (δ:=[.v (.int n),.v (bO sets),.o (dk (dO [] (things sets))),sv d,sv l]) ?_;have A:aD (mC (.du [] [])) (c8 2) [.v (.int n),.v (bO sets),.no,.no,.no]=.nx [.v _,.v _,.o (dk []),.no,.no]:=rfl;show aq _ _ [.v _,.v _,.no,.no,.no]=_;rwa[bG A,bG y]
theorem PV(f:D->R Tr)(b:∀s:Ps,f (dZ s)=.ok (A6 (.int s.1,s.2.map .int))):∀(l:List Ps),sP f (l.map dZ)=.ok (l.map fun s=>A6 (.int s.1,s.2.map .int))|[]=>rfl|s::l=>by rw[bR,sP,b,PV f b l];rfl
def Bm(l:List Ps):Tr:=.l (l.map fun s=>A6 (.int s.1,s.2.map .int))
def zvZ(l:List Int):gd ((l.map D.int).map .d)=l.map .int:=by induction l with|nil=>rfl|cons a l c=>simp only[bR,gd,mS,c]
def zBe(l:List Ps):mS (Bm l)=bO l:=by unfold Bm bO;simp[mS];induction l with|nil=>rfl|cons s l c=>simp[gd,c];simp only[A6,mS,gd,zvZ,dZ,iL]
def zrT(l:List Int):u6 ((l.map D.int).map .d)=true:=by induction l with|nil=>rfl|cons a l e=>simp only[bR,u6,v5,mV,e,Bool.and_self]
def zxo(l:List Ps):v5 (Bm l)=true:=by unfold Bm;simp[v5];induction l with|nil=>rfl|cons s l c=>rw[bR,u6,c];simp only[A6,v5,mV,u6,zrT,Bool.and_self]
def sV(n:Nat)(sets:List Ps):D:=.obj 7 ["many","sets","cheapest"] [.int n,bO sets,.lst (nQ sets).reverse]
def zDv:¬(("many":Str)="sets"):=by decide
def zDw:¬(("many":Str)="cheapest"):=by decide
def zDJ:¬(("sets":Str)="cheapest"):=by decide
def zAa(a:eF n sets)(b:∀t∈fE n,∃s∈sets,t∈s.2):GW [.int n,bO sets]=.ok (sV n sets):=by
 have h:GV [.no,.v (.int n),.v (bO sets)] [] []=.ok (["many","sets","cheapest"],[.int n,bO sets,.lst (nQ sets).reverse]):=by
  have k:GU [.no,.v (.int n),.v (bO sets)]=.ok (Bm sets):=by
   unfold GU GB;have e:bN (aj 2) [.no,.v (.int n),.v (bO sets)]=.ok _:=rfl;have f:=a.x6;rw[e,R.aA,gQ (by rw[aF];exact small (by lia)),PV];.rfl
   .intro s;rfl
  unfold GV fD sL lH xA xB;simp[ag,nY,ai,af,(zki a b),mV,putN,fC,k,zxo,zBe,k4,zDv,zDw,zDJ,(zlP a),GF]
 show R.bind _ _=_;simp[bR];rw[h];rfl
def zyr:bh tY "sets" (sV n sets)=some (bO sets):=rfl
noncomputable def gP(sets:List Ps)(k:Int):Ps:=sets.getD k.toNat (0,[])
def HL(h:k.toNat<sets.length):sets[k.toNat]?=some (gP sets k):=by simp[gP,h]
def yP(h0:0<=k)(h1:k<sets.length):aJ (bO sets) (.int k)=some (dZ (gP sets k)):=AB h0 (by rw[bX,HL (by lia)];rfl)
def Dv(h0:0<=k)(h1:k<sets.length):gP sets k∈sets:=eL (HL (by omega))
def zxU:C6 [sV n sets]=.ok (.int sets.length):=by
 refine iA ?_;show aG _ [.v _]=_;have a:au [bO sets]=some (.int sets.length):=by simp[bO]
 simp[aG,aK,ai,af,aj,zyr,a]
def cQ(cs:List Int)(ch:Int):List Int:=(aH cs.length).filter fun k=>decide (gA cs k=ch)
def fe:k∈cQ cs ch↔(0<=k/\k<cs.length)/\gA cs k=ch:=by unfold cQ;rw[c9,aE,hV]
def HM(cs:List Int)(ch:Int):(cQ cs ch).length<=cs.length:=by have:=nu (fun k=>decide (gA cs k=ch)) (aH cs.length);rwa[cZ]at this
def Dw(n:Nat):aH (n+1)=aH n++[(n:Int)]:=by simp[aH,List.range_succ]
def Bo(cs:List Int)(c ch:Int):cQ (cs++[c]) ch=cQ cs ch++(if c=ch then[(cs.length:Int)]else[]):=by
 have h:gA (cs++[c]) cs.length=c:=by simp[gA]
 have g:(aH cs.length).filter (fun k=>decide (gA (cs++[c]) k=ch))=cQ cs ch:=by
  apply qf;intro k e;obtain⟨a,b⟩:=aE.mp e;have:gA (cs++[c]) k=gA cs k:=by
   have:k.toNat<cs.length:=by lia
   simp[gA,fm this]
  rw[this]
 have f:cQ (cs++[c]) ch=(aH (cs.length+1)).filter (fun k=>decide (gA (cs++[c]) k=ch)):=by unfold cQ;simp
 rw[f,Dw];grind
def yQ(e:cs.length<=100):v9 [encC cs,.int ch]=.ok (iL (cQ cs ch)):=by
 refine gi ?_;have b:rq (cs.map .int)=(aH cs.length).map fun k=>D.tup [.int k,.int (gA cs k)]:=by rw[AE];apply jS (by simp[aH]);intro i a d;simp at a;simp[aH,gA,a]
 have k:Hm [.v (encC cs),.v (.int ch)]=.ok (iL (cQ cs ch)):=by refine iv (l:=(aH _).map fun k=>D.tup [.int k,.int (gA cs k)]) (by simp[Gr,ai,af,ag,encC,AS,b]) (by rw[aF,cZ];lia) (PD _ _ _ _ fun k _=>?_);by_cases c:gA cs k=ch<;>simp[gh,cP,jv,c5,cB,cw,b3,aR,aj,ag,c]
 show R.il (Hm [.v _,.v _]) _ _=_;simp_all
def hv(sets:List Ps)(l:List Int):List Int:=l.flatMap fun k=>(gP sets k).2
def eG:t∈hv sets l↔∃k∈l,t∈(gP sets k).2:=nC
def nc(n:Nat)(sets:List Ps)(l:List Int):List Int:=(aH n).filter fun t=>!decide (t∈hv sets l)
def jd:t∈nc n sets l↔(0<=t/\t<n)/\t∉hv sets l:=by unfold nc;rw[c9,aE];simp
def PX(C:eF n sets)(X:cs.length<=sets.length)(A:sets.length<=100):C1 [sV n sets,encC cs]=.ok (iL (nc n sets (cQ cs 1))):=by
 obtain⟨S,r⟩:=zaa (sV n sets);have N:bh tY "sets" S=some (bO sets):=by rw[r];rfl
 have T:bh rE "many" S=some (.int n):=by rw[r];rfl
 rw[<-r];have x:∀k∈cQ cs 1,Good n (gP sets k):=fun k p=>let⟨⟨a,b⟩,_⟩:=fe.mp p;C.good _ (Dv a (by lia))
 have y:=C.n1;obtain⟨Q,M,f,d,rfl⟩:=jo (b:=aQ 3) (m:=O9) D.int (fun c s=>∃f d,s=[.v S,.v (encC cs),.o (dk (dO [] (hv sets c))),sv f,sv d]) (cQ cs 1) (by
 rintro c k u s w ⟨f,d,rfl⟩;have p:k∈cQ cs 1:=by simp_all
 obtain⟨⟨a,b⟩,_⟩:=fe.mp p;obtain⟨B,h⟩:=Bk (i:=4) (j:=2) (by decide) y (gP sets k).2 [.v S,.v (encC cs),.o (dk (dO [] (hv sets c))),.v (.int k),sv d] (dO [] (hv sets c)) d rfl rfl (wb (by simp)) (fun t q=>by
   rcases br.mp q with z|z;.cases z
   .obtain⟨H,J,K⟩:=eG.mp z;exact bP.mpr ((x H (by simp_all)).mem t K)) (fun t q=>bP.mpr ((x k p).mem t q));refine⟨[.v S,.v (encC cs),.o (dk (dO [] (hv sets c))),.v (.int k),sv d],[.v S,.v (encC cs),.o (dk (dO (dO [] (hv sets c)) (gP sets k).2)),.v (.int k),sv B],?_,.inl ?_,some (.int k),B,?_⟩;.rcases f with _|f<;>rfl
 .exact(jn (by simp[bN,aj,mC,N,yP a (show k<sets.length by lia),dZ])).trans h
 . rw[<-Bj];have e:hv sets (c++[k])=hv sets c++(gP sets k).2:=by simp[hv]
   simp_all) _ ⟨none,none,rfl⟩;have U:O_ _=.nx _:=(jn (by simp[bN,bu,ai,af,ag,mC,yQ (show cs.length<=100 by lia)])).trans M;have G:O' [.v S,.v (encC cs),.o (dk (dO [] (hv sets (cQ cs 1)))),sv f,sv d]=.ok (iL (nc n sets (cQ cs 1))):=by refine iv (by simp[bw,ai,af,aj,T,gg y]) (by rw[aF,cZ];lia) (vS _ _ _ fun t _=>?_);have L:(t∈dO [] _)=(t∈hv sets (cQ cs 1)):=propext ⟨fun z=>(br.mp z).resolve_left (by simp),fun z=>br.mpr (.inr z)⟩;by_cases I:t∈hv sets (cQ cs 1)<;>simp[gh,cP,jv,b3,aR,ag,aj,I,L]
 have E:aD (mC _) (c8 2) [.v S,.v (encC cs),.no,.no,.no]=.nx [.v S,.v _,.o (dk []),.no,.no]:=rfl;refine gi ((bG E).trans ((bG U).trans ?_));show R.il _ _ _=_;rw[G];rfl
def gK{me:En->R D}{b:D->En->Option En}{d:D}{n:En->O}{r:O}(yf:En)(h:me δ=.ok d)(g:b d δ=some yf)(k:n yf=r):aq (aD me b) n δ=r:=(bG (iW h g)).trans k
def Dx(t:Int)(l:List Int):yp (.int t) (iL l)=some (.bl (decide (t∈l))):=by show(de _).map _=_;rw[pE];rfl
def rG(l:List Int):Int:=l.foldl max 0
def Bp(l:List Int):(rG l=0\/rG l∈l)/\0<=rG l/\∀w∈l,w<=rG l:=by
 have b:∀(l:List Int)(a:Int),0<=a->(l.foldl max a=a\/l.foldl max a∈l)/\a<=l.foldl max a/\∀w∈l,w<=l.foldl max a:=by intro l;induction l with|nil=>simp|cons x l g=>
  intro a h;obtain⟨f,j,k⟩:=g (max a x) (by lia);rw[List.foldl_cons];refine⟨?_,by lia,fun w d=>?_⟩
  . rcases f with z|z
    . rcases Int.le_total a x with c|c;.rw[z,show max a x=x by lia];simp
      lia
    .simp_all
  . rcases aM.mp d with rfl|d;.lia
    simp_all
 exact b l 0 (by lia)
def HN(h0:0<=b)(h:∀w∈l,w<=b):rG l<=b:=by
 rcases(Bp l).1 with z|z;.lia
 simp_all
def PY(h:∀w∈l,0<=w):tW [iL l] (.int 0)=some (.int (rG l)):=by cases l with|nil=>rfl|cons a l=>
 have e:tW [iL (a::l)] (.int 0)=some (.int (dn l a)):=by simp[tW,iL,pE]
 obtain⟨d,g,i⟩:=L2.fZ l a;obtain⟨j,f,k⟩:=Bp (a::l);grind
theorem PZ{P:En->Prop}:∀(l:List Int)(_:∀x∈l,∀δ,P δ->∃a,b (.int x) δ=some a/\(p x=true->m a=.ro d)/\(p x=false->∃nN,m a=.nx nN/\P nN))(δ:En)(_:P δ),(l.any p=true->kJ b m (l.map .int) δ=.ro d)/\(l.any p=false->∃g,kJ b m (l.map .int) δ=.nx g/\P g)|[],_,δ,h=>⟨fun z=>(by cases z),fun _=>⟨_,rfl,h⟩⟩|x::l,i,δ,h=>by obtain⟨a,j,o,n⟩:=i x (by simp) _ h;rw[bR];unfold kJ;rw[j,lg];cases c:p x with|true=>simp_all|false=>obtain⟨nN,e,q⟩:=n c;simp only[e];exact PZ l (fun y k=>i y (bx _ k)) _ q
def wc(n:Nat)(sets:List Ps)(cs:List Int):Prop:=∀t∈nc n sets (cQ cs 1),t∈kO (sets.drop cs.length)
def need(n:Nat)(sets:List Ps)(cs:List Int):Bool:=(nc n sets (cQ cs 1)).any fun t=>decide (t∈(gP sets cs.length).2)&&!decide (t∈kO (sets.drop (cs.length+1)))
def wy(n:Nat)(sets:List Ps)(cs:List Int):List Int:=if need n sets cs=true then[1]else[0,1]
def P0(n:Nat)(sets:List Ps)(cs:List Int):0<(wy n sets cs).length/\(wy n sets cs).length<=2:=by unfold wy;grind
def zA4(T:eF n sets)(B:cs.length<sets.length)(i:sets.length<=100):Dc [sV n sets,encC cs]=.ok (iL (wy n sets cs)):=by
 have q:=PX T (gm B) i;obtain⟨S,l⟩:=zaa (sV n sets);have K:bh tY "sets" S=some (bO sets):=by rw[l];rfl
 have I:bh xE "cheapest" S=some (.lst (nQ sets).reverse):=by rw[l];rfl
 have G:PM.isObj 7 "not_covered" S=some ():=by rw[l];rfl
 rw[<-l]at q⊢;obtain⟨C,A⟩:=zaa (encC cs);have w:au [C]=some (.int cs.length):=by rw[A];simp[encC]
 rw[<-A]at q⊢;obtain⟨L,y⟩:=zaa (kO (sets.drop (cs.length+1)));obtain⟨a,j⟩:=zaa ((gP sets cs.length).2);have Q:aJ (.lst (nQ sets).reverse) (.int ((cs.length:Int)+1))=some (fS (sets.drop (cs.length+1))):=FI (k:=cs.length+1) (HK sets _ (by lia));have r:=yP (sets:=sets) (k:=(cs.length:Int)) (by lia) (by lia);obtain⟨f,J⟩:=zaa (fk (sets.drop (cs.length+1)));have M:fS (sets.drop (cs.length+1))=dm L f:=by rw[y,J];rfl
 have N:aD (m2 aJ (m1 (bh xE "cheapest") (aj 0)) (m2 bD (aK au (ai (aj 1) af)) (mC (.int 1)))) (aQ 2) [.v S,.v C,.no,.no,.no]=.nx [.v S,.v C,.v (dm L f),.no,.no]:=iW (d:=dm L f) (by simp[aj,mC,aK,ai,af,I,w,Q,M]) rfl;have E:aD (m2 dX (m2 aJ (m1 (bh tY "sets") (aj 0)) (aK au (ai (aj 1) af))) (mC (.int 1))) (aQ 3) [.v S,.v C,.v (dm L f),.no,.no]=.nx [.v S,.v C,.v (dm L f),.v (iL a),.no]:=iW (d:=iL a) (by simp[aj,mC,aK,ai,af,K,w,r,dZ,j]) rfl;obtain⟨H,X⟩:=PZ (b:=aQ 4) (m:=yK) (d:=iL [1]) (P:=fun s=>∃o,s=[.v S,.v C,.v (dm L f),.v (iL a),sv o]) (p:=fun t=>decide (t∈a)&&!decide (t∈L)) (nc n sets (cQ cs 1)) (by
 rintro x _ s ⟨o,rfl⟩;refine⟨_,jy (o:=o) rfl,fun h=>?_,fun h=>⟨[.v S,.v C,.v (dm L f),.v (iL a),.v (.int x)],?_,some (.int x),rfl⟩⟩
 . have:x∈a/\x∉L:=by grind
   simp[yK,bg,kX,aR,aj,ag,Dx,this,cU,bA,ai,af,mC,sizeLine];rfl
 . by_cases z:x∈a
   . have:x∈L:=by grind
     simp[yK,bg,kX,aR,aj,ag,Dx,this,dC]
   .simp[yK,bg,kX,aR,aj,Dx,z,dC]) [.v S,.v C,.v (dm L f),.v (iL a),.no] ⟨none,rfl⟩;have u:Pg [.v S,.v C,.v _,.v _,.no]=kJ _ yK ((nc n sets (cQ cs 1)).map .int) [.v S,.v C,.v (dm L f),.v (iL a),.no]:=jn (by simp[bN,dH,ag,ai,af,G,q]);refine gi ((bG N).trans ((bG E).trans ?_));unfold wy need;rw[<-y,<-j];cases c:((nc n _ _).any _)with|true=>rw[ao rfl];unfold aq;rw[u,H c]|false=>obtain⟨U,e,o,rfl⟩:=X c;refine(bG (u.trans e)).trans ?_;simp[cU,bA,ai,af,mC,sizeLine,iL]
def sW(sets:List Ps)(l:List Int):Int:=(l.map fun k=>(gP sets k).1).sum
def k6(n:Nat)(sets:List Ps)(cs:List Int):Int:=sW sets (cQ cs 1)+rG ((nc n sets (cQ cs 1)).map (fk (sets.drop cs.length)))
def zyy(h:∀k∈l,0<=k/\k<sets.length)(c:l.length<=1000):Hn [bO sets,iL l]=.ok (.int (sW sets l)):=by
 refine iA ?_;have k:Pa [.v (bO sets),.v (iL l)]=.ok (iL (l.map fun k=>(gP sets k).1)):=by refine f7 (iv (r:=l.map fun k=>.int (gP sets k).1) rfl (by grind) (lG _ _ _ fun k a=>?_)) (by simp[iL]);simp[gh,cP,jv,b3,aj,mC,(yP (h k a).1 (h k a).2),dZ]
 show aG _ [.v _,.v _]=_;simp[aG,aK,ai,af,k,xI,sW]
def zA2(h:∀s∈l,Good n s)(b:t∈kO l):0<=fk l t:=by obtain⟨⟨s,a,_,c⟩,_⟩:=yO b;rw[<-c];exact(h s a).lo
def zCB(j:eF n sets)(o:cs.length<=sets.length)(c:sets.length<=100)(cv:wc n sets cs):Bc [sV n sets,encC cs]=.ok (.int (k6 n sets cs)):=by
 have g:=PX j o c;obtain⟨S,h⟩:=zaa (sV n sets);have Q:bh tY "sets" S=some (bO sets):=by rw[h];rfl
 have E:bh xE "cheapest" S=some (.lst (nQ sets).reverse):=by rw[h];rfl
 have A:PM.isObj 7 "not_covered" S=some ():=by rw[h];rfl
 rw[<-h]at g⊢;have q:=yQ (cs:=cs) (ch:=1) (by lia);obtain⟨C,u⟩:=zaa (encC cs);have H:au [C]=some (.int cs.length):=by rw[u];simp[encC]
 rw[<-u]at g q⊢;obtain⟨L,m⟩:=zaa (kO (sets.drop cs.length));obtain⟨f,i⟩:=zaa (fk (sets.drop cs.length));have T:aJ (.lst (nQ sets).reverse) (.int (cs.length:Int))=some (dm L f):=by rw[m,i];exact FI (k:=cs.length) (HK sets _ o)
 have y:∀s∈sets.drop cs.length,Good n s:=fun s K=>j.good s (List.mem_of_mem_drop K);obtain⟨N,e⟩:=zaa (nc n sets (cQ cs 1));have U:N.length<=1000:=by rw[e];have:=nu (fun t=>!decide (t∈hv sets (cQ cs 1))) (aH n);rw[cZ]at this;have:=j.n1;unfold nc;lia
 have B:∀t∈N,t∈L:=by rwa[e,m]
 rw[<-e]at g;have G:aD (m2 aJ (m1 (bh xE "cheapest") (aj 0)) (aK au (ai (aj 1) af))) (aQ 2) [.v S,.v C,.no,.no]=.nx [.v S,.v C,.v (dm L f),.no]:=iW (d:=dm L f) (by simp[aj,aK,ai,af,E,H,T]) rfl;have k:Ho [.v S,.v C,.v (dm L f),.no]=.ok (iL (N.map f)):=by refine f7 (iv (l:=N.map .int) (r:=N.map fun t=>.int (f t)) (by simp[bN,dH,ag,ai,af,A,g]) (by grind) ?_) (by simp[iL]);refine lG _ _ _ fun t M=>?_;have X:=PQ (md:=aj 0) (mk:=ag 1) (mx:=mC (.int 0)) (δ:=[.v (dm L f),.v (.int t)]) rfl rfl rfl;simp[gh,cP,jv,b3];simp_all
 have J:aD (uO (ai Ho af) (mC (.int 0))) (aQ 3) [.v S,.v C,.v (dm L f),.no]=.nx [.v S,.v C,.v (dm L f),.v (.int (rG (N.map f)))]:=by refine iW ?_ rfl;simp[uO,ai,af,k,mC,(PY (l:=N.map f) fun w x=>by obtain⟨t,M,rfl⟩:=bT.mp x;rw[i];exact zA2 y (by grind))]
 refine iA ((bG G).trans ((bG J).trans ?_));unfold k6;rw[<-e,<-i];simp[aG,bu,ai,af,aj,ag,mC,Q,q,(zyy (sets:=sets) (l:=cQ cs 1) (fun k I=>by obtain⟨⟨a,b⟩,_⟩:=fe.mp I;lia) (by have:=HM cs 1;lia))]
def Bq{sets:List Ps}(h:k<sets.length):sets.drop k=gP sets k::sets.drop (k+1):=by simp[gP,h]
def sX:t∈nc n sets (cQ (cs++[1]) 1)↔t∈nc n sets (cQ cs 1)/\t∉(gP sets cs.length).2:=by
 rw[jd,jd,Bo,eG,eG];constructor;.rintro⟨h,z⟩;exact⟨⟨h,fun⟨k,a,b⟩=>z ⟨k,by simp[a],b⟩⟩,fun b=>z ⟨_,by simp,b⟩⟩
 . rintro⟨⟨h,z⟩,y⟩;refine⟨h,fun⟨k,a,b⟩=>?_⟩;rcases bJ.mp a with a|a;.simp_all
   .rw[bj.mp a]at b;exact y b
def HP(cs:List Int)(h:w≠1):cQ (cs++[w]) 1=cQ cs 1:=by rw[Bo,ak h,dg]
def P1(h:w∈wy n sets cs):w=1\/w=0/\need n sets cs=false:=by unfold wy at h;grind
def P2(d:cs.length<sets.length)(cv:wc n sets cs)(f:w∈wy n sets cs):wc n sets (cs++[w]):=by
 intro t c;rw[eJ];rcases P1 f with rfl|⟨rfl,g⟩
 . obtain⟨e,i⟩:=sX.mp c;have b:=bW.mp (cv t e);rw[Bq d]at b;obtain⟨s,a,h⟩:=b;rcases aM.mp a with rfl|a;.simp_all
   .exact bW.mpr ⟨s,a,h⟩
 . rw[HP _ (by decide)]at c;have b:=bW.mp (cv t c);rw[Bq d]at b;obtain⟨s,a,h⟩:=b;rcases aM.mp a with rfl|a;.have:=List.any_eq_false.mp g t c;simp_all
   .exact bW.mpr ⟨s,a,h⟩
def zAC(b:∀t∈fE n,∃s∈sets,t∈s.2):wc n sets []:=fun t a=>let⟨h,_⟩:=jd.mp a;bW.mpr (b t (bP.mpr h))
abbrev Fr:=Int×Int
noncomputable def gU(f:Fr):D:=.tup [.int f.1,.int f.2]
def iS(ts:List Fr):D:=.lst (ts.map gU)
noncomputable def th(ts:List Fr)(k:Int):Fr:=ts.getD k.toNat (0,1)
def P4(h:k.toNat<ts.length):ts[k.toNat]?=some (th ts k):=by simp[th,h]
def Br(h0:0<=k)(h1:k<ts.length):aJ (iS ts) (.int k)=some (gU (th ts k)):=AB h0 (by rw[bX,P4 (by lia)];rfl)
def zCs(h0:0<=k)(h1:k<ts.length):th ts k∈ts:=eL (P4 (by omega))
def kC(ts:List Fr)(l:List Int):Int:=(l.map fun k=>(th ts k).2).sum
def qA(ts:List Fr)(l:List Int):Int:=(l.map fun k=>(th ts k).1).sum
def HQ(ts:List Fr)(l r:List Int):kC ts (l++r)=kC ts l+kC ts r:=by simp[kC]
def zz8(ts:List Fr)(l r:List Int):qA ts (l++r)=qA ts l+qA ts r:=by simp[qA]
def HR(ts:List Fr)(k:Int):kC ts [k]=(th ts k).2:=by simp[kC]
def q8(r:Int)(ts:List Fr):D:=.obj 10 ["room","things"] [.int r,iS ts]
def zDi:¬(("room":Str)="things"):=by decide
def zyD:G_ [.int r,iS ts]=.ok (q8 r ts):=by
 have c:nL (ts.map gU)=true:=by induction ts with|nil=>rfl|cons t ts g=>simp[nL,mV,gU,g]
 have h:G9 [.no,.v (.int r),.v (iS ts)] [] []=.ok (["room","things"],[.int r,iS ts]):=by unfold G9 fD lH qY;have e:aK qv (ai (aj 2) af) [.no,.v (.int r),.v (iS ts)]=.ok (iS _):=rfl;have d:∃b,iS _=D.lst b/\nL b=true:=⟨_,rfl,c⟩;simp[ag,e,mV,d,putN,fC,zDi]
 show R.bind _ _=_;simp[bR];rw[h];rfl
def zxB:bh xF "room" (q8 r ts)=some (.int r):=rfl
def Dy:bh yH "things" (q8 r ts)=some (iS ts):=rfl
def zvj:C9 [q8 r ts]=.ok (.int ts.length):=by
 refine iA ?_;show aG _ [.v _]=_;have a:au [iS ts]=some (.int ts.length):=by simp[iS]
 simp[aG,aK,ai,af,aj,Dy,a]
def zAy(f:cs.length<=ts.length)(e:ts.length<=100):Bh [q8 r ts,encC cs]=.ok (.int (qA ts (cQ cs 1))):=by
 refine iA ?_;have k:Pe [.v (q8 r ts),.v (encC cs)]=.ok (iL ((cQ cs 1).map fun k=>(th ts k).1)):=by
  refine f7 (iv (l:=(cQ cs 1).map .int) (r:=(cQ cs 1).map fun k=>.int (th ts k).1) ?_ (by have:=HM cs 1;grind) ?_) (by simp[iL]);.simp[bN,bu,ai,af,ag,mC,yQ (show cs.length<=100 by lia)]
  .refine lG _ _ _ fun k d=>?_;obtain⟨⟨a,b⟩,_⟩:=fe.mp d;simp[gh,cP,jv,b3,aj,mC,Dy,(Br (ts:=ts) a (by lia)),gU]
 show aG _ [.v _,.v _]=_;simp[aG,aK,ai,af,k,xI,qA]
def zyS(h:cs.length<ts.length)(i:ts.length<=100):Dg [q8 r ts,encC cs]=.ok (iL (if kC ts (cQ cs 0)+(th ts cs.length).2<=r then[0,1]else[1])):=by
 refine gi ?_;have k:Pj [.v (q8 r ts),.v (encC cs),.no]=.ok (iL ((cQ cs 0).map fun k=>(th ts k).2)):=by
  refine f7 (iv (l:=(cQ cs 0).map .int) (r:=(cQ cs 0).map fun k=>.int (th ts k).2) ?_ (by have:=HM cs 0;grind) ?_) (by simp[iL]);.simp[bN,bu,ai,af,ag,mC,yQ (show cs.length<=100 by lia)]
  .refine lG _ _ _ fun k f=>?_;obtain⟨⟨a,b⟩,_⟩:=fe.mp f;simp[gh,cP,jv,b3,aj,mC,Dy,(Br (ts:=ts) a (by lia)),gU]
 have e:au [encC cs]=some (.int cs.length):=by simp[encC]
 show aq _ _ [.v (q8 r ts),.v (encC cs),.no]=_;refine gK [.v _,.v _,.v (.int (kC ts (cQ cs 0)))] (by simp[aK,ai,af,k,xI,kC]) rfl ?_;by_cases c:kC ts (cQ cs 0)+(th ts cs.length).2<=r<;>simp[aq,bg,aR,aK,ai,af,aj,mC,Dy,zxB,(Br (ts:=ts) (k:=cs.length) _ (by lia)),gU,e,c,dC,cU,bA,sizeLine,iL]
def aW(n:Nat)(d:Int->Int->Int):List (List Int):=(aH n).map fun a=>(aH n).map (d a)
def qB(h:k<m):(aH m)[k]?=some (k:Int):=by unfold aH;rw[bX,List.getElem?_range h];rfl
def sY{n:Nat}{b:Int}(h0:0<=b)(h1:b<n):aJ (iL ((aH n).map f)) (.int b)=some (.int (f b)):=by refine AB h0 ?_;rw[bX,bX,qB (by omega)];simp[show(b.toNat)=b by omega]
def Bs{n:Nat}{a:Int}(h0:0<=a)(h1:a<n):aJ (bp (aW n d)) (.int a)=some (iL ((aH n).map (d a))):=by unfold bp aW;refine AB h0 ?_;rw[bX,bX,qB (by omega)];simp[show(a.toNat)=a by omega]
def ua:au [bp (aW n d)]=some (.int n):=by simp[bp,aW,cZ]
noncomputable def mM(d:Int->Int->Int)(a b v:Int):Int->Int->Int:=fun x y=>if x=a/\y=b then v else d x y
def zAp{n:Nat}{b v:Int}(h0:0<=b)(h1:b<n):((aH n).map f).set b.toNat v=(aH n).map fun y=>if y=b then v else f y:=by
 apply iD;intro i;by_cases a:i<n
 . rw[bX,qB a];by_cases e:b.toNat=i
   . rw[e,bf (by rwa[aF,cZ])];have:i=b:=by lia
     simp_all
   . rw[aL e,bX,qB a];have:¬i=b:=by lia
     simp_all
 .rw[fJ.mpr (by rw[ny,aF,cZ];lia),fJ.mpr (by rw[aF,cZ];lia)]
def zAB{n:Nat}{a b v:Int}(j:0<=a)(k:a<n)(g:0<=b)(h:b<n):(aW n d).set a.toNat (((aH n).map (d a)).set b.toNat v)=aW n (mM d a b v):=by
 rw[zAp g h];unfold aW;apply iD;intro i;by_cases f:i<n
 . rw[bX,qB f];by_cases e:a.toNat=i
   . rw[e,bf (by rwa[aF,cZ])];have:i=a:=by lia
     simp[mM,this]
   . rw[aL e,bX,qB f];have:¬i=a:=by lia
     simp[mM,this]
 .rw[fJ.mpr (by rw[ny,aF,cZ];lia),fJ.mpr (by rw[aF,cZ];lia)]
def cH(n:Nat)(d:Int->Int->Int):Tr:=iw (aW n d)
def zAu:tabOf (some (.p (cH n d)))=some (aW n d):=by simp[cH]
def P5{i:Nat}{mk mj me:En->R D}{δ:En}(h:δ[i]?=some (.p (cH n d)))(j:mk δ=.ok (.int a))(f:mj δ=.ok (.int b))(hv:me δ=.ok (.int v))(l:0<=a)(o:a<n)(c:0<=b)(e:b<n):yw i mk mj me δ=.nx (δ.set i (.p (cH n (mM d a b v)))):=by
 have q:(aW n d).length=n:=by simp[aW,cZ]
 have g:ie (aW n d).length a=some a.toNat:=by unfold ie;simp_all
 have k:(aW n d)[a.toNat]?=some ((aH n).map (d a)):=by unfold aW;rw[bX,qB (by lia)];simp[show(a.toNat)=a by lia]
 have m:ie ((aH n).map (d a)).length b=some b.toNat:=by unfold ie;rw[ao c,aF,cZ,ao e]
 unfold yw;rw[h,zAu];simp only[hv,j,f,R.ja,g,k,m,zAB l o c e,cH]
structure hR(n:Nat)(B:Int)(d:Int->Int->Int):Prop where
 nn:∀a b:Int,0<=a->a<n->0<=b->b<n->0<=d a b/\d a b<=B
 self:∀a:Int,0<=a->a<n->d a a=0sym:∀a b:Int,0<=a->a<n->0<=b->b<n->d a b=d b a
 Dz:∀a b c:Int,0<=a->a<n->0<=b->b<n->0<=c->c<n->d a c<=d a b+d b c
def yR(h:mi δ=.ok ((aH n).map .int)):cY mi b m δ=kJ b m ((aH n).map .int) δ:=jn h
abbrev mZ(T n a)(l:En):=(.v T::.v (.int n)::.v (.int a)::l:En)
def P6{B:Int}(hn:n<=100)(X:hR n B d):CW [bp (aW n d)]=.ok .non:=by
 obtain⟨T,Y⟩:=zaa (bp (aW n d));have p:∀a:Int,0<=a->a<n->aJ T (.int a)=some (iL ((aH n).map (d a))):=fun a h0 A=>by rw[Y];exact Bs h0 A
 rw[<-Y];have G:=gg (show n<=1000 by lia);have l1:∀k j e:Option D,∃g,OX [.v T,.v (.int n),sv k,sv j,sv e]=.nx [.v T,.v (.int n),sv g,sv j,sv e]:=fun k j e=>by obtain⟨h,A,g,rfl⟩:=jo (b:=aQ 2) (m:=Hb) D.int (fun _ h=>∃g,h=[.v T,.v (.int n),sv g,sv j,sv e]) (aH n) (by rintro H a w h x ⟨g,rfl⟩;obtain⟨t,q⟩:=aE.mp (show a∈aH n by simp_all);have r:=sY (n:=n) (f:=d a) t q;rw[X.self a t q]at r;refine⟨(mZ T n a [sv j,sv e]),(mZ T n a [sv j,sv e]),jy rfl,.inl ?_,some _,rfl⟩;unfold Hb;rw[iK (by simp[aR,aj,mC,p a t q,r])];rfl) [.v T,.v (.int n),sv k,sv j,sv e] ⟨k,rfl⟩;exact⟨g,(yR (by simp[bw,ai,af,ag,G])).trans A⟩
 have l3:∀k j e:Option D,∃g i,OZ [.v T,.v (.int n),sv k,sv j,sv e]=.nx [.v T,.v (.int n),sv g,sv i,sv e]:=fun k j e=>by obtain⟨h,A,g,i,rfl⟩:=jo (b:=aQ 2) (m:=OY) D.int (fun _ h=>∃g i,h=[.v T,.v (.int n),sv g,sv i,sv e]) (aH n) (by rintro H a w h x ⟨g,i,rfl⟩;obtain⟨t,q⟩:=aE.mp (show a∈aH n by simp_all);obtain⟨S,U,l,rfl⟩:=jo (b:=aQ 3) (m:=Hc) D.int (fun _ h=>∃l,h=(mZ T n a [sv l,sv e])) (aH a.toNat) (by rintro E b z h o ⟨l,rfl⟩;obtain⟨C,K⟩:=aE.mp (show b∈aH a.toNat by simp_all);have L:=sY (n:=n) (f:=d a) C (by lia);rw[X.sym a b t q C (by lia)]at L;refine⟨(mZ T n a [.v (.int b),sv e]),(mZ T n a [.v (.int b),sv e]),jy rfl,.inl ?_,some _,rfl⟩;unfold Hc;rw[iK (by simp[aR,aj,mC,p a t q,p b C (by lia),L,(sY (n:=n) (f:=d b) t q)])];rfl) (mZ T n a [sv i,sv e]) ⟨i,rfl⟩;refine⟨(mZ T n a [sv i,sv e]),(mZ T n a [sv l,sv e]),jy rfl,.inl ?_,some _,l,rfl⟩;have ra:=gg (show a.toNat<=1000 by lia);rw[show((a.toNat:Nat):Int)=a by lia]at ra;exact(yR (n:=a.toNat) (by simp[bw,ai,af,ag,ra])).trans U) [.v T,.v (.int n),sv k,sv j,sv e] ⟨k,j,rfl⟩;exact⟨g,i,(yR (by simp[bw,ai,af,ag,G])).trans A⟩
 have l6:∀k j e:Option D,∃g i u,O2 [.v T,.v (.int n),sv k,sv j,sv e]=.nx [.v T,.v (.int n),sv g,sv i,sv u]:=fun k j e=>by
  obtain⟨h,A,g,i,u,rfl⟩:=jo (b:=aQ 2) (m:=O1) D.int (fun _ h=>∃g i u,h=[.v T,.v (.int n),sv g,sv i,sv u]) (aH n)
   (by rintro H a w h x ⟨g,i,u,rfl⟩;obtain⟨t,q⟩:=aE.mp (show a∈aH n by simp_all);obtain⟨S,U,l,s,rfl⟩:=jo (b:=aQ 3) (m:=O0) D.int (fun _ h=>∃l s,h=(mZ T n a [sv l,sv s])) (aH n) (by rintro E b z h o ⟨l,s,rfl⟩;obtain⟨C,K⟩:=aE.mp (show b∈aH n by rw[o];simp);obtain⟨δ3,k1,J,rfl⟩:=jo (b:=aQ 4) (m:=Hd) D.int (fun _ h=>∃J,h=(mZ T n a [.v (.int b),sv J])) (aH n) (by
   rintro Z c M h y ⟨J,rfl⟩;obtain⟨Q,N⟩:=aE.mp (show c∈aH n by rw[y];simp);have L:=sY (n:=n) (f:=d a) C K;have tr:¬d a b+d b c<d a c:=by have:=X.Dz a b c t q C K Q N;lia
   refine⟨(mZ T n a [.v (.int b),.v (.int c)]),(mZ T n a [.v (.int b),.v (.int c)]),jy rfl,.inl ?_,some _,rfl⟩;unfold Hd;rw[iK (by simp[aR,aj,mC,p a t q,p b C K,L,(sY (n:=n) (f:=d b) Q N),(sY (n:=n) (f:=d a) Q N),tr])];rfl) (mZ T n a [.v (.int b),sv s]) ⟨s,rfl⟩;exact⟨(mZ T n a [.v (.int b),sv s]),(mZ T n a [.v (.int b),sv J]),jy rfl,.inl ((yR (by simp[bw,ai,af,ag,G])).trans k1),some _,J,rfl⟩) (mZ T n a [sv i,sv u]) ⟨i,u,rfl⟩;exact⟨(mZ T n a [sv i,sv u]),(mZ T n a [sv l,sv s]),jy rfl,.inl ((yR (by simp[bw,ai,af,ag,G])).trans U),some _,l,s,rfl⟩) [.v T,.v (.int n),sv k,sv j,sv e] ⟨k,j,e,rfl⟩;exact⟨g,i,u,(yR (by simp[bw,ai,af,ag,G])).trans A⟩
 have lT:au [T]=some (.int n):=by rw[Y];exact ua
 obtain⟨g,e1⟩:=l1 none none none;obtain⟨q2,q3,e2⟩:=l3 g none none;obtain⟨I,l,s,e3⟩:=l6 q2 q3 none;refine MF (δ:=[.v T,.v (.int n),sv I,sv l,sv s]) ?_;show aq _ _ [.v T,.no,.no,.no,.no]=_;exact gK (d:=.int n) [.v T,.v (.int n),sv none,sv none,sv none] (by simp[aK,ai,af,aj,lT]) rfl ((bG e1).trans ((bG e2).trans e3))
def HS(h:δ[i]?=some (.o (iL L)))(a:mi δ=.ok (.int k))(h0:0<=k)(h1:k.toNat<L.length)(b:me δ=.ok (.int y)):vO i mi me δ=.nx (δ.set i (.o (iL (L.set k.toNat y)))):=by
 have c:ie (L.map D.int).length k=some k.toNat:=by unfold ie;rw[ao h0,ao (by simp_all)]
 unfold vO;rw[h];simp only[iL,a,R.ja,c,b];simp
def HU{l:List Int}(hi:mi δ=.ok (l.map .int))(a:l.length<=1000):eZ mi [] 1 (b3 0) none (mC (.int 0)) δ=.ok (iL (List.replicate l.length 0)):=by exact f7 (iv hi (by grind) (lG _ _ _ fun k b=>rfl)) (by simp[iL,qj])
def zBE{n:Nat}(h:n<=1000):pG [.int (n:Int)]=some (iL (aH n)):=by have:pG [.int n]=cO _ _ _:=rfl;rw[this,gQ ⟨by omega,by omega⟩];simp[iL,aH]
def P7(h:ws.length<64):va [iL ws]=.ok (iL (bH ws)):=by refine gi ?_;show cU _ [.v _]=_;have e:xq (iL _)=some (iL _):=YB h;simp[cU,CN,e]
def yS(ws:List Int):(bH ws).Perm (aH ws.length):=(vY _ _).map _
def DA:∀x∈bH ws,0<=x/\x<ws.length:=fun x a=>aE.mp ((yS _).mem_iff.mp a)
def zwB(ws:List Int):(bH ws).Nodup:=(yS _).nodup_iff.mpr (sT _)
def P8{pre post:List Int}(h:aH n=pre++x::post):x=(pre.length:Int)/\pre.length<n:=by
 have a:=cK List.length h;rw[cZ,eJ,fK]at a;have e:(aH n)[pre.length]?=some x:=by simp_all
 rw[qB (by lia)]at e;simp_all
def HV(ws:List Int):rq (ws.map .int)=(aH ws.length).map fun k=>D.tup [.int k,.int (gA ws k)]:=by rw[AE];apply jS (by simp[aH]);intro i a b;simp at a;simp[aH,gA,a]
def yT(ws:List Int):(bH ws).length=ws.length:=by rw[(yS _).length_eq,cZ]
def yU(l:List Int)(x:Int):uniq (l++[x])=if x∈uniq l then uniq l else uniq l++[x]:=by
 have h:uniq (l++[x])=PyProof.Rows.step_dedup (uniq l) x:=by unfold uniq;simp
 rw[h];unfold PyProof.Rows.step_dedup;simp
def DB{P:List Int->Prop}(h0:P [])(h1:∀l x,P l->P (l++[x]))(l:List Int):P l:=by
 have:∀n(l:List _),l.length=n->P l:=by intro n;induction n with|zero=>simp_all|succ n d=>
  intro l e;have c:l≠[]:=fun z=>by simp_all
  rw[<-rQ c];simp_all
 simp_all
def kP(l:List Int):(uniq l).Nodup/\∀x,x∈uniq l↔x∈l:=by
 refine DB (P:=fun l=>(uniq l).Nodup/\∀x,x∈uniq l↔x∈l) ⟨by simp[uniq],fun x=>by rfl⟩ (fun l x d=>?_) l;rw[yU];by_cases c:x∈uniq l;.simp_all
 . rw[ak c];refine⟨el.mpr ⟨d.1,by simp,fun a f b e=>?_⟩,fun y=>?_⟩;.grind
   .rw[bJ,bJ,d.2]
def HW(l:List Int):(uniq l).length<=l.length:=by refine DB (P:=fun l=>(uniq l).length<=l.length) (by simp[uniq]) (fun l x a=>?_) l;rw[yU];grind
def P9(h:cs.length<=100):uZ [encC cs]=some (.int (uniq cs).length):=by unfold uZ encC;simp[pE];exact gQ (by lia)
def zlj(a b:Int):G0 [.int a,.int b]=.ok (.int (Int.gcd a b)):=by
 have j:∀z,(if z<0 then-z else z)=z.natAbs:=fun z=>by lia
 let f:Nat×Nat×Option D->En:=fun p=>[.v (.int a),.v (.int b),.v (.int p.1),.v (.int p.2.1),sv p.2.2];obtain⟨⟨x,y,r⟩,o,q,l,_⟩:=Wi (c:=GY) (m:=GZ) f (fun p=>decide (0<p.2.1)) (fun p=>(p.2.1,p.1%p.2.1,some _)) (fun p=>Nat.gcd p.1 p.2.1=Int.gcd a b) (fun p=>p.2.1) (fun p _=>by simp[f,GY,aR,aj,mC]) (fun p n s=>by
 have g:0<p.2.1:=by simp_all
 refine⟨?_,?_,Nat.mod_lt _ g⟩
 . have e:oMod (.int p.1) (.int p.2.1)=some (.int (p.1%p.2.1:Nat)):=by rw[gN (by lia)];simp
   have i:∀d,aQ 4 d _=some ((f p).set 4 _):=fun d=>jy rfl;simp[GZ,aq,aD,show aj 2 (f p)=.ok _ from rfl,show aj 3 (f p)=.ok _ from rfl,e,i];rfl
 .rw[Nat.gcd_comm,<-n,Nat.gcd_comm p.1,Nat.gcd_rec p.2.1 _]) (a.natAbs,b.natAbs,none) rfl;have k:x=Int.gcd a b:=by simp_all
 refine iA ?_;have h:OA [.v _,.v _,.v _,.v _,.no]=.nx [.v _,.v _,.v _,.v _,sv r]:=l;simp[OB,mI,aq,aD,aK,ai,af,aj,nM,j,aQ,h,aG,ag,k]
def zyc(d:0<b)(h1:b.natAbs<=10^1000):t9 [.int t,.int b]=.ok (.tup [.int (lo1 t b),.int (t_ t b)]):=by
 have i:Int.gcd t b<=b.natAbs:=Nat.le_of_dvd (by lia) (by have:=Int.gcd_dvd_right (a:=t) (b:=b);exact Int.natAbs_dvd_natAbs.mpr (by omega));have f:eN (Int.gcd t b):=dG (10^1000) (by lia);have h:¬b=0:=by lia
 have e:¬b<0:=by lia
 simp[t9,bE,mI,OC,aq,bg,aR,aj,mC,h,dC,aD,bu,ai,af,ag,(zlj t b),aQ,e,aG,fR,n_ _ f,sizeLine,lo1,t_]
noncomputable def cdiv(t b:Int):Int:=-((-t)/b)
def zBP(c:0<b):-((-lo1 t b)/t_ t b)=cdiv t b:=by
 have h:=HH (t:=t) (b:=b);unfold cdiv;have:(-t)/b=(-lo1 t b)/t_ t b:=by
  have e:-t=(-lo1 t b)*Int.gcd t b:=by rw[Int.neg_mul,(zBo)]
  have f:=Int.mul_ediv_mul_of_pos_left (-lo1 t b) (t_ t b) (HG (t:=t) c);simp_all
 rw[this]
def HX{t b R:Int}(a:0<b)(h:t<=b*R):cdiv t b<=R:=by
 unfold cdiv;have:-R<=(-t)/b:=by rw[Int.le_ediv_iff_mul_le a,Int.neg_mul,Int.mul_comm];lia
 lia
def P_(a:0<b):t<=b*cdiv t b:=by unfold cdiv;have:=Int.ediv_mul_le (-t) (show b≠0 by omega);rw[Int.mul_neg,Int.mul_comm b];omega
def zn7(c:0<b)(d:eN b):v8 [.tup [.int a,.int b]]=.ok (.int (-((-a)/b))):=by simp[v8,bE,mI,OD,aG,aj,mC,n_ c d]
def aS(z:List (Int×Int))(b:Int):Int:=((z.filter fun x=>decide (x.2=b)).map (·.1)).sum
def ub(z:List (Int×Int))(x:Int×Int)(b:Int):aS (z++[x]) b=aS z b+(if x.2=b then x.1 else 0):=by
 unfold aS;rw[List.filter_append];by_cases h:x.2=b;.rw[List.filter_cons_of_pos (by simp_all),ao h];simp
 .rw[List.filter_cons_of_neg (by simp_all),ak h];simp
def xK:List Int->Int|[]=>0|a::l=>dn l a
def yV(h:S≠[]):xK S∈S/\∀x∈S,x<=xK S:=by cases S with|nil=>simp_all|cons a l=>
 obtain⟨i,e,g⟩:=L2.fZ l a;refine⟨?_,fun b d=>?_⟩
 . rcases g with z|z;.show dn l a∈_;simp_all
   .exact bx _ z
 . rcases aM.mp d with z|z;.rwa[z]
   .exact e b z
def Qa(h:S≠[]):qU dn [iL S]=some (.int (xK S)):=by cases S with|nil=>simp_all|cons a l=>simp[qU,iL,pE,xK]
def jB(m:Nat)(ws put:List Int):Int:=xK ((aH m).map (aS (ws.zip put)))
def vd(h:0<m){f:Int->Int}:(aH m).map f≠[]:=fun e=>by have:=cK List.length e;rw[aF,cZ]at this;simp_all
def Qb{l r:List Int}:kZ (l.map .int) (r.map .int)=(l.zip r).map fun x=>D.tup [.int x.1,.int x.2]:=by unfold kZ;rw[List.zipWith_map,List.zip,List.map_zipWith]
def yW{m:Nat}{z:List (Int×Int)}{b:Int}(h0:0<=b)(h1:b<m):gA ((aH m).map f) b=f b:=by unfold gA;rw[cz,bX,qB (by omega)];simp[show(b.toNat)=b by omega]
def jH{m:Nat}{b y:Int}(h0:0<=b)(h1:b<m)(d:g b=y)(h:∀c,c≠b->g c=f c):((aH m).map f).set b.toNat y=(aH m).map g:=by
 apply iD;intro i;by_cases a:i<m
 . rw[bX,qB a];by_cases e:b.toNat=i;.subst e;rw[bf (by rwa[aF,cZ]),oz,show(b.toNat)=b by lia,d]
   .rw[aL e,bX,qB a,oz,oz,h _ (by lia)]
 .rw[fJ.mpr (by rw[ny,aF,cZ];lia),fJ.mpr (by rw[aF,cZ];lia)]
def HY{m:Nat}{w b:Int}(h0:0<=b)(h1:b<m):((aH m).map (aS z)).set b.toNat (gA ((aH m).map (aS z)) b+w)=(aH m).map (aS (z++[(w,b)])):=by
 refine jH h0 h1 ?_ fun c a=>?_;.rw[yW (z:=z) h0 h1,ub,ao rfl]
 .rw[ub,ak (aN a),Int.add_zero]
def ve(m:Nat):(aH m).map (aS [])=List.replicate m 0:=by have a:(aH m).map (aS [])=(aH m).map fun _=>0:=fO fun _ _=>rfl;rw[a,qj,cZ]
def HZ:yE [iL l,encC cs]=some ((l.zip cs).map fun x=>D.tup [.int x.1,.int x.2]):=by unfold yE iL encC;simp;rw[Qb]
def Qc{m:Nat}(b:m<=100)(h:ag i δ=.ok (.int m)):eZ (bw (ai (ag i) af)) [] 1 (b3 0) none (mC (.int 0)) δ=.ok (iL (List.replicate m 0)):=by have:=HU (l:=aH m) (δ:=δ) (mi:=bw (ai (ag i) af)) (by simp[bw,ai,af,h,gg (show m<=1000 by omega)]) (by rw[cZ];omega);rw[cZ]at this;omega
def zrm{m:Nat}{ws cs:List Int}(y:0<m)(e:m<=100)(p:∀b∈cs,0<=b/\b<m):Hl [iL ws,.int m,encC cs]=.ok (.int (jB m ws cs)):=by
 obtain⟨C,l⟩:=zaa (encC cs);obtain⟨h,s,c,d,rfl⟩:=jo (b:=c5 2 (cB (aQ 4) (cB (aQ 5) cw))) (fun x=>D.tup [.int x.1,.int x.2]) (fun a h=>∃c d,h=[.v (iL ws),.v (.int m),.v C,.o (iL ((aH m).map (aS a))),sv c,sv d]) (ws.zip cs) (by
 rintro a ⟨w,b⟩ k h n ⟨c,d,rfl⟩;have g:=p b (dR (show(w,b)∈ws.zip _ by simp_all)).2;have t:b.toNat<((aH m).map (aS a)).length:=by rw[aF,cZ];lia
 have q:=PF (f:=fun i j=>i+j) (i:=3) (mi:=ag 5) (me:=ag 4) (δ:=[.v (iL ws),.v (.int m),.v C,.o _,.v (.int w),.v _]) rfl rfl g.1 t rfl;rw[HY g.1 g.2]at q;refine⟨_,_,?_,.inl q,some _,some _,rfl⟩;rcases c with _|c<;>rcases d with _|d<;>rfl) [.v _,.v _,.v C,.o _,.no,.no] ⟨none,none,by rw[ve];rfl⟩;refine iA ?_;rw[<-l];have u:O5 [.v (iL ws),.v (.int m),.v C,.o (iL (List.replicate m 0)),.no,.no]=.nx [.v (iL ws),.v (.int m),.v C,.o (iL ((aH m).map (aS (ws.zip cs)))),sv c,sv d]:=by refine(jn ?_).trans s;rw[l];simp[xy,ai,af,ag,HZ]
 refine gK (_) (Qc e rfl) rfl ((bG u).trans ?_);simp[aG,aK,ai,af,aj,Qa (vd y),jB]
def up(t b:Int):Int:=if t<=0 then 0 else cdiv t b
def Qd(a:0<b)(h1:b<=1000000000000000000):(t9 [.int t,.int b]).bind (fun d=>v8 [d])=.ok (.int (cdiv t b)):=by rw[(zyc a (bo (show b.natAbs<=1000000000000000000 by lia) (by decide))),R.aA];have f:=zAv (t:=t) a;rw[zn7 (zAO a) (dG 1000000000000000000 (by lia)),zBP a]
def H_(a:0<b):up t b=(if 0<cdiv t b then cdiv t b else 0):=by
 unfold up;by_cases c:t<=0;.have:=HX a (show t<=b*0 by lia);lia
 .have:=P_ (t:=t) a;apply nh;intro z;have:b*cdiv t b<=0:=Int.mul_nonpos_of_nonneg_of_nonpos (by lia) (by lia);lia
def kD(m:Nat)(cs:List Int):List Int:=aH (if(uniq cs).length+1<m then(uniq cs).length+1 else m)
def b_(ws:List Int):List Int:=(bH ws).map (gA ws)
def mO(ws:List Int):(b_ ws).length=ws.length:=by unfold b_;rw[aF,yT]
def Ia:∀x∈b_ ws,x∈ws:=fun x b=>by obtain⟨k,a,rfl⟩:=bT.mp b;have:=DA k a;exact eL (sU (by lia))
def k7(m:Nat)(ws cs:List Int):Int:=if cdiv ws.sum m<jB m (b_ ws) cs then jB m (b_ ws) cs else cdiv ws.sum m
def qC(m:Int)(ws:List Int):D:=.obj 8 ["many","order","falling","least"] [.int m,iL (bH ws),iL (b_ ws),.int (cdiv ws.sum m)]
def n1:¬(("many":Str)="order"):=by decide
def n2:¬(("many":Str)="falling"):=by decide
def n3:¬(("many":Str)="least"):=by decide
def n4:¬(("order":Str)="falling"):=by decide
def n5:¬(("order":Str)="least"):=by decide
def n6:¬(("falling":Str)="least"):=by decide
def n7:¬(("room":Str)="order"):=by decide
def n8:¬(("room":Str)="falling"):=by decide
def Qe(l:List Int):nL (l.map .int)=true:=by induction l with|nil=>rfl|cons a l c=>simp[nL,mV,c]
def Qf(l:List Int):allI (l.map .int)=true:=by induction l with|nil=>rfl|cons a l c=>simp[allI,c]
def Qg(e:ws.length<=63)(h:bh u_ "order" (.obj c ks l)=some (iL (bH ws))):eZ (bN (m1 (bh u_ "order") (aj 0))) [1] 1 (b3 1) none (m2 aJ (aj 0) (aj 1)) [.v (.obj c ks l),.v (iL ws),s]=.ok (iL (b_ ws)):=by have f:=yT ws;refine f7 (iv (l:=(bH ws).map .int) (r:=(bH _).map fun k=>.int (gA ws k)) (by simp[bN,aj,h]) (by grind) (lG _ _ _ fun k b=>?_)) (by simp[iL,b_]);have:=DA k b;simp[gh,cP,jv,b3,aj,(v_ (L:=ws) this.1 (by lia))]
def zuh(n:0<m)(j:m<=100)(i:ws.length<=63):G3 [iL ws,.int m]=.ok (qC m ws):=by
 have h:G2 [.no,.v (iL ws),.v (.int m)] [] []=.ok (["many","order","falling","least"],[.int m,iL (bH ws),iL (b_ ws),.int (cdiv ws.sum m)]):=by
  unfold G2 fD;have k:lH "many" (ag 2) [.no,.v (iL ws),.v (.int m)] [] []=.ok (["many"],[.int m]):=by simp[lH,ag,mV,putN,fC]
  have g:bu va (ai (ag 1) af) [.no,.v (iL ws),.v (.int m)]=.ok (iL (bH ws)):=by simp[bu,ai,af,ag,P7 (show ws.length<64 by lia)]
  have p:qY "order" (bu va (ai (ag 1) af)) [.no,.v (iL ws),.v (.int m)] ["many"] [.int m]=.ok (["many","order"],[.int m,iL (bH ws)]):=by have e:∃a,iL (bH ws)=D.lst a/\nL a=true:=⟨_,rfl,Qe _⟩;simp[qY,g,e,putN,fC,n1]
  have u:vZ 8 "falling" G1 [.no,.v (iL ws),.v (.int m)] ["many","order"] [.int m,iL (bH ws)]=.ok (["many","order","falling"],[.int m,iL (bH ws),iL (b_ ws)]):=by have e:∃a,iL (b_ ws)=D.lst a/\allI a=true:=⟨_,rfl,Qf _⟩;unfold vZ;rw[show G1 (List.set [.no,.v _,.v _] 0 _)=.ok _ from(Qg i rfl)];simp[e,putN,fC,n2,n4]
  have r:=Qd (t:=ws.sum) (by omega) (by lia);have o:lH "least" (bu v8 (ai (nY t9 (ai (aK e_ (ai (aj 1) af)) (ai (ag 2) af))) af)) [.no,.v (iL ws),.v (.int m)] ["many","order","falling"] [.int m,iL (bH ws),iL (b_ ws)]=.ok (["many","order","falling","least"],[.int m,iL (bH ws),iL (b_ ws),.int (cdiv ws.sum m)]):=by
   have s:bu v8 (ai (nY t9 (ai (aK e_ (ai (aj 1) af)) (ai (ag 2) af))) af) [.no,.v (iL ws),.v (.int m)]=.ok (.int (cdiv ws.sum m)):=by cases q:t9 _ with|ok d=>rw[q,R.aA]at r;simp[bu,nY,ai,af,ag,aK,aj,xI,q,r]|_=>simp_all
   simp[lH,s,mV,putN,fC,n3,n5,n6]
  simp_all
 show R.bind _ _=_;simp[bR];rw[h];rfl
section
variable{m:Int}{ws:List Int}
def Qh:bh rE "many" (qC m ws)=some (.int m):=rfl
def zxQ:bh u_ "order" (qC m ws)=some (iL (bH ws)):=rfl
def ztE:bh qz "falling" (qC m ws)=some (iL (b_ ws)):=rfl
def zyJ:bh GI "least" (qC m ws)=some (.int (cdiv ws.sum m)):=rfl
end
def zqQ:C4 [qC m ws]=.ok (.int ws.length):=by
 refine iA ?_;show aG _ [.v _]=_;have a:au [iL (b_ ws)]=some (.int ws.length):=by rw[<-mO _];simp
 simp[aG,aK,ai,af,aj,ztE,a]
def zt1{m:Nat}(d:m<=100)(e:cs.length<=100):C_ [qC m ws,encC cs]=.ok (iL (kD m cs)):=by
 refine gi ?_;show aq _ _ [.v (qC m ws),.v (encC cs),.no]=_;refine gK [.v _,.v _,.v (.int (uniq cs).length)] (by simp[aK,ai,af,ag,P9 e]) rfl ?_;have a:vV [.int ((uniq cs).length+1),.int m]=some (.int (if(uniq cs).length+1<m then(uniq cs).length+1 else m:Nat)):=by show some _=_;grind
 simp[cU,uT,ai,af,aK,aj,mC,Qh,a,(zBE (n:=if(uniq cs).length+1<m then(uniq cs).length+1 else m) (by lia)),kD]
def zxO{k:Nat}(h:ma δ=.ok (iL l))(a:mh δ=.ok (.int k))(b:k<=l.length):mW ma jx (kr mh) δ=.ok (iL (l.take k)):=by simp[mW,h,jx,kr,a,iL,(Wt (l:=l.map _) (k:=k) (by simp_all))]
def zx3{k:Nat}(h:ma δ=.ok (iL l))(a:mh δ=.ok (.int k))(b:k<=l.length):mW ma (kr mh) jx δ=.ok (iL (l.drop k)):=by simp[mW,h,jx,kr,a,iL,(MG (l:=l.map _) (k:=k) (by simp_all))]
def Qi(l cs:List Int):(l.take cs.length).zip cs=l.zip cs:=by induction cs generalizing l with|nil=>simp|cons c cs e=>cases l with|nil=>rfl|cons a l=>simp[e]
def zvK{m:Nat}{ws cs:List Int}(h:0<m)(b:m<=100)(a:cs.length<=ws.length)(g:∀c∈cs,0<=c/\c<m):Ba [qC m ws,encC cs]=.ok (.int (k7 m ws cs)):=by
 refine iA ?_;have e:au [encC cs]=some (.int cs.length):=by simp[encC]
 show aq _ _ [.v (qC m _),.v (encC cs),.no]=_;refine gK [.v _,.v _,.v (iL ((b_ _).take cs.length))] (zxO rfl (by simp[aK,ai,af,aj,e]) (by rwa[mO])) rfl ?_;have hv:=zrm (ws:=(b_ ws).take cs.length) h b g;have d:jB m ((b_ ws).take cs.length) cs=jB m (b_ ws) cs:=by unfold jB;rw[Qi]
 rw[d]at hv;have f:yq [.int (cdiv ws.sum m),.int (jB m _ cs)]=some (.int (k7 m _ _)):=rfl;simp[aG,aK,ai,af,aj,zyJ,Qh,bu,ag,hv,f]
def nB(cs:List Int):Nat:=(uniq cs).length
def Cn(cs:List Int):Prop:=∀p c q,cs=p++c::q->0<=c/\c<=(nB p:Int)
def zBD(h:Cn (p++q)):Cn p:=fun b c a e=>h _ c (a++q) (by simp_all)
def Qj(cs:List Int):Cn cs->uniq cs=aH (nB cs):=by
 refine DB (P:=fun cs=>Cn cs->uniq cs=aH _) (fun _=>rfl) (fun l x a h=>?_) _;have e:=a (zBD h);have b:=h l x _ rfl;unfold nB at e b⊢;rw[yU];by_cases c:x∈uniq l;.grind
 .rw[ak c,eJ,jT,Dw];rw[e,aE]at c;grind
def DC(h:Cn cs):∀c∈cs,0<=c/\c<(nB cs:Int):=fun c b=>by have:=((kP _).2 c).mpr b;rw[Qj _ h]at this;exact aE.mp this
def zCW(h:Cn cs):nB (cs++[c])=if 0<=c/\c<(nB cs:Int)then nB cs else nB cs+1:=by
 have:c∈uniq cs↔0<=c/\c<nB cs:=by rw[(Qj _ h)];exact aE
 unfold nB at*;rw[yU];by_cases z:c∈uniq cs;.grind
 .rw[ak z,ak (fun w=>z (this.mpr w)),eJ];rfl
def zBY(h:Cn cs)(h0:0<=c)(h1:c<=(nB cs:Int)):Cn (cs++[c]):=by
 intro p d q e;rcases jR q with z|⟨a,x,z⟩;.simp_all
 . have f:cs++[c]=(p++d::a)++[x]:=by simp_all
   obtain⟨b,_⟩:=List.append_inj' f rfl;exact h p _ _ b
def DE(cs:List Int):nB cs<=cs.length:=HW _
def Bt(h:b∉z.map (·.2)):aS z b=0:=by
 unfold aS;rw[List.filter_eq_nil_iff.mpr];.rfl
 .intro x a e;exact h (bT.mpr ⟨x,a,by simp_all⟩)
def Bu{l cs:List Int}(h:cs.length<=l.length):(l.zip cs).map (·.2)=cs:=by induction cs generalizing l with|nil=>simp|cons c cs e=>cases l with|nil=>simp at h|cons a l=>simp_all
def kE(r:Int)(ws cs:List Int):Int:=(nB cs:Int)+up (((b_ ws).drop cs.length).sum-(nB cs:Int)*r+((aH (nB cs)).map (aS ((b_ ws).zip cs))).sum) r
def jC(r:Int)(ws cs:List Int):List Int:=((aH (nB cs)).filter fun k=>decide (aS ((b_ ws).zip cs) k+gA (b_ ws) cs.length<=r))++[(nB cs:Int)]
def iU(r:Int)(ws:List Int):D:=.obj 9 ["room","order","falling"] [.int r,iL (bH ws),iL (b_ ws)]
def zvv(h:∀w∈ws,w<=r):A' [iL ws,.int r]=.ok .non:=by
 obtain⟨W,o⟩:=zaa (iL ws);obtain⟨g,n,a,d,rfl⟩:=jo (b:=c5 2 (cB (aQ 2) (cB (aQ 3) cw))) (m:=OG) (fun k=>D.tup [.int k,.int _]) (fun f g=>∃a d,g=[.v W,.v (.int r),sv a,sv d]) (aH ws.length) (by
 rintro f k j g l ⟨a,d,rfl⟩;have p:k∈aH ws.length:=by simp_all
 obtain⟨t,s⟩:=aE.mp p;have:=h _ (eL (sU (i:=k) (by lia)));have c:=by omega
 refine⟨[.v W,.v (.int r),.v (.int k),.v (.int (gA ws k))],[.v W,.v _,.v (.int k),.v (.int (gA ws k))],?_,.inl ?_,some _,some _,rfl⟩;.rcases a with _|a<;>rcases d with _|d<;>rfl
 .show bg _ _ _ _=_;rw[iK (by simp[aR,aj,c])];rfl) _ ⟨none,none,rfl⟩;have q:OH [.v W,.v (.int r),.no,.no]=.nx [.v W,.v (.int r),sv a,sv d]:=by refine(jn ?_).trans n;rw[o];simp[px,ai,af,ag,uJ,mG,iL,HV]
 have:A' [W,.int r]=.ok .non:=by show bE 2 2 _ _=_;unfold bE;rw[ao (show[W,D.int r].length=2 from rfl)];have e:OI (mI 2 [W,.int r])=.nx _:=q;rw[e]
 simp_all
def zx9(e:ws.length<=63)(d:∀w∈ws,w<=r):G7 [iL ws,.int r]=.ok (iU r ws):=by
 have h:G6 [.no,.v (iL ws),.v (.int r)] [] []=.ok (["room","order","falling"],[.int r,iL (bH ws),iL (b_ ws)]):=by
  unfold G6 fD;have i:sL (nY A' (ai (ag 1) (ai (ag 2) af))) [.no,.v (iL ws),.v (.int r)] [] []=.ok ([],[]):=by simp[sL,nY,ai,af,ag,zvv d]
  have m:lH "room" (ag 2) [.no,.v (iL ws),.v (.int r)] [] []=.ok (["room"],[.int r]):=by simp[lH,ag,mV,putN,fC]
  have g:bu va (ai (ag 1) af) [.no,.v (iL ws),.v (.int r)]=.ok (iL (bH ws)):=by simp[bu,ai,af,ag,P7 (show ws.length<64 by lia)]
  have k:qY "order" (bu va (ai (ag 1) af)) [.no,.v (iL ws),.v (.int r)] ["room"] [.int r]=.ok (["room","order"],[.int r,iL (bH ws)]):=by have b:∃a,iL (bH ws)=D.lst a/\nL a=true:=⟨_,rfl,Qe _⟩;simp[qY,g,b,putN,fC,n7]
  have j:vZ 9 "falling" G5 [.no,.v (iL ws),.v (.int r)] ["room","order"] [.int r,iL (bH ws)]=.ok (["room","order","falling"],[.int r,iL (bH ws),iL (b_ ws)]):=by have b:∃a,iL (b_ ws)=D.lst a/\allI a=true:=⟨_,rfl,Qf _⟩;unfold vZ;rw[show G5 (List.set [.no,.v _,.v _] 0 _)=.ok _ from(Qg e rfl)];simp[b,putN,fC,n8,n4]
  simp_all
 show R.bind _ _=_;simp[bR];rw[h];rfl
section
variable{r:Int}{ws:List Int}
def zxM:bh u_ "order" (iU r ws)=some (iL (bH ws)):=rfl
def ztZ:bh qz "falling" (iU r ws)=some (iL (b_ ws)):=rfl
end
def zuL:C5 [iU r ws]=.ok (.int ws.length):=by
 refine iA ?_;show aG _ [.v _]=_;have a:au [iL (b_ ws)]=some (.int ws.length):=by rw[<-mO _];simp
 simp[aG,aK,ai,af,aj,ztZ,a]
def zyw:((aH n).map fun b=>r-f b).sum=(n:Int)*r-((aH n).map f).sum:=by
 have h:=HC (f:=fun b=>r-f b) (g:=f) (l:=aH n);have e:(aH n).map (fun x=>(r-f x)+f x)=(aH n).map fun _=>r:=fO fun x _=>by lia
 rw[e,PB,cZ]at h;lia
def Qk(H:cs.length<=100)(s:Cn cs):C0 [iU r ws,encC cs]=.ok (iL ((aH (nB cs)).map fun b=>r-aS ((b_ ws).zip cs) b)):=by
 obtain⟨C,n⟩:=zaa (encC cs);obtain⟨B,p⟩:=zaa (iU r ws);have T:=DE cs;have J:bh qz "falling" B=some (iL (b_ ws)):=by rw[p];rfl
 have S:bh xF "room" B=some (.int r):=by rw[p];rfl
 have K:uZ [C]=some (.int (nB cs)):=by rw[n];exact P9 H
 obtain⟨t,Q,e,d,rfl⟩:=jo (b:=c5 2 (cB (aQ 3) (cB (aQ 4) cw))) (m:=O7) (fun x:Int×Int=>D.tup [.int x.1,.int x.2]) (fun a t=>∃e d,t=[.v B,.v C,.o (iL ((aH (nB cs)).map fun c=>r-aS a c)),sv e,sv d]) ((b_ ws).zip cs) (by
  rintro a ⟨w,b⟩ A t E ⟨e,d,rfl⟩;have g:=DC s b (dR (show(w,b)∈(b_ ws).zip cs by simp_all)).2;have u:b.toNat<((aH (nB cs)).map fun c=>r-aS a c).length:=by rw[aF,cZ];lia
  have q:=PF (f:=fun i j=>i-j) (i:=2) (mi:=ag 4) (me:=ag 3) (δ:=[.v B,.v C,.o (iL ((aH (nB cs)).map fun c=>r-aS a c)),.v (.int w),.v (.int b)]) (k:=b) (y:=w) rfl rfl g.1 u rfl;have G:((aH (nB cs)).map fun c=>r-aS a c).set b.toNat (gA ((aH (nB cs)).map fun c=>r-aS a c) b-w)=(aH (nB cs)).map fun c=>r-aS (a++[(w,b)]) c:=by
   refine jH g.1 g.2 ?_ fun c s=>?_;.rw[yW (z:=[]) g.1 g.2,ub];lia
   .rw[ub,ak (aN s),Int.add_zero]
  rw[G]at q;refine⟨[.v B,.v C,.o (iL ((aH (nB cs)).map fun c=>r-aS a c)),.v (.int w),.v (.int b)],[.v B,.v C,.o _,.v (.int w),.v (.int b)],?_,.inl ?_,some _,some _,rfl⟩;.rcases e with _|e<;>rcases d with _|d<;>rfl
  .exact q) [.v B,.v C,.o (iL (List.replicate (nB cs) r)),.no,.no] ⟨none,none,by
  have:(aH (nB cs)).map (fun c=>r-aS [] c)=List.replicate (nB cs) r:=by
   have L:(aH (nB cs)).map (fun c=>r-aS [] c)=(aH _).map _:=fO fun c _=>by show r-0=r;lia
   rw[L,qj,cZ]
  simp_all⟩;refine gi ?_;rw[<-n,<-p];have I:O6 [.v B,.v C,.no,.no,.no]=.ok (iL (List.replicate (nB cs) r)):=by
  refine f7 (iv (l:=(aH (nB cs)).map .int) (r:=(aH (nB cs)).map fun _=>.int r) ?_ (by rw[aF,cZ];lia) ?_) ?_;.simp[bw,aK,ai,af,ag,K,gg (show nB cs<=1000 by lia)]
  .refine lG _ _ _ fun k _=>?_;simp[gh,cP,jv,b3,aj,S]
  .rw[qj,cZ];simp[iL]
 have N:O8 [.v B,.v C,.o (iL (List.replicate (nB cs) r)),.no,.no]=.nx [.v B,.v C,.o (iL ((aH (nB cs)).map fun c=>r-aS ((b_ ws).zip cs) c)),sv e,sv d]:=by refine(jn ?_).trans Q;have:=HZ (l:=b_ ws) (cs:=cs);rw[<-n]at this;simp[xy,ai,af,ag,aj,J,this]
 exact gK (_) I rfl ((bG N).trans rfl)
def DF(a:m∉(["room","order","falling"]:List Str)):PM.isObj 9 m (iU r ws)=some ():=by show(if 9=9/\m∉(["room","order","falling"]:List Str)then some _ else none)=some _;simp_all
def DG(a:n∉(["many","order","falling","least"]:List Str)):PM.isObj 8 n (qC m ws)=some ():=by show(if 8=8/\n∉(["many","order","falling","least"]:List Str)then some _ else none)=some _;simp_all
def zxT(J:ws.length<=100)(G:cs.length<ws.length)(A:Cn cs):C' [iU r ws,encC cs]=.ok (iL (jC r ws cs)):=by
 have j:=Qk (r:=r) (ws:=ws) (show cs.length<=100 by lia) A;obtain⟨C,m⟩:=zaa (encC cs);obtain⟨B,e⟩:=zaa (iU r ws);have I:=DE cs;have s:PM.isObj 9 "free" B=some ():=by rw[e];rfl
 have w:bh qz "falling" B=some (iL (b_ ws)):=by rw[e];rfl
 have H:au [C]=some (.int cs.length):=by rw[m];simp[encC]
 rw[<-m,<-e]at j;obtain⟨L,f⟩:=zaa ((aH (nB cs)).map fun b=>r-aS ((b_ ws).zip cs) b);rw[<-f]at j;have q:L.length=nB cs:=by rw[f,aF,cZ]
 refine gi ?_;rw[<-m,<-e];have E:aJ (iL (b_ ws)) (.int cs.length)=some (.int (gA (b_ ws) cs.length)):=v_ (by lia) (by rw[mO];lia);have n:Pf [.v B,.v C,.v (iL L),.v (.int (gA (b_ ws) cs.length))]=.ok (iL ((aH (nB cs)).filter fun k=>decide (aS ((b_ ws).zip cs) k+gA (b_ ws) cs.length<=r))):=by
  refine iv (l:=(aH (nB cs)).map fun k=>D.tup [.int k,.int (gA L k)]) ?_ (by grind) ?_;.have:=HV L;rw[q]at this;simp[px,ai,af,aj,uJ,mG,iL,this]
  . refine PD (fun k=>D.tup [.int k,.int (gA L k)]) _ .int _ fun k y=>?_;obtain⟨u,o⟩:=aE.mp y;have g:gA L k=r-aS ((b_ ws).zip cs) k:=by rw[f,yW (z:=[]) u o]
    by_cases c:aS ((b_ ws).zip cs) k+gA (b_ ws) cs.length<=r
    . have h:gA (b_ ws) cs.length<=gA L k:=by lia
      simp[gh,cP,jv,c5,cB,cw,b3,aR,aj,ag,c,h]
    . have h:¬gA (b_ ws) cs.length<=gA L k:=by lia
      simp[gh,cP,jv,c5,cB,cw,b3,aR,aj,c,h]
 show aq _ _ [.v B,.v C,.no,.no]=_;refine gK (d:=iL L) [.v B,.v C,.v (iL L),.no] (by simp[dH,ag,ai,af,s,j]) rfl (gK (d:=.int (gA (b_ ws) cs.length)) [.v B,.v C,.v (iL L),.v (.int (gA (b_ ws) cs.length))] (by simp[aj,aK,ai,af,w,H,E]) rfl ?_);have t:au [iL L]=some (.int (nB cs)):=by simp_all
 have fl:((aH (nB cs)).filter fun k=>decide (aS ((b_ ws).zip cs) k+gA (b_ ws) cs.length<=r)).length<=100:=by grind
 unfold jC;generalize((aH (nB cs)).filter fun k=>decide (aS _ k+gA _ _<=r))=Y at fl n⊢;have i:iu (iL Y) (.lst [.int (nB cs)])=some (iL (Y++[(nB cs:Int)])):=by refine(MH (by grind)).trans ?_;simp[iL]
 simp[cU,bA,ai,af,aj,aK,n,t,sizeLine,i]
def Bv(h:ma δ=.ok (iL l)):aK e_ (ai ma af) δ=.ok (.int l.sum):=by unfold aK ai;rw[h];simp[af,xI]
def zz0(j:0<r)(e:r<=1000000000000000000)(H:ws.length<=100)(g:cs.length<=ws.length)(A:Cn cs):Bb [iU r ws,encC cs]=.ok (.int (kE r ws cs)):=by
 have i:=Qk (r:=r) (ws:=ws) (show cs.length<=100 by lia) A;obtain⟨C,h⟩:=zaa (encC cs);obtain⟨B,a⟩:=zaa (iU r ws);have x:PM.isObj 9 "free" B=some ():=by rw[a];rfl
 have m:bh qz "falling" B=some (iL (b_ ws)):=by rw[a];rfl
 have y:bh xF "room" B=some (.int r):=by rw[a];rfl
 have s:au [C]=some (.int cs.length):=by rw[h];simp[encC]
 rw[<-h,<-a]at i;obtain⟨L,f⟩:=zaa ((aH (nB cs)).map fun b=>r-aS ((b_ ws).zip cs) b);rw[<-f]at i;have J:L.length=nB cs:=by rw[f,aF,cZ]
 have G:L.sum=nB cs*r-((aH (nB cs)).map (aS ((b_ ws).zip cs))).sum:=by rw[f];exact zyw
 refine iA ?_;rw[<-h,<-a];have p:aD (m2 ip (aK e_ (ai (mW (m1 (bh qz "falling") (aj 0)) (kr (aK au (ai (aj 1) af))) jx) af)) (aK e_ (ai (aj 2) af))) (aQ 3) [.v B,.v C,.v (iL L),.no]=.nx [.v B,.v C,.v (iL L),.v (.int (((b_ ws).drop cs.length).sum-L.sum))]:=by
  refine iW ?_ rfl;have K:=Bv (zx3 (δ:=[.v B,.v C,.v (iL L),.no]) (ma:=m1 (bh qz "falling") (aj 0)) (mh:=aK au (ai (aj 1) af)) (l:=b_ ws) (k:=cs.length) (by simp[aj,m]) (by simp[aK,ai,af,aj,s]) (by rw[mO];exact g));have E:aK e_ (ai (aj 2) af) [.v B,.v C,.v (iL L),.no]=.ok (.int L.sum):=by simp[aK,ai,af,aj,xI]
  simp_all
 show aq _ _ [.v B,.v C,.no,.no]=_;refine gK [.v B,.v C,.v (iL L),.no] (by simp[dH,ag,ai,af,x,i]) rfl ((bG p).trans ?_);have z:au [iL L]=some (.int (nB cs)):=by simp_all
 have c:=Qd (t:=((b_ ws).drop cs.length).sum-L.sum) j e;have u:nB cs+(if 0<cdiv (((b_ ws).drop cs.length).sum-L.sum) r then cdiv (((b_ ws).drop cs.length).sum-L.sum) r else 0)=kE r ws cs:=by rw[<-H_ j];unfold kE;grind
 have n:yq [.int 0,.int (cdiv (((b_ ws).drop cs.length).sum-L.sum) r)]=some _:=rfl;cases q:t9 _ with|ok d=>rw[q,R.aA]at c;rw[<-u];simp[aG,aK,ai,af,aj,mC,z,bu,nY,ag,y,q,c,n]|_=>rw[q]at c;cases c
def zB4(z:Int):nM [.int z]=some (.int (z.natAbs:Int)):=by have:nM [.int z]=some _:=rfl;grind
def DH{n:Nat}(h:∀a b:Int,0<=a->a<n->0<=b->b<n->d a b=e a b):aW n d=aW n e:=by refine fO fun a f=>fO fun b c=>?_;obtain⟨k,j⟩:=aE.mp f;obtain⟨g,i⟩:=aE.mp c;simp_all
def Ql{pre post:List Int}(h:aH n=pre++x::post):x=pre.length/\pre.length<n/\pre=aH pre.length:=by
 have d:(aH n).length=n:=cZ;have b:pre.length<n:=by grind
 refine⟨?_,b,?_⟩
 . have a:(aH n)[pre.length]?=some x:=by simp_all
   rw[qB b]at a;simp_all
 . apply iD;intro i;by_cases c:i<pre.length
   . have a:(aH n)[i]?=pre[i]?:=by grind
     rw[qB c,<-a,qB (by lia)]
   .rw[fJ.mpr (by lia),fJ.mpr (by rw[cZ];lia)]
def Qm{α:Type}(enc:α->D)(g:α->List Int)(l:List α)(h:∀x∈l,f (enc x)=.ok (g x)):qV f (l.map enc)=.ok (l.map g):=by induction l with|nil=>rfl|cons a l d=>rw[bR,qV,h a (by simp),d fun x c=>h x (by simp[c])];rfl
def Qn(d:Int->Int->Int)(L:List (Int×Int)):Int:=(L.map fun p=>d p.1 p.2).sum
noncomputable def path(d:Int->Int->Int):List Int->Int|a::b::l=>d a b+path d (b::l)|_=>0
theorem Bw(d:Int->Int->Int):∀(l:List Int)(a x y:Int),path d (a::(l++[x,y]))=path d (a::(l++[x]))+d x y|[],a,x,y=>by simp[path]|c::l,a,x,y=>by have:=Bw d l c x y;show d a c+path d (c::(l++[x,y]))=d a c+path d (c::(l++[x]))+d x y;lia
def rH(d:Int->Int->Int):List Int->Int|[]=>0|a::l=>path d (a::(l++[a]))
noncomputable def cp:List Int->List (Int×Int)|a::b::l=>(a,b)::cp (b::l)|_=>[]
theorem Ib(d:Int->Int->Int):∀l:List Int,Qn d (cp l)=path d l|[]=>rfl|[_]=>rfl|a::b::l=>by have:=Ib d (b::l);show d a b+Qn d _=d a b+path d _;rw[this]
def Qo(d:Int->Int->Int)(l:List Int)(w:Int):rH d (l++[w])=path d (l++[w])+d w ((l++[w]).headD 0):=by cases l with|nil=>show d w w+0=0+d w w;lia|cons a l=>show path d (a::((l++[w])++[a]))=path d _+d w a;rw[jP];exact Bw d l a w a
def Ie:aJ (iL (l++[w])) (.int (-1))=some (.int w):=by
 show iI _ _=_;unfold iI ie;rw[ak (by decide),aF,eJ,jT,ao (by lia)];have:((-1:Int)+(l.length+1:Nat)).toNat=l.length:=by lia
 simp only[this];simp
def zxz:aJ (iL (a::l)) (.int 0)=some (.int a):=by show iI _ 0=_;unfold iI ie;simp
def zAb:aJ (iL (l++[w])) (.int 0)=some (.int ((l++[w]).headD 0)):=by cases l with|nil=>rfl|cons a l=>exact zxz
theorem Ig:∀l:List Int,cp l=(List.range (l.length-1)).map fun k=>(l.getD k 0,l.getD (k+1) 0)|[]=>rfl|[_]=>rfl|a::b::l=>by have:=Ig (b::l);show(a,b)::cp _=_;rw[this];show _=(List.range (l.length+1)).map _;rw[List.range_succ_eq_map,bR,cg];rfl
def Qp{l:List Int}(h:k<l.length):aJ (iL l) (.int k)=some (.int (l.getD k 0)):=by show iI _ k=_;unfold iI ie;simp[h]
def zop{n:Nat}(C:l≠[])(I:l.length<=100)(c:∀v∈l,0<=v/\v<(n:Int)):C3 [bp (aW n d),iL l]=.ok (.int (path d l)):=by
 obtain⟨T,m⟩:=zaa (bp (aW n d));have h:∀a:Int,0<=a->a<n->aJ T _=some _:=fun a A y=>by rw[m];exact Bs A y
 rw[<-m];have G:=List.length_pos_iff.mpr C;have u:au [iL l]=some (.int l.length):=by simp
 have x:bw (ai (m2 ip (aK au (ai (aj 1) af)) (mC (.int 1))) af) [.v T,.v (iL l)]=.ok ((List.range (l.length-1)).map fun k:Nat=>.int k):=by
  have e:(l.length:Int)-1=(l.length-1:Nat):=by lia
  simp[bw,ai,af,mC,aK,aj,R.bI];rw[e];refine(cK _ (gg (by lia))).trans ?_;unfold aH;simp
 have E:Pd [.v T,.v (iL l)]=.ok (iL ((cp l).map fun p=>d p.1 p.2)):=by
  unfold iL;rw[Ig,cg,cg];refine iv x (by simp;lia) ?_;have e:cP [.v T,.v (iL l)] [0,1] 1=[.v T,.v _,.no]:=rfl;unfold iL at e;rw[e];refine lG _ _ _ fun k z=>?_;have H:=gZ.mp z;have q:=Qp (l:=l) (k:=k) (by lia);have i:=Qp (l:=l) (k:=k+1) (by lia);rw[show((k+1:Nat):Int)=k+1 by lia]at i;have g:∀j,j<l.length->l.getD j 0∈l:=fun j w=>by rw[cz,b8 w];simp
  have o:=c _ (g k (by lia));have m1:=c _ (g (k+1) (by lia));have b:b3 2 (.int k) [.v T,.v (.lst (l.map .int)),.no]=some _:=rfl;unfold iL at q i;simp[gh,b];simp only[aj,mC,List.getElem?_cons_succ,List.getElem?_cons_zero,R.aA,q,i,R.bI,(h _ o.1 o.2),Cu,(sY m1.1 m1.2)];rfl
 refine iA ?_;show aG _ [.v T,.v _]=_;have e:((cp l).map _).sum=path d l:=Ib d l;simp only[aG,aK,ai,af,E,R.aA,(xI _),e];rfl
def zlS(J:hR n B d)(M:l≠[])(H:l.length<=100)(i:∀v∈l,0<=v/\v<(n:Int)):Hr [bp (aW n d),iL l]=.ok (.int (rH d l)):=by
 have o:=zop (d:=d) M H i;rcases jR l with e|⟨g,w,e⟩;.simp_all
 rw[lj]at e;subst e;obtain⟨a,p⟩:=zaa ((g++[w]).headD 0);have G:a∈g++[w]:=by rw[p];cases g with|nil=>simp|cons b g=>simp
 have u:=i a G;have k:=i w (by simp);have t:=Bs (d:=d) k.1 k.2;have r:=Qo d g w;rw[<-p]at r;have m:=zAb (l:=g) (w:=w);rw[<-p]at m;have y:=Ie (l:=g) (w:=w);have j:au [iL (g++[w])]=some (.int (g.length+1)):=by simp
 have z:g.length=0->rH d (g++[w])=0:=fun h=>by have:=lz.mp h;subst this;have:=J.self w k.1 k.2;show d w w+0=0;lia
 obtain⟨X,C⟩:=zaa (g++[w]);rw[<-C]at o r m y j z⊢;obtain⟨T,K⟩:=zaa (bp (aW n d));rw[<-K]at o t⊢;refine iA ?_;show aq _ _ [.v T,.v _]=_;by_cases c:g.length=0
 . have q:bg (aR (m2 oEq (aK au (ai (aj 1) af)) (mC (.int 1)))) (aG (mC (.int 0))) dC [.v T,.v (iL X)]=.rt (.int 0):=by rw[c]at j;rw[uQ (by simp[aR,aK,ai,af,aj,mC,j])];rfl
   rw[(z c)];unfold aq;rw[q]
 . have q:bg (aR (m2 oEq (aK au (ai (aj 1) af)) (mC (.int 1)))) (aG (mC (.int 0))) dC [.v T,.v (iL X)]=.nx [.v T,.v (iL X)]:=by rw[iK (by simp[aR,aK,ai,af,aj,mC,j];lia)];rfl
   refine(bG q).trans ?_;have L:bu C3 (ai (ag 0) (ai (ag 1) af)) [.v T,.v (iL X)]=.ok (.int (path d X)):=by simp[bu,ai,af,ag,o]
   simp only[aG,jK,L,B',aj,mC,List.getElem?_cons_succ,List.getElem?_cons_zero,R.aA,R.bI,MC,m,y,t,(sY u.1 u.2),r];rfl
def rJ(T:D):D:=.obj 11 ["lengths"] [T]
noncomputable def q9(T:D)(m:Int):D:=.obj 12 ["lengths","many"] [T,.int m]
def zC8:¬(("lengths":Str)="many"):=by decide
def Qq(b:a δ=.ok x)(c:f [x]=.ok r):bu f (ai a af) δ=.ok r:=by simp[bu,ai,af,b,c]
def zyU(e:a δ=.ok x)(c:b δ=.ok y)(d:f [x,y]=.ok r):bu f (ai a (ai b af)) δ=.ok r:=by simp[bu,ai,af,e,c,d]
def zx7(h:a δ=.ok x)(d:b δ=.ok y)(g:c δ=.ok z)(e:f [x,y,z]=.ok r):bu f (ai a (ai b (ai c af))) δ=.ok r:=by simp[bu,ai,af,h,d,g,e]
def zAU(g:a δ=.ok o)(d:isObj c m o=some ())(h:b δ=.ok x)(e:f [o,x]=.ok r):dH c m f a (ai b af) δ=.ok r:=by simp[dH,ai,af,g,d,h,e]
def vf(T:D)(h:m∉(["lengths"]:List Str)):isObj 11 m (rJ T)=some ():=by show(if 11=11/\m∉(["lengths"]:List Str)then some _ else none)=some _;simp_all
def vg(T:D)(k:Int)(h:m∉(["lengths","many"]:List Str)):isObj 12 m (q9 T k)=some ():=by show(if 12=12/\m∉(["lengths","many"]:List Str)then some _ else none)=some _;simp_all
def Qr(T:D):bh rD "lengths" (rJ T)=some T:=rfl
def Qt(T:D)(k:Int):bh rD "lengths" (q9 T k)=some T:=rfl
def Qu(T:D)(k:Int):bh rE "many" (q9 T k)=some (.int k):=rfl
def Qv(b:n<=100):yJ [bp (aW n d)]=.ok (aW n d):=by
 unfold yJ q0;rw[ao (show[bp _].length=1 from rfl)];show yu _ _ _ _ _ [.v _]=_;unfold yu;have r:bN (aj 0) [.v (bp (aW n d))]=.ok _:=rfl;rw[r,R.aA,gQ (by simp[aW,cZ];exact bo b (by decide))];have g:qV (uV (b3 0) (aK qv (ai (aj 0) af)) (cP [.v (bp (aW n d))] [] 1)) ((aW n d).map iL)=.ok ((aW n d).map fun x=>x):=by refine Qm _ _ _ fun l _=>?_;have fl:qv [iL l]=some (iL l):=rfl;have a:sD (iL l)=some l:=pE _;have e:cP [.v (bp (aW n d))] [] 1=[.no]:=rfl;rw[e];simp[uV,b3,aK,ai,af,aj,fl,a]
 simp_all
def zts(c:hR n B d)(b:n<=100):Hf [bp (aW n d)]=.ok (rJ (bp (aW n d))):=by
 have h:He [.no,.v (bp (aW n d))] [] []=.ok (["lengths"],[bp (aW n d)]):=by unfold He fD sL u5;simp[nY,A0,ai,af,ag,(P6 b c),(Qv b),putN,fC]
 show R.bind _ _=_;simp[bR];rw[h];rfl
def ztm(c:hR n B d)(b:n<=100):Hj [bp (aW n d),.int k]=.ok (q9 (bp (aW n d)) k):=by
 have h:Hi [.no,.v (bp (aW n d)),.v (.int k)] [] []=.ok (["lengths","many"],[bp (aW n d),.int k]):=by unfold Hi fD sL u5 lH;simp[nY,A0,ai,af,ag,(P6 b c),(Qv b),putN,fC,mV,zC8]
 show R.bind _ _=_;simp[bR];rw[h];rfl
noncomputable def Rg(a:Int)(m:Nat):List Int:=(List.range m).map fun k:Nat=>a+(k:Int)
def fF:x∈Rg a m↔a<=x/\x<a+m:=by
 unfold Rg;rw[bT];constructor;.rintro⟨k,b,rfl⟩;have:=gZ.mp b;lia
 .intro h;exact⟨(x-a).toNat,gZ.mpr (by lia),by lia⟩
def xM(a:Int)(m:Nat):(Rg a m).length=m:=by simp[Rg]
def rW(n:Nat)(cs:List Int):List Int:=(Rg 1 (n-1)).filter fun p=>decide (p∉cs)
def zC0{n:Nat}(h1:1<=n)(a:n<=1000):l' [.int 1,.int n]=some ((Rg 1 (n-1)).map .int):=by rw[FJ (by lia) (by lia)];unfold Rg uI;simp
def zAk:uS (.int x) (encC cs)=some (.bl (!decide (x∈cs))):=by simp[uS,encC,pE]
def zzU(h1:1<=n)(c:n<=100):Df [rJ (bp (aW n d)),encC cs]=.ok (iL (rW n cs)):=by
 have a:au [bp (aW n d)]=some _:=ua;have k:Ph [.v (rJ (bp (aW n d))),.v (encC cs)]=.ok (iL (rW n cs)):=by refine iv (l:=(Rg 1 (n-1)).map .int) (by simp[bw,ai,af,mC,aK,aj,(Qr _),a,(zC0 h1 (by lia))]) (by rw[aF,xM];lia) ?_;have s:cP [.v (rJ (bp (aW n d))),.v (encC cs)] [1] 1=[.v _,.no]:=rfl;rw[s];refine vS _ _ _ fun x _=>?_;by_cases e:x∈cs<;>simp[gh,b3,aR,aj,ag,zAk,e]
 refine gi ?_;show cU _ [.v _,.v _]=_;unfold cU;simp_all
def zBh(cs:List Int):qv [encC cs]=some (iL cs):=rfl
def zBN(h:a.length+b.length<=1000):iu (iL a) (iL b)=some (iL (a++b)):=by unfold iu iL;simp only;rw[gQ (by rw[aF,aF];exact bo h (by decide)),fN]
def zCb(δ:En)(x:Int):bA (ai (mC (.int x)) af) δ=.ok (iL [x]):=by simp[bA,ai,af,mC,sizeLine,iL]
def Qw(h:cs.length<=100):Bf [rJ T,encC cs]=.ok (iL (0::cs)):=by refine gi ?_;show cU _ [.v _,.v _]=_;unfold cU;have e:aK qv (ai (aj 1) af) [.v (rJ T),.v (encC cs)]=.ok (iL _):=rfl;rw[jK,zCb,R.aA,e,R.aA,zBN (by grind)];rfl
def zCS(f:hR n B d)(h0:0<n)(h:cs.length<=90)(b:∀v∈cs,0<=v/\v<(n:Int)):Bg [rJ (bp (aW n d)),encC cs]=.ok (.int (rH d (0::cs))):=by
 refine iA ?_;show aG _ [.v _,.v _]=_;have a:dH 11 "answer" _ (ag 0) (ai (ag 1) _) [.v _,.v _]=.ok _:=zAU rfl rfl rfl (Qw (T:=bp (aW n d)) (cs:=cs) (by lia));unfold aG;rw[zyU rfl a (zlS f (by simp) (by grind) (fun v hv=>by
 rcases aM.mp hv with z|z;.lia
 simp_all))];rfl
noncomputable def bl(cs:List Int):Int:=match cs.getLast? with|none=>0|some w=>w+1
def yX(l:List Int)(w:Int):bl (l++[w])=w+1:=by unfold bl;simp
def zyn:dX (encC (l++[w])) (.int (-1))=some (.int w):=Ie
def Ih(cs:List Int):au [encC cs]=some (.int cs.length):=by unfold encC au;simp
def Qx(cs:List Int):xH [encC cs]=.ok (.int (bl cs)):=by
 refine iA ?_;show aG _ [.v _]=_;have b:=Ih cs;rcases jR cs with e|⟨l,w,e⟩;.subst e;rfl
 . rw[lj]at e;subst e;rw[yX];have t:aR (m2 kq (aK au (ai (aj 0) af)) (mC (.int 0))) [.v (encC (l++[w]))]=.ok true:=by simp[aR,aK,ai,af,aj,mC,b]
   unfold aG Fd;rw[t];simp[aj,mC,(zyn)]
def pW(n b t:Nat):List Int:=Rg b (n-b-t+1)
def zAz{b t m:Nat}(k:bl cs=b)(s:m=cs.length+t)(r:1<=t)(l:b+t<=n)(q:n<=100):Dd [q9 (bp (aW n d)) m,encC cs]=.ok (iL (pW n b t)):=by
 have h:au [bp (aW n d)]=some _:=ua;have f:=Qt (bp (aW n d)) m;have g:=Qu (bp (aW n d)) m;have e:=Qx cs;rw[k]at e;obtain⟨a,p⟩:=zaa (q9 (bp (aW n d)) m);rw[<-p]at f g⊢;refine gi ?_;have o:aD (m2 ip (m1 (bh rE "many") (aj 0)) (aK au (ai (aj 1) af))) (aQ 2) [.v a,.v (encC cs),.no]=.nx [.v a,.v (encC cs),.v (.int t)]:=by refine iW ?_ rfl;simp[aK,ai,af,aj,g,(Ih _),R.bI];rw[show(m:Int)-cs.length=t by lia]
 refine(bG o).trans ?_;have c:bu _ (ai (ag 1) _) [.v a,.v _,.v (.int t)]=.ok _:=Qq rfl e;have i:vX [.int b,.int (n-t+1)]=some (iL (pW n b t)):=by unfold vX;simp only;rw[gQ (by lia)];unfold pW Rg iL;rw[cg,show((n:Int)-t+1-b).toNat=n-b-t+1 by lia];rfl
 unfold cU xl;simp[ai];rw[c];simp only[B',aK,ai,af,aj,mC,List.getElem?_cons_succ,List.getElem?_cons_zero,R.aA,f,h,R.bI,FH,Cu,i];rfl
def mn:List Int->Int|[]=>0|a::l=>iM l a
def mx:List Int->Int|[]=>0|a::l=>dn l a
def Qy(h:l≠[]):qU iM [iL l]=some (.int (mn l)):=by cases l with|nil=>simp_all|cons a l=>show(de _).map _=_;rw[pE];rfl
def Qz(h:l≠[]):qU dn [iL l]=some (.int (mx l)):=by cases l with|nil=>simp_all|cons a l=>show(de _).map _=_;rw[pE];rfl
def zDa(h:x∈l):mn l<=x:=by cases l with|nil=>cases h|cons a l=>
 obtain⟨c,e,_⟩:=L2.jL l a;rcases aM.mp h with rfl|h;.exact c
 .exact e x h
def zCV(h:l≠[]):mn l∈l:=by cases l with|nil=>simp_all|cons a l=>
 obtain⟨_,_,c⟩:=L2.jL l a;rcases c with e|e;.show iM l a∈_;simp_all
 .exact bx _ e
def zDr(h:x∈l):x<=mx l:=by cases l with|nil=>cases h|cons a l=>
 obtain⟨c,e,_⟩:=L2.fZ l a;rcases aM.mp h with rfl|h;.exact c
 .exact e x h
def zCf(h:l≠[]):mx l∈l:=by cases l with|nil=>simp_all|cons a l=>
 obtain⟨_,_,c⟩:=L2.fZ l a;rcases c with e|e;.show dn l a∈_;simp_all
 .exact bx _ e
def iV(n:Nat)(d:Int->Int->Int)(S:List Int):Int:=mx ((aH n).map fun a=>mn (S.map (d a)))
def QA(k:0<n)(j:b≠[])(sub:∀x∈b,x∈S):iV n d S<=iV n d b:=by
 have g:(aH n).map (fun a=>mn (S.map (d a)))≠[]:=fun e=>by have:=cK List.length e;rw[aF,cZ]at this;simp_all
 obtain⟨a,f,e⟩:=bT.mp (zCf g);unfold iV;rw[<-e];refine ji ?_ (zDr (bT.mpr ⟨a,f,rfl⟩));obtain⟨x,h,i⟩:=bT.mp (zCV (l:=b.map _) (by simp_all));rw[<-i];exact zDa (bT.mpr ⟨x,sub x h,rfl⟩)
def zur{n:Nat}{a:Int}(i:S≠[])(j:S.length<=1000)(c:∀v∈S,0<=v/\v<(n:Int))(h:0<=a)(g:a<n):Hq [bp (aW n d),.int a,iL S]=.ok (.int (mn (S.map (d a)))):=by
 have k:Pb [.v (bp (aW n d)),.v (.int a),.v (iL S)]=.ok (iL (S.map (d a))):=by unfold iL;rw[cg];refine iv rfl (by grind) ?_;have s:cP [.v (bp (aW n d)),.v (.int a),.v (.lst (S.map .int))] [0,1] 1=[.v _,.v _,.no]:=rfl;rw[s];refine lG _ _ _ fun x e=>?_;simp[gh,b3,aj,(Bs (d:=d) h g),(sY (c x e).1 (c x e).2)]
 refine iA ?_;show aG _ [.v _,.v _,.v _]=_;simp only[aG,aK,ai,af,k,R.aA,(Qy (l:=S.map _) (by simp_all))];rfl
def zyV{n:Nat}(u:0<n)(w:n<=100)(q:S≠[])(r:S.length<=1000)(h:∀v∈S,0<=v/\v<(n:Int)):C2 [bp (aW n d),iL S]=.ok (.int (iV n d S)):=by
 have i:au [bp (aW n d)]=some _:=ua;have o:=fun a g f=>zur (d:=d) (a:=a) q r h g f;obtain⟨T,j⟩:=zaa (bp (aW n d));rw[<-j]at i⊢;simp[<-j]at o;have k:Pc [.v T,.v (iL S)]=.ok (iL ((aH n).map fun a=>mn (S.map (d a)))):=by unfold iL;rw[cg];refine iv (l:=(aH n).map .int) (by simp[bw,ai,af,aK,aj,i,(gg (show n<=1000 by lia))]) (by rw[aF,cZ];lia) ?_;have s:cP [.v T,.v (.lst (S.map .int))] [0,1] 1=[.v T,.v _,.no]:=rfl;rw[s];refine lG _ _ _ fun a p=>?_;obtain⟨g,f⟩:=aE.mp p;have b:b3 2 (.int a) [.v T,.v (.lst (S.map .int)),.no]=some [.v T,.v _,.v _]:=rfl;simp only[gh,b,(zx7 (a:=ag 0) (b:=ag 2) (c:=ag 1) (δ:=[.v T,.v (.lst _),.v _]) rfl rfl rfl (o a g f))];rfl
 refine iA ?_;show aG _ [.v T,.v _]=_;simp[aG,aK,ai,af,k,(Qz (l:=(aH n).map fun a=>mn (S.map (d a))) (fun e=>by have:=cK List.length e;rw[aF,cZ]at this;simp_all))];rfl
def sm(n b t:Nat)(cs:List Int):List Int:=cs++(if t=0 then[]else Rg b (n-b))
def zCl{b t m:Nat}(r:bl cs=b)(q:b<=n)(C:m=cs.length+t)(h:0<n)(u:n<=100)(E:cs.length<=100)(k:sm n b t cs≠[])(f:∀v∈sm n b t cs,0<=v/\v<(n:Int)):Be [q9 (bp (aW n d)) m,encC cs]=.ok (.int (iV n d (sm n b t cs))):=by
 have B:au [bp (aW n d)]=some (.int n):=ua;have j:=Qt (bp (aW n d)) m;have i:=Qu (bp (aW n d)) m;have p:=Qx cs;rw[r]at p;have l:=Ih cs;obtain⟨S,g⟩:=zaa (sm n b t cs);have Sl:S.length<=1000:=by
  rw[g];unfold sm;rw[eJ];split;.grind
  .rw[xM];lia
 rw[<-g]at k f⊢;obtain⟨a,y⟩:=zaa (q9 (bp (aW n d)) m);rw[<-y]at j i⊢;refine iA ?_;have w:bg (aR (m2 oLt (aK au (ai (aj 1) af)) (m1 (bh rE "many") (aj 0)))) (A3 2 (xl (ai (bu xH (ai (ag 1) af)) (ai (aK au (ai (m1 (bh rD "lengths") (aj 0)) af)) af)))) dC [.v a,.v (encC cs),.o (iL cs)]=.nx [.v a,.v (encC cs),.o (iL S)]:=by
  by_cases z:t=0;.rw[iK (by simp[aR,aK,ai,af,aj,l,i];lia),g];unfold sm;rw[ao z,dg];rfl
  . rw[uQ (by simp[aR,aK,ai,af,aj,l,i];lia)];have x:vX [.int b,.int n]=some (iL (Rg b (n-b))):=by unfold vX;simp;rw[gQ (by lia)];unfold Rg iL;simp
    have c:bu xH (ai (ag 1) _) [.v a,.v _,.o (iL cs)]=.ok _:=Qq rfl p;have e:xl (ai (bu xH (ai (ag 1) af)) (ai (aK au (ai (m1 (bh rD "lengths") (aj 0)) af)) af)) [.v a,.v (encC cs),.o (iL cs)]=.ok (iL (Rg b (n-b))):=by unfold xl;simp[ai];rw[c];simp[B',aK,ai,af,aj,j,B,x]
    unfold A3;rw[e];show(if(cs.map _).length+((Rg b _).map D.int).length<=sizeLine then O.nx _ else O.no)=_;rw[ao (by rw[aF,aF,xM];exact bo (show cs.length+(n-b)<=1000 by lia) (by decide)),<-fN,g];unfold sm;rw[ak z];rfl
 refine gK (d:=iL cs) [.v a,.v (encC cs),.o (iL cs)] (by rfl) rfl ((bG w).trans ?_);have c:Cp C2 (ai (m1 (bh rD "lengths") (aj 0)) (ai (aj 2) af)) [.v a,.v (encC cs),.o (iL S)]=.ok (.int (iV n d S)):=by simp[Cp,ai,af,aj,j,(zyV h u k Sl f),mV]
 unfold aG;simp_all
@[simp]theorem zW3:mC d δ=.ok d:=rfl
@[simp]theorem zW4:aK f m δ=(m δ).bind fun l=>R.of (f l):=rfl
@[simp]theorem zW5:bu f m δ=(m δ).bind fun l=>(f l).iz:=rfl
@[simp]theorem zW2:ai a b δ=(a δ).bind fun x=>(b δ).bind fun l=>.ok (x::l):=rfl
@[simp]theorem zW1:af δ=.ok []:=rfl
abbrev mP:=Option (List Int×Int)
structure Qs where
 st:Nat
 low:List Int->Int
 wy:List Int->List Int
noncomputable def sZ(q:Qs)(b:mP)(c:List Int):Bool:=match b with|some (_,k)=>decide (k<=q.low c)|none=>false
def lI(q:Qs)(b:mP)(c:List Int):Bool:=sZ q b c||decide (c.length=q.st)
def nb(q:Qs)(b:mP)(c:List Int):mP:=if sZ q b c=true then b else if c.length=q.st then some (c,q.low c)else b
def nk(q:Qs)(b:mP)(c:List Int):List (List Int):=if lI q b c=true then[]else(q.wy c).map fun w=>c++[w]
def m7(q:Qs)(b:mP)(c:List Int):List (List Int):=if lI q b c=true then[c]else[]
structure Rn where
 b:mP
 cl:List (List Int)vs:List (List Int)
noncomputable def run(q:Qs):Nat->mP->List (List Int)->Option Rn|_,b,[]=>some ⟨b,[],[]⟩|0,_,_::_=>none|n+1,b,c::W=>(run q n (nb q b c) (nk q b c++W)).map fun r=>⟨r.b,m7 q b c++r.cl,c::r.vs⟩
def yY(h:run q n b (c::W)=some r):∃m a,n=m+1/\run q m (nb q b c) (nk q b c++W)=some a/\r=⟨a.b,m7 q b c++a.cl,c::a.vs⟩:=by cases n with|zero=>cases h|succ m=>unfold run at h;cases z:run q m (nb q b c) (nk q b c++W)with|none=>simp_all|some a=>simp_all
theorem QB:∀{n:Nat}{b:mP}{W:List (List Int)}{r:Rn},run q n b W=some r->r.vs.length<=n:=by intro n;induction n using Nat.strongRecOn;rename_i n I;intro b W r h;cases W with|nil=>clear I;unfold run at h;grind|cons c W=>obtain⟨m,e,rfl,d,rfl⟩:=yY h;have:=I _ (Nat.lt.base _) d;clear I;simp_all
structure DI(q:Qs)(Ok:List Int->Prop)(S:Nat->Nat):Prop where
 more:∀c,Ok c->c.length<q.st->1+(q.wy c).length*S (c.length+1)<=S c.length
 one:∀k,1<=S k
 all:S 0<=2000
def qD(S:Nat->Nat)(W:List (List Int)):Nat:=(W.map fun c=>S c.length).sum
theorem QC(S:Nat->Nat)(c:List Int):∀l:List Int,qD S (l.map fun w=>c++[w])=l.length*S (c.length+1)|[]=>by simp[qD]|w::l=>by have b:=QC S c l;unfold qD at b⊢;grind
def zAn(S:Nat->Nat)(a b:List (List Int)):qD S (a++b)=qD S a+qD S b:=by simp[qD]
structure Walk(q:Qs)(Ok:List Int->Prop):Prop where
 nil:Ok []len:∀c,Ok c->c.length<=q.st
 step:∀c,Ok c->c.length<q.st->∀w∈q.wy c,Ok (c++[w])wn:∀c,Ok c->c.length<q.st->q.wy c≠[]
def Walk.kids(h:Walk q Ok)(g:∀x∈c::W,Ok x):∀x∈nk q b c++W,Ok x:=fun x i=>by
 have a:=g c (by simp);rcases bJ.mp i with z|z
 . unfold nk at z;split at z;.cases z
   .rename_i d;obtain⟨w,f,rfl⟩:=bT.mp z;have j:=h.len c a;have k:c.length≠q.st:=fun e=>d (by unfold lI;simp[e]);exact h.step c a (by lia) w f
 simp_all
theorem QD(h:Walk q Ok)(d:DI q Ok S):∀(n:Nat)(b:mP)(W:List (List Int)),(∀c∈W,Ok c)->qD S W<=n->∃r,run q n b W=some r
 |n,b,[],_,_=>⟨_,by unfold run;rfl⟩|n,b,c::W,f,p=>by
  have k:=f c (by simp);have t:=h.len c k;have m:1+qD S (nk q b c)<=S c.length:=by
   unfold nk;split;.have:=d.one c.length;simpa[qD]using this
   .rename_i o;have s:c.length≠q.st:=fun e=>o (by unfold lI;simp[e]);rw[QC];exact d.more c k (by lia)
  have e:qD S (c::W)=S _+qD S W:=rfl
  cases n with|zero=>lia|succ n=>obtain⟨r,l⟩:=QD h d n _ (nk q b c++W) (h.kids f) (by rw[zAn];lia);exact⟨_,by unfold run;rw[l];rfl⟩
theorem QE:∀{n:Nat}{b:mP}{W:List (List Int)}{r:Rn},run q n b W=some r->b≠none->r.b≠none:=by intro n;induction n using Nat.strongRecOn;rename_i n I;intro b W r h d;cases W with|nil=>clear I;unfold run at h;grind|cons c W=>
 obtain⟨m,e,rfl,f,rfl⟩:=yY h;show e.b≠none;refine I _ (Nat.lt.base _) f ?_;clear I;unfold nb;split;.exact d
 .grind
theorem Ii(h:Walk q Ok):∀{n:Nat}{b:mP}{W:List (List Int)}{r:Rn},run q n b W=some r->(∀c∈W,Ok c)->(∀c∈r.cl,Ok c)/\(b=none->W≠[]->r.b≠none/\r.cl≠[])/\((∀c0 k0,b=some (c0,k0)->Ok c0)->∀c0 k0,r.b=some (c0,k0)->Ok c0):=by intro n;induction n using Nat.strongRecOn;rename_i n I;intro b W r d l;cases W with|nil=>clear I;unfold run at d;cases d;simp|cons c W=>
 obtain⟨m,t,rfl,g,rfl⟩:=yY d;have j:=l c (by simp);obtain⟨w,i2,v⟩:=I _ (Nat.lt.base _) g (h.kids l);clear I;refine⟨fun x s=>?_,fun f _=>?_,fun f=>v ?_⟩
 . rcases bJ.mp s with z|z;.unfold m7 at z;simp_all
   simp_all
 . subst f;by_cases e:c.length=q.st
   . have k:lI q none c=true:=by unfold lI;simp[e]
     have i:nb q none c=some (c,q.low c):=by unfold nb;rw[ak (by simp[sZ]),ao e]
     refine⟨show t.b≠none from QE g (by simp_all),?_⟩;unfold m7;grind
   . have k:¬lI q none c=true:=by unfold lI;simp[sZ,e]
     have i:nb q none c=none:=by unfold nb;rw[ak (by simp[sZ]),ak e]
     have o:nk q none c++W≠[]:=by unfold nk;have:=h.wn c j (by have:=h.len c j;lia);simp_all
     obtain⟨u,p⟩:=i2 i o;exact⟨u,fun z=>p (List.append_eq_nil_iff.mp z).2⟩
 . intro c0 k0 e;unfold nb at e;split at e;.exact f c0 k0 e
   . split at e;.lia
     .grind
def jD:mP->D|none=>.non|some (c,_)=>encC c
noncomputable def jE:mP->D|none=>.non|some (_,k)=>.int k
abbrev uc(nm:Str)(a f2 b d e c:List D->R D)(i:Nat)(ma:En->R (List D)):En->R D:=cG i 8 (dH 8 nm a (ag i) ma) (cG i 9 (dH 9 nm f2 (ag i) ma) (cG i 7 (dH 7 nm b (ag i) ma) (cG i 12 (dH 12 nm d (ag i) ma) (cG i 11 (dH 11 nm e (ag i) ma) (dH 10 nm c (ag i) ma)))))
noncomputable abbrev Bx(i:Nat)(ma:En->R D):En->R D:=uc "low" Ba Bb Bc Be Bg Bh i (ai ma af)
noncomputable abbrev QF(i:Nat)(ma:En->R D):En->R D:=uc "ways" C_ C' Dc Dd Df Dg i (ai ma af)
noncomputable abbrev QG(i:Nat):En->R D:=uc "steps" C4 C5 C6 C7 C8 C9 i af
structure wd(q:D)(Q:Qs)(Ok:List Int->Prop):Prop extends Walk Q Ok where x6:Q.st<=7wl:∀c,Ok c->c.length<Q.st->(Q.wy c).length<=10low:∀(c:List Int)(i:Nat)(ma:En->R D)(δ:En),Ok c->δ[i]?=some (.v q)->ma δ=.ok (encC c)->Bx i ma δ=.ok (.int (Q.low c))steps:∀(i:Nat)(δ:En),δ[i]?=some (.v q)->QG i δ=.ok (.int Q.st)Ij:∀(c:List Int)(i:Nat)(ma:En->R D)(δ:En),Ok c->c.length<Q.st->δ[i]?=some (.v q)->ma δ=.ok (encC c)->QF i ma δ=.ok (iL (Q.wy c))
def zCq(h:wd q Q Ok)(b:mP)(a:Ok c):(nk Q b c).length<=10:=by
 unfold nk;split;.simp
 .rename_i d;have f:=h.len c a;have g:c.length≠Q.st:=fun e=>d (by unfold lI;simp[e]);rw[aF];exact h.wl c a (by omega)
def Ik(h:cs.length+ws.length<=1000):AU (encC cs) (encC ws)=some (encC (cs++ws)):=by show cO _ _ _=_;rw[gQ (by simp;exact small (by lia)),<-fN];rfl
def zAD(b:QF 0 (ag 1) [.v q,.v (encC c)]=.ok (iL ws))(d:c.length<=100)(e:ws.length<=100):yL [q,encC c]=.ok (.lst ((ws.map fun w=>c++[w]).reverse.map encC)):=by
 refine gi ?_;show cU _ [.v q,.v _]=_;have k:Pk [.v q,.v (encC c)]=.ok (.lst ((ws.map fun w=>c++[w]).reverse.map encC)):=by
  refine f7 (iv (l:=ws.reverse.map .int) (r:=ws.reverse.map fun w=>encC (c++[w])) ?_ (by rw[aF,lA];lia) ?_) ?_;.simp[qS,b];show R.of (some _)=_;simp
  .refine lG _ _ _ fun w _=>?_;have a:AU (encC c) (.tup [.int w])=some _:=Ik (ws:=[w]) (by grind);simp[gh,cP,jv,b3,aj,fR,ag,sizeLine,a]
  simp
 simp[cU,k]
def wd.gone(h:wd q Q Ok)(c:List Int)(b:Ok c)(a:c.length<Q.st):yL [q,encC c]=.ok (.lst (((Q.wy c).map fun w=>c++[w]).reverse.map encC)):=by have f:=h.x6;have w:=h.wl c b a;exact zAD (h.Ij c 0 _ _ b a rfl rfl) (by lia) (by lia)
def dS(q:D)(M:Int)(b:mP)(cl:List (List Int))(k:Nat)(W:List (List Int))(s7 s8:Sl):En:=[.v q,.v (.int M),.v (jD b),.v (jE b),.o (.lst (cl.map encC)),.v (.int k),.o (.lst (W.reverse.map encC)),s7,s8]
abbrev vh(q M b cl k W c)(l:En):=(.v q::.v (.int M)::.v (jD b)::.v (jE b)::.o (.lst (List.map encC cl))::.v (.int (k+1))::.o (.lst (List.map encC (List.reverse W)))::.v (encC c)::l:En)
def zAt(h:wd q Q Ok){k:Nat}(a:Ok c)(hM:(k:Int)+1<=M)(G:cl.length<=100000)(L:W.length<=100000):Hs (dS q M b cl k (c::W) (sv o7) (sv o8))=.nx (dS q M (nb Q b c) (cl++m7 Q b c) (k+1) (nk Q b c++W) (.v (encC c)) (.v (.int (Q.low c)))):=by
 have cast:((k+1:Nat):Int)=(k:Int)+1:=by lia
 have J:uL (fun i j=>i+j) 5 (mC (.int 1)) (dS q M b cl k (c::W) (sv o7) (sv o8))=.nx [.v q,.v (.int M),.v (jD b),.v (jE b),.o (.lst (cl.map encC)),.v (.int (k+1)),.o (.lst ((c::W).reverse.map encC)),sv o7,sv o8]:=rfl;have u:bg (aR (m2 kq (aj 5) (aj 1))) (xc 3 (ai (mC (.str "more cases than may be looked at")) af)) dC [.v q,.v (.int M),.v (jD b),.v (jE b),.o (.lst (cl.map encC)),.v (.int (k+1)),.o (.lst ((c::W).reverse.map encC)),sv o7,sv o8]=.nx [.v q,.v (.int M),.v (jD b),.v (jE b),.o (.lst (cl.map encC)),.v (.int (k+1)),.o (.lst ((c::W).reverse.map encC)),sv o7,sv o8]:=by
   rw[iK];.rfl
   . have:¬M<(k:Int)+1:=by lia
     simp[aR,aj,this]
 have H:AK 6 (aQ 7) [.v q,.v (.int M),.v (jD b),.v (jE b),.o (.lst (cl.map encC)),.v (.int (k+1)),.o (.lst ((c::W).reverse.map encC)),sv o7,sv o8]=.nx (vh q M b cl k W c [sv o8]):=by
   have e:(c::W).reverse.map encC=W.reverse.map encC++[encC c]:=by simp
   rw[e];unfold AK;dsimp only[List.getElem?_cons_succ,List.getElem?_cons_zero];rw[show(W.reverse.map encC++[encC c])[(W.reverse.map encC++[encC c]).length-1]?=some (encC c)by simp,List.dropLast_concat];rcases o7 with _|o7<;>rfl
 have p:kX (aR (m2 Fs (aj 3) (mC .non))) (aR (m2 sq (aj 8) (aj 3))) (vh q M b cl k W c [.v (.int (Q.low c))])=.ok (sZ Q b c):=by cases b with|none=>rfl|some x=>rfl
 have m:lF 4 (ag 7) (vh q M b cl k W c [.v (.int (Q.low c))])=.nx [.v q,.v (.int M),.v (jD b),.v (jE b),.o (.lst ((cl++[c]).map encC)),.v (.int (k+1)),.o (.lst (W.reverse.map encC)),.v (encC c),.v (.int (Q.low c))]:=by have:=wa (i:=4) (me:=ag 7) (δ:=(vh q M b cl k W c [.v (.int (Q.low c))])) (l:=cl.map encC) (d:=encC c) rfl rfl (by simp_all);simp_all
 refine(bG J).trans ((bG u).trans ((bG H).trans (gK (vh q M b cl k W c [.v (.int (Q.low c))]) (h.low c 0 (ag 7) _ a rfl rfl) (jy rfl) ?_)));by_cases z:sZ Q b c=true
 . rw[uQ (p.trans (by rw[z])),m];have e:lI Q b c=true:=by unfold lI;simp_all
   unfold dS nb m7 nk;rw[ao z,ao e,ao e,cast];rfl
 . have t:sZ Q b c=false:=by simp_all
   rw[iK (p.trans (by rw[t]))];have E:au [encC c]=some (.int c.length):=by simp[encC]
   have n:aR (m2 oEq (aK au (ai (aj 7) af)) (QG 0)) (vh q M b cl k W c [.v (.int (Q.low c))])=.ok (decide (c.length=Q.st)):=by simp only[aR,jK,aK,ai,af,aj,List.getElem?_cons_succ,List.getElem?_cons_zero,R.aA,E,R.bI,(h.steps 0 (vh q M b cl k W c [.v (.int (Q.low c))]) rfl),Wl,MD];congr 1;grind
   by_cases y:c.length=Q.st
   . rw[uQ (n.trans (by rw[da y]))];have e:lI Q b c=true:=by unfold lI;simp_all
     refine(bG m).trans ?_;unfold dS nb m7 nk;rw[ak z,ao y,ao e,ao e,cast];rfl
   . rw[iK (n.trans (by rw[cX y]))];have e:¬lI Q b c=true:=by unfold lI;rw[t,cX y];simp
     have B:=h.len c a;have K:=h.wl c a (by lia);have A:A7 6 (bu yL (ai (ag 0) (ai (ag 7) af))) (vh q M b cl k W c [.v (.int (Q.low c))])=.nx [.v q,.v (.int M),.v (jD b),.v (jE b),.o (.lst (cl.map encC)),.v (.int (k+1)),.o (.lst ((((Q.wy c).map fun w=>c++[w])++W).reverse.map encC)),.v (encC c),.v (.int (Q.low c))]:=by
      unfold A7;dsimp only[List.getElem?_cons_succ,List.getElem?_cons_zero];have f:bu yL (ai (ag 0) (ai (ag 7) af)) (vh q M b cl k W c [.v (.int (Q.low c))])=.ok (.lst (((Q.wy c).map fun w=>c++[w]).reverse.map encC)):=by simp only[bu,ai,af,ag,List.getElem?_cons_succ,List.getElem?_cons_zero,R.aA,(h.gone c a (by lia)),R.bF]
      rw[f,R.ja];dsimp only;rw[gQ (by simp[aF,lA];rw[fz];lia),List.reverse_append,fN];rfl
     rw[A];unfold dS nb m7 nk;rw[ak z,ak y,ak e,ak e,cast,dg]
def Il(h1:c δ=.ok true)(h2:m δ=.nx yf):kK c m (n+1) δ=kK c m n yf:=by show(c _).il _ _=_;simp_all
def QH:Dh (dS q M b cl k W s7 s8)=.ok (decide (0<W.length)):=by unfold dS Dh;simp only[aR,jK,aK,ai,af,aj,mC];simp
theorem QI(h:wd q Q Ok):∀(n:Nat)(b:mP)(W cl:List (List Int))(k:Nat)(r:Rn)(o7 o8:Option D),run Q n b W=some r->(∀c∈W,Ok c)->W.length+10*n<=50000->cl.length+n<=50000->(k:Int)+r.vs.length<=M->∃f i,kK Dh Hs (r.vs.length+1) (dS q M b cl k W (sv o7) (sv o8))=.nx (dS q M r.b (cl++r.cl) (k+r.vs.length) [] (sv f) (sv i)):=by intro n;induction n using Nat.strongRecOn;rename_i n I;intro b W cl k r o7 o8 d o p u hM;cases W with|nil=>clear I;unfold run at d;cases d;refine⟨o7,o8,?_⟩;unfold kK;rw[QH];simp|cons c W=>
 obtain⟨m,g,rfl,s,rfl⟩:=yY d;have l:=o c (by simp);have v:=zCq h b l;have j:(m7 Q b c).length<=1:=by unfold m7;grind
 simp[fK]at p hM⊢;rw[Il (by rw[QH];simp) (zAt h (M:=M) (b:=b) l (by lia) (by lia) (by lia))];obtain⟨f,i,e⟩:=I m (Nat.lt.base _) _ _ (cl++m7 Q b c) (k+1) g (some _) (some _) s (h.kids o) (by grind) (by grind) (by lia);refine⟨f,i,?_⟩;rwa[show k+(g.vs.length+1)=k+1+g.vs.length by lia,<-jP]
def zt8(h:aq Pl (ko 4 (aG (fR (ai (ag 2) (ai (ag 3) (ai (ag 4) af)))))) (dS q M none [] 0 [[]] .no .no)=o):Ht [.v q,.v (.int M),.no,.no,.no,.no,.no,.no,.no]=o:=by have d:aD (mC .non) (aQ 2) [.v q,.v (.int M),.no,.no,.no,.no,.no,.no,.no]=.nx _:=rfl;have a:aD (mC .non) (aQ 3) [.v q,.v (.int M),.v .non,.no,.no,.no,.no,.no,.no]=.nx _:=rfl;have b:aD (mC (.int 0)) (aQ 5) [.v q,.v (.int M),.v .non,.v .non,.o (.lst []),.no,.no,.no,.no]=.nx _:=rfl;exact(bG d).trans ((bG a).trans (gK [.v q,.v _,.v _,.v _,.o (.lst []),.no,.no,.no,.no] (by simp[bA]) rfl ((bG b).trans (gK [.v q,.v _,.v _,.v _,.o _,.v _,.o (.lst [.tup []]),.no,.no] (by simp[bA,fR,sizeLine]) rfl h))))
def pQ(r:Rn):D:=.tup [jD r.b,jE r.b,.lst (r.cl.map encC)]
def QJ(h:wd q Q Ok)(f:run Q n none [[]]=some r)(g:n<=2000)(hM:(r.vs.length:Int)<=M):yM [q,.int M]=.ok (pQ r):=by refine iA (zt8 ?_);obtain⟨d,b,e⟩:=QI (M:=M) h n _ _ [] 0 r none none f (fun c a=>by rw[bj.mp a];exact h.nil) (by grind) (by grind) (by lia);refine(bG (Cs e (fun z=>by cases z))).trans ?_;have z:fR (ai (ag 2) (ai (ag 3) (ai (ag 4) af))) [.v q,.v (.int M),.v _,.v _,.v _,.v (.int (0+r.vs.length)),.o (.lst []),sv d,sv b]=.ok (pQ r):=gQ (show 3<=sizeLine by decide);show(fR _ [.v q,.v _,.v _,.v _,.v _,.v _,.o _,sv _,sv _]).il _ _=_;simp_all
theorem Im:∀{n:Nat}{b:mP}{W:List (List Int)}{r:Rn},run q n b W=some r->∀c0 k0,r.b=some (c0,k0)->(∀l k1,b=some (l,k1)->k0<=k1)/\(∀x∈r.cl,k0<=q.low x)/\(b=some (c0,k0)\/(c0∈r.cl/\c0.length=q.st/\q.low c0=k0)):=by intro n;induction n using Nat.strongRecOn;rename_i n I;intro b W r k c0 k0 e;cases W with|nil=>clear I;unfold run at k;cases k;exact⟨fun l k1 z=>by simp_all,fun _ z=>(nomatch z),.inl e⟩|cons c W=>
 obtain⟨m,t,rfl,o,rfl⟩:=yY k;obtain⟨g,i2,h⟩:=I _ (Nat.lt.base _) o c0 k0 e;clear I;by_cases z:sZ q b c=true
 . have d:nb q b c=b:=by unfold nb;simp_all
   have a:m7 q b c=[c]:=by unfold m7;rw[ao (by unfold lI;simp_all)]
   rw[d]at g h;refine⟨g,fun x f=>?_,h.imp id fun y=>⟨cN _ y.1,y.2⟩⟩;rcases bJ.mp f with y|y;.cases j:b with|none=>rw[j]at z;cases z|some p=>
       obtain⟨l,k1⟩:=p;rw[j]at z;have:k1<=q.low c:=by simpa[sZ]using z
       grind
   simp_all
 . by_cases y:c.length=q.st
   . have d:nb q b c=some (c,q.low c):=by unfold nb;simp_all
     have a:m7 q b c=[c]:=by unfold m7;rw[ao (by unfold lI;simp[y])]
     have s:=g c (q.low c) d;refine⟨fun l k1 j=>?_,fun x f=>?_,.inr ?_⟩;.have:¬k1<=q.low c:=fun w=>z (by unfold sZ;rw[j];simpa using w);lia
     . rcases bJ.mp f with w|w;.rw[a]at w;rwa[bj.mp w]
       .exact i2 x w
     . rcases h with w|w;.rw[d]at w;cases w;exact⟨gX _ (by rw[a];simp),y,rfl⟩
       .exact⟨cN _ w.1,w.2⟩
   . have d:nb q b c=b:=by unfold nb;rw[ak z,ak y]
     rw[d]at g h;have a:m7 q b c=[]:=by unfold m7;rw[ak (by unfold lI;simp[z,y])]
     refine⟨g,fun x f=>?_,h.imp id fun w=>⟨cN _ w.1,w.2⟩⟩;rcases bJ.mp f with w|w;.rw[a]at w;cases w
     .exact i2 x w
def zDo{n:Nat}(k:cs.Nodup)(i:∀v∈cs,1<=v/\v<(n:Int))(j:cs.length+1<n):rW n cs≠[]:=fun e=>by
 have d:∀x∈Rg 1 _,x∈cs:=fun x g=>by apply nh;intro z;have:x∈rW n cs:=c9.mpr ⟨g,by simp_all⟩;simp_all
 have c:(Rg 1 (n-1)).Nodup:=by refine p7 _ (fun a b h e=>h ?_) hU;lia
 have:=vw c d;rw[xM]at this;lia
def m8(h:δ[i]?=some (.v S))(a:PM.isObj c m S=some ())(b:ma δ=.ok x)(e:f [S,x]=.ok d):dH c m f (ag i) (ai ma af) δ=.ok d:=by unfold dH ai;simp[ag,h,a,b,e]
def yZ(h:δ[i]?=some (.v S))(a:PM.isObj c m S=some ())(b:f [S]=.ok d):dH c m f (ag i) af δ=.ok d:=by unfold dH;simp[ag,h,a,b]
def DJ(h:m∉(["room","things"]:List Str)):PM.isObj 10 m (q8 r ts)=some ():=by show(if 10=10/\m∉(["room","things"]:List Str)then some _ else none)=some _;simp_all
def By(h:δ[i]?=some (.v (.obj c ks l))):cG i c x y δ=x δ:=by unfold cG;simp_all
def pT(h:δ[i]?=some (.v (.obj c ks l)))(b:c≠a):cG i a x y δ=y δ:=by unfold cG;simp_all
def DK(h:δ[i]?=some (.v (.obj 8 ks l))):uc nm a f2 b d e c i ma δ=dH 8 nm a (ag i) ma δ:=By h
def DM(h:δ[i]?=some (.v (.obj 9 ks l))):uc nm a f2 b d e c i ma δ=dH 9 nm f2 (ag i) ma δ:=(pT h (by decide)).trans (By h)
def DN(h:δ[i]?=some (.v (.obj 7 ks l))):uc nm b f2 a d e c i ma δ=dH 7 nm a (ag i) ma δ:=(pT h (by decide)).trans ((pT h (by decide)).trans (By h))
def vi(h:δ[i]?=some (.v (.obj 12 ks l))):uc nm b f2 d a e c i ma δ=dH 12 nm a (ag i) ma δ:=(pT h (by decide)).trans ((pT h (by decide)).trans ((pT h (by decide)).trans (By h)))
def vj(h:δ[i]?=some (.v (.obj 11 ks l))):uc nm b f2 e d a c i ma δ=dH 11 nm a (ag i) ma δ:=(pT h (by decide)).trans ((pT h (by decide)).trans ((pT h (by decide)).trans ((pT h (by decide)).trans (By h))))
def vm(h:δ[i]?=some (.v (.obj 10 ks l))):uc nm b f2 c d e a i ma δ=dH 10 nm a (ag i) ma δ:=(pT h (by decide)).trans ((pT h (by decide)).trans ((pT h (by decide)).trans ((pT h (by decide)).trans (pT h (by decide)))))
def zDL{T:List Nat}(h:T.all (fun x=>decide (1<=x))=true)(k:Nat):1<=T.getD k 1:=by rw[cz];cases e:T[k]? with|none=>simp|some x=>exact hV.mp (jj.mp h x (eL e))
def y4(B T:List Nat)(f:∀c,Ok c->c.length<Q.st->(Q.wy c).length<=B.getD c.length 0)(a:∀k,k<Q.st->1+B.getD k 0*T.getD (k+1) 1<=T.getD k 1)(d:T.all (fun x=>decide (1<=x))=true)(b:T.getD 0 1<=2000):DI Q Ok (fun k=>T.getD k 1):=⟨fun c g e=>bo (Nat.add_le_add_left (Nat.mul_le_mul_right _ (f c g e)) 1) (a _ e),fun k=>zDL d k,b⟩
def Bz:D->Int|.int i=>i|_=>0
def s_:encC a=encC b↔a=b:=by
 constructor
 . intro h;have h:D.tup _=.tup _:=h;have c:a.map D.int=b.map D.int:=by simp_all
   have d:=cK (List.map Bz) c;rwa[cg,cg,show Bz∘D.int=id from rfl,List.map_id,List.map_id]at d
 simp_all
def DO(c:List Int)(k:Nat):gM (k+2) (encC c)=true:=by show(c.map _).all _=true;rw[nq,jj];intro x _;rfl
def zx6(l:List (List Int)):gM 8 (.lst (l.map encC))=true:=by show(l.map _).all _=true;rw[nq,jj];intro x _;exact DO x 5
def zC3(a:List Int)(l:List (List Int)):AY (encC a) (.lst (l.map encC))=some (.bl (!decide (a∈l))):=by
 show cO _ _ _=_;rw[gQ ⟨DO a 5,zx6 l⟩];congr 3;rw[decide_eq_decide];constructor;.intro h;obtain⟨x,b,e⟩:=bT.mp h;rwa[<-s_.mp e]
 .exact fun h=>bT.mpr ⟨a,h,rfl⟩
noncomputable abbrev Io(i:Nat)(ma:En->R D):En->R D:=uc "answer" Dj Dk Hu Hv Bf Hw i (ai ma af)
def y6(q:Qs)(f:List Int):Prop:=f.length=q.st/\∀c w r,f=c++w::r->w∈q.wy c
theorem Iq(h:Walk q Ok)(d:y6 q f):∀{n:Nat}{b:mP}{W:List (List Int)}{r:Rn},run q n b W=some r->(∀x∈W,Ok x)->∀c∈W,c<+:f->∃x∈r.cl,x<+:f:=by intro n;induction n using Nat.strongRecOn;rename_i n I;intro b W r v u c g k;cases W with|nil=>clear I;cases g|cons C W=>
 obtain⟨m,B,rfl,o,rfl⟩:=yY v;have p:=h.kids (b:=b) u;rcases aM.mp g with e|e
 . subst e;by_cases z:lI q b c=true;.exact⟨c,by unfold m7;simp_all,k⟩
   .obtain⟨t,s⟩:=k;have n1:c.length≠q.st:=fun y=>z (by unfold lI;simp[y]);cases t with|nil=>exact absurd (by rw[<-d.1,<-s];simp) n1|cons w t=>obtain⟨x,j,i⟩:=I _ (Nat.lt.base _) o p _ (gX _ (by unfold nk;rw[ak z];exact bT.mpr ⟨w,d.2 c w t s.symm,rfl⟩)) ⟨t,by simp_all⟩;clear I;exact⟨x,cN _ j,i⟩
 .obtain⟨x,j,i⟩:=I _ (Nat.lt.base _) o p c (cN _ e) k;exact⟨x,cN _ j,i⟩
def xN(q:Qs)(Ok:List Int->Prop):Prop:=∀c,Ok c->c.length<q.st->∀w∈q.wy c,q.low c<=q.low (c++[w])
theorem QK(h:Walk q Ok)(a:xN q Ok)(d:y6 q f):∀(t c:List Int),Ok c->f=c++t->q.low c<=q.low f
 |[],c,_,e=>by simp_all|w::t,c,j,e=>by
  have g:c.length<q.st:=by rw[<-d.1,e];simp
  have i:=d.2 c w t e;exact ji (a c j g w i) (QK h a d t _ (h.step c j g w i) (by simp[e]))
def zz1(h:Walk q Ok)(b:xN q Ok)(g:run q n none [[]]=some r)(e:r.b=some (c,k))(i:y6 q f):k<=q.low f:=by
 have a:∀x∈[[]],Ok x:=fun x d=>by rw[bj.mp d];exact h.nil
 obtain⟨x,d,t,j⟩:=Iq h i g a _ (by simp) List.nil_prefix;exact ji ((Im g c k e).2.1 x d) (QK h b i t x ((Ii h g a).1 x d) j.symm)
structure Kd(q:D)(Q:Qs)(Ok:List Int->Prop)(kd:Int)(g:D)(rv:List Int):Prop where
 ok:wd q Q Ok
 sz:∃S,DI Q Ok S
 mono:xN Q Ok
 ans:∀c,Ok c->c.length=Q.st->∀(i:Nat)(ma:En->R D)(δ:En),δ[i]?=some (.v q)->ma δ=.ok (encC c)->∃a:List Int,Io i ma δ=.ok (iL a)/\pP [.int kd,g,iL a]=.ok (.int (Q.low c))riv:∃f k,y6 Q f/\Q.low f<=k/\pP [.int kd,g,iL rv]=.ok (.int k)
def outs(h1:aj 1 δ=.ok (iL a))(d:cP δ [j] 1=[.v X,.no])(f:∀x,B [.v X,.v (.int x)]=.ok (.int m))(h:a.length<=1000)(e:∀x∈a,0<=x/\x<m):aR (m2 kq (aK au (ai (eZ (bN (aj 1)) [j] 1 (b3 1) (some (gI (aR (m2 oLt (aj 1) (mC (.int 0)))) (aR (m2 sq (aj 1) B)))) (ag 1)) af)) (mC (.int 0))) δ=.ok false:=by
 have:eZ (bN (aj 1)) [j] 1 (b3 1) (some (gI (aR (m2 oLt (aj 1) (mC (.int 0)))) (aR (m2 sq (aj 1) B)))) (ag 1) δ=.ok (.lst []):=by
  refine f7 (iv (l:=a.map .int) (r:=(a.filter fun _=>false).map .int) (by simp[bN,h1]) (by grind) ?_) (by simp);rw[d];refine vS _ _ _ fun x c=>?_;obtain⟨k,i⟩:=e x c;have g:¬m<=x:=by lia
  have l:¬x<0:=by lia
  simp[gh,b3,gI,aR,aj,f,l,g]
 simp[aR,this]
def y7(u:a.length<=1000)(f:List D->R D)(n:f [g,iL a]=.ok k)(t:(kd=0/\f=Dl)\/(kd=1/\f=Hx)\/(kd=2/\f=Dp)\/(kd=3/\f=Dq)\/(kd=4/\f=Dr)\/(kd=5/\f=Dt)):pP [.int kd,g,iL a]=.ok k:=by
 have i:fB "list" (iL a)=some (.bl true):=rfl;have m:Hz [.v (.int kd),.v g,.v (iL a)]=.ok (.lst []):=by exact f7 (iv (l:=a.map .int) (r:=(a.filter fun _=>false).map .int) (by rfl) (by rw[aF];lia) (vS .int _ _ fun x _=>rfl)) (by simp)
 obtain⟨A,o⟩:=zaa (iL a);rw[<-o]at n i m⊢;refine iA ?_;have q:ik (aR (m1 (fB "list") (aj 2))) [.v (.int kd),.v g,.v A]=.ok false:=by simp[ik,aR,aj,i]
 have s:aR (m2 kq (aK au (ai Hz af)) (mC (.int 0))) [.v (.int kd),.v g,.v A]=.ok false:=by simp[aR,m]
 refine(bG ((iK q).trans rfl)).trans ((bG ((iK s).trans rfl)).trans ?_);have ret:∀{h:List D->R D},h=f->aG (bu h (ai (ag 1) (ai (ag 2) af))) [.v (.int kd),.v g,.v A]=.rt k:=fun{h} e=>by rw[e];simp[aG,ag,n]
 have d:∀j:Int,aR (m2 oEq (aj 0) (mC (.int j))) [.v (.int kd),.v g,.v A]=.ok (decide (kd=j)):=fun j=>by simp[aR,aj]
 have b:∀(j:Int){Y:En->O},kd≠j->bg (aR (m2 oEq (aj 0) (mC (.int j)))) Y dC [.v (.int kd),.v g,.v A]=.nx [.v (.int kd),.v g,.v A]:=fun j Y w=>(iK ((d j).trans (by grind))).trans rfl;have c:∀(j:Int){h:List D->R D}{N:En->O},kd=j->h=f->aq (bg (aR (m2 oEq (aj 0) (mC (.int j)))) (aG (bu h (ai (ag 1) (ai (ag 2) af)))) dC) N [.v (.int kd),.v g,.v A]=.rt k:=fun j h N e p=>zzZ ((uQ ((d j).trans (by grind))).trans (ret p));rcases t with⟨z,e⟩|⟨z,e⟩|⟨z,e⟩|⟨z,e⟩|⟨z,e⟩|⟨z,e⟩;.exact c 0 z e.symm
 .exact(bG (b 0 (by lia))).trans (c 1 z e.symm)
 .exact(bG (b 0 (by lia))).trans ((bG (b 1 (by lia))).trans (c 2 z e.symm))
 .exact(bG (b 0 (by lia))).trans ((bG (b 1 (by lia))).trans ((bG (b 2 (by lia))).trans (c 3 z e.symm)))
 .exact(bG (b 0 (by lia))).trans ((bG (b 1 (by lia))).trans ((bG (b 2 (by lia))).trans ((bG (b 3 (by lia))).trans (c 4 z e.symm))))
 .exact(bG (b 0 (by lia))).trans ((bG (b 1 (by lia))).trans ((bG (b 2 (by lia))).trans ((bG (b 3 (by lia))).trans ((bG (b 4 (by lia))).trans (ret e.symm)))))
def Ir(h:l.length<4000):sA [iL l]=some (.int ((uniq l).length:Nat)):=by simp[sA,iL,pE,gQ h]
def QL(h:l.Nodup):(uniq l).length=l.length:=((fU (kP l).1 h).mpr fun x=>(kP l).2 x).length_eq
def zyN(o:eF n sets)(g:cs.length<sets.length)(cv:wc n sets cs)(j:w∈wy n sets cs):k6 n sets cs<=k6 n sets (cs++[w]):=by
 unfold k6;rw[eJ,jT,Bq g];have u:=(o.good _ (Dv (k:=cs.length) (by lia) (by lia))).lo;rcases P1 j with rfl|⟨rfl,r⟩
 . have e:sW sets (cQ (cs++[1]) 1)=sW sets (cQ cs 1)+(gP sets cs.length).1:=by unfold sW;rw[Bo];simp
   obtain⟨_,v,m1⟩:=Bp ((nc n sets (cQ (cs++[1]) 1)).map (fk (sets.drop (cs.length+1))));have:=HN (l:=(nc n _ _).map (fk (gP sets cs.length::sets.drop (cs.length+1)))) (b:=(gP sets cs.length).1+rG ((nc n sets (cQ (cs++[1]) 1)).map (fk (sets.drop (cs.length+1))))) (by lia) fun x i=>by
    obtain⟨t,d,rfl⟩:=bT.mp i;by_cases z:t∈(gP sets cs.length).2;.have f:=cv t d;rw[Bq g]at f;have:=(yO f).2 _ (by simp) z;lia
    . have y:fk (gP sets cs.length::sets.drop (cs.length+1)) t=fk (sets.drop (cs.length+1)) t:=by rw[fk,ak z]
      have:=m1 _ (bT.mpr ⟨t,sX.mpr ⟨d,z⟩,rfl⟩);lia
   lia
 . rw[HP _ (by decide)];have:=HN (l:=(nc n _ _).map (fk (gP sets cs.length::sets.drop (cs.length+1)))) (b:=rG ((nc n sets (cQ cs 1)).map (fk (sets.drop (cs.length+1))))) (Bp _).2.1 fun x i=>by
    obtain⟨t,d,rfl⟩:=bT.mp i;have f:=cv t d;rw[Bq g]at f;have p:t∈kO (sets.drop (cs.length+1)):=by have:=(P2 g cv j) t (by rw[HP _ (by decide)];exact d);simp_all
    obtain⟨⟨s,a,b,c⟩,_⟩:=yO p;have q:=(yO f).2 s (by simp[a]) b;have A:=(Bp ((nc n _ _).map (fk (sets.drop (cs.length+1))))).2.2 _ (bT.mpr ⟨t,d,rfl⟩);lia
   lia
def QM(h:cs.length=sets.length)(cv:wc n sets cs):nc n sets (cQ cs 1)=[]:=by cases e:nc n _ _ with|nil=>rfl|cons t l=>have:=cv t (by simp_all);rw[h]at this;simp[kO]at this
def zxv(h:cs.length=sets.length)(cv:wc n sets cs):k6 n sets cs=sW sets (cQ cs 1):=by unfold k6;rw[QM h cv];simp[rG]
def tf{l r:List Int}(h:l.Perm r):l.sum=r.sum:=by induction h with|nil=>rfl|cons _ _ f=>simp[f]|swap a b l=>grind|trans _ _ i j=>lia
def QN(x:eF n sets)(e:∀k∈a,0<=k/\k<(sets.length:Int)):xG [bO sets,iL a]=.ok (dk (dO [] (hv sets a))):=by
 have r:=fun k d=>x.good _ (Dv (e k d).1 (e k d).2);obtain⟨S,q⟩:=zaa (bO sets);have C:∀k∈a,aJ S _=some _:=fun k d=>by rw[q];exact yP (e k d).1 (e k d).2
 rw[<-q];obtain⟨g,y,p,l,rfl⟩:=jo (b:=aQ 3) (m:=Of) _ (fun c g=>∃p l,g=[.v S,.v (iL a),.o (dk (dO [] (hv sets c))),sv p,sv l]) a (by
 rintro c k u g w ⟨p,l,rfl⟩;have d:k∈a:=by simp_all
 obtain⟨s,h⟩:=Bk (i:=4) (j:=2) (by decide) x.n1 _ [.v S,.v _,.o (dk (dO [] (hv _ c))),.v _,sv _] _ _ rfl rfl (wb (by simp)) (fun t f=>by
 rcases br.mp f with z|z;.cases z
 .obtain⟨E,B,A⟩:=eG.mp z;exact bP.mpr ((r _ (by simp_all)).mem t A)) (fun t f=>bP.mpr ((r k d).mem t f));refine⟨_,[.v S,.v (iL a),.o (dk (dO (dO [] (hv sets c)) (gP sets k).2)),.v (.int k),sv s],jy rfl,.inl ?_,some (.int k),s,?_⟩;.exact(jn (by simp[bN,aj,C k d,dZ])).trans h
 .rw[<-Bj,show hv _ (c++[k])=hv sets c++(gP sets k).2 by simp[hv]];rfl) _ ⟨none,none,rfl⟩;exact gi ((bG rfl).trans ((bG ((jn rfl).trans y)).trans rfl))
def y8{n:Nat}{l:List Int}(b:l.Nodup)(h:∀x∈l,0<=x/\x<(n:Int)):l.length<=n:=by
 have p:l.Perm ((aH n).filter fun x=>decide _):=(fU b ((sT n).filter _)).mpr fun x=>by simp[c9,hV];exact⟨fun z=>⟨aE.mpr (h x z),z⟩,fun z=>z.2⟩
 rw[p.length_eq];have:=nu (fun x=>decide (x∈l)) (aH n);rw[cZ]at this;omega
def zDK{n:Nat}{l:List Int}(b:l.Nodup)(h1:∀t∈l,0<=t/\t<(n:Int))(h2:∀t:Int,0<=t->t<n->t∈l):l.length=n:=by have:=(fU b (sT n)).mpr fun t=>⟨fun h=>aE.mpr (h1 t h),fun h=>h2 t (aE.mp h).1 (aE.mp h).2⟩;rw[this.length_eq,cZ]
def QO(r:eF n sets)(p:sets.length<=100)(o:a.Nodup)(b:∀k∈a,0<=k/\k<(sets.length:Int))(I:∀t:Int,0<=t->t<n->t∈hv sets a):pP [.int 0,.lst [.int n,bO sets],iL a]=.ok (.int (sW sets a)):=by
 have J:a.length<=100:=by have:=y8 o b;lia
 refine y7 (by lia) Dl ?_ (.inl ⟨rfl,rfl⟩);have e:=QN r b;have G:(dO [] (hv sets a)).length=n:=zDK (wb (by simp)) (fun t u=>let⟨k,c,h⟩:=eG.mp ((br.mp u).resolve_left (by simp));(r.good _ (Dv (b k c).1 (b k c).2)).mem t h) fun t s y=>br.mpr (.inr (I t s y));have d:=Ir (l:=a) (by lia);rw[QL o]at d;have g:au [bO sets]=some (.int sets.length):=by simp[bO]
 obtain⟨S,f⟩:=zaa (bO sets);have H:∀k∈a,aJ S (.int k)=some (dZ (gP sets k)):=fun k c=>by rw[f];exact yP (b k c).1 (b k c).2
 rw[<-f]at e g⊢;have i:Po [.v (.lst [.int n,S]),.v (iL a),.v (.int n),.v S]=.ok (iL (a.map fun k=>(gP sets k).1)):=by unfold iL;rw[cg];refine iv (l:=a.map .int) (by rfl) (by grind) (lG .int _ _ fun k c=>?_);simp[gh,cP,jv,b3,aj,H k c,dZ]
 have q:=outs (δ:=[.v (.lst [.int n,S]),.v (iL a),.v (.int n),.v S]) (j:=3) (X:=S) (B:=aK au (ai (aj 0) af)) (a:=a) (m:=sets.length) rfl rfl (fun x=>by simp[aj,g]) (by lia) b;obtain⟨A,z⟩:=zaa (iL a);have C:au [A]=some (.int a.length):=by simp_all
 rw[<-z]at d e i q⊢;refine iA ?_;have w:aR (m2 kL (aK sA (ai (aj 1) af)) (aK au (ai (aj 1) af))) [.v (.lst [.int n,S]),.v A,.v (.int n),.v S]=.ok false:=by simp[aR,aj,d,C]
 have E:aR (m2 kL (aK yl (ai (bu xG (ai (ag 3) (ai (ag 1) af))) af)) (aj 2)) [.v (.lst [.int n,S]),.v A,.v (.int n),.v S]=.ok false:=by simp[aR,ag,aj,e,G]
 refine(bG (show _=O.nx [.v _,.v A,.v _,.v S]from rfl)).trans ((bG ((iK ?_).trans rfl)).trans ((bG ((iK E).trans rfl)).trans ?_));.unfold gI;rw[w,R.aA];exact q
 .unfold aG;rw[Bv i];rfl
def DP(n:Nat)(sets:List Ps):Qs:=⟨sets.length,k6 n sets,wy n sets⟩
def zvl{n:Nat}(M:a.Nodup)(G:∀k∈a,0<=k/\k<(sets.length:Int))(E:∀t:Int,0<=t->t<n->t∈hv sets a):∃f,y6 (DP n sets) f/\k6 n sets f<=sW sets a:=by
 obtain⟨f,C⟩:=zaa ((aH sets.length).map fun k=>if k∈a then 1 else 0:List Int);have fl:f.length=sets.length:=by rw[C,aF,cZ]
 have m:∀k:Int,0<=k->k<sets.length->gA f k=if k∈a then 1 else 0:=fun k B H=>by rw[C];exact yW (z:=[]) B H
 have q:∀{c r:List Int},f=c++r->∀k:Int,0<=k->k<c.length->gA c k=gA f k:=fun{c r} e k B H=>by rw[e];unfold gA;rw[cz,cz,fm (by lia)]
 have K:y6 (DP n _) f:=⟨fl,fun c w r e=>by
  have T:c.length<sets.length:=by rw[<-fl,e];simp
  have Q:w=if(c.length:Int)∈a then 1 else 0:=by rw[<-m c.length (by lia) (by lia),e];simp[gA]
  show w∈wy n _ c;unfold wy;by_cases z:(c.length:Int)∈a;.grind
  . rw[Q,ak z,ak];.simp
    . intro y;obtain⟨t,L,y⟩:=p8.mp y;simp[kQ,Bool.not_eq_true',decide_eq_false_iff_not]at y;obtain⟨⟨s,o⟩,v⟩:=jd.mp L;obtain⟨j,d,i⟩:=eG.mp (E t s o);obtain⟨u,S⟩:=G j d;by_cases l:j<c.length;.exact v (eG.mpr ⟨j,fe.mpr ⟨⟨u,l⟩,by rw[q e j u l,m j u S,ao d]⟩,i⟩)
      .have U:j≠c.length:=fun x=>z (x▸d);refine y.2 (bW.mpr ⟨_,?_,i⟩);have g:=HL (sets:=sets) (k:=j) (by lia);rw[show j.toNat=c.length+1+(j.toNat-(c.length+1))by lia,<-List.getElem?_drop]at g;exact eL g⟩;have b:∀k,k∈cQ f 1↔k∈a:=fun k=>by
  rw[fe];constructor
  . rintro⟨⟨h,I⟩,e⟩;rw[m k h (by lia)]at e;by_cases z:k∈a;.exact z
    .rw[ak z]at e;lia
  .intro z;obtain⟨h,I⟩:=G k z;exact⟨⟨h,by lia⟩,by rw[m k h I,ao z]⟩
 have J:nc n sets (cQ f 1)=[]:=by cases e:nc n _ _ with|nil=>rfl|cons t l=>obtain⟨⟨s,o⟩,v⟩:=jd.mp (show t∈nc n _ _ by rw[e];simp);obtain⟨j,d,i⟩:=eG.mp (E t s o);exact absurd (eG.mpr ⟨j,(b j).mpr d,i⟩) v
 refine⟨f,K,?_⟩;have p:(cQ f 1).Perm a:=(fU ((sT _).filter _) M).mpr b;unfold k6 sW;rw[J,tf (p.map _)];simp[rG]
def zzS(l:eF n sets)(j:sets.length<=7)(B:∀t∈fE n,∃s∈sets,t∈s.2)(x:a.Nodup)(u:∀k∈a,0<=k/\k<(sets.length:Int))(y:∀t:Int,0<=t->t<n->t∈hv sets a):Kd (sV n sets) (DP n sets) (fun c=>c.length<=sets.length/\wc n sets c) 0 (.lst [.int n,bO sets]) a:=by
 have o:∀c,(wy n sets c).length<=2:=fun c=>(P0 n sets c).2;have g:∀{P:Nat->Prop},(∀k,k<7->P k)->∀{k:Nat},k<sets.length->P k:=fun h _ p=>h _ (by lia);refine⟨⟨⟨⟨bM _,zAC B⟩,fun c h=>h.1,fun c h b w r=>⟨by simp at b⊢;exact b,P2 b h.2 r⟩,fun c _ _ e=>?_⟩,j,fun c _ _=>bo (o c) (by decide),fun c i A q h d j=>?_,fun i q d=>?_,fun c i A q h b d j=>?_⟩,⟨_,y4 [2,2,2,2,2,2,2] [255,127,63,31,15,7,3] (fun c _ b=>bo (o c) (g (P:=fun k=>2<=[2,2,2,2,2,2,2].getD k 0) (by decide) b)) (fun k p=>g (P:=fun k=>1+[2,2,2,2,2,2,2].getD k 0*[255,127,63,31,15,7,3].getD (k+1) 1<=[255,127,63,31,15,7,3].getD k 1) (by decide) p) rfl (by decide)⟩,fun c h b w r=>zyN l b h.2 r,fun c h b i A q d j=>?_,?_⟩;.have:=(P0 n sets c).1;have e:wy n _ c=[]:=e;simp_all
 .exact(DN d).trans (m8 d rfl j (zCB l h.1 (by lia) h.2))
 .exact(DN d).trans (yZ d rfl zxU)
 .exact(DN d).trans (m8 d rfl j (zA4 l b (by lia)))
 . refine⟨cQ c 1,(DN d).trans (m8 d rfl j (gi ?_)),?_⟩;.show cU _ [.v _,.v _]=_;simp[cU,ag,yQ (cs:=c) (ch:=1) (by lia)]
   . rw[show(DP n _).low c=sW _ _ from zxv b h.2];refine QO l (by lia) ((sT _).filter _) (fun k p=>by have:=(fe.mp p).1;lia) fun t C E=>?_;by_cases z:t∈hv sets (cQ c 1);.exact z
     .have:=jd.mpr ⟨⟨C,E⟩,z⟩;rw[QM b h.2]at this;cases this
 .obtain⟨f,G,H⟩:=zvl x u y;exact⟨f,_,G,H,QO l (by lia) x u y⟩
def Iu:gJ (.int 10) (.int 12)=some (.int 1000000000000):=AA ⟨by decide,by decide,by decide⟩
def Iv(c n:Int):∃p:Int,(0<=p/\p<=1000000000000000000)/\t8 [.int c,.int n]=.ok (.int p):=by
 have a:eN 5:=dG 1000 (by decide);by_cases d:n%5=0;.exact⟨n/5%4,by lia,by simp[t8,bE,mI,A_,aq,bg,aR,aG,aj,aD,aQ,gN,n_,a,d]⟩
 . by_cases b:n%5=1;.exact⟨c%1000000000000000001,by lia,by simp[t8,bE,mI,A_,aq,bg,aR,aG,aj,dC,aD,aQ,gN,n_,a,Du,b]⟩
   . by_cases e:n%5=2;.exact⟨1000000000000000000-n/5%3,by lia,by simp[t8,bE,mI,A_,aq,bg,aR,aG,aj,dC,aD,aQ,gN,n_,a,Du,e]⟩
     .exact⟨n/5%30,by lia,by simp[t8,bE,mI,A_,aq,bg,aR,aG,aj,dC,aD,aQ,gN,n_,a,d,b,e]⟩
abbrev pU(cs n S)(l:En):=(.v (iL cs)::.v (.int n)::.o (bO S)::l:En)
abbrev y9(cs n S u r q)(l:En):=(.v (iL cs)::.v (.int n)::.l (bO S)::sv u::sv r::sv q::l:En)
def zAo(cs:List Int)(n:Nat)(hn:n<=8)(hcs:cs.length<=63):∃sets:List Ps,GO [iL cs,.int n]=.ok (bO sets)/\(∀s∈sets,Good n s)/\sets.length=cs.length+1/\∀t∈fE n,∃s∈sets,t∈s.2:=by
 have X:eN 16:=dG 2000 (by decide);have L:eN 1024:=dG 2000 (by decide);obtain⟨N,h1,S,u,r,q,w,rfl,Z,K⟩:=jo (b:=c5 2 (cB (aQ 3) (cB (aQ 4) cw))) (m:=GK) (fun p:Int×Nat=>D.tup [.int (p.2:Int),.int p.1]) (fun a N=>∃(S:List Ps)(u r q w:Option D),N=(pU cs n S [sv u,sv r,sv q,sv w,.no,.no,.no])/\S.length=a.length/\∀s∈S,Good n s) cs.zipIdx (by
     rintro a ⟨c,k⟩ Q N x ⟨S,u,r,q,w,rfl,hl,hg⟩;obtain⟨z1,z2,z3⟩:=FK x;dsimp only at z1 z2 z3;have hk:k<cs.length:=(bV.mp z2).1;obtain⟨y,U⟩:=zaa (num c k/16);obtain⟨B,M⟩:∃B:List Int,B=(fE n).filter fun t=>decide (y/2^t.toNat%2=1):=⟨_,rfl⟩;obtain⟨p,⟨p0,p1⟩,hp⟩:=Iv c (y/1024);have q1:aD (m2 oDiv (bu tZ (ai (ag 4) (ai (ag 3) af))) (mC (.int 16))) (aQ 5) (pU cs n S [.v (.int k),.v (.int c),sv q,sv w,.no,.no,.no])=.nx (pU cs n S [.v (.int k),.v (.int c),.v (.int y),sv w,.no,.no,.no]):=by refine iW (d:=.int y) ?_ (jy rfl);simp[ag,(Bl c (k:Int) (by lia) (by lia)),n_,X,U]
     have k1:Ob (pU cs n S [.v (.int k),.v (.int c),.v (.int y),sv w,.no,.no,.no])=.ok (iL B):=by
       refine iv (l:=(fE n).map .int) (by simp[bw,ag,xJ (show n<=1000 by lia)]) (by rw[aF,HF];lia) ?_;rw[M];refine vS .int _ _ fun t A=>?_;have ht':=bP.mp A;have sh:=zBR (t:=t) (by lia) (by lia);rw[Int.one_mul]at sh;have p2:(0:Int)<2^t.toNat:=Int.pow_pos (by decide);have f:eN (2^t.toNat:Int):=by refine dG (2^40) ?_;rw[Int.natAbs_pow];exact Nat.pow_le_pow_right (by decide) (by lia)
       have dv:=n_ (i:=y) p2 f;simp only[gh,cP,jv,b3,aR,ag,aj,mC,jK];simp[sh,dv,gN];by_cases Y:y/2^t.toNat%2=1<;>simp[dv,gN,Y]
     have q3:lF 2 (fR (ai (bu t8 (ai (ag 4) (ai (m2 oDiv (aj 5) (mC (.int 1024))) af))) (ai (ag 6) af))) (pU cs n S [.v (.int k),.v (.int c),.v (.int y),.v (iL B),.no,.no,.no])=.nx [.v (iL cs),.v (.int n),.o (bO (S++[(p,B)])),.v (.int k),.v (.int c),.v (.int y),.v (iL B),.no,.no,.no]:=by refine(wa (l:=S.map dZ) (d:=dZ (p,B)) rfl (by simp[fR,ag,aj,n_,L,hp,dZ,sizeLine]) (by grind)).trans ?_;simp[bO]
     refine⟨(pU cs n S [.v (.int k),.v (.int c),sv q,sv w,.no,.no,.no]),[.v (iL cs),.v (.int n),.o (bO (S++[(p,B)])),.v (.int k),.v (.int c),.v (.int y),.v (iL B),.no,.no,.no],?_,.inl ?_,S++[(p,B)],some _,some _,some _,some _,rfl,by simp[hl],fun s H=>?_⟩;.rcases u with _|u<;>rcases r with _|r<;>rfl
     .unfold GK;exact(bG q1).trans (gK (pU cs n S [.v (.int k),.v (.int c),.v (.int y),.v (iL B),.no,.no,.no]) k1 (jy rfl) q3)
     . rcases bJ.mp H with z|z;.simp_all
       .rw[bj.mp z];refine⟨p0,p1,by rw[M];exact(PJ n).filter _,fun t A=>?_⟩;rw[M]at A;exact bP.mp (c9.mp A).1) [.v (iL cs),.v (.int n),.o (bO []),.no,.no,.no,.no,.no,.no,.no] ⟨[],none,none,none,none,rfl,rfl,fun s H=>by cases H⟩;have sl:S.length=cs.length:=by rw[Z];simp
 have T:eF n S:=⟨K,by lia,by lia⟩;obtain⟨nN,h2,E,I,C,rfl⟩:=jo (b:=c5 2 (cB (aQ 8) (cB (aQ 6) cw))) (m:=GL) dZ (fun a N=>∃E I C,N=(y9 cs n S u r q [sv E,.o (dk (dO [] (things a))),sv I,sv C])) S (by
     rintro a s Q N x ⟨E,I,C,rfl⟩;have H:s∈S:=by rw[x];simp
     obtain⟨o',h⟩:=Bk (i:=9) (j:=7) (by decide) T.n1 s.2 (y9 cs n S u r q [.v (iL s.2),.o (dk (dO [] (things a))),.v (.int s.1),sv C]) (dO [] (things a)) C rfl rfl (wb (by simp)) (fun t A=>by
       rcases br.mp A with z|z;.cases z
       .obtain⟨s',hs',h'⟩:=nC.mp z;exact bP.mpr ((T.good s' (by rw[x];exact gX _ hs')).mem t h')) (fun t A=>bP.mpr ((T.good s H).mem t A));refine⟨(y9 cs n S u r q [.v (iL s.2),.o (dk (dO [] (things a))),.v (.int s.1),sv C]),(y9 cs n S u r q [.v (iL s.2),.o (dk (dO (dO [] (things a)) s.2)),.v (.int s.1),sv o']),?_,.inl ?_,some (iL s.2),some (.int s.1),o',?_⟩;.rcases E with _|E<;>rcases I with _|I<;>rfl
     .unfold GL Oe Od;exact(jn (by simp[bN,ag])).trans h
     . rw[<-Bj];have e:things (a++[s])=things a++s.2:=by simp[things]
       rw[e];rfl) (y9 cs n S u r q [sv w,.o (dk []),.no,.no]) ⟨w,none,none,rfl⟩;have l3:GN (pU cs n S [sv u,sv r,sv q,sv w,.o (dk []),.no,.no])=.nx (pU cs n S [sv u,sv r,sv q,sv E,.o (dk (dO [] (things S))),sv I,sv C]):=by unfold GN Ce;show w8 2 (kJ _ _ (S.map dZ) (y9 cs n S u r q [sv w,.o (dk []),.no,.no]))=_;rw[h2];rfl
 obtain⟨G,J⟩:=zaa ((fE n).filter fun t=>!decide (t∈dO [] (things S)));have k2:CP (pU cs n S [sv u,sv r,sv q,sv E,.o (dk (dO [] (things S))),sv I,sv C])=.ok (iL G):=by refine iv (l:=(fE n).map .int) (by simp[bw,ag,xJ T.n1]) (by rw[aF,HF];lia) ?_;rw[J];refine vS .int _ _ fun t _=>?_;simp[gh,cP,jv,b3,aR,ag,aj];by_cases Y:t∈dO [] (things S)<;>simp[Y]
 refine⟨S++[(7,G)],gi ?_,fun s H=>?_,by simp[sl],fun t A=>?_⟩
 . have e2:Oc [.v (iL cs),.v (.int n),.o (bO []),.no,.no,.no,.no,.no,.no,.no]=.nx (pU cs n S [sv u,sv r,sv q,sv w,.no,.no,.no]):=(jn (by simp[px,ag,iL,uJ,mG,AE,ou])).trans h1;have e3:aD (mC (.du [] [])) (c8 7) (pU cs n S [sv u,sv r,sv q,sv w,.no,.no,.no])=.nx (pU cs n S [sv u,sv r,sv q,sv w,.o (dk []),.no,.no]):=rfl;refine gK (d:=bO []) [.v (iL cs),.v (.int n),.o (bO []),.no,.no,.no,.no,.no,.no,.no] (by simp[bA,bO,sizeLine]) rfl ((bG e2).trans ((bG e3).trans ((bG l3).trans ?_)));have ct:iu (.lst (S.map dZ)) (.lst [dZ (7,G)])=some (bO (S++[(7,G)])):=by rw[MH (by simp;lia)];simp[bO]
   have ls:bA (ai (fR (ai (mC (.int 7)) (ai CP af))) af) (pU cs n S [sv u,sv r,sv q,sv E,.o (dk (dO [] (things S))),sv I,sv C])=.ok (.lst [dZ (7,G)]):=by simp[bA,fR,k2,sizeLine,dZ]
   have:m2 iu (aj 2) (bA (ai (fR (ai (mC (.int 7)) (ai CP af))) af)) (pU cs n S [sv u,sv r,sv q,sv E,.o (dk (dO [] (things S))),sv I,sv C])=.ok (bO (S++[(7,G)])):=by rw[jK,ls];show((R.ok (D.lst (S.map dZ))).bind _)=_;rw[R.aA,R.aA,ct];rfl
   unfold cU;rw[this];rfl
 . rcases bJ.mp H with z|z;.exact K s z
   .rw[bj.mp z];refine⟨show(0:Int)<=7 by decide,show(7:Int)<=1000000000000000000 by decide,by rw[J];exact(PJ n).filter _,fun t A=>?_⟩;rw[J]at A;exact bP.mp (c9.mp A).1
 . by_cases z:t∈dO [] (things S)
   . rcases br.mp z with z|z;.cases z
     .obtain⟨s,H,h⟩:=nC.mp z;exact⟨s,by simp[H],h⟩
   .exact⟨(7,G),by simp,by rw[J];exact c9.mpr ⟨A,by simpa using z⟩⟩
def QP(cs:List Int)(x:cs.length<=63):∃zs:List Int,CQ [iL cs]=.ok (iL zs)/\zs.length=cs.length/\∀s∈zs,1<=s/\s<=1000000000000000000:=by
 have i:eN 64:=dG 1000 (by decide);obtain⟨h,u,Z,g,a,rfl,r,n⟩:=jo (b:=c5 2 (cB (aQ 2) (cB (aQ 3) cw))) (m:=Ox) (fun p=>D.tup [.int p.2,.int p.1]) (fun e h=>∃(Z:List _)(g a:Option D),h=[.v (iL cs),.o (iL Z),sv g,sv a]/\Z.length=e.length/\∀s∈Z,1<=s/\s<=1000000000000000000) cs.zipIdx (by
 rintro e ⟨c,k⟩ q h f ⟨Z,g,a,rfl,r,n⟩;obtain⟨E,y,C⟩:=FK f;have B:=(bV.mp y).1;obtain⟨p,_,w⟩:=Iv c (num c k/64);refine⟨[.v (iL cs),.o (iL Z),.v (.int k),.v (.int c)],[.v _,.o (iL (Z++[1+p%1000000000000000000])),.v (.int k),.v (.int c)],?_,.inl ?_,_,some _,some _,rfl,by simp[r],fun s j=>?_⟩;.rcases g with _|g<;>rcases a with _|a<;>rfl
 .refine(wa (d:=.int (1+p%1000000000000000000)) rfl (by simp[ag,(Bl c k _ (by lia)),n_,i,w,Du,gN]) (by grind)).trans ?_;simp[iL]
 . rcases bJ.mp j with z|z;.simp_all
   .grind) [.v _,.o (iL []),.no,.no] ⟨_,none,none,rfl,rfl,fun s j=>by cases j⟩;refine⟨Z,gi ?_,by simp_all,n⟩;have t:Oy _=.nx _:=(jn (by simp[px,ag,iL,uJ,mG,AE,ou])).trans u;exact gK [.v _,.o (iL []),.no,.no] (by simp[bA,iL]) rfl ((bG t).trans rfl)
def DQ(ns:List Int)(a b:Nat):∃cs:List Int,zaj (ns.map D.int) (some (a:Int)) (some (b:Int))=cs.map D.int/\cs.length<=ns.length/\cs.length<=b-a:=by obtain⟨cs,d,e⟩:=Wu _ _ _;refine⟨_,d,e,?_⟩;have:=cK List.length d;rw[aF]at this;rw[<-this];unfold zaj;have f:HT.lE (ns.map D.int).length 0 (some a)=min a _:=rfl;have g:HT.lE (ns.map D.int).length (ns.map D.int).length (some b)=min b _:=rfl;rw[qi];omega
theorem QQ:∀(l:List Int)(a:Int),a<=dn l a/\(∀x∈l,x<=dn l a)/\(dn l a=a\/dn l a∈l)
 |[],a=>⟨gW _,fun _ z=>(nomatch z),.inl rfl⟩|x::l,a=>by
  have e:dn (x::l) a=dn l _:=rfl;rw[e];obtain⟨g,i2,d⟩:=(QQ l (if x>a then x else a));refine⟨?_,fun y c=>?_,?_⟩;.lia
  . rcases aM.mp c with z|z;.lia
    simp_all
  . rcases d with z|z
    . rw[z];split;.simp
      lia
    .exact .inr (bx _ z)
def zC9(h:∀s∈c,1<=s/\s<=1000000000000000000):∃r:Int,tW [iL c] (.int 1)=some (.int r)/\1<=r/\r<=1000000000000000000/\∀s∈c,s<=r:=by cases c with|nil=>exact⟨1,rfl,by decide,by decide,fun _ z=>(nomatch z)⟩|cons a l=>
 obtain⟨j,b,d⟩:=QQ l a;have e:tW [iL (a::l)] (.int 1)=some (.int (dn l a)):=by show(de _).map _=_;rw[pE];rfl
 refine⟨_,e,by grind,?_,fun s i=>?_⟩
 . rcases d with z|z;.simp_all
   .exact(h _ (bx _ z)).2
 . rcases aM.mp i with z|z;.simp_all
   .exact b s z
def DR{ns cs:List Int}(b:rm X=some (ns.map .int))(a:zaj (ns.map D.int) (some 2) (some (j:Int))=cs.map D.int)(h:aj 0 δ=.ok X):mW (aj 0) (kr (mC (.int 2))) (kr (mC (.int j))) δ=.ok (iL cs):=by simp[mW,h,kr,R.aA,Wm,R.bI,b,a,iL]
def zyf(L:List Int):Fz (dk L)=true:=by
 have:∀l:List Int,nL (l.map fun _=>D.bl true)=true:=fun l=>by induction l with|nil=>rfl|cons a l d=>simp[nL,mV,d]
 simp[Fz,dk,this]
def zuu(ns:List Int)(h63:ns.length<=63)(f:Int):∃q Q Ok g h,GX [.c_ ns,.int f]=.ok (.lst [q,g,iL h])/\Kd q Q Ok 0 g h:=by
 have g0:=rF f (show(0:Int)<8 by decide);have g1:=vb f (show(0:Int)<8 by decide);obtain⟨n,en⟩:∃n:Nat,(n:Int)=f%8:=⟨(f%8).toNat,by lia⟩;obtain⟨c6,J,uC,hc6⟩:=DQ ns 2 8;obtain⟨c,es,sg,sln,cv⟩:=zAo c6 n (by lia) (by lia);have ok:eF n c:=⟨sg,by lia,by lia⟩;have it:=zAa ok cv;have u:∀k:Int,0<=k->∃x,iR [.c_ ns,.int k]=.ok (.int x):=fun k E=>⟨_,yN ns E⟩;obtain⟨X,eX⟩:=zaa (D.c_ ns);have aX:rm X=some (ns.map .int):=by rw[eX];rfl
 obtain⟨S,T⟩:=zaa (bO c);have lS:au [S]=some (.int c.length):=by rw[T];simp[bO]
 have ix:∀k:Int,0<=k->k<c.length->aJ S (.int k)=some (dZ (gP c k)):=fun k h0 h1=>by rw[T];exact yP h0 h1
 have cov:∀{a:List Int},(∀k∈a,0<=k/\k<(c.length:Int))->xG [S,iL a]=.ok (dk (dO [] (hv c a))):=fun ha=>by rw[T];exact QN ok ha
 rw[<-eX]at u⊢;rw[<-T]at es it;have rS:=gg (show c.length<=1000 by lia);obtain⟨i,k1,r0⟩:∃i:List Int,Ot [.v X,.v (.int f),.v (.int n),.v S,.no,.no,.no]=.ok (iL i)/\i.Nodup/\∀k∈i,0<=k/\k<(c.length:Int):=by obtain⟨F,hF⟩:=pY (r:=fun(k:Nat)(x:Int)=>iR [X,.int (9+(k:Int))]=.ok (.int x)) fun k=>u _ (by lia);refine⟨(aH c.length).filter fun k=>decide (F k.toNat%2=1),iv (l:=(aH c.length).map .int) (by simp[bw,aj,lS,rS]) (by rw[aF,cZ];lia) ?_,(sT _).filter _,fun k E=>aE.mp (c9.mp E).1⟩;refine vS .int _ _ fun k E=>?_;have:=hF k.toNat;rw[show((k.toNat:Nat):Int)=k by have:=(aE.mp E).1;lia]at this;simp[gh,cP,jv,b3,aR,aj,ag,this,gN];by_cases z:F k.toNat%2=1<;>simp[z]
 obtain⟨δ,h1,h,H,B,rfl,N,I,C⟩:=jo (b:=aQ 5) (m:=Ov) D.int (fun M δ=>∃(h:List Int)(H B:Option D),δ=[.v X,.v (.int f),.v (.int n),.v S,.o (iL h),sv H,sv B]/\h.Nodup/\(∀k∈h,0<=k/\k<(c.length:Int))/\∀t∈M,t∈hv c h) (aH n) (by
 rintro M t post δ K ⟨h,H,B,rfl,N,I,C⟩;have tm:=aE.mp (show t∈aH n by rw[K];simp);have mi:(t∈dO [] (hv c h))=(t∈hv c h):=propext ⟨fun z=>(br.mp z).resolve_left (by simp),fun z=>br.mpr (.inr z)⟩;have ts:aR (m2 rB (ag 5) (Cq xG (ai (ag 3) (ai (aj 4) af)))) [.v X,.v (.int f),.v (.int n),.v S,.o (iL h),.v (.int t),sv B]=.ok (!decide (t∈hv c h)):=by simp[aR,Cq,ag,aj,cov I,zyf,mi]
 by_cases z:t∈hv c h;.exact⟨[.v X,.v (.int f),.v (.int n),.v S,.o (iL h),.v (.int t),sv B],_,jy (o:=H) rfl,.inl ((iK (ts.trans (by simp[z]))).trans rfl),h,some (.int t),B,rfl,N,I,fun x hx=>(bJ.mp hx).elim (C x) fun y=>by rw[bj.mp y];exact z⟩
 . obtain⟨p,Z⟩:=zaa ((aH c.length).filter fun k=>decide (t∈(gP c k).2):List Int);have k2:Ou [.v X,.v (.int f),.v (.int n),.v S,.o (iL h),.v (.int t),sv B]=.ok (iL p):=by refine iv (l:=(aH c.length).map .int) (by simp[bw,aj,lS,rS]) (by rw[aF,cZ];lia) ?_;rw[Z];refine vS .int _ _ fun k E=>?_;obtain⟨a,b⟩:=aE.mp E;by_cases y:t∈(gP c k).2<;>simp[gh,cP,jv,b3,aR,aj,ag,ix k a b,dZ,Dx,y]
   obtain⟨s,hs,ht⟩:=cv t (bP.mpr tm);obtain⟨j,hj,ej⟩:=ly hs;have G:0<(p.length:Int):=by
     have:(j:Int)∈p:=by
      rw[Z];refine c9.mpr ⟨aE.mpr (by lia),?_⟩;have:gP c (j:Int)=s:=by simp[gP,cz,hj,ej]
      rw[this];simpa using ht
     have:=List.length_pos_of_mem this;lia
   obtain⟨U,Iw⟩:=u (17+t) (by lia);have i0:=rF U G;have i1:=vb U G;have gx:=v_ (L:=p) (k:=U%p.length) i0 (by lia);obtain⟨x,ex⟩:=zaa (gA p (U%p.length));rw[<-ex]at gx;have xm:x∈p:=by rw[ex];exact eL (sU (by lia))
   rw[Z]at xm;obtain⟨xu,Y⟩:=c9.mp xm;have Y:t∈(gP c x).2:=oQ Y;have lh:au [iL p]=some (.int p.length):=by simp[iL]
   have w2:lF 4 (m2 aJ (aj 6) (m2 oMod (bu iR (ai (ag 0) (ai (m2 bD (mC (.int 17)) (aj 5)) af))) (aK au (ai (aj 6) af)))) [.v X,.v (.int f),.v (.int n),.v S,.o (iL h),.v (.int t),.v (iL p)]=.nx [.v X,.v (.int f),.v (.int n),.v S,.o (iL (h++[x])),.v (.int t),.v (iL p)]:=by refine(wa (l:=h.map .int) (d:=.int x) rfl ?_ (by rw[aF];have:=y8 N I;lia)).trans (by simp[iL]);simp[aj,ag,Iw,lh,gN G,gx]
   refine⟨[.v X,.v (.int f),.v (.int n),.v S,.o (iL h),.v (.int t),sv B],_,jy (o:=H) rfl,.inl ((uQ (ts.trans (by simp[z]))).trans (gK [.v X,.v (.int f),.v (.int n),.v S,.o (iL h),.v (.int t),.v (iL p)] k2 (jy rfl) w2)),h++[x],some (.int t),some (iL p),rfl,?_,fun k E=>?_,fun y hy=>eG.mpr ?_⟩;.refine el.mpr ⟨N,by simp,fun a ha b hb' e=>?_⟩;rw[bj.mp hb']at e;exact z (eG.mpr ⟨x,e▸ha,Y⟩)
   . rcases bJ.mp E with y|y;.exact I k y
     .rw[bj.mp y];exact aE.mp xu
   . rcases bJ.mp hy with w|w;.obtain⟨k,a,b⟩:=eG.mp (C y w);exact⟨k,by simp[a],b⟩
     .rw[bj.mp w];exact⟨x,by simp,Y⟩) [.v X,.v (.int f),.v (.int n),.v S,.o (iL i),.no,.no] ⟨i,none,none,rfl,r0.1,r0.2,fun _ z=>(nomatch z)⟩;refine⟨sV n c,_,_,.lst [.int n,S],h,gi ?_,by rw[T];exact zzS ok (by lia) cv N I fun t t0 t1=>C t (aE.mpr ⟨t0,t1⟩)⟩;show aq _ _ [.v X,.v (.int f),.no,.no,.no,.no,.no]=_;have s:=DR (j:=8) aX J (δ:=[.v X,.v (.int f),.v (.int n),.no,.no,.no,.no]) rfl;have q4:Ow [.v X,.v (.int f),.v (.int n),.v S,.o (iL i),.no,.no]=.nx [.v X,.v (.int f),.v (.int n),.v S,.o (iL h),sv H,sv B]:=(jn (l:=(aH n).map .int) (by simp[bw,ag,gg (show n<=1000 by lia)])).trans h1;refine gK (d:=.int n) [.v X,.v (.int f),.v (.int n),.no,.no,.no,.no] (by simp[aj,gN,en]) rfl (gK (d:=S) [.v X,.v (.int f),.v (.int n),.v S,.no,.no,.no] (by simp only[bu,ai,af,s,show ag 2 [.v X,.v (.int f),.v (.int n),.no,.no,.no,.no]=.ok (.int n)from rfl,R.aA,es,R.bF]) rfl (gK [.v X,.v (.int f),.v (.int n),.v S,.o (iL i),.no,.no] k1 rfl ((bG q4).trans ?_)));show cU _ [.v X,.v (.int f),.v (.int n),.v S,.v (iL h),sv H,sv B]=_;simp[cU,bA,ag,it,sizeLine]
def putL(n:Nat)(z:List (Int×Int)):List Int:=z.foldl (fun L x=>L.set x.1.toNat x.2) (List.replicate n 0)
def DS(n:Nat)(z:List (Int×Int)):(putL n z).length=n:=by
 unfold putL;have:∀(z:List (Int×Int))(L:List _),(z.foldl (fun L x=>L.set x.1.toNat x.2) L).length=L.length:=by intro z;induction z with|nil=>simp|cons a z d=>intro L;rw[List.foldl_cons,d,ny]
 simp_all
def QR(n:Nat)(z:List (Int×Int))(x:Int×Int):putL n (z++[x])=(putL n z).set x.1.toNat x.2:=by simp[putL]
def DT{fl cs:List Int}(h:cs.length<fl.length):fl.zip (cs++[c])=fl.zip cs++[(gA fl cs.length,c)]:=by induction cs generalizing fl with
 |nil=>cases fl with|nil=>simp at h|cons a fl=>simp[gA]
 |cons x cs f=>cases fl with|nil=>simp at h|cons a fl=>simp at h;have e:gA (a::fl) (x::cs).length=gA _ cs.length:=rfl;rw[e,jQ,List.zip_cons_cons,List.zip_cons_cons,jQ,f h]
def zBf{ws:List Int}(a:∀w∈ws,0<w)(h:k<ws.length):0<gA (b_ ws) k:=by refine a _ (Ia _ (eL (sU ?_)));rw[mO];lia
def zxY(a:0<m)(h:∀b,aS z b<=aS c b):xK ((aH m).map (aS z))<=xK ((aH m).map (aS c)):=by obtain⟨b,d,e⟩:=bT.mp (yV (vd a)).1;rw[<-e];exact ji (h b) ((yV (vd a)).2 _ (bT.mpr ⟨b,d,rfl⟩))
def zBs{s:Int}:((aH n).map fun b=>if c=b then s else 0).sum=if 0<=c/\c<(n:Int)then s else 0:=by induction n with|zero=>rw[ak (by lia)];rfl|succ n e=>
 rw[Dw,fN,oo,e];by_cases z:c=n;.rw[ak (by lia),ao (by lia)];simp[z]
 . by_cases w:0<=c/\c<n;.rw[ao w,ao (by lia)];simp[z]
   .rw[ak w,ak (by lia)];simp[z]
def Iy:((aH n).map (aS (z++[(s,c)]))).sum=((aH n).map (aS z)).sum+if 0<=c/\c<(n:Int)then s else 0:=by rw[<-zBs,<-HC];congr 1;refine fO fun b _=>?_;rw[ub]
def zxy{l:List Int}(h:k<l.length):(l.drop k).sum=gA l k+(l.drop (k+1)).sum:=by rw[nr h,lM];simp[gA,h]
def zAc(a:0<r):up x r<=1+up (x-r) r:=by
 have c:=H_ (t:=x) a;have f:=H_ (t:=x-r) a;have e:=P_ (t:=x-r) a;have b:cdiv (x-r) r<=up (x-r) r:=by omega
 have d:r*cdiv _ r<=r*up _ r:=Int.mul_le_mul_of_nonneg_left b (by lia);have g:cdiv x r<=1+up (x-r) r:=HX a (by grind);omega
def DU(h:z.Perm a)(b:Int):aS z b=aS a b:=tf ((h.filter _).map _)
def zBL(h:a.length=ws.length):ws.zip a=(aH ws.length).map fun j=>(gA ws j,gA a j):=by
 apply jS (by simp[aH,h]);intro i b d;simp at b;have c:i<ws.length:=by lia
 have i2:i<a.length:=by lia
 simp[aH,gA,c,i2]
def DV(h:a.length=ws.length):((b_ ws).zip ((bH ws).map (gA a))).Perm (ws.zip a):=by
 have e:(b_ ws).zip ((bH ws).map (gA a))=(bH ws).map fun j=>(gA ws j,gA a j):=by unfold b_;grind
 rw[e,zBL h];exact(yS _).map _
def BA(h:a.length=ws.length)(x:Int):x∈(bH ws).map (gA a)↔x∈a:=by
 have e:a=(aH ws.length).map (gA a):=by apply jS (by simp[aH,h]);intro i b c;simp[aH,gA,b]
 rw[((yS _).map _).mem_iff,<-e]
def zAe{n:Nat}:∀(z:List (Int×Int)),(z.map (·.1)).Nodup->(∀x∈z,0<=x.1/\x.1<(n:Int))->∀x∈z,gA (putL n z) x.1=x.2:=fun z=>by
 have b:∀m(z:List (Int×Int)),z.length=m->(z.map _).Nodup->(∀x∈z,0<=x.1/\x.1<n)->∀x∈z,gA (putL n z) x.1=x.2:=fun m=>by induction m with|zero=>simp|succ m i=>
  intro z o g a x h;have j:z≠[]:=fun e=>by grind
  obtain⟨l,y,rfl⟩:∃l y,z=l++[y]:=⟨_,_,(rQ j).symm⟩;rw[fN]at g;obtain⟨n1,_,n3⟩:=el.mp g;rw[QR];have p:=a y (by simp);have k:=a x h;unfold gA;rw[cz];rcases bJ.mp h with q|q;.have d:x.1≠y.1:=n3 _ (bT.mpr ⟨x,q,rfl⟩) _ (by simp);rw[aL (by lia)];exact i l (by simpa using o) n1 (fun v hv=>a v (by simp[hv])) x q
  .rw[bj.mp q,bf (by rw[DS];lia)];rfl
 exact b _ z rfl
def QS(h:c.length=ws.length):(bH ws).map (gA (putL ws.length ((bH ws).zip c)))=c:=by
 have g:=yT ws;have a:((bH ws).zip c).map _=bH _:=nz (by lia);have f:((bH ws).zip c).map _=c:=List.map_snd_zip (by lia);have b:=zAe _ (by rw[a];exact zwB _) (fun x d=>DA _ (dR d).1);generalize putL _ _=P at b⊢;have e:(bH ws).map (gA P)=((bH ws).zip c).map fun x=>gA P x.1:=by
  conv=>lhs;rw[<-a]
  simp
 rw[e,fO b,f]
def QT(h:∀x,x∈a↔x∈b):(uniq a).length=(uniq b).length:=((fU (kP a).1 (kP b).1).mpr fun x=>by rw[(kP a).2,(kP b).2];exact h x).length_eq
def QU(p:List Int)(r:List Int):∃t,uniq (p++r)=uniq p++t:=by
 refine DB (P:=fun r=>∃t,uniq (p++r)=uniq p++t) ⟨[],by simp⟩ (fun r x ⟨t,e⟩=>?_) r;rw[<-jP,yU,e];split;.simp
 simp
def io(g:List Int)(x:Int):Int:=((uniq g).idxOf x:Nat)
def kF(g:List Int):List Int:=g.map (io g)
def QV(h:x∈p):io (p++r) x=io p x:=by obtain⟨t,e⟩:=QU p r;unfold io;rw[e,List.idxOf_append,ao (((kP p).2 x).mpr h)]
def QW(h:x∈g):0<=io g x/\io g x<((uniq g).length:Nat):=by have:=List.idxOf_lt_length_iff.mpr (((kP g).2 x).mpr h);unfold io;lia
def QX(b:x∈g)(c:y∈g)(e:io g x=io g y):x=y:=by
 have e:(uniq g).idxOf x=(uniq g).idxOf y:=by unfold io at e;lia
 rw[<-List.getElem_idxOf (List.idxOf_lt_length_iff.mpr (((kP g).2 x).mpr b))];simp_all
def zA7(p r:List Int):kF (p++r)=kF p++r.map (io (p++r)):=by unfold kF;rw[fN];congr 1;exact fO fun x a=>QV a
def QY(g:List Int):(uniq (kF g)).length=(uniq g).length:=by
 have f:((uniq g).map (io g)).Nodup:=by refine oi.mpr ((kP g).1.imp_of_mem fun{a b} d h c e=>c (QX (((kP g).2 a).mp d) (((kP g).2 b).mp h) e))
 have:=((fU (kP (kF g)).1 f).mpr fun x=>by rw[(kP _).2];unfold kF;simp[(kP g).2]).length_eq;simp_all
def QZ(e:kF g=c++w::r):0<=w/\w<=(nB c:Int)/\w<((uniq g).length:Nat):=by
 obtain⟨p,x,q,rfl,d⟩:∃p x q,g=p++x::q/\p.length=c.length:=by
   have i:c.length<g.length:=by have:=cK List.length e;unfold kF at this;simp_all
   exact⟨g.take c.length,g[c.length],g.drop (c.length+1),by simp,by grind⟩
 rw[zA7]at e;obtain⟨f,j⟩:=List.append_inj e (by unfold kF;simp[d]);have b:w=io (p++x::q) x:=by simp_all
 have l:=QW (g:=p++x::q) (x:=x) (by simp);refine⟨by lia,?_,by lia⟩;unfold nB;rw[<-f,QY,b];by_cases m:x∈p;.rw[QV m];have:=QW m;lia
 . obtain⟨t,h⟩:=QU _ q;have:uniq (p++x::q)=uniq p++(x::t):=by rw[show p++x::q=(p++[x])++q by simp,h,yU,ak (fun z=>m (((kP p).2 x).mp z))];simp
   unfold io;rw[this,List.idxOf_append,ak (fun z=>m (((kP p).2 x).mp z))];simp
def zz4{l g:List Int}(h:g.length<=l.length)(a:b∈g):aS (l.zip (kF g)) (io g b)=aS (l.zip g) b:=by unfold aS kF;rw[List.zip_map_right,List.filter_map,cg];congr 1;congr 1;refine qf fun x c=>?_;simp[Prod.map];exact⟨fun e=>QX ((dR c).2) a e,fun e=>by rw[e]⟩
def Q0{l g:List Int}(h:g.length<=l.length)(a:0<=M)(hM:∀b,aS (l.zip g) b<=M)(b:Int):aS (l.zip (kF g)) b<=M:=by
 by_cases z:b∈kF g;.obtain⟨x,c,rfl⟩:=bT.mp z;rw[zz4 h c];simp_all
 .rwa[Bt (by rwa[Bu (by unfold kF;simp_all)])]
def zxJ{m:Nat}:∀(z:List (Int×Int)),(∀x∈z,0<=x.2/\x.2<(m:Int))->((aH m).map (aS z)).sum=(z.map (·.1)).sum:=fun z=>by
 have b:∀k(z:List (Int×Int)),z.length=k->(∀x∈z,0<=x.2/\x.2<m)->((aH m).map (aS z)).sum=(z.map (·.1)).sum:=fun k=>by induction k with|zero=>intro z a _;rw[lz.mp a,ve];simp|succ k g=>
  intro z a d;have i:z≠[]:=fun e=>by simp_all
  obtain⟨l,y,rfl⟩:∃l y,z=l++[y]:=⟨_,_,(rQ i).symm⟩;rw[Iy,g l (by simpa using a) fun x h=>d x (by simp[h]),ao (d y (by simp))];simp
 exact b _ z rfl
def Q1{l:List Int}{f:Int->Int}(h:∀x∈l,f x<=M):(l.map f).sum<=l.length*M:=by induction l with|nil=>simp|cons a l e=>have i:=h a (by simp);have g:=e fun x d=>h x (by simp[d]);simp only[bR,lM,fK];rw[rO,Int.add_mul];lia
def DW(h:∀x∈z,0<=x.1)(b:Int):0<=aS z b:=PH fun x a=>h x (c9.mp a).1
def zxI(y z:List (Int×Int))(b:Int):aS (y++z) b=aS y b+aS z b:=by simp[aS]
def zAW(ws:List Int):(b_ ws).sum=ws.sum:=by
 have e:ws=(aH ws.length).map (gA ws):=by apply jS (by simp[aH]);intro i a b;simp[aH,gA,a]
 conv=>rhs;rw[e]
 exact tf ((yS _).map _)
def Q2(t:ws.length<=100):Di [iL (bH ws),encC cs]=.ok (iL (putL ws.length ((bH ws).zip cs))):=by
 obtain⟨C,l⟩:=zaa (encC cs);obtain⟨c,h⟩:=zaa (iL (bH ws));have m:=yT ws;obtain⟨g,n,f,e,rfl⟩:=jo (b:=c5 2 (cB (aQ 3) (cB (aQ 4) cw))) (fun x=>D.tup [.int x.1,.int _]) (fun d g=>∃f e,g=[.v c,.v C,.o (iL (putL ws.length d)),sv f,sv e]) ((bH ws).zip cs) (by rintro d ⟨a,b⟩ j g k ⟨f,e,rfl⟩;have p:=DA a (dR (show(a,b)∈(bH ws).zip cs by simp_all)).1;refine⟨_,_,?_,.inl (HS (i:=2) (mi:=ag 3) (me:=ag 4) (δ:=[.v c,.v C,.o (iL (putL ws.length d)),.v _,.v _]) rfl rfl p.1 (by rw[DS];lia) rfl),some _,some _,by rw[QR];rfl⟩;rcases f with _|f<;>rcases e with _|e<;>rfl) _ ⟨none,none,rfl⟩;refine gi ?_;rw[<-l,<-h];have s:aD Pm (c8 2) [.v c,.v C,.no,.no,.no]=.nx [.v c,.v C,.o (iL (List.replicate ws.length 0)),.no,.no]:=by refine iW ?_ rfl;rw[<-m];refine HU ?_ (by lia);rw[h];rfl
 have r:Pn [.v c,.v C,.o (iL (List.replicate ws.length 0)),.no,.no]=.nx [.v c,.v C,.o (iL (putL ws.length ((bH ws).zip cs))),sv f,sv e]:=by refine(jn ?_).trans n;rw[l,h];simp[xy,ag,HZ]
 exact(bG s).trans ((bG r).trans rfl)
def zqC(a:ws.length<=100):Dj [qC m ws,encC cs]=.ok (iL (putL ws.length ((bH ws).zip cs))):=by refine gi ?_;show cU _ [.v _,.v _]=_;simp[cU,ag,aj,zxQ,Q2 a]
def ztu(a:ws.length<=100):Dk [iU r ws,encC cs]=.ok (iL (putL ws.length ((bH ws).zip cs))):=by refine gi ?_;show cU _ [.v _,.v _]=_;simp[cU,ag,aj,zxM,Q2 a]
def Q3{m:Nat}(s:m<=100)(B:ws.length<=1000)(t:∀b∈a,0<=b/\b<(m:Int)):Bi [iL ws,iL a,.int m]=.ok (iL ((aH m).map (aS (ws.zip a)))):=by obtain⟨W,h⟩:=zaa (iL ws);obtain⟨A,k⟩:=zaa (iL a);rw[<-h,<-k];obtain⟨g,u,d,e,rfl⟩:=jo (b:=c5 2 (cB (aQ 4) (cB (aQ 5) cw))) (fun x=>D.tup [.int x.1,.int x.2]) (fun c g=>∃d e,g=[.v W,.v A,.v (.int m),.o (iL ((aH m).map (aS c))),sv d,sv e]) (ws.zip a) (by rintro c ⟨w,b⟩ l g j ⟨d,e,rfl⟩;obtain⟨f,n⟩:=t b (dR (show(w,b)∈ws.zip a by simp_all)).2;have q:=HS (i:=3) (mi:=ag 5) (me:=m2 bD (m2 aJ (aj 3) (aj 5)) (aj 4)) (δ:=[.v W,.v A,.v (.int m),.o (iL ((aH m).map (aS c))),.v (.int w),.v _]) (y:=gA ((aH m).map (aS c)) b+w) rfl rfl f (by rw[aF,cZ];lia) (by simp[aj,(v_ (L:=(aH m).map (aS c)) f (by rw[aF,cZ];lia))]);rw[HY f n]at q;exact⟨_,_,by rcases d with _|d<;>rcases e with _|e<;>rfl,.inl q,some _,some _,rfl⟩) _ ⟨none,none,rfl⟩;refine gi ?_;have p:Pp _=_:=(jn (by simp[xj,ag,uU,h,k,iL,mG,Qb])).trans u;exact gK [.v W,.v A,.v _,.o (iL ((aH m).map _)),.no,.no] (by rw[ve];exact Qc s rfl) rfl ((bG p).trans rfl)
def Q4{m:Nat}(o:0<m)(l:m<=100)(p:ws.length<=100)(k:a.length=ws.length)(f:∀b∈a,0<=b/\b<(m:Int)):pP [.int 1,.lst [iL ws,.int m],iL a]=.ok (.int (jB m ws a)):=by
 refine y7 (by lia) _ ?_ (.inr (.inl ⟨rfl,rfl⟩));have h:=Q3 l (show ws.length<=1000 by lia) f;have e:=outs (δ:=[.v (.lst [iL ws,.int m]),.v _,.v (iL ws),.v (.int m)]) (j:=3) (B:=aj 0) rfl rfl (fun x=>rfl) (by lia) f;have d:au [iL a]=some (.int a.length):=by simp
 have i:au [iL ws]=some (.int ws.length):=by simp
 obtain⟨W,g⟩:=zaa (iL ws);obtain⟨A,c⟩:=zaa (iL a);rw[<-c]at d;rw[<-g]at i;rw[<-g,<-c]at h e⊢;refine iA ?_;have n:aR (m2 kL (aK au (ai (aj 1) af)) (aK au (ai (aj 2) af))) [.v (.lst [W,.int m]),.v A,.v W,.v (.int m)]=.ok false:=by simp[aR,aj,d,i,k]
 refine(bG (show _=O.nx [.v _,.v A,.v W,.v _]from rfl)).trans ((bG ((iK ?_).trans rfl)).trans ?_);.unfold gI;rwa[n]
 .simp[aG,ag,h,Qa (vd o),jB]
def Q5{m:Nat}(g:0<m)(h:c.length=l.length)(f:∀b∈c,0<=b/\b<(m:Int)):cdiv l.sum m<=jB m l c:=by refine HX (by lia) ?_;have e:=zxJ (l.zip c) fun x a=>f _ (dR a).2;rw[nz (by lia)]at e;have:=Q1 (M:=jB m l c) fun x a=>(yV (vd g)).2 _ (bT.mpr ⟨x,a,rfl⟩);rw[cZ]at this;lia
def zCQ(a:0<m)(h:∀b,aS (l.zip c) b<=M):jB m l c<=M:=by obtain⟨b,_,e⟩:=bT.mp (yV (vd a (f:=aS (l.zip c)))).1;unfold jB;grind
def zCZ(m:Nat)(ws:List Int):Qs:=⟨ws.length,k7 m ws,kD m⟩
def DX{P:Nat->Prop}(a:n<=6)(h:∀k,k<6->P k)(b:k<n):P k:=h k (by lia)
def zAx{m:Nat}(j:0<m)(Y:m<=4)(J:ws.length<=6)(H:∀w∈ws,0<w)(y:a.length=ws.length)(t:∀b∈a,0<=b/\b<(m:Int)):Kd (qC m ws) (zCZ m ws) (fun c=>c.length<=ws.length/\∀x∈c,0<=x/\x<(m:Int)) 1 (.lst [iL ws,.int m]) a:=by
 have v:∀c,(kD m c).length<=c.length+1/\(kD m c).length<=m/\0<(kD m c).length:=fun c=>by have:=HW c;unfold kD;rw[cZ];lia
 have Q:∀c,∀w∈kD m c,0<=w/\w<(m:Int):=fun c w q=>by have E:=(v c).2.1;unfold kD at q E;rw[cZ]at E;have:=aE.mp q;lia
 refine⟨⟨⟨⟨bM _,fun _ z=>(nomatch z)⟩,fun c h=>h.1,fun c h d w q=>⟨by have d:c.length<ws.length:=d;grind,fun x o=>?_⟩,fun c _ _ e=>?_⟩,by show ws.length<=7;lia,fun c _ _=>?_,fun c i G A h f p=>?_,fun i A f=>?_,fun c i G A h d f p=>?_⟩,⟨_,y4 [1,2,3,4,5,6] [874,873,436,145,36,7] (fun c _ d=>bo (v c).1 (DX (P:=fun k=>k+1<=[1,2,3,4,5,6].getD k 0) J (by decide) d)) (fun k S=>DX (P:=fun k=>1+[1,2,3,4,5,6].getD k 0*[874,873,436,145,36,7].getD (k+1) 1<=[874,873,436,145,36,7].getD k 1) J (by decide) S) (by decide) (by decide)⟩,fun c h d w q=>?_,fun c h d i G A f p=>?_,?_⟩
 . rcases bJ.mp o with z|z;.simp_all
   .rw[bj.mp z];exact Q c w q
 .have:=(v c).2.2;have e:kD m c=[]:=e;simp_all
 .have:=(v c).2.1;show(kD m c).length<=10;lia
 .exact(DK f).trans (m8 f (DG (by decide)) p (zvK j (by omega) h.1 h.2))
 .exact(DK f).trans (yZ f (DG (by decide)) zqQ)
 .exact(DK f).trans (m8 f (DG (by decide)) p (zt1 (by omega) (by lia)))
 . have Z:=zBf H d;have M:jB m (b_ ws) c<=jB m (b_ ws) (c++[w]):=by unfold jB;refine zxY j fun b=>?_;rw[DT (by rwa[mO]),ub];dsimp only;split<;>lia
   show k7 m ws c<=k7 m ws (c++[w]);unfold k7;split<;>split<;>lia
 . have d:c.length=ws.length:=d;refine⟨_,(DK f).trans (m8 f (DG (by decide)) p (zqC (by lia))),?_⟩;have po:=QS (ws:=ws) (c:=c) d;have B:=DS ws.length ((bH ws).zip c);rw[Q4 j (by omega) (by lia) B fun b u=>h.2 b (by rw[<-po];exact(BA B b).mpr u)];have L:=Q5 (m:=m) (l:=b_ ws) (c:=c) j (by rwa[mO]) h.2;rw[zAW]at L;have e:jB m ws (putL ws.length ((bH ws).zip c))=jB m (b_ ws) c:=by unfold jB;congr 1;refine fO fun b _=>?_;rw[<-DU (DV B),po]
   rw[e];show _=R.ok (D.int (k7 m ws c));unfold k7;split;.rfl
   .congr 2;lia
 . obtain⟨g,C⟩:=zaa ((bH ws).map (gA a));have K:g.length=ws.length:=by rw[C,aF,yT]
   have T:∀b∈g,0<=b/\b<(m:Int):=fun b u=>t b (by rw[C]at u;exact(BA y b).mp u);have ug:=y8 (n:=m) (kP g).1 fun x o=>T x (((kP g).2 x).mp o);have sm:∀b,aS ((b_ ws).zip g) b=aS (ws.zip a) b:=fun b=>by rw[C];exact DU (DV y) b
   refine⟨kF g,jB m ws a,⟨by unfold kF;rwa[aF],fun c w r e=>?_⟩,?_,Q4 j (by omega) (by lia) y t⟩;.obtain⟨X,N,s3⟩:=QZ e;refine aE.mpr ⟨X,?_⟩;have N:w<=((uniq c).length:Int):=N;split<;>lia
   . have I:∀x∈ws.zip a,0<=x.1:=fun x o=>Int.le_of_lt (H x.1 (dR (show(x.1,x.2)∈ws.zip a from o)).1);have s:∀b,aS (ws.zip a) b<=jB m ws a:=fun b=>by
      by_cases z:b∈a;.exact(yV (vd j)).2 _ (bT.mpr ⟨b,aE.mpr (t b z),rfl⟩)
      .rw[Bt (by rwa[Bu (by lia)])];exact ji (DW I 0) ((yV (vd j)).2 _ (bT.mpr ⟨0,aE.mpr (by lia),rfl⟩))
     have f:0<=jB m ws a:=ji (DW I 0) (s 0);have U:jB m (b_ ws) (kF g)<=jB m ws a:=zCQ j fun b=>Q0 (by rw[K,mO];exact aC _) f (fun b=>by rw[sm];exact s b) b;have L:=Q5 (m:=m) (l:=ws) (c:=a) j y t;show k7 m ws (kF g)<=_;unfold k7;split<;>omega
def zqp(ns:List Int)(S:ns.length<=63)(f:Int):∃q Q Ok g z,G4 [.c_ ns,.int f]=.ok (.lst [q,g,iL z])/\Kd q Q Ok 1 g z:=by
 obtain⟨m,J⟩:∃m:Nat,(m:Int)=1+f%4:=⟨(1+f%4).toNat,by lia⟩;have n:0<(m:Int):=by lia
 obtain⟨H,h,T,K⟩:=DQ ns 2 8;obtain⟨c,i,Z,I⟩:=QP H (by lia);have t:=zuh (m:=m) (ws:=c) (by lia) (by lia) (by lia);have y:au [iL c]=some (.int c.length):=by simp
 obtain⟨F,B⟩:=pY (r:=fun(k:Nat)(x:Int)=>iR [.c_ ns,.int (9+(k:Int))]=.ok (.int x)) fun k=>⟨_,yN ns (by lia)⟩;obtain⟨X,u⟩:=zaa (D.c_ ns);have E:rm X=some (ns.map .int):=by rw[u];rfl
 obtain⟨W,C⟩:=zaa (iL c);rw[<-u]at B⊢;rw[<-C]at i t y;obtain⟨a,o⟩:=zaa ((aH c.length).map fun k=>F k.toNat%m:List Int);have L:OE [.v X,.v (.int f),.v W,.v (.int m)]=.ok (iL a):=by rw[o];unfold iL;rw[cg];refine iv (l:=(aH c.length).map .int) (by simp[bw,aj,y,gg (show c.length<=1000 by lia)]) (by rw[aF,cZ];lia) (lG .int _ _ fun k N=>?_);have:=B k.toNat;rw[show((k.toNat:Nat):Int)=k by have:=(aE.mp N).1;lia]at this;simp[gh,cP,jv,b3,aj,ag,this,gN n]
 have p:=zAx (m:=m) (ws:=c) (a:=a) (by lia) (by lia) (by lia) (fun w i=>by grind) (by rw[o,aF,cZ]) fun b A=>by rw[o]at A;obtain⟨k,_,rfl⟩:=bT.mp A;exact⟨rF _ n,vb _ n⟩
 rw[<-C]at p;refine⟨qC m c,_,_,.lst [W,.int m],a,gi ?_,p⟩;.have s:=DR (j:=8) E h (δ:=[.v X,.v (.int f),.no,.no]) rfl;show aq _ _ [.v X,.v (.int f),.no,.no]=_;refine gK [.v X,.v _,.v W,.no] (by simp[s,R.aA,i,R.bF]) rfl (gK [.v X,.v _,.v W,.v (.int m)] (by simp[aj,gN,J]) rfl ?_);simp[cU,bA,ag,t,L,sizeLine]
def Q6(u:0<=r)(I:ws.length<=50)(s:∀w∈ws,0<w)(H:a.length=ws.length)(e:∀b∈a,0<=b/\b<((2*ws.length:Nat):Int))(C:∀b,aS (ws.zip a) b<=r):pP [.int 2,.lst [iL ws,.int r],iL a]=.ok (.int (uniq a).length):=by
 refine y7 (by lia) Dp ?_ (.inr (.inr (.inl ⟨rfl,rfl⟩)));have o:=Q3 (m:=2*ws.length) (by lia) (show ws.length<=1000 by lia) e;have k:eN 2:=dG 10 (by decide);have h:eN (ws.length:Int):=dG 100 (by lia);have g:au [iL a]=some (.int a.length):=by simp
 have c:au [iL ws]=some (.int ws.length):=by simp
 have f:=Ir (l:=a) (by lia);have n:(2:Int)*ws.length=((2*ws.length:Nat):Int):=by lia
 have y:∀x∈ws.zip a,0<=x.1:=fun x G=>Int.le_of_lt (s x.1 (dR (show(x.1,x.2)∈ws.zip a from G)).1);obtain⟨M,z,hM⟩:∃M,tW [iL ((aH (2*ws.length)).map (aS (ws.zip a)))] (.int 0)=some (.int M)/\M<=r:=⟨_,PY fun w d=>by obtain⟨b,_,rfl⟩:=bT.mp d;exact DW y b,HN u fun w d=>by obtain⟨b,_,rfl⟩:=bT.mp d;exact C b⟩;have i:=outs (δ:=[.v (.lst [iL ws,.int r]),.v (iL a),.v (iL ws),.v (.int r)]) (j:=2) (X:=iL ws) (B:=m2 gf (mC (.int 2)) (aK au (ai (aj 0) af))) (a:=a) (m:=(2*ws.length:Nat)) rfl rfl (fun x=>by simp only[jK,mC,aK,ai,af,aj,List.getElem?_cons_zero,R.aA,c,R.bI,uP k h,n]) (by lia) e;obtain⟨W,p⟩:=zaa (iL ws);obtain⟨A,q⟩:=zaa (iL a);rw[<-q]at g f;rw[<-p]at c;rw[<-p,<-q]at o i⊢;refine iA ?_;have E:aR (m2 kL (aK au (ai (aj 1) af)) (aK au (ai (aj 2) af))) [.v (.lst [W,.int r]),.v A,.v W,.v (.int r)]=.ok false:=by simp[aR,aj,g,c,H]
 have t:aR (m2 kq (uO (ai (bu Bi (ai (ag 2) (ai (ag 1) (ai (m2 gf (mC (.int 2)) (aK au (ai (aj 2) af))) af)))) af) (mC (.int 0))) (aj 3)) [.v (.lst [W,.int r]),.v A,.v W,.v (.int r)]=.ok false:=by
  have:=by omega
  simp only[aR,jK,uO,bu,aK,ai,af,ag,aj,mC,List.getElem?_cons_succ,List.getElem?_cons_zero,R.aA,c,R.bI,uP k h,n,o,R.bF,z,Wk,MD];grind
 refine(bG (show _=O.nx [.v (.lst _),.v A,.v W,.v _]from rfl)).trans ((bG ((iK ?_).trans rfl)).trans ((bG ((iK t).trans rfl)).trans ?_));.unfold gI;rwa[E,R.aA]
 .simp[aG,aj,f]
def Iz(r:Int)(ws:List Int):Qs:=⟨ws.length,kE r ws,jC r ws⟩
def Q7(f:0<r)(d:c.length=ws.length)(e:∀b,aS ((b_ ws).zip c) b<=r):kE r ws c=nB c:=by have:=Q1 (l:=aH (nB c)) fun b _=>e b;rw[cZ]at this;unfold kE up;rw[d,<-mO,ao (by grind)];lia
def zBi{l c t:List Int}(h:(c++t).length<=l.length):∃z,l.zip (c++t)=l.zip c++z/\∀x∈z,x.1∈l:=by
 refine⟨(l.drop c.length).zip t,?_,fun x a=>List.mem_of_mem_drop (dR a).1⟩;conv=>lhs;rw[<-List.take_append_drop c.length l]
 rw[List.zip_append (by grind),Qi]
def zDx(B:0<r)(M:r<=1000000000000000000)(X:ws.length<=6)(G:∀w∈ws,0<w)(I:∀w∈ws,w<=r)(N:a.length=ws.length)(ha:∀b∈a,0<=b/\b<((2*ws.length:Nat):Int))(C:∀b,aS (ws.zip a) b<=r):Kd (iU r ws) (Iz r ws) (fun c=>c.length<=ws.length/\Cn c/\∀b,aS ((b_ ws).zip c) b<=r) 2 (.lst [iL ws,.int r]) a:=by
 have wl:∀c,(jC r ws c).length<=c.length+1:=fun c=>by have l1:=DE c;have l2:=nu (fun k=>decide (aS ((b_ ws).zip c) k+gA (b_ ws) c.length<=r)) (aH (nB c));rw[cZ]at l2;unfold jC;simp only[eJ,fK,List.length_nil];lia
 have S:∀c,c.length<ws.length->Cn c->(∀b,aS ((b_ ws).zip c) b<=r)->∀w∈jC r ws c,(0<=w/\w<=(nB c:Int))/\∀b,aS ((b_ ws).zip (c++[w])) b<=r:=fun c d cn C w n=>by
   have gp:=I _ (Ia _ (eL (sU (L:=b_ ws) (i:=(c.length:Int)) (by rw[mO];lia))));rw[DT (by rwa[mO])];unfold jC at n;rcases bJ.mp n with z|z
   . obtain⟨z1,U⟩:=c9.mp z;have U:=oQ U;have:=aE.mp z1;refine⟨by lia,fun b=>?_⟩;rw[ub];dsimp only;split;.simp_all
     simp_all
   . rw[bj.mp z];refine⟨by lia,fun b=>?_⟩;rw[ub];dsimp only;split;.rename_i e;rw[<-e,Bt (by rw[Bu (by rw[mO];lia)];intro v;have:=DC cn _ v;lia)];lia
     .have:=C b;lia
 refine⟨⟨⟨⟨bM _,fun p c q e=>by simp at e,fun b=>by simp[aS];lia⟩,fun c h=>h.1,fun c h d w n=>?_,fun c _ _ e=>?_⟩,by show ws.length<=7;lia,fun c h _=>?_,fun c i T J h f o=>?_,fun i J f=>?_,fun c i T J h d f o=>?_⟩,⟨_,y4 [1,2,3,4,5,6] [874,873,436,145,36,7] (fun c _ d=>bo (wl c) (DX (P:=fun k=>k+1<=[1,2,3,4,5,6].getD k 0) X (by decide) d)) (fun k hk=>DX (P:=fun k=>1+[1,2,3,4,5,6].getD k 0*[874,873,436,145,36,7].getD (k+1) 1<=[874,873,436,145,36,7].getD k 1) X (by decide) hk) (by decide) (by decide)⟩,fun c h d w n=>?_,fun c h d i T J f o=>?_,?_⟩;.have d:c.length<ws.length:=d;obtain⟨w1,w2⟩:=S c d h.2.1 h.2.2 w n;exact⟨by simp;lia,zBY h.2.1 w1.1 w1.2,w2⟩
 .have e:jC r ws c=[]:=e;unfold jC at e;simp at e
 .have:=wl c;have:=h.1;show(jC r ws c).length<=10;lia
 .exact(DM f).trans (m8 f (DF (by decide)) o (zz0 B M (by lia) h.1 h.2.1))
 .exact(DM f).trans (yZ f (DF (by decide)) zuL)
 .exact(DM f).trans (m8 f (DF (by decide)) o (zxT (by lia) d h.2.1))
 . have cm:=(S c d h.2.1 h.2.2 w n).1;have nb:=zCW (c:=w) h.2.1;have Y:=zxy (l:=b_ ws) (k:=c.length) (by rwa[mO]);have ll:(c++[w]).length=c.length+1:=by simp
   show kE r ws c<=kE r ws (c++[w]);unfold kE;rw[(DT (fl:=b_ ws) (cs:=c) (c:=w) (by rw[mO];exact d)),ll];obtain⟨s,es⟩:=zaa (gA (b_ ws) c.length);rw[<-es]at Y⊢;have Q:((b_ ws).zip c).map (·.2)=c:=Bu (by rw[mO];exact gm d);obtain⟨z,H⟩:=zaa ((b_ ws).zip c);rw[<-H]at Q⊢;rw[Y];generalize((b_ ws).drop (c.length+1)).sum=u;by_cases y:w<(nB c:Int)
   . rw[ao ⟨cm.1,y⟩]at nb;rw[nb,Iy,ao ⟨cm.1,y⟩];generalize((aH (nB c)).map (aS z)).sum=m;have:s+u-(nB c:Int)*r+m=u-(nB c:Int)*r+(m+s):=by lia
     rw[this];exact gW _
   . rw[ak (by lia)]at nb;rw[nb,Iy,ao (by lia),Dw,fN,oo,List.map_singleton,List.sum_singleton];have z0:aS z (nB c:Int)=0:=Bt (by rw[Q];intro v;have:=DC h.2.1 _ v;lia);rw[z0];generalize((aH (nB c)).map (aS z)).sum=m;have e:u-((nB c+1:Nat):Int)*r+(m+0+s)=(s+u-(nB c:Int)*r+m)-r:=by
      have:((nB c+1:Nat):Int)*r=(nB c:Int)*r+r:=by rw[rO,Int.add_mul];simp
      lia
     rw[e];have:=zAc (x:=s+u-(nB c:Int)*r+m) B;lia
 .have d:c.length=ws.length:=d;refine⟨_,(DM f).trans (m8 f (DF (by decide)) o (ztu (by lia))),?_⟩;have po:=QS (ws:=ws) (c:=c) d;have A:=DS ws.length ((bH ws).zip c);have nl:=DE c;rw[Q6 (by lia) (by lia) G A (fun b hb=>by have:=DC h.2.1 b (by rw[<-po];exact(BA A b).mpr hb);lia) fun b=>by rw[<-DU (DV A),po];exact h.2.2 b];show _=R.ok (D.int (kE r ws c));rw[Q7 B d h.2.2];unfold nB;rw[QT fun x=>(BA A x).symm,po]
 . obtain⟨g,K⟩:=zaa ((bH ws).map (gA a));have Z:g.length=ws.length:=by rw[K,aF,yT]
   have E:(kF g).length=ws.length:=by unfold kF;rwa[aF]
   have sm:∀b,aS ((b_ ws).zip (kF g)) b<=r:=Q0 (by rw[Z,mO];exact aC _) (by lia) fun b=>by rw[K,DU (DV N)];exact C b
   refine⟨kF g,(uniq a).length,⟨E,fun c w t e=>?_⟩,?_,Q6 (by lia) (by lia) G N ha C⟩
   . obtain⟨s1,s2,_⟩:=QZ e;have lt:c.length<ws.length:=by rw[<-E,e];simp
     show w∈jC r ws c;unfold jC;by_cases y:w=(nB c:Int);.rw[y];simp
     .refine gX _ (c9.mpr ⟨aE.mpr (by lia),da ?_⟩);obtain⟨z,H,hz⟩:=zBi (l:=b_ ws) (c:=c++[w]) (t:=t) (by rw[mO,<-E,e];simp);have:=sm w;rw[e,show c++w::t=(c++[w])++t by simp,H,zxI,DT (by rwa[mO]),ub]at this;have:=DW (z:=z) (fun x hx=>Int.le_of_lt (G _ (Ia _ (hz x hx)))) w;lia
   .show kE r ws (kF g)<=_;rw[Q7 B E sm];unfold nB;rw[QY,QT (a:=g) (b:=a) fun x=>by rw[K];exact BA N x];exact gW _
def IA{L R:List Int}(a:L.Nodup)(h:∀x∈L,x∈R):L.length<=R.length:=by
 have p:L.Perm ((uniq R).filter fun x=>decide _):=(fU a ((kP R).1.filter _)).mpr fun x=>by simp[c9,hV,(kP R).2];exact⟨fun z=>⟨h x z,z⟩,fun z=>z.2⟩
 rw[p.length_eq];exact bo (nu _ _) (HW R)
def zDE(h0:0<=i)(h1:i<4):∃x,(x=a\/x=b\/x=c\/x=e)/\aJ (.lst [.int a,.int b,.int c,.int e]) (.int i)=some (.int x):=by
 rcases(show i=0\/i=1\/i=2\/i=3 by lia)with h|h|h|h<;>subst h;.exact⟨a,.inl rfl,rfl⟩
 .exact⟨b,.inr (.inl rfl),rfl⟩
 .exact⟨c,.inr (.inr (.inl rfl)),rfl⟩
 .exact⟨e,.inr (.inr (.inr rfl)),rfl⟩
noncomputable abbrev we(X f W B r)(l:En):=(.v X::.v (.int f)::.v W::.v (.int B)::.v (.int r)::l:En)
def zvo(ns:List Int)(h63:ns.length<=63)(f0:0<=f):∃q Q Ok g A,G8 [.c_ ns,.int f]=.ok (.lst [q,g,iL A])/\Kd q Q Ok 2 g A:=by
 have f2:eN 2:=dG 10 (by decide);have f4:eN 4:=dG 10 (by decide);obtain⟨c6,U,uC,hc6⟩:=DQ ns 2 8;obtain⟨p,hw,wl,wok⟩:=QP c6 (by omega);obtain⟨B,em,m1,m2',m3⟩:=zC9 wok;obtain⟨x,hx,ix⟩:=zDE (a:=0) (b:=B) (c:=B/2) (e:=f%4) (rF (f/4) (show(0:Int)<4 by decide)) (vb (f/4) (show(0:Int)<4 by decide));have x0:0<=x:=by lia
 obtain⟨r,er⟩:=zaa (if B+x<1000000000000000000 then B+x else 1000000000000000000);have mn:vV [.int 1000000000000000000,.int (B+x)]=some (.int r):=by rw[er];rfl
 have rr:B<=r/\r<=1000000000000000000:=by omega
 have J:∀w∈p,w<=r:=fun w hw=>by grind
 have hp:∀w∈p,0<w:=fun w hw=>by grind
 have it:=zx9 (r:=r) (ws:=p) (by omega) J;have lW:au [iL p]=some (.int p.length):=by simp[iL]
 have fn:eN (p.length:Int):=dG 100 (by lia);have tw:(2:Int)*p.length=((2*p.length:Nat):Int):=by lia
 have Q8:∀K:En,ag 2 K=.ok (iL p)->px (ai (ag 2) af) K=.ok ((aH p.length).map fun k=>D.tup [.int k,.int (gA p k)]):=fun K h=>by simp only[px,ai,af,h,R.aA];rw[<-HV];rfl
 have I:∀k:Int,0<=k->∃x,iR [.c_ ns,.int k]=.ok (.int x):=fun k hk=>⟨_,yN ns hk⟩;obtain⟨X,eX⟩:=zaa (D.c_ ns);have aX:rm X=some (ns.map .int):=by rw[eX];rfl
 obtain⟨W,eW⟩:=zaa (iL p);rw[<-eX]at I⊢;rw[<-eW]at hw it lW em Q8;obtain⟨E,G⟩:∃E:List (Int×Int)->List Int->Sl->Sl->Sl->En,E=fun z A s7 s8 s9=>(we X f W B r [.o (iL ((aH (2*p.length)).map (aS z))),.o (iL A),s7,s8,s9]):=⟨_,rfl⟩;have wh:∀(z:List (Int×Int))(A:List Int)(k s:Int)(m:Nat)(t:Int),0<=t->t+m<((2*p.length:Nat):Int)->(∃i:Nat,i<=m/\aS z (t+i)+s<=r)->∃u,t<=u/\u<=t+m/\aS z u+s<=r/\kK CS OK (m+1) (E z A (.v (.int k)) (.v (.int s)) (.v (.int t)))=.nx (E z A (.v (.int k)) (.v (.int s)) (.v (.int u))):=fun z A k s m=>by
  have M:∀t:Int,0<=t->t<((2*p.length:Nat):Int)->CS (E z A (.v (.int k)) (.v (.int s)) (.v (.int t)))=.ok (decide (r<aS z t+s)):=fun t H t1=>by have gx:=v_ (L:=(aH (2*p.length)).map (aS z)) (k:=t) H (by rw[aF,cZ];lia);rw[yW (z:=[]) H t1]at gx;rw[G];simp[CS,aR,aj,gx]
  induction m with|zero=>
  intro t H t1 ⟨i,hi,h⟩;have:i=0:=by lia
  subst this;refine⟨t,by lia,by lia,by simpa using h,?_⟩;unfold kK;rw[M t H (by lia),cX (by simp at h;lia)];rfl|succ m ih=>
  intro t H t1 ⟨i,hi,h⟩;by_cases y:aS z t+s<=r;.refine⟨t,by lia,by lia,y,?_⟩;unfold kK;rw[M t H (by lia),cX (by lia)];rfl
  . obtain⟨i',rfl⟩:∃i',i=i'+1:=⟨i-1,by cases i with|zero=>simp at h;lia|succ i=>rfl⟩;obtain⟨u,u1,u2,u3,u4⟩:=ih (t+1) (by lia) (by lia) ⟨i',by lia,by rwa[show t+1+(i':Int)=t+((i'+1:Nat):Int)by lia]⟩;refine⟨u,by lia,by lia,u3,?_⟩;rw[Il (yf:=E z A (.v (.int k)) (.v (.int s)) (.v (.int (t+1)))) ((M t H (by lia)).trans (by rw[da (by lia)])) ?_];.exact u4
    .rw[G];exact iW (d:=.int (t+1)) (by simp[aj]) rfl
 obtain⟨K,h1,A,o7,o8,S,rfl,rl,rb,N⟩:=jo (b:=c5 2 (cB (aQ 7) (cB (aQ 8) cw))) (m:=OM) (fun k:Int=>D.tup [.int k,.int (gA p k)]) (fun n K=>∃(A:List Int)(o7 o8 S:Option D),K=E ((p.take n.length).zip A) A (sv o7) (sv o8) (sv S)/\A.length=n.length/\(∀b∈A,0<=b/\b<((2*p.length:Nat):Int))/\∀b,aS ((p.take n.length).zip A) b<=r) (aH p.length) (by
  rintro n k post K Z ⟨A,o7,o8,S,rfl,rl,rb,N⟩;obtain⟨ek,lt⟩:=P8 Z;subst ek;obtain⟨z,ez⟩:=zaa ((p.take n.length).zip A);rw[<-ez]at N⊢;obtain⟨s,es⟩:=zaa (gA p (n.length:Int));have hs:s∈p:=by rw[es];exact eL (sU (L:=p) (i:=(n.length:Int)) (by lia))
  have s0:=hp s hs;have s1:=J s hs;obtain⟨cx,Iw⟩:=I (9+(n.length:Int)) (by lia);have n0:0<(p.length:Int):=by lia
  obtain⟨t,et⟩:=zaa (cx%p.length);have H:0<=t:=by rw[et];exact rF _ n0
  have t1:t<p.length:=by rw[et];exact vb _ n0
  have fit:∃i:Nat,i<=n.length/\aS z (t+i)+s<=r:=nh fun no=>by
    have all:∀i:Nat,i<=n.length->t+i∈A:=fun i hi=>nh fun nm=>no ⟨i,hi,by rw[Bt (by rwa[ez,Bu (by simp;lia)])];lia⟩;have:=IA (L:=(List.range (n.length+1)).map fun i:Nat=>t+(i:Int)) (R:=A) (oi.mpr (hU.imp fun{a b} h e=>h (by have e:t+(a:Int)=t+(b:Int):=e;lia))) fun x hx=>by obtain⟨i,hi,rfl⟩:=bT.mp hx;exact all i (by have:=gZ.mp hi;lia)
    simp at this;lia
  obtain⟨u,u1,u2,u3,u4⟩:=wh z A n.length s n.length t H (by lia) fit;have T:0<=u/\u<((2*p.length:Nat):Int):=by lia
  have w1:aD (m2 oMod (bu iR (ai (ag 0) (ai (m2 bD (mC (.int 9)) (aj 7)) af))) (aK au (ai (aj 2) af))) (aQ 9) (E z A (.v (.int n.length)) (.v (.int s)) (sv S))=.nx (E z A (.v (.int n.length)) (.v (.int s)) (.v (.int t))):=by rw[G];exact iW (d:=.int t) (by simp[ag,aj,Iw,lW,gN n0,et]) (jy (o:=S) rfl)
  have w2:OL (E z A (.v (.int n.length)) (.v (.int s)) (.v (.int t)))=.nx (E z A (.v (.int n.length)) (.v (.int s)) (.v (.int u))):=Cs u4 (by intro e;cases e);have gx:=v_ (L:=(aH (2*p.length)).map (aS z)) (k:=u) T.1 (by rw[aF,cZ];omega);have w3:vO 5 (ag 9) (m2 bD (m2 aJ (aj 5) (aj 9)) (aj 8)) (E z A (.v (.int n.length)) (.v (.int s)) (.v (.int u)))=.nx (E (z++[(s,u)]) A (.v (.int n.length)) (.v (.int s)) (.v (.int u))):=by rw[G];have q:=HS (i:=5) (mi:=ag 9) (me:=m2 bD (m2 aJ (aj 5) (aj 9)) (aj 8)) (δ:=(we X f W B r [.o (iL ((aH (2*p.length)).map (aS z))),.o (iL A),.v (.int n.length),.v (.int s),.v (.int u)])) (L:=(aH (2*p.length)).map (aS z)) (k:=u) (y:=gA ((aH (2*p.length)).map (aS z)) u+s) rfl rfl T.1 (by rw[aF,cZ];omega) (by simp[aj,gx]);rwa[HY T.1 T.2]at q
  have w4:lF 6 (ag 9) (E (z++[(s,u)]) A (.v (.int n.length)) (.v (.int s)) (.v (.int u)))=.nx (E (z++[(s,u)]) (A++[u]) (.v (.int n.length)) (.v (.int s)) (.v (.int u))):=by rw[G];exact(wa (l:=A.map .int) (d:=.int u) rfl rfl (by rw[aF];lia)).trans (by simp[iL])
  have Q9:(p.take (n++[(n.length:Int)]).length).zip (A++[u])=z++[(s,u)]:=by rw[eJ,jT,List.take_succ,show p[n.length]?=some s by rw[es];exact sU (L:=p) (i:=(n.length:Int)) (by lia),List.zip_append (by simp;lia),<-ez];rfl
  refine⟨E z A (.v (.int n.length)) (.v (.int s)) (sv S),_,?_,.inl ((bG w1).trans ((bG w2).trans ((bG w3).trans w4))),A++[u],some (.int n.length),some (.int s),some (.int u),by rw[Q9];rfl,by simp[rl],fun b hb=>?_,fun b=>?_⟩;.rw[G,<-es];rcases o7 with _|o7<;>rcases o8 with _|o8<;>rfl
  . rcases bJ.mp hb with y|y;.exact rb b y
    .rwa[bj.mp y]
  . rw[Q9,ub];dsimp only;split;.rename_i e;rwa[<-e]
    .have:=N b;lia) (E [] [] .no .no .no) ⟨[],none,none,none,by simp[sv],rfl,fun _ z=>(nomatch z),fun b=>by simp[aS];lia⟩;rw[cZ]at rl N;rw[List.take_length]at N;have kb:=zDx (r:=r) (ws:=p) (a:=A) (by lia) rr.2 (by lia) hp J rl rb N;rw[<-eW]at kb;refine⟨iU r p,_,_,.lst [W,.int r],A,gi ?_,kb⟩;show aq _ _ [.v X,.v (.int f),.no,.no,.no,.no,.no,.no,.no,.no]=_;have s:=DR (j:=8) aX U (δ:=[.v X,.v (.int f),.no,.no,.no,.no,.no,.no,.no,.no]) rfl;have q3:aD (aK vV (ai (m2 gJ (mC (.int 10)) (mC (.int 18))) (ai (m2 bD (aj 3) (m2 aJ (bA (ai (mC (.int 0)) (ai (ag 3) (ai (m2 oDiv (aj 3) (mC (.int 2))) (ai (m2 oMod (aj 1) (mC (.int 4))) af))))) (m2 oMod (m2 oDiv (aj 1) (mC (.int 4))) (mC (.int 4))))) af))) (aQ 4) [.v X,.v (.int f),.v W,.v (.int B),.no,.no,.no,.no,.no,.no]=.nx (we X f W B r [.no,.no,.no,.no,.no]):=by
  refine iW (d:=.int r) ?_ rfl;have l4:bA (ai (mC (.int 0)) (ai (ag 3) (ai (m2 oDiv (aj 3) (mC (.int 2))) (ai (m2 oMod (aj 1) (mC (.int 4))) af)))) [.v X,.v (.int f),.v W,.v (.int B),.no,.no,.no,.no,.no,.no]=.ok (.lst [.int 0,.int B,.int (B/2),.int (f%4)]):=by simp[bA,ag,aj,n_,f2,gN,sizeLine]
  simp only[aK,ai,af,jK,l4]at*;simp[aj,Du,n_,f4,gN,ix,mn]
 have z0:(aH (2*p.length)).map (aS [])=List.replicate (2*p.length) 0:=ve _;have q4:aD OJ (c8 5) (we X f W B r [.no,.no,.no,.no,.no])=.nx (we X f W B r [.o (iL ((aH (2*p.length)).map (aS []))),.no,.no,.no,.no]):=by refine iW (d:=iL ((aH (2*p.length)).map (aS []))) ?_ rfl;rw[z0];have:=HU (l:=aH (2*p.length)) (δ:=(we X f W B r [.no,.no,.no,.no,.no])) (mi:=bw (ai (m2 gf (mC (.int 2)) (aK au (ai (aj 2) af))) af)) (by simp only[bw,ai,af,jK,mC,aK,aj,List.getElem?_cons_succ,List.getElem?_cons_zero,R.aA,lW,R.bI,uP f2 fn,tw,gg (show 2*p.length<=1000 by omega)]) (by rw[cZ];omega);rwa[cZ]at this
 have q5:aD (bA af) (c8 6) (we X f W B r [.o (iL ((aH (2*p.length)).map (aS []))),.no,.no,.no,.no])=.nx (E [] [] .no .no .no):=by rw[G];exact iW (d:=iL []) (by simp[bA,iL,sizeLine]) rfl
 have q6:ON (E [] [] .no .no .no)=_:=(jn (Q8 _ (by rw[G];rfl))).trans h1;refine gK (d:=W) [.v X,.v (.int f),.v W,.no,.no,.no,.no,.no,.no,.no] (by simp only[bu,ai,af,s,R.aA,hw,R.bF]) rfl (gK (d:=.int B) [.v X,.v (.int f),.v W,.v (.int B),.no,.no,.no,.no,.no,.no] (by simp[uO,aj,em]) rfl ((bG q3).trans ((bG q4).trans ((bG q5).trans ((bG q6).trans ?_)))));rw[G];show cU _ (we X f W B r [_,.v (iL A),_,_,_])=_;simp[cU,bA,ag,it,sizeLine]
def zAm{L a:List Int}(b:L.Nodup)(d:a.Nodup)(h:∀x∈L,x∈a){g:Int->Int}(h0:∀x∈a,0<=g x):(L.map g).sum<=(a.map g).sum:=by
 have p:L.Perm (a.filter fun x=>decide _):=(fU b (d.filter _)).mpr fun x=>by simp[c9,hV];exact⟨fun z=>⟨h x z,z⟩,fun z=>z.2⟩
 have q:=tf ((List.filter_append_perm (fun x=>decide (x∈L)) a).map g);rw[fN,oo,<-tf (p.map g)]at q;have:=PH (l:=a.filter fun x=>!decide (x∈L)) fun x c=>h0 x (c9.mp c).1;lia
def Q_(L:ts.length<=100)(q:a.Nodup)(c:∀k∈a,0<=k/\k<(ts.length:Int))(J:kC ts a<=r):pP [.int 3,.lst [.int r,iS ts],iL a]=.ok (.int (qA ts ((aH ts.length).filter fun k=>!decide (k∈a)))):=by
 have M:=y8 q c;refine y7 (by lia) Dq ?_ (.inr (.inr (.inr (.inl ⟨rfl,rfl⟩))));have e:=Ir (l:=a) (by lia);rw[QL q]at e;have d:au [iS ts]=some (.int ts.length):=by simp[iS]
 obtain⟨S,f⟩:=zaa (iS ts);have s:∀k:Int,0<=k->k<ts.length->aJ S (.int k)=some (gU (th ts k)):=fun k t G=>by rw[f];exact Br t G
 rw[<-f]at d⊢;have g:Hy [.v (.lst [.int r,S]),.v (iL a),.v (.int r),.v S]=.ok (iL (a.map fun k=>(th ts k).2)):=by unfold iL;rw[cg];refine iv (l:=a.map .int) (by rfl) (by grind) (lG .int _ _ fun k b=>?_);simp[gh,cP,jv,b3,aj,s k (c k b).1 (c k b).2,gU]
 have n:Pq [.v (.lst [.int r,S]),.v (iL a),.v (.int r),.v S]=.ok (iL (((aH ts.length).filter fun k=>!decide (k∈a)).map fun k=>(th ts k).1)):=by
  unfold iL;refine f7 (iv (l:=(aH ts.length).map .int) (by simp[bw,aj,d,gg (show ts.length<=1000 by lia)]) (by rw[aF,cZ];lia) (Ct .int (fun k:Int=>if k∈a then none else some (.int (th ts k).1)) (aH ts.length) fun k b=>?_)) ?_
  . obtain⟨y,w⟩:=aE.mp b;have C:uS (.int k) (.lst (a.map .int))=some (.bl (!decide (k∈a))):=by simp[uS,pE]
    by_cases z:k∈a<;>simp[gh,cP,jv,b3,aR,aj,C,z,s k y w,gU]
  .congr 2;induction aH ts.length with|nil=>rfl|cons x l K=>by_cases z:x∈a<;>simp[qc,z,K]
 have p:=outs (δ:=[.v (.lst [.int r,S]),.v (iL a),.v (.int r),.v S]) (j:=3) (X:=S) (B:=aK au (ai (aj 0) af)) (a:=a) (m:=ts.length) rfl rfl (fun x=>by simp[aj,d]) (by lia) c;obtain⟨A,h⟩:=zaa (iL a);have H:au [A]=some (.int a.length):=by rw[h];simp
 rw[<-h]at e g n p⊢;refine iA ?_;have u:aR (m2 kL (aK sA (ai (aj 1) af)) (aK au (ai (aj 1) af))) [.v (.lst [.int r,S]),.v A,.v (.int r),.v S]=.ok false:=by simp[aR,aj,e,H]
 have E:aR (m2 kq (aK e_ (ai Hy af)) (aj 2)) [.v (.lst [.int r,S]),.v A,.v (.int r),.v S]=.ok false:=by
  have:¬r<(a.map fun k=>(th ts k).2).sum:=by unfold kC at J;lia
  rw[aR,jK,Bv g];simp[aj,this]
 refine(bG (show _=O.nx [.v _,.v A,.v _,.v S]from rfl)).trans ((bG ((iK ?_).trans rfl)).trans ((bG ((iK E).trans rfl)).trans ?_));.unfold gI;rw[u,R.aA];exact p
 .unfold aG;rw[Bv n];rfl
def DY(r:Int)(ts:List Fr):Qs:=⟨ts.length,fun c=>qA ts (cQ c 1),fun c=>if kC ts (cQ c 0)+(th ts c.length).2<=r then[0,1]else[1]⟩
def zBT(T:0<=r)(p:ts.length<=7)(U:∀t∈ts,0<=t.1/\0<=t.2)(H:a.Nodup)(C:∀k∈a,0<=k/\k<(ts.length:Int))(l:kC ts a<=r):Kd (q8 r ts) (DY r ts) (fun c=>c.length<=ts.length/\(∀x∈c,x=0\/x=1)/\kC ts (cQ c 0)<=r) 3 (.lst [.int r,iS ts]) a:=by
 have K:∀c,∀w∈(DY r ts).wy c,w=1\/w=0/\kC ts (cQ c 0)+(th ts c.length).2<=r:=fun c w l=>by
   have l:w∈(if kC ts (cQ c 0)+(th ts c.length).2<=r then[0,1]else[1]:List Int):=l;split at l
   . rename_i z;rcases(show w=0\/w=1 by simp_all)with e|e;.lia
     .lia
   .exact .inl (by simpa using l)
 have q:∀c,0<((DY r ts).wy c).length/\((DY r ts).wy c).length<=2:=fun c=>by show 0<(if kC ts (cQ c 0)+(th ts c.length).2<=r then[0,1]else[1]).length/\(if kC ts (cQ c 0)+(th ts c.length).2<=r then[0,1]else[1]:List Int).length<=2;split<;>decide
 have j:∀{P:Nat->Prop},(∀k,k<7->P k)->∀{k:Nat},k<ts.length->P k:=fun h _ n=>h _ (by lia);have G:∀k:Int,0<=k->k<ts.length->0<=(th ts k).1/\0<=(th ts k).2:=fun k u s=>U _ (zCs u s);refine⟨⟨⟨⟨bM _,fun _ z=>(nomatch z),by simp[cQ,aH,kC];exact T⟩,fun c h=>h.1,fun c h d w l=>?_,fun c _ _ e=>?_⟩,p,fun c _ _=>bo (q c).2 (by decide),fun c i N E h b p=>?_,fun i E b=>?_,fun c i N E h d b p=>?_⟩,⟨_,y4 [2,2,2,2,2,2,2] [255,127,63,31,15,7,3] (fun c _ d=>bo (q c).2 (j (P:=fun k=>2<=[2,2,2,2,2,2,2].getD k 0) (by decide) d)) (fun k n=>j (P:=fun k=>1+[2,2,2,2,2,2,2].getD k 0*[255,127,63,31,15,7,3].getD (k+1) 1<=[255,127,63,31,15,7,3].getD k 1) (by decide) n) (by decide) (by decide)⟩,fun c h d w l=>?_,fun c h d i N E b p=>?_,?_⟩
 . have d:c.length<ts.length:=d;refine⟨by simp;lia,fun x o=>?_,?_⟩
   . rcases bJ.mp o with z|z;.exact h.2.1 x z
     .rw[bj.mp z];exact(K c w l).elim .inr fun y=>.inl y.1
   . rw[Bo];rcases K c w l with e|⟨e,y⟩;.rw[ak (by lia),dg];exact h.2.2
     .rwa[ao e,HQ,HR]
 .have:=(q c).1;rw[e]at this;exact absurd this (by decide)
 .exact(vm b).trans (m8 b (DJ (by decide)) p (zAy h.1 (by lia)))
 .exact(vm b).trans (yZ b (DJ (by decide)) zvj)
 .exact(vm b).trans (m8 b (DJ (by decide)) p (zyS d (by lia)))
 . have d:c.length<ts.length:=d;show qA ts (cQ c 1)<=qA ts (cQ (c++[w]) 1);rw[Bo];split
   . rw[zz8];have:=(G c.length (by lia) (by omega)).1;have e:qA ts [(c.length:Int)]=(th ts c.length).1:=by simp[qA]
     lia
   .rw[dg];exact gW _
 . have d:c.length=ts.length:=d;refine⟨cQ c 0,(vm b).trans (m8 b (DJ (by decide)) p (gi ?_)),?_⟩;.show cU _ [.v (q8 r ts),.v (encC c)]=_;simp[cU,ag,yQ (cs:=c) (ch:=0) (by lia)]
   . rw[Q_ (a:=cQ c 0) (by lia) ((sT _).filter _) (fun k n=>by have:=(fe.mp n).1;lia) h.2.2];show _=R.ok (D.int (qA ts (cQ c 1)));have:(aH ts.length).filter (fun k=>!decide (k∈cQ c 0))=cQ c 1:=by unfold cQ;rw[d];refine qf fun k n=>?_;obtain⟨u,s⟩:=aE.mp n;have m:=h.2.1 (gA c k) (eL (sU (L:=c) (i:=k) (by lia)));rcases m with m|m<;>simp[m,n]
     rw[this]
 . obtain⟨f,I⟩:=zaa ((aH ts.length).map fun k=>if k∈a then 0 else 1:List Int);have fl:f.length=ts.length:=by rw[I,aF,cZ]
   have A:∀k:Int,0<=k->k<ts.length->gA f k=if k∈a then 0 else 1:=fun k b M=>by rw[I];exact yW (z:=[]) b M
   refine⟨f,_,⟨fl,fun c w t e=>?_⟩,?_,Q_ (by lia) H C l⟩
   . have Y:c.length<ts.length:=by rw[<-fl,e];simp
     have B:∀k:Int,0<=k->k<c.length->gA c k=gA f k:=fun k b M=>by rw[e];unfold gA;rw[cz,cz,fm (by lia)]
     have J:w=if(c.length:Int)∈a then 0 else 1:=by rw[<-A c.length (by lia) (by lia),e];simp[gA]
     show w∈(if kC ts (cQ c 0)+(th ts c.length).2<=r then[0,1]else[1]:List Int);by_cases z:(c.length:Int)∈a
     . rw[J,ao z,ao];.simp
       . refine ji ?_ l;rw[<-HR,<-HQ];refine zAm (el.mpr ⟨(sT _).filter _,by simp,fun x o y X=>?_⟩) H (fun x o=>?_) fun x o=>(G x (C x o).1 (C x o).2).2;.rw[bj.mp X];have:=(fe.mp o).1;lia
         . rcases bJ.mp o with y|y
           . obtain⟨⟨Q,S⟩,y⟩:=fe.mp y;rw[B x Q S,A x Q (by lia)]at y;by_cases m:x∈a;.exact m
             .rw[ak m]at y;lia
           .rwa[bj.mp y]
     .rw[J,ak z];split<;>simp
   . show qA ts (cQ f 1)<=_;have:cQ f 1=(aH ts.length).filter fun k=>!decide (k∈a):=by unfold cQ;rw[fl];refine qf fun k n=>?_;obtain⟨u,s⟩:=aE.mp n;rw[A k u s];by_cases m:k∈a<;>simp[m]
     rw[this];exact gW _
abbrev y_(X f S k i r n)(l:En):=(.v X::.v (.int f)::.o S::.v (.int k)::sv i::.v (.int r)::.v (.int n)::l:En)
abbrev nR(X f)(l:En):=(.v X::.v (.int f)::l:En)
def zvx(ns:List Int)(h63:ns.length<=63)(f:Int):∃q Q Ok g h,G' [.c_ ns,.int f]=.ok (.lst [q,g,iL h])/\Kd q Q Ok 3 g h:=by
 have Y:eN 64:=dG 1000 (by decide);have T:eN 32:=dG 1000 (by decide);obtain⟨c7,K,uC,hc7⟩:=DQ ns 2 9;obtain⟨r,er⟩:=zaa (f%40);have r0:0<=r:=by lia
 have B:∀k:Int,0<=k->∃x,iR [.c_ ns,.int k]=.ok (.int x):=fun k hk=>⟨_,yN ns hk⟩;obtain⟨X,eX⟩:=zaa (D.c_ ns);have aX:rm X=some (ns.map .int):=by rw[eX];rfl
 rw[<-eX]at B⊢;obtain⟨E,N,e,u,i,rfl,Z,hg⟩:=jo (b:=c5 2 (cB (aQ 3) (cB (aQ 4) cw))) (m:=OO) (fun p:Int×Nat=>D.tup [.int (p.2:Int),.int p.1]) (fun A E=>∃(e:List Fr)(u i:Option D),E=(nR X f [.o (iS e),sv u,sv i,.no,.no,.no])/\e.length=A.length/\∀t∈e,0<=t.1/\0<=t.2) c7.zipIdx (by
 rintro A ⟨c,k⟩ L E w ⟨e,u,i,rfl,Z,hg⟩;obtain⟨H,y2,y3⟩:=FK w;dsimp only at H y2 y3;have hk:k<c7.length:=(bV.mp y2).1;obtain⟨p,p0,hp⟩:=Iv c (num c ((k:Int)+9)/64);have m0:=rF (num c k/32) (show(0:Int)<9 by decide);refine⟨(nR X f [.o (iS e),.v (.int k),.v (.int c),.no,.no,.no]),(nR X f [.o (iS (e++[(p,1+num c k/32%9)])),.v (.int k),.v (.int c),.no,.no,.no]),?_,.inl ?_,e++[(p,1+num c k/32%9)],some _,some _,rfl,by simp[Z],fun t ht=>?_⟩;.rcases u with _|u<;>rcases i with _|i<;>rfl
 .refine(wa (l:=e.map gU) (d:=gU (p,1+num c k/32%9)) rfl (by simp[fR,ag,aj,(Bl c (k:Int) (by lia) (by lia)),(Bl c ((k:Int)+9) (by lia) (by lia)),n_,Y,T,gN,hp,gU,sizeLine]) (by grind)).trans ?_;simp[iS]
 . rcases bJ.mp ht with z|z;.grind
   .rw[bj.mp z];exact⟨p0.1,by lia⟩) (nR X f [.o (iS []),.no,.no,.no,.no,.no]) ⟨[],none,none,rfl,rfl,fun _ z=>(nomatch z)⟩;have tl:e.length=c7.length:=by rw[Z];simp
 have lS:au [iS e]=some (.int e.length):=by simp[iS]
 have it:=zyD (r:=r) (ts:=e);obtain⟨S,eS⟩:=zaa (iS e);have ix:∀k:Int,0<=k->k<e.length->aJ S (.int k)=some (gU (th e k)):=fun k h0 N=>by rw[eS];exact Br h0 N
 rw[<-eS]at lS it N;obtain⟨nN,h2,h,n,G,rfl,M,C,I,l0⟩:=jo (b:=aQ 3) (m:=OQ) D.int (fun A E=>∃(h:List Int)(n:Int)(G:Option D),E=(nR X f [.o S,sv G,sv i,.v (.int r),.v (.int n),.o (iL h)])/\h.Nodup/\(∀k∈h,0<=k/\k<(A.length:Int))/\n=r-kC e h/\0<=n) (aH e.length) (by
 rintro A k L E w ⟨h,n,G,rfl,M,C,I,l0⟩;obtain⟨ek,lt⟩:=P8 w;obtain⟨cx,U⟩:=B (9+k) (by lia);have gk:=ix k (by lia) (by lia);have t1:aR (m2 oEq (m2 oMod (bu iR (ai (ag 0) (ai (m2 bD (mC (.int 9)) (aj 3)) af))) (mC (.int 2))) (mC (.int 1))) (y_ X f S k i r n [.o (iL h)])=.ok (decide (cx%2=1)):=by simp[aR,ag,aj,U,gN]
 have t2:aR (m2 oLe (m2 dX (m2 aJ (aj 2) (aj 3)) (mC (.int 1))) (aj 6)) (y_ X f S k i r n [.o (iL h)])=.ok (decide ((th e k).2<=n)):=by simp[aR,aj,gk,gU]
 have b1:aQ 3 (.int k) (nR X f [.o S,sv G,sv i,.v (.int r),.v (.int n),.o (iL h)])=some (y_ X f S k i r n [.o (iL h)]):=jy (o:=G) rfl;by_cases y:cx%2=1/\(th e k).2<=n
 . have w1:lF 7 (ag 3) (y_ X f S k i r n [.o (iL h)])=.nx (y_ X f S k i r n [.o (iL (h++[k]))]):=(wa (l:=h.map .int) (d:=.int k) rfl rfl (by rw[aF];have:=y8 M C;lia)).trans (by simp[iL]);have w2:aD (m2 ip (aj 6) (m2 dX (m2 aJ (aj 2) (aj 3)) (mC (.int 1)))) (aQ 6) (y_ X f S k i r n [.o (iL (h++[k]))])=.nx (nR X f [.o S,.v (.int k),sv i,.v (.int r),.v (.int (n-(th e k).2)),.o (iL (h++[k]))]):=iW (d:=.int (n-(th e k).2)) (by simp[aj,gk,gU]) rfl;refine⟨_,_,b1,.inl ((uQ ?_).trans ((bG w1).trans w2)),h++[k],_,some (.int k),rfl,el.mpr ⟨M,by simp,fun x J z hz=>?_⟩,fun x J=>?_,by rw[HQ,HR];lia,by lia⟩;.unfold kX;rw[t1,R.aA,da y.1,ao rfl,t2,da y.2]
   .rw[bj.mp hz];have:=C x J;lia
   . rw[eJ,jT];rcases bJ.mp J with z|z;.have:=C x z;lia
     .rw[bj.mp z];lia
 . refine⟨_,_,b1,.inl ((iK ?_).trans rfl),h,n,some (.int k),rfl,M,fun x J=>by rw[eJ,jT];have:=C x J;lia,I,l0⟩;unfold kX;rw[t1,R.aA];by_cases H:cx%2=1;.rw[da H,ao rfl,t2,cX fun z=>y ⟨H,z⟩]
   .rw[cX H,ak fw]) (nR X f [.o S,sv u,sv i,.v (.int r),.v (.int r),.o (iL [])]) ⟨[],r,u,rfl,by simp,fun _ z=>(nomatch z),by simp[kC],r0⟩;rw[cZ]at C;have ks:=zBT (r:=r) (ts:=e) (a:=h) r0 (by lia) hg M C (by lia);rw[<-eS]at ks;refine⟨q8 r e,_,_,.lst [.int r,S],h,gi ?_,ks⟩;have s:=DR (j:=9) aX K (δ:=(nR X f [.o (iS []),.no,.no,.no,.no,.no])) rfl;have e2:OP (nR X f [.o (iS []),.no,.no,.no,.no,.no])=.nx (nR X f [.o S,sv u,sv i,.no,.no,.no]):=(jn (by simp[px,s,iL,uJ,mG,AE,ou])).trans N;have e6:OR (nR X f [.o S,sv u,sv i,.v (.int r),.v (.int r),.o (iL [])])=_:=(jn (l:=(aH e.length).map .int) (by simp[bw,aj,lS,gg (show e.length<=1000 by lia)])).trans h2;refine gK (d:=iS []) (nR X f [.o (iS []),.no,.no,.no,.no,.no]) (by simp[bA,iS,sizeLine]) rfl ((bG e2).trans (gK (d:=.int r) (nR X f [.o S,sv u,sv i,.v (.int r),.no,.no]) (by simp[aj,gN,er]) rfl ((bG (show _=O.nx (nR X f [.o S,sv u,sv i,.v (.int r),.v (.int r),.no])from rfl)).trans (gK (d:=iL []) (nR X f [.o S,sv u,sv i,.v (.int r),.v (.int r),.o (iL [])]) (by simp[bA,iL,sizeLine]) rfl ((bG e6).trans ?_)))));show cU _ (nR X f [.v S,sv G,sv i,.v (.int r),.v (.int n),.v (iL h)])=_;simp[cU,bA,ag,aj,it,sizeLine]
def zAq(c:Int)(k0:0<=k)(k1:k<=1000):∃s:Int,(0<=s/\s<=10000000000000000000)/\CT [.int c,.int k]=.ok (.int s):=by
 have i:=zCy c k;have h:num c k<2147483647:=jN _ (by decide);have a:eN k:=dG 2000 (by lia);have f:eN (num c k):=dG (10^30) (by lia);have b:eN 2147483629:=dG (10^30) (by decide);have g:eN 11:=dG 100 (by decide);refine⟨num c k*2147483629+11*k,by lia,iA ?_⟩;show aG _ [.v _,.v _]=_;have e:bu tZ (ai (ag 0) (ai (ag 1) af)) [.v (.int c),.v (.int k)]=.ok (.int (num c k)):=by simp[ag,(Bl c k k0 k1)]
 simp only[aG,jK,e,aj,mC,List.getElem?_cons_succ,List.getElem?_cons_zero,R.aA,uP f b,uP g a];rfl
def BB(h0:0<=k)(h1:k<l.length):aJ (iL l) (.int k)=some (.int (l.getD k.toNat 0)):=by show iI _ k=_;unfold iI ie;simp_all
def Ra(f:0<=a)(h:a<S.length)(c:0<=b)(e:b<S.length)(d:0<top):yI [iL S,.int a,.int b,.int top]=.ok (.int ((S.getD a.toNat 0%top-S.getD b.toNat 0%top).natAbs:Int)):=by refine iA ?_;show aG _ [.v _,.v _,.v _,.v _]=_;simp only[aG,aK,ai,af,jK,aj,List.getElem?_cons_succ,List.getElem?_cons_zero,R.aA,(BB f h),(BB c e),R.bI,gN d,FH,zB4];rfl
noncomputable def dA(a:Bool)(top:Int)(p q:Int->Int)(w:Int->Int->Int)(x y:Int):Int:=if a=true then(if x=y then 0 else if y<x then top+w x y else top+w y x)else((p x-p y).natAbs:Int)+((q x-q y).natAbs:Int)
def zDB{n:Nat}{d:Bool}{top:Int}{w:Int->Int->Int}(i:0<top)(e:∀x:Int,0<=p x/\p x<top)(g:∀x:Int,0<=q x/\q x<top)(f:∀x y:Int,0<=w x y/\w x y<=top):hR n (2*top) (dA d top p q w):=by
 unfold dA;refine⟨fun a b _ _ _ _=>?_,fun a _ _=>?_,fun a b _ _ _ _=>?_,fun a b c _ _ _ _ _ _=>?_⟩;.have:=e a;have:=e b;have:=g a;have:=g b;have:=f a b;have:=f b a;omega
 .simp
 .lia
 . by_cases h:d=true;.grind
   .simp only[h];simp;omega
noncomputable def part(d:Int->Int->Int)(a b:Int)(x y:Int):Int:=if(x<a/\y<a)\/(x=a/\y<b)\/(y=a/\x<b)then d x y else 0
abbrev je(ns n c f C S)(l:En):=(.v (.c_ ns)::.v (.int n)::.v (.int c)::.v (.int f)::.v (iL C)::.v (iL S)::l:En)
def Rb(ns:List Int)(h63:ns.length<=63)(hn1:1<=n)(hn:n<=9):∃d:Int->Int->Int,hR n 800000000000000000 d/\CV [.c_ ns,.int n]=.ok (bp (aW n d)):=by
 obtain⟨c,ec⟩:=zaa (ns.getD 0 0%1000000000000);have c0:0<=c:=by lia
 have hc:iR [.c_ ns,.int 0]=.ok (.int (ns.getD 0 0)):=HD ns 0;have Iu:gJ (.int 10) (.int 12)=some (.int 1000000000000):=AA ⟨by decide,by decide,by decide⟩;have p17:gJ (.int 10) (.int 17)=some (.int 100000000000000000):=AA ⟨by decide,by decide,by decide⟩;have f2:eN 2:=dG 10 (by decide);have f4:eN 4:=dG 10 (by decide);have f17:eN 100000000000000000:=dG (10^17) (by decide);have f31:eN 31:=dG 100 (by decide);have fn:eN (n:Int):=dG 100 (by lia);obtain⟨f,⟨X,t1⟩,Z⟩:∃f:Int,(0<f/\f<=400000000000000000)/\aJ (.lst [.int 5,.int 50,.int 400000000000000000]) (.int (c/2%3))=some (.int f):=by
  have h0:0<=c/2%3:=jO _ (by decide);have T:c/2%3<3:=jN _ (by decide);rcases(show c/2%3=0\/c/2%3=1\/c/2%3=2 by lia)with e|e|e<;>rw[e];.exact⟨5,by decide,rfl⟩
  .exact⟨50,by decide,rfl⟩
  .exact⟨400000000000000000,by decide,rfl⟩
 obtain⟨C,eC⟩:=zaa (ns.drop 1++[c]);have Cl:0<C.length:=by rw[eC];simp
 obtain⟨F,hF⟩:=pY (r:=fun(k:Nat)(s:Int)=>k<=1000->(0<=s/\s<=10000000000000000000)/\CT [.int (C.getD (k%C.length) 0),.int k]=.ok (.int s)) (fun k=>by
  by_cases hk:k<=1000;.obtain⟨s,a,b⟩:=zAq (C.getD (k%C.length) 0) (k:=k) (by omega) (by lia);exact⟨s,fun _=>⟨a,b⟩⟩
  .exact⟨0,fun z=>absurd z hk⟩);obtain⟨S,eS⟩:=zaa ((List.range (2*n)).map F);have Sl:S.length=2*n:=by rw[eS];simp
 have Sg:∀k:Int,0<=k->k<2*n->S.getD k.toNat 0=F k.toNat:=fun k k0 k1=>by rw[eS,cz,bX,List.getElem?_range (by lia)];rfl
 obtain⟨d,ed⟩:∃d,d=dA (decide (c%2=1)) f (fun x=>F x.toNat%f) (fun x=>F (n+x).toNat%f) (fun x y=>(F y.toNat+31*F (n+x).toNat)%(f+1)):=⟨_,rfl⟩;have Q:hR n (2*f) d:=by rw[ed];exact zDB X (fun x=>⟨jO _ (by omega),jN _ X⟩) (fun x=>⟨jO _ (by omega),jN _ X⟩) fun x y=>⟨jO _ (by lia),by have:=jN (F y.toNat+31*F (n+x).toNat) (show 0<f+1 by lia);lia⟩
 refine⟨d,⟨fun a b B J I b1=>by have:=Q.nn a b B J I b1;lia,Q.self,Q.sym,Q.Dz⟩,gi ?_⟩;have rn:=gg (show n<=1000 by lia);show aq _ _ [.v (.c_ ns),.v (.int n),.no,.no,.no,.no,.no,.no,.no,.no,.no]=_;have q3:aD (m2 iu (mW (aj 0) (kr (mC (.int 1))) jx) (bA (ai (ag 2) af))) (aQ 4) [.v (.c_ ns),.v (.int n),.v (.int c),.v (.int f),.no,.no,.no,.no,.no,.no,.no]=.nx [.v (.c_ ns),.v (.int n),.v (.int c),.v (.int f),.v (iL C),.no,.no,.no,.no,.no,.no]:=by
  refine iW (d:=iL C) ?_ rfl;have cd:zaj (ns.map D.int) (some 1) none=(ns.drop 1).map .int:=by cases ns with|nil=>rfl|cons a r=>have:=MG (l:=(a::r).map D.int) (k:=1) (by simp);rwa[<-List.map_drop]at this
  have s1:mW (aj 0) (kr (mC (.int 1))) jx [.v (.c_ ns),.v (.int n),.v (.int c),.v (.int f),.no,.no,.no,.no,.no,.no,.no]=.ok (iL (ns.drop 1)):=by simp[mW,aj,jx,kr,rm,iL,cd]
  have s2:bA (ai (ag 2) af) [.v (.c_ ns),.v (.int n),.v (.int c),.v (.int f),.no,.no,.no,.no,.no,.no,.no]=.ok (iL [c]):=by simp[bA,ag,sizeLine,iL]
  have ct:iu (iL (ns.drop 1)) (iL [c])=some (iL C):=by rw[eC];unfold iu iL;simp only;rw[gQ (by rw[aF,aF,rX];exact bo (show ns.length-1+1<=100 by lia) (by decide)),fN]
  rw[jK,s1,R.aA,s2,R.aA,ct];rfl
 have q4:aD OS (aQ 5) [.v (.c_ ns),.v (.int n),.v (.int c),.v (.int f),.v (iL C),.no,.no,.no,.no,.no,.no]=.nx (je ns n c f C S [.no,.no,.no,.no,.no]):=by
  refine iW (d:=iL S) ?_ rfl;unfold iL;rw[eS,cg];refine iv (l:=(List.range (2*n)).map fun k:Nat=>.int k) ?_ (by simp;lia) ?_;.simp only[bw,ai,af,jK,aj,mC,List.getElem?_cons_succ,List.getElem?_cons_zero,R.aA,uP f2 fn,R.bI];rw[show(2:Int)*n=((2*n:Nat):Int)by lia];refine(cK R.of (gg (show 2*n<=1000 by lia))).trans ?_;unfold aH;rw[cg];rfl
  . have s:cP [.v (.c_ ns),.v (.int n),.v (.int c),.v (.int f),.v (iL C),.no,.no,.no,.no,.no,.no] [4] 1=[.v (iL C),.no]:=rfl;unfold iL at s;rw[s];refine lG (fun k:Nat=>.int k) _ _ fun k hk=>?_;have kl:=gZ.mp hk;have h:=(hF k (by lia)).2;have m0:(0:Int)<=(k:Int)%(C.length:Int):=jO _ (by lia);have m1:(k:Int)%(C.length:Int)<(C.length:Int):=jN _ (by omega);have ix:=BB (l:=C) m0 m1;have et:((k:Int)%(C.length:Int)).toNat=k%C.length:=by rw[<-Int.natCast_emod];rfl
    rw[et]at ix;unfold iL at ix;have lC:au [D.lst (C.map D.int)]=some (.int C.length):=by unfold au;simp
    have om:oMod (.int k) (.int C.length)=some (.int ((k:Int)%(C.length:Int))):=gN (by omega);have b:b3 1 (.int k) [.v (.lst (C.map .int)),.no]=some [.v (.lst (C.map .int)),.v (.int k)]:=rfl;simp only[gh,b,bu,ai,af,ag,jK,aj,aK,List.getElem?_cons_succ,List.getElem?_cons_zero,R.aA,lC,R.bI,om,ix,h,R.bF];rfl
 have k3:CU (je ns n c f C S [.no,.no,.no,.no,.no])=.ok (aW n fun _ _=>0):=by
  unfold CU yu;have r:bw (ai (ag 1) af) (je ns n c f C S [.no,.no,.no,.no,.no])=.ok ((aH n).map .int):=by simp[bw,ag,rn]
  rw[r,R.aA,gQ (by rw[aF,cZ];exact bo hn (by decide))];have g:qV (uV (b3 1) Ha (cP (je ns n c f C S [.no,.no,.no,.no,.no]) [1] 1)) ((aH n).map .int)=.ok ((aH n).map fun _=>(aH n).map fun _=>(0:Int)):=by
    refine Qm .int _ _ fun a _=>?_;have k1:Ha [.v (.int n),.v (.int a)]=.ok (iL ((aH n).map fun _=>(0:Int))):=by exact f7 (iv (l:=(aH n).map .int) (r:=(aH n).map fun _=>.int 0) (by simp[bw,ag,rn]) (by rw[aF,cZ];lia) (lG .int (fun _=>.int 0) _ fun k _=>by simp[gh,cP,b3])) (by simp[iL])
    have e:cP (je ns n c f C S [.no,.no,.no,.no,.no]) [1] 1=[.v (.int n),.no]:=rfl;have al:sD (iL ((aH n).map fun _=>(0:Int)))=some ((aH n).map fun _=>(0:Int)):=pE _;rw[e];simp[uV,b3,k1,al]
  rw[g];rfl
 have q5:CG CU 6 (je ns n c f C S [.no,.no,.no,.no,.no])=.nx (je ns n c f C S [.p (cH n (part d 0 0)),.no,.no,.no,.no]):=by
  unfold CG;rw[k3];have e:cH n (part d 0 0)=iw (aW n fun _ _=>0):=by unfold cH;rw[DH (e:=fun _ _=>0) fun a b B J I b1=>?_];unfold part;rw[ak (by lia)]
  rw[e];rfl
 have M:∀(a:Int)(H E q:Option D),0<=a->a<n->∃K G o,OU (je ns n c f C S [.p (cH n (part d a 0)),.v (.int a),sv H,sv E,sv q])=.nx (je ns n c f C S [.p (cH n (part d a a)),.v (.int a),sv K,sv G,sv o]):=fun a H E q B J=>by obtain⟨N,T,K,G,o,rfl⟩:=jo (b:=aQ 8) (m:=OT) D.int (fun j N=>∃K G o:Option D,N=(je ns n c f C S [.p (cH n (part d a j.length)),.v (.int a),sv K,sv G,sv o])) (aH a.toNat) (by
     rintro j b U N t ⟨K,G,o,rfl⟩;obtain⟨eb,_,_⟩:=Ql t;obtain⟨I,b1⟩:=aE.mp (show b∈aH a.toNat by rw[t];simp);have ba:b<a:=by lia
     have fa:=(hF (n+a).toNat (by lia)).1;have fb:=(hF b.toNat (by lia)).1;have f1:eN (F (n+a).toNat):=dG (10^30) (by lia);have g1:=Sg a B (by lia);have g2:=Sg b I (by lia);have g3:=Sg (n+a) (by omega) (by lia);have g4:=Sg (n+b) (by omega) (by lia);have A1:=Ra (S:=S) (a:=a) (b:=b) (top:=f) B (by lia) I (by omega) X;have A2:=Ra (S:=S) (a:=n+a) (b:=n+b) (top:=f) (by omega) (by omega) (by omega) (by lia) X;rw[g1,g2]at A1;rw[g3,g4]at A2;have I1:=BB (l:=S) (k:=b) I (by omega);have I2:=BB (l:=S) (k:=n+a) (by omega) (by omega);rw[g2]at I1;rw[g3]at I2;obtain⟨u,eu⟩:=zaa (((F a.toNat%f-F b.toNat%f).natAbs:Int));obtain⟨L,Rc⟩:=zaa (((F (n+a).toNat%f-F (n+b).toNat%f).natAbs:Int));rw[<-eu]at A1;rw[<-Rc]at A2;obtain⟨v,ev⟩:=zaa (d a b);have ev2:v=d b a:=ev.trans (Q.sym a b B J I (by omega));have s1:aD (bu yI (ai (ag 5) (ai (ag 7) (ai (ag 8) (ai (ag 3) af))))) (aQ 9) (je ns n c f C S [.p (cH n (part d a j.length)),.v (.int a),.v (.int b),sv G,sv o])=.nx (je ns n c f C S [.p (cH n (part d a j.length)),.v (.int a),.v (.int b),.v (.int u),sv o]):=by refine iW (d:=.int u) ?_ (jy rfl);simp[ag,A1]
     have s2:aD (m2 bD (aj 9) (bu yI (ai (ag 5) (ai (m2 bD (aj 1) (aj 7)) (ai (m2 bD (aj 1) (aj 8)) (ai (ag 3) af)))))) (aQ 9) (je ns n c f C S [.p (cH n (part d a j.length)),.v (.int a),.v (.int b),.v (.int u),sv o])=.nx (je ns n c f C S [.p (cH n (part d a j.length)),.v (.int a),.v (.int b),.v (.int (u+L)),sv o]):=by refine iW (d:=.int (u+L)) ?_ rfl;simp[ag,aj,A2]
     have s3:∃A:Option D,bg (aR (m2 oEq (m2 oMod (aj 2) (mC (.int 2))) (mC (.int 1)))) (aq (aD (m2 bD (m2 aJ (aj 5) (aj 8)) (m2 gf (mC (.int 31)) (m2 aJ (aj 5) (m2 bD (aj 1) (aj 7))))) (aQ 10)) (aD (m2 bD (aj 3) (m2 oMod (aj 10) (m2 bD (aj 3) (mC (.int 1))))) (aQ 9))) dC (je ns n c f C S [.p (cH n (part d a j.length)),.v (.int a),.v (.int b),.v (.int (u+L)),sv o])=.nx (je ns n c f C S [.p (cH n (part d a j.length)),.v (.int a),.v (.int b),.v (.int v),sv A]):=by
       by_cases w:c%2=1
       . refine⟨some (.int (F b.toNat+31*F (n+a).toNat)),?_⟩;rw[uQ (by simp[aR,aj,gN,w])];have r1:aD (m2 bD (m2 aJ (aj 5) (aj 8)) (m2 gf (mC (.int 31)) (m2 aJ (aj 5) (m2 bD (aj 1) (aj 7))))) (aQ 10) (je ns n c f C S [.p (cH n (part d a j.length)),.v (.int a),.v (.int b),.v (.int (u+L)),sv o])=.nx (je ns n c f C S [.p (cH n (part d a j.length)),.v (.int a),.v (.int b),.v (.int (u+L)),.v (.int (F b.toNat+31*F (n+a).toNat))]):=by refine iW (d:=.int (F b.toNat+31*F (n+a).toNat)) ?_ (jy rfl);simp only[jK,aj,mC,List.getElem?_cons_succ,List.getElem?_cons_zero,R.aA,I1,R.bI,Cu,I2,uP f31 f1]
         refine(bG r1).trans (iW (d:=.int v) ?_ rfl);have e:v=f+(F b.toNat+31*F (n+a).toNat)%(f+1):=by rw[ev,ed];unfold dA;rw[da w,ao rfl,ak (by lia),ao ba]
         rw[e];simp[aj,gN (show 0<f+1 by lia)]
       . refine⟨o,?_⟩;rw[iK (by simp[aR,aj,gN,w])];have e:v=u+L:=by rw[ev,ed,eu,Rc];unfold dA;rw[cX w,ak (by simp)]
         rw[e];rfl
     obtain⟨A,s3⟩:=s3;have s4:=P5 (i:=6) (mk:=ag 7) (mj:=ag 8) (me:=ag 9) (δ:=(je ns n c f C S [.p (cH n (part d a j.length)),.v (.int a),.v (.int b),.v (.int v),sv A])) (n:=n) (d:=part d a j.length) rfl rfl rfl rfl B J I (by omega);have s5:=P5 (i:=6) (mk:=ag 8) (mj:=ag 7) (me:=ag 9) (δ:=(je ns n c f C S [.p (cH n (mM (part d a j.length) a b v)),.v (.int a),.v (.int b),.v (.int v),sv A])) (n:=n) (d:=mM (part d a j.length) a b v) rfl rfl rfl rfl I (by omega) B J;have e:cH n (mM (mM (part d a j.length) a b v) b a v)=cH n (part d a (j++[b]).length):=by
       unfold cH;rw[DH fun x y x0 x1 y0 y1=>?_];have pl:((j++[b]).length:Int)=b+1:=by simp;lia
       unfold mM part;rw[pl,<-eb];by_cases z1:x=b/\y=a;.rwa[ao z1,z1.1,z1.2,ao (by lia)]
       . rw[ak z1];by_cases z2:x=a/\y=b;.rwa[ao z2,z2.1,z2.2,ao (by lia)]
         . rw[ak z2];by_cases z3:(x<a/\y<a)\/(x=a/\y<b)\/(y=a/\x<b);.rw[ao z3,ao (by lia)]
           .rw[ak z3,ak (by lia)]
     refine⟨(je ns n c f C S [.p (cH n (part d a j.length)),.v (.int a),.v (.int b),sv G,sv o]),(je ns n c f C S [.p (cH n (part d a (j++[b]).length)),.v (.int a),.v (.int b),.v (.int v),sv A]),jy rfl,.inl ?_,some (.int b),some (.int v),A,rfl⟩;rw[<-e];exact(bG s1).trans ((bG s2).trans ((bG s3).trans ((bG s4).trans s5)))) (je ns n c f C S [.p (cH n (part d a 0)),.v (.int a),sv H,sv E,sv q]) ⟨H,E,q,rfl⟩;rw[cZ,show((a.toNat:Nat):Int)=a by lia]at T;refine⟨K,G,o,(jn (l:=(aH a.toNat).map .int) ?_).trans T⟩;have ra:=gg (show a.toNat<=1000 by lia);rw[show((a.toNat:Nat):Int)=a by lia]at ra;simp[bw,ag,ra]
 obtain⟨N,T,o7,H,E,q,rfl⟩:=jo (b:=aQ 7) (m:=OV) D.int (fun j N=>∃o7 H E q:Option D,N=(je ns n c f C S [.p (cH n (part d j.length 0)),sv o7,sv H,sv E,sv q])) (aH n) (by
    rintro j a U N t ⟨o7,H,E,q,rfl⟩;obtain⟨ea,_,_⟩:=Ql t;obtain⟨B,J⟩:=aE.mp (show a∈aH n by rw[t];simp);obtain⟨K,G,o,e1⟩:=M a H E q B J;have e:cH n (part d a a)=cH n (part d (j++[a]).length 0):=by
     unfold cH;rw[DH fun x y x0 x1 y0 y1=>?_];have pl:((j++[a]).length:Int)=a+1:=by simp;lia
     rw[pl];unfold part;by_cases z:x=a/\y=a;.rw[ak (by lia),ao (by lia),z.1,z.2];exact(Q.self a B J).symm
     . by_cases z3:(x<a/\y<a)\/(x=a/\y<a)\/(y=a/\x<a);.rw[ao z3,ao (by lia)]
       .rw[ak z3,ak (by lia)]
    rw[e]at e1;refine⟨(je ns n c f C S [.p (cH n (part d j.length 0)),.v (.int a),sv H,sv E,sv q]),_,jy rfl,.inl ?_,some (.int a),K,G,o,rfl⟩;rwa[<-ea]) (je ns n c f C S [.p (cH n (part d 0 0)),.no,.no,.no,.no]) ⟨none,none,none,none,rfl⟩;rw[cZ]at T;have q6:OW (je ns n c f C S [.p (cH n (part d 0 0)),.no,.no,.no,.no])=_:=(jn (l:=(aH n).map .int) (by simp[bw,ag,rn])).trans T;refine gK (d:=.int c) [.v (.c_ ns),.v (.int n),.v (.int c),.no,.no,.no,.no,.no,.no,.no,.no] (by simp[ag,hc,Iu,gN,ec]) rfl (gK (d:=.int f) [.v (.c_ ns),.v (.int n),.v (.int c),.v (.int f),.no,.no,.no,.no,.no,.no,.no] (by simp[bA,aj,sizeLine,p17,uP f4 f17,gN,n_,f2,Z]) rfl ((bG q3).trans ((bG q4).trans ((bG q5).trans ((bG q6).trans ?_)))));have e:cH n (part d n 0)=cH n d:=by unfold cH;rw[DH fun x y x0 x1 y0 y1=>?_];unfold part;rw[ao (by lia)]
 rw[e];simp[CH,cH]
def zuy(e:δ[j]?=some (.o (.lst r)))(hi:δ[i]?=some (.o (.lst l)))(a:i≠j)(b:me δ=.ok (.int (Int.ofNat k)))(g:l[k]?=some d)(c:k<2^63/\r.length<100000):AL j i me δ=.nx ((δ.set i (.o (.lst (l.eraseIdx k)))).set j (.o (.lst (r++[d])))):=by unfold AL;simp_all
def zyj(f:hR n B d)(h0:0<n)(b:∀v∈cs,0<=v/\v<(n:Int))(a:0<=p/\p<(n:Int)):rH d (0::cs)<=rH d (0::(cs++[p])):=by
 show path d _<=path d _;rw[jP];show _<=path d (0::(cs++[p,0]));rw[Bw];rcases jR cs with e|⟨l,w,e⟩;.subst e;show d 0 0+0<=d 0 p+0+d p 0;have:=f.Dz 0 p 0 (by lia) (by lia) a.1 a.2 (by lia) (by lia);lia
 .rw[lj]at e;subst e;have c:=b w (by simp);rw[jP,jP];show path d (0::(l++[w,0]))<=path d (0::(l++[w,p]))+d p 0;rw[Bw,Bw];have:=f.Dz w p 0 c.1 c.2 a.1 a.2 (by lia) (by lia);lia
def zzX{a:List Int}(p:a.Perm (aH n)):(a.mergeSort fun x y=>decide (x<=y))=aH n:=rP (le:=fun x y=>x<=y) (fun x y _ _ b c=>by lia) ((oj (by grind) (by grind) a).imp fun h=>by simp_all) ((PU n).imp fun h=>by lia) ((oh ..).trans p)
def Rf{n:Nat}(h:n<=1000):pG [.int n]=some (iL (aH n)):=by show cO _ _ _=_;rw[gQ (by lia)];unfold iL aH;simp
def zyi{n:Nat}{a:List Int}(b:a.Nodup)(h:∀x∈a,0<=x/\x<(n:Int))(d:a.length=n):a.Perm (aH n):=(fU b (sT n)).mpr fun x=>⟨fun z=>aE.mpr (h x z),fun z=>nh fun m=>by have:=y8 (dQ.mpr ⟨m,b⟩) fun y c=>(aM.mp c).elim (fun e=>by rw[e];exact aE.mp z) (h y);grind⟩
def zAE(d:Int->Int->Int)(l:List Int)(w:Int):((aH (l++[w]).length).map fun k=>d (if k=0 then w else gA (l++[w]) (k-1)) (gA (l++[w]) k)).sum=rH d (l++[w]):=by
 have e:(aH (l++[w]).length).map (fun k=>d (if k=0 then w else gA (l++[w]) (k-1)) (gA (l++[w]) k))=d w ((l++[w]).headD 0)::(cp (l++[w])).map fun p=>d p.1 p.2:=by rw[Ig];apply jS (by simp[aH]);intro i f c;cases i with|zero=>simp[aH,List.getElem_range];cases l<;>rfl|succ i=>simp[aH,List.getElem_range];rw[ak (by lia)];unfold gA;simp
 rw[e,Qo,lM,show((cp _).map _).sum=path d _ from Ib d _];lia
def Rh(Q:0<n)(Y:n<=60)(p:a.Perm (aH n)):pP [.int 4,.lst [bp (aW n d)],iL a]=.ok (.int (rH d a)):=by
 have X:a.length=n:=by rw[p.length_eq,cZ]
 refine y7 (by lia) Dr ?_ (.inr (.inr (.inr (.inr (.inl ⟨rfl,rfl⟩)))));have h:∀v∈a,0<=v/\v<(n:Int):=fun v hv=>aE.mp (p.mem_iff.mp hv);have E:xk [iL a]=some (iL (aH n)):=by simp[xk,iL,pE];rw[<-zzX p];exact gQ (by lia)
 have q:uT (ai (aK au (ai (aj 2) af)) af) [.v (.lst [bp (aW n d)]),.v (iL a),.v (bp (aW n d))]=.ok (iL (aH n)):=by have s:au [bp (aW n d)]=some (.int n):=ua;have:=Rf (show n<=1000 by lia);simp[uT,aj,s,this]
 have m:∀a:Int,0<=a->a<n->aJ (bp (aW n d)) (.int a)=some (iL ((aH n).map (d a))):=fun a K H=>Bs K H;obtain⟨T,J⟩:=zaa (bp (aW n d));rw[<-J]at m q⊢;have G:au [iL a]=some (.int a.length):=by simp
 rcases jR a with e|⟨l,w,e⟩;.simp_all
 rw[lj]at e;have o:Pr [.v (.lst [T]),.v (iL a),.v T]=.ok (iL ((aH a.length).map fun k=>d (if k=0 then w else gA a (k-1)) (gA a k))):=by
  rw[show iL ((aH a.length).map fun k=>d (if k=0 then w else gA a (k-1)) (gA a k))=D.lst ((aH a.length).map fun k=>D.int (d (if k=0 then w else gA a (k-1)) (gA a k)))by simp[iL]];refine iv (l:=(aH a.length).map .int) (by simp[bw,aj,gg (show a.length<=1000 by lia)]) (by rw[aF,cZ];lia) ?_;have N:cP [.v (.lst [T]),.v (iL a),.v T] [2,1] 1=[.v T,.v (iL a),.no]:=rfl;rw[N];refine lG .int _ _ fun k M=>?_;obtain⟨C,o⟩:=aE.mp M;have A:∀j:Int,0<=j->j<a.length->gA a j∈a:=fun j U S=>eL (sU (L:=a) (i:=j) (by lia));have y:aJ (iL a) (.int (k-1))=some (.int (if k=0 then w else gA a (k-1))):=by
   by_cases z:k=0;.rw[z,e];exact Ie
   .rw[ak z];exact v_ (by lia) (by lia)
  have m1:0<=(if k=0 then w else gA a (k-1))/\(if k=0 then w else gA a (k-1))<(n:Int):=by
   split;.simp_all
   .exact h _ (A _ (by lia) (by lia))
  have g:=h _ (A k C o);generalize(if k=0 then w else gA a (k-1))=u at y m1;have t:=m u m1.1 m1.2;have b:b3 2 (.int k) [.v T,.v (iL a),.no]=some [.v T,.v (iL a),.v (.int k)]:=rfl;simp only[gh,b];simp only[jK,aj,mC,List.getElem?_cons_succ,List.getElem?_cons_zero,R.aA,FH,y,(v_ (L:=a) (k:=k) C (by lia)),R.bI,t,(sY (n:=n) (f:=d u) g.1 g.2),R.bF]
 have B:=zAE d l w;rw[<-e]at B;have I:aR (m2 qQ (aK xk (ai (aj 1) af)) (uT (ai (aK au (ai (aj 2) af)) af))) [.v (.lst [T]),.v (iL a),.v T]=.ok false:=by
  have:qQ (iL (aH n)) (iL (aH n))=some (.bl false):=by
   unfold qQ;have:gM 8 (iL (aH n))=true:=by show((aH n).map D.int).all (gM 7)=true;rw[nq,jj];intro x _;rfl
   rw[gQ ⟨this,this⟩];simp
  rw[aR,jK,q];simp[aj,E,this]
 refine iA ?_;refine(bG (rfl)).trans ((bG ((iK I).trans rfl)).trans ?_);unfold aG;rw[Bv o,B];rfl
def zBg(d:Int->Int->Int)(u v:List Int)(x:Int):rH d (u++x::v)=rH d (x::(v++u)):=by
 have f:∀(l r:List _)(y:Int),path d (l++y::r)=path d (l++[y])+path d (y::r):=fun l=>by induction l with|nil=>intro r y;show path d (y::r)=0+_;lia|cons a l i=>intro r y;cases l with|nil=>show d a y+path d _=(d a y+0)+_;lia|cons b l=>have:=i r y;show d a b+path d (b::l++y::r)=(d a b+path d (b::l++[y]))+_;lia
 cases u with|nil=>simp|cons a u=>show path d _=path d _;have h:=f (a::u) (v++[a]) x;have g:=f (x::v) (u++[x]) a;simp[jQ]at h g⊢;lia
def zBM(n:Nat)(d:Int->Int->Int):Qs:=⟨n-1,fun c=>rH d (0::c),rW n⟩
def zyg(h0:0<n):C8 [rJ (bp (aW n d))]=.ok (.int ((n-1:Nat):Int)):=by have a:au [bp (aW n d)]=some _:=ua;refine iA ?_;show aG _ [.v _]=_;rw[show((n-1:Nat):Int)=n-1 by lia];simp[aG,aj,(Qr _),a]
def zBn(N:hR n B d)(t:0<n)(h6:n<=6)(G:a.Perm (aH n)):Kd (rJ (bp (aW n d))) (zBM n d) (fun c=>c.length<=n-1/\c.Nodup/\∀v∈c,1<=v/\v<(n:Int)) 4 (.lst [bp (aW n d)]) a:=by
 have C:∀c,∀w∈rW n c,(1<=w/\w<(n:Int))/\w∉c:=fun c w o=>by unfold rW at o;obtain⟨I,T⟩:=c9.mp o;have r:=fF.mp I;exact⟨by lia,by simp_all⟩
 have U:∀c:List Int,c.Nodup->(∀v∈c,1<=v/\v<(n:Int))->(rW n c).length+c.length<=n-1:=fun c p l=>by
   have Y:(Rg 1 (n-1)).Nodup:=oi.mpr (hU.imp fun{x y} h e=>h (by lia));have:=IA (L:=rW n c++c) (R:=Rg 1 (n-1)) (el.mpr ⟨Y.filter _,p,fun x j y E e=>(C c x j).2 (e▸E)⟩) fun x j=>fF.mpr (by
     rcases bJ.mp j with z|z;.grind
     .grind);rw[eJ,xM]at this;omega
 have g:∀{P:Nat->Prop},(∀k,k<5->P k)->∀{k:Nat},k<n-1->P k:=fun h _ M=>h _ (by lia);have q:∀c:List Int,c.length=n-1->c.Nodup->(∀v∈c,1<=v/\v<(n:Int))->(0::c).Perm (aH n):=fun c b p l=>by
   refine zyi (dQ.mpr ⟨fun z=>by have:=l 0 z;omega,p⟩) (fun x j=>?_) (by rw[fK];lia);rcases aM.mp j with z|z;.lia
   .have:=l x z;omega
 refine⟨⟨⟨⟨bM _,by simp,fun _ z=>(nomatch z)⟩,fun c h=>h.1,fun c h b w o=>?_,fun c h b=>?_⟩,show n-1<=7 by lia,fun c h _=>?_,fun c i Q H h f A=>?_,fun i H f=>?_,fun c i Q H h b f A=>?_⟩,⟨_,y4 [5,4,3,2,1] [326,65,16,5,2] (fun c h b=>?_) (fun k M=>g (P:=fun k=>1+[5,4,3,2,1].getD k 0*[326,65,16,5,2].getD (k+1) 1<=[326,65,16,5,2].getD k 1) (by decide) M) (by decide) (by decide)⟩,fun c h b w o=>?_,fun c h b i Q H S A=>?_,?_⟩
 . have b:c.length<n-1:=b;obtain⟨I,T⟩:=C c w o;refine⟨by simp;omega,el.mpr ⟨h.2.1,by simp,fun x j y E e=>T (by rw[bj.mp E]at e;exact e▸j)⟩,fun v hv=>?_⟩;rcases bJ.mp hv with z|z;.exact h.2.2 v z
   .rwa[bj.mp z]
 .have b:c.length<n-1:=b;exact zDo h.2.1 h.2.2 (by omega)
 .have:=U c h.2.1 h.2.2;show(rW n c).length<=10;lia
 .exact(vj f).trans (m8 f (vf _ (by decide)) A (zCS N t (by lia) fun v hv=>by have:=h.2.2 v hv;omega))
 .exact(vj f).trans (yZ f (vf _ (by decide)) (zyg t))
 .exact(vj f).trans (m8 f (vf _ (by decide)) A (zzU (by lia) (by lia)))
 .have:=U c h.2.1 h.2.2;exact bo (show(rW n c).length<=5-c.length by lia) (g (P:=fun k=>5-k<=[5,4,3,2,1].getD k 0) (by decide) b)
 .exact zyj N t (fun v hv=>by have:=h.2.2 v hv;omega) (by have:=(C c w o).1;omega)
 .exact⟨0::c,(vj S).trans (m8 S (vf _ (by decide)) A (Qw (by lia))),Rh t (by lia) (q c b h.2.1 h.2.2)⟩
 . have z:(0:Int)∈a:=G.mem_iff.mpr (aE.mpr (by lia));obtain⟨u,v,e⟩:=List.append_of_mem z;have J:(0::(v++u)).Perm (aH n):=by refine List.Perm.trans ?_ G;rw[e];exact(List.perm_append_comm (l₁:=0::v) (l₂:=u))
   obtain⟨n1,n2⟩:=dQ.mp (J.nodup_iff.mpr (sT n));have le:=J.length_eq;rw[cZ,fK]at le;refine⟨v++u,rH d a,⟨show(v++u).length=n-1 by lia,fun c w r K=>?_⟩,?_,Rh t (by lia) G⟩
   . have X:w∈v++u:=by rw[K];simp
     have:=aE.mp (J.mem_iff.mp (bx _ X));have ne:w≠0:=fun e=>n1 (e▸X);refine c9.mpr ⟨fF.mpr (by lia),?_⟩;rw[K]at n2;have:=(el.mp n2).2.2;simp only[hV];exact fun m=>this w m w (by simp) rfl
   .rw[e,zBg];exact gW _
def zuw(ns:List Int)(y:ns.length<=63)(f:Int):∃q Q Ok g a,Hh [.c_ ns,.int f]=.ok (.lst [q,g,iL a])/\Kd q Q Ok 4 g a:=by
 have g0:=rF f (show(0:Int)<6 by decide);obtain⟨n,en⟩:∃n:Nat,(n:Int)=1+f%6:=⟨(1+f%6).toNat,by lia⟩;obtain⟨d,i,u⟩:=Rb ns y (n:=n) (by lia) (by lia);have J:=zts i (by lia);have C:au [bp (aW n d)]=some (.int n):=ua;have c:∀k:Int,0<=k->∃x,iR [.c_ ns,.int k]=.ok (.int x):=fun k hk=>⟨_,yN ns hk⟩;obtain⟨X,eX⟩:=zaa (D.c_ ns);obtain⟨T,M⟩:=zaa (bp (aW n d));rw[<-eX]at c u⊢;rw[<-M]at u J C;have N:∀(m:Nat)(L a:List Int),L.length=m->m+a.length<=100->∃b,(b).Perm (a++L)/\kK CY Hg (m+1) [.v X,.v (.int f),.v T,.o (iL L),.o (iL a)]=.nx [.v X,.v (.int f),.v T,.o (iL []),.o (iL b)]:=fun m=>by
  have A:∀L a:List Int,CY [.v X,.v (.int f),.v T,.o (iL L),.o (iL a)]=.ok (decide (0<L.length)):=fun L a=>by simp[CY,aR,aj,iL]
  induction m with|zero=>intro L a I _;have:=lz.mp I;subst this;refine⟨a,by simp,?_⟩;rfl|succ m U=>
  intro L a I hs;have t:0<(L.length:Int):=by lia
  obtain⟨s,z⟩:=c (9+(L.length:Int)) (by lia);obtain⟨j,ej⟩:∃j:Nat,(j:Int)=s%L.length:=⟨(s%L.length).toNat,by have:=rF s t;lia⟩;have E:j<L.length:=by have:=vb s t;lia
  have lL:au [iL L]=some (.int L.length):=by simp[iL]
  have w:Hg [.v X,.v (.int f),.v T,.o (iL L),.o (iL a)]=.nx [.v X,.v (.int f),.v T,.o (iL (L.eraseIdx j)),.o (iL (a++[L[j]]))]:=by
   refine(zuy (r:=a.map .int) (l:=L.map .int) (k:=j) (d:=.int L[j]) rfl rfl (by decide) ?_ (by simp[E]) ⟨by lia,by grind⟩).trans ?_;.simp only[jK,bu,aK,ai,af,ag,aj,mC,List.getElem?_cons_succ,List.getElem?_cons_zero,R.aA,lL,R.bI,Cu,z,R.bF,gN t,<-ej];rfl
   . have e:(L.map D.int).eraseIdx j=(L.eraseIdx j).map .int:=by rw[rR,rR,fN,List.map_take,List.map_drop]
     simp[iL,e]
  obtain⟨b,p,h⟩:=U (L.eraseIdx j) (a++[L[j]]) (by rw[List.length_eraseIdx_of_lt E];lia) (by grind);refine⟨b,p.trans ?_,(Il ((A L a).trans (by simp_all)) w).trans h⟩;rw[jP];refine List.Perm.append_left a ?_;rw[List.singleton_append];rw[rR];refine List.perm_middle.symm.trans ?_;simp
 obtain⟨a,p,h⟩:=N n (aH n) [] cZ (by grind);have K:=zBn i (by lia) (by lia) (show a.Perm (aH n)by simp_all);rw[<-M]at K;refine⟨rJ T,_,_,.lst [T],a,gi ?_,K⟩;have lr:=Rf (show n<=1000 by lia);show aq _ _ [.v X,.v (.int f),.no,.no,.no]=_;refine gK (d:=T) [.v X,.v (.int f),.v T,.no,.no] (by simp[ag,aj,gN,<-en,u]) rfl (gK (d:=iL (aH n)) [.v X,.v (.int f),.v T,.o (iL (aH n)),.no] (by simp[uT,aj,C,lr]) rfl (gK (d:=iL []) [.v X,.v (.int f),.v T,.o (iL (aH n)),.o (iL [])] (by simp[bA,iL,sizeLine]) rfl ((bG (Cs h (by intro e;cases e))).trans ?_)));show cU _ [.v X,.v (.int f),.v T,.o (iL []),.v (iL a)]=_;simp[cU,bA,ag,J,sizeLine]
def zxH:C7 [q9 T m]=.ok (.int m):=rfl
def IB(n m:Nat)(d:Int->Int->Int):Qs:=⟨m,fun c=>iV n d (sm n (bl c).toNat (m-c.length) c),fun c=>pW n (bl c).toNat (m-c.length)⟩
structure tu(n m:Nat)(c:List Int):Prop where
 le:c.length<=m
 b1:(c.length:Int)<=bl c
 b2:bl c+((m-c.length:Nat):Int)<=n
 mem:∀v∈c,0<=v/\v<(n:Int)
def Ri{n m:Nat}(w:0<n)(K:n<=100)(J:0<m)(H:m<=100)(G:a.length=m)(h:∀k∈a,0<=k/\k<(n:Int)):pP [.int 5,.lst [bp (aW n d),.int m],iL a]=.ok (.int (iV n d a)):=by
 refine y7 (by lia) Dt ?_ (.inr (.inr (.inr (.inr (.inr ⟨rfl,rfl⟩)))));have I:a≠[]:=fun e=>by simp_all
 have i:au [bp (aW n d)]=some (.int n):=ua;have c:rm (bp (aW n d))=some ((aH n).map fun r=>iL ((aH n).map (d r))):=by unfold bp aW rm;simp
 obtain⟨T,E⟩:=zaa (bp (aW n d));rw[<-E]at i c⊢;have s:au [iL a]=some (.int a.length):=by simp
 have q:=outs (δ:=[.v (.lst [T,.int m]),.v (iL a),.v T,.v (.int m)]) (j:=2) (X:=T) (B:=aK au (ai (aj 0) af)) (a:=a) (m:=n) rfl rfl (fun x=>by simp[aj,i]) (by lia) h;obtain⟨A,o⟩:=zaa (iL a);have z:Pu [.v (.lst [T,.int m]),.v A,.v T,.v (.int m)]=.ok (iL ((aH n).map fun r=>mn (a.map (d r)))):=by
  rw[show iL ((aH n).map fun r=>mn (a.map (d r)))=D.lst ((aH n).map fun r=>D.int (mn (a.map (d r))))by simp[iL]];refine iv (l:=(aH n).map fun r=>iL ((aH n).map (d r))) (by simp[bN,aj,c]) (by rw[aF,cZ];lia) ?_;have y:cP [.v (.lst [T,.int m]),.v A,.v T,.v (.int m)] [1] 1=[.v A,.no]:=rfl;rw[y];refine lG (fun r=>iL ((aH n).map (d r))) _ _ fun r _=>?_;have p:∀k∈a,aJ (iL ((aH n).map (d r))) _=some _:=fun k g=>sY (h k g).1 (h k g).2;obtain⟨f,C⟩:=zaa (iL ((aH n).map (d r)));rw[<-C]at p⊢;have t:Pt [.v A,.v f]=.ok (iL (a.map (d r))):=by rw[show iL _=D.lst (a.map fun k=>D.int (d r k))by simp[iL]];refine iv (l:=a.map .int) (by simp[bN,aj,o]) (by grind) (lG _ _ _ fun k g=>?_);simp[gh,cP,jv,b3,aj,p k g]
  have b:b3 1 f [.v A,.no]=some _:=rfl;simp[gh,b,aK,ai,af,t,Qy (show a.map _≠[]by simp_all)]
 rw[<-o]at s q⊢;refine iA ?_;have u:aR (m2 kL (aK au (ai (aj 1) af)) (aj 3)) [.v (.lst [T,.int m]),.v A,.v T,.v (.int m)]=.ok false:=by simp[aR,aj,s,G]
 refine(bG (show _=O.nx [.v _,.v A,.v T,.v _]from rfl)).trans ((bG ((iK ?_).trans rfl)).trans ?_);.unfold gI;rwa[u]
 .simp[aG,z,Qz (vd w),iV]
def zzT{f0 L:List Int}(s:f0.Sublist L):∀m,f0.length<=m->m<=L.length->∃f,f0.Sublist f/\f.Sublist L/\f.length=m:=by
 induction s with|slnil=>simp|@cons l c a s e=>
 intro m g h;by_cases z:m<=c.length;.grind
 .exact⟨_,s.cons a,List.Sublist.refl _,by grind⟩|@cons_cons l c a s e=>intro m g h;simp at g h;obtain⟨f,j,k,n⟩:=e (m-1) (by lia) (by lia);exact⟨_,j.cons_cons a,k.cons_cons a,by grind⟩
def zDj(h:(c++w::r).Pairwise (.<.))(h0:∀x∈c++w::r,0<=x/\x<(n:Int)):0<=bl c/\bl c<=w/\w+r.length<n:=by
 obtain⟨_,k,j⟩:=List.pairwise_append.mp h;refine⟨?_,?_,?_⟩
 . rcases jR c with e|⟨l,x,e⟩;.rw[e];decide
   .rw[lj]at e;rw[e,yX];have:=h0 x (by rw[e];simp);lia
 . rcases jR c with e|⟨l,x,e⟩;.rw[e];have:=h0 w (by simp);show 0<=w;lia
   .rw[lj]at e;rw[e,yX];have:=j x (by rw[e];simp) w (by simp);lia
 . have:∀(r:List _)(w:Int),(w::r).Pairwise (.<.)->(∀x∈w::r,x<n)->w+r.length<n:=fun r=>by induction r with|nil=>simp|cons y r i=>intro w d b;have o:=i y (List.pairwise_cons.mp d).2 fun x a=>b x (bx _ a);have p:=(List.pairwise_cons.mp d).1 y (by simp);simp;lia
   exact this r w k fun x b=>(h0 x (cN _ b)).2
def zA9{n m:Nat}(n0:1<=m)(m1:m<=n)(h6:n<=6)(K:a.length=m)(X:∀k∈a,0<=k/\k<(n:Int)):Kd (q9 (bp (aW n d)) m) (IB n m d) (tu n m) 5 (.lst [bp (aW n d),.int m]) a:=by
 have N:∀c,tu n m c->c.length<m->0<(pW n (bl c).toNat (m-c.length)).length/\(pW n (bl c).toNat (m-c.length)).length<=n-m+1:=fun c h g=>by have:=h.b1;have:=h.b2;unfold pW;rw[xM];lia
 have C:∀c,tu n m c->sm n (bl c).toNat (m-c.length) c≠[]:=fun c h z=>by have J:=h.b1;have H:=h.b2;unfold sm at z;obtain⟨z1,I⟩:=List.append_eq_nil_iff.mp z;rw[z1]at I J H;simp only[List.length_nil]at I H;rw[ak (by lia)]at I;have:=cK List.length I;rw[xM]at this;have b0:bl []=0:=rfl;simp[b0]at this;lia
 have E:wd (q9 (bp (aW n d)) m) (IB n m d) (tu n m):=by
   refine⟨⟨⟨bM _,by show(0:Int)<=0;decide,by show(0:Int)+((m-0:Nat):Int)<=n;lia,fun _ z=>(nomatch z)⟩,fun c h=>h.le,fun c h g w y=>?_,fun c h g e=>?_⟩,show m<=7 by lia,fun c h g=>?_,fun c i Z M h q G=>?_,fun i M q=>?_,fun c i Z M h g q G=>?_⟩
   . have g:c.length<m:=g;have y:w∈pW n (bl c).toNat (m-c.length):=y;unfold pW at y;have r:=fF.mp y;have:=h.b1;have:=h.b2;refine⟨by simp;lia,?_,?_,fun v hv=>?_⟩;.rw[yX];simp;lia
     .rw[yX];simp;lia
     . rcases bJ.mp hv with z|z;.exact h.mem v z
       .rw[bj.mp z];lia
   .have:=(N c h g).1;have e:pW n (bl c).toNat (m-c.length)=[]:=e;rw[e]at this;exact absurd this (by decide)
   .have:=(N c h g).2;show(pW n (bl c).toNat (m-c.length)).length<=10;lia
   . have J:=h.b1;have H:=h.b2;have s:=h.le;refine(vi q).trans (m8 q (vg _ _ (by decide)) G (zCl (b:=(bl c).toNat) (t:=m-c.length) (by lia) (by lia) (by lia) (by lia) (by lia) (by lia) (C c h) fun v hv=>?_));unfold sm at hv;rcases bJ.mp hv with z|z;.exact h.mem v z
     . split at z;.cases z
       .have:=fF.mp z;lia
   .exact(vi q).trans (yZ q (vg _ _ (by decide)) zxH)
   .have J:=h.b1;have H:=h.b2;have g:c.length<m:=g;exact(vi q).trans (m8 q (vg _ _ (by decide)) G (zAz (b:=(bl c).toNat) (t:=m-c.length) (by lia) (by lia) (by lia) (by lia) (by lia)))
 have u:∀c,c.length=m->sm n (bl c).toNat (m-c.length) c=c:=fun c g=>by unfold sm;rw[ao (by lia),dg]
 refine⟨E,?_,fun c h g w y=>?_,fun c h g i Z M h0 G=>?_,?_⟩
 . have l:∀(B T:List Nat),(∀k,k<m->n-m+1<=B.getD k 0)->(∀k,k<m->1+B.getD k 0*T.getD (k+1) 1<=T.getD k 1)->T.all (fun x=>decide (1<=x))=true->T.getD 0 1<=2000->∃S,DI (IB n m d) (tu n m) S:=fun B T q h2 h3 h4=>⟨_,y4 B T (fun c h g=>bo (N c h g).2 (q _ g)) h2 h3 h4⟩;have A:∀{P:Nat->Prop}(j:Nat),(∀k,k<j->P k)->m=j->∀k,k<m->P k:=fun j h e k hk=>h k (by lia);have s:∀{B:List Nat}(j b:Nat),(∀k,k<j->b<=B.getD k 0)->m=j->n-m+1<=b->∀k,k<m->n-m+1<=B.getD k 0:=fun j b h e hb k hk=>bo hb (h k (by lia));rcases(show m=1\/m=2\/m=3\/m=4\/m=5\/m=6 by lia)with e|e|e|e|e|e;.exact l [6] [7] (s 1 6 (by decide) e (by lia)) (A 1 (by decide) e) (by decide) (by decide)
   .exact l [5,5] [31,6] (s 2 5 (by decide) e (by lia)) (A 2 (by decide) e) (by decide) (by decide)
   .exact l [4,4,4] [85,21,5] (s 3 4 (by decide) e (by lia)) (A 3 (by decide) e) (by decide) (by decide)
   .exact l [3,3,3,3] [121,40,13,4] (s 4 3 (by decide) e (by lia)) (A 4 (by decide) e) (by decide) (by decide)
   .exact l [2,2,2,2,2] [63,31,15,7,3] (s 5 2 (by decide) e (by lia)) (A 5 (by decide) e) (by decide) (by decide)
   .exact l [1,1,1,1,1,1] [7,6,5,4,3,2] (s 6 1 (by decide) e (by lia)) (A 6 (by decide) e) (by decide) (by decide)
 . have g:c.length<m:=g;have J:=h.b1;have H:=h.b2;have r:w∈pW n (bl c).toNat (m-c.length):=y;unfold pW at r;have r:=fF.mp r;show iV n d (sm n (bl c).toNat (m-c.length) c)<=iV n d (sm n (bl (c++[w])).toNat (m-(c++[w]).length) (c++[w]));refine QA (by lia) (C _ (E.step c h g w y)) fun x p=>?_;unfold sm at p⊢;rw[ak (show¬m-c.length=0 by lia)];rw[yX]at p;rcases bJ.mp p with z|z
   . rcases bJ.mp z with z|z;.exact gX _ z
     .rw[bj.mp z];exact cN _ (fF.mpr (by lia))
   . split at z;.cases z
     .have:=fF.mp z;exact cN _ (fF.mpr (by lia))
 . have g:c.length=m:=g;refine⟨c,(vi h0).trans (m8 h0 (vg _ _ (by decide)) G (gi ?_)),?_⟩;.show cU _ [.v (q9 (bp (aW n d)) m),.v (encC c)]=_;simp[cU,aj,zBh]
   .rw[Ri (by lia) (by lia) (by lia) (by lia) g h.mem];show _=R.ok (D.int (iV n d (sm n (bl c).toNat (m-c.length) c)));rw[u c g]
 . obtain⟨f,s1,U,fl⟩:=zzT (f0:=(aH n).filter fun x=>decide (x∈a)) (L:=aH n) List.filter_sublist m (by rw[<-K];exact IA ((sT n).filter _) fun x p=>oQ (c9.mp p).2) (by rwa[cZ]);have Y:∀x∈f,0<=x/\x<(n:Int):=fun x p=>aE.mp (U.subset p);have Q:f.Pairwise (.<.):=(PU n).sublist U;refine⟨f,iV n d a,⟨fl,fun c w r e=>?_⟩,?_,Ri (by omega) (by lia) (by lia) (by lia) K X⟩;.rw[e]at Q Y;have b:=zDj Q Y;have s:=cK List.length e;simp at s;exact fF.mpr (by lia)
   .show iV n d (sm n (bl f).toNat (m-f.length) f)<=_;rw[u f fl];exact QA (by omega) (fun e=>by rw[e]at K;simp at K;lia) fun x p=>s1.subset (c9.mpr ⟨aE.mpr (X x p),da p⟩)
def zq0(ns:List Int)(j:ns.length<=63)(f:Int):∃q Q Ok g y,Hk [.c_ ns,.int f]=.ok (.lst [q,g,iL y])/\Kd q Q Ok 5 g y:=by
 have J:eN 6:=dG 10 (by decide);obtain⟨n,C⟩:∃n:Nat,(n:Int)=1+f%6:=⟨(1+f%6).toNat,by lia⟩;have c:0<(n:Int):=by lia
 have L:=rF (f/6) c;have K:=vb (f/6) c;obtain⟨m,E⟩:∃m:Nat,(m:Int)=1+f/6%n:=⟨(1+f/6%n).toNat,by lia⟩;obtain⟨d,p,h⟩:=Rb ns j (n:=n) (by lia) (by lia);have s:=ztm (k:=(m:Int)) p (by lia);have o:au [bp (aW n d)]=some (.int n):=ua;obtain⟨F,u⟩:=pY (r:=fun(k:Nat)(x:Int)=>iR [.c_ ns,.int (9+(k:Int))]=.ok (.int x)) fun k=>⟨_,yN ns (by lia)⟩;obtain⟨a,i⟩:=zaa ((aH m).map fun k=>F k.toNat%n:List Int);have t:=zA9 (n:=n) (m:=m) (d:=d) (a:=a) (by lia) (by lia) (by lia) (by rw[i,aF,cZ]) fun b w=>by rw[i]at w;obtain⟨k,_,rfl⟩:=bT.mp w;exact⟨rF _ c,vb _ c⟩
 obtain⟨X,z⟩:=zaa (D.c_ ns);obtain⟨T,I⟩:=zaa (bp (aW n d));rw[<-z]at u h⊢;rw[<-I]at h s o t;have G:O4 [.v X,.v (.int f),.v T,.v (.int m),.no]=.ok (iL a):=by rw[i,show iL ((aH m).map fun k=>F k.toNat%n)=D.lst ((aH m).map fun k=>D.int (F k.toNat%n))by simp[iL]];refine iv (l:=(aH m).map .int) (by simp[bw,ag,gg (show m<=1000 by lia)]) (by rw[aF,cZ];lia) (lG .int _ _ fun k H=>?_);have:=u k.toNat;rw[show((k.toNat:Nat):Int)=k by have:=(aE.mp H).1;lia]at this;simp[gh,cP,jv,b3,aj,ag,this,o,gN c]
 refine⟨q9 T m,_,_,.lst [T,.int m],a,gi ?_,t⟩;show aq _ _ [.v X,.v (.int f),.no,.no,.no]=_;refine gK (d:=T) [.v X,.v (.int f),.v T,.no,.no] (by simp[ag,aj,gN,<-C,h]) rfl (gK [.v X,.v _,.v T,.v (.int m),.no] (by simp[aj,o,n_,J,gN c,E]) rfl ((bG (iW G rfl)).trans ?_));simp[cU,bA,ag,s,sizeLine]
def zAI (ns:List Int)(h63:ns.length<=63){kd f:Int}(k0:0<=kd)(k1:kd<6)(f0:0<=f):∃q Q Ok g rv,CZ [.c_ ns,.int kd,.int f]=.ok (.lst [q,g,iL rv])/\Kd q Q Ok kd g rv:=by
 obtain⟨X,eX⟩:=zaa (D.c_ ns)
 have ret:∀{h:List D->R D}{d:D},h [X,.int f]=.ok d->cU (bu h (ai (ag 0) (ai (ag 2) af))) [.v X,.v (.int kd),.v (.int f)]=.ro d:=fun{h d} e=>by simp[cU,bu,ai,af,ag,e]
 have Rj:∀j:Int,aR (m2 oEq (aj 1) (mC (.int j))) [.v X,.v (.int kd),.v (.int f)]=.ok (decide (kd=j)):=fun j=>by simp[aR,aj,mC]
 have no:∀(j:Int){Y:En->O},kd≠j->bg (aR (m2 oEq (aj 1) (mC (.int j)))) Y dC [.v X,.v (.int kd),.v (.int f)]=.nx [.v X,.v (.int kd),.v (.int f)]:=fun j Y ne=>(iK ((Rj j).trans (by rw[cX ne]))).trans rfl
 have yes:∀(j:Int){h:List D->R D}{N:En->O}{d:D},kd=j->h [X,.int f]=.ok d->aq (bg (aR (m2 oEq (aj 1) (mC (.int j)))) (cU (bu h (ai (ag 0) (ai (ag 2) af)))) dC) N [.v X,.v (.int kd),.v (.int f)]=.ro d:=fun j h N d e e'=>by unfold aq;rw[uQ ((Rj j).trans (by rw[da e])),ret e']
 rw[←eX]
 by_cases z0:kd=0
 ·obtain⟨q,Q,Ok,g,rv,h,k⟩:=zuu ns h63 f
  rw[←eX]at h
  exact⟨q,Q,Ok,g,rv,gi (yes 0 z0 h),z0▸k⟩
 by_cases z1:kd=1
 ·obtain⟨q,Q,Ok,g,rv,h,k⟩:=zqp ns h63 f
  rw[←eX]at h
  exact⟨q,Q,Ok,g,rv,gi ((bG (no 0 z0)).trans (yes 1 z1 h)),z1▸k⟩
 by_cases z2:kd=2
 ·obtain⟨q,Q,Ok,g,rv,h,k⟩:=zvo ns h63 f0
  rw[←eX]at h
  exact⟨q,Q,Ok,g,rv,gi ((bG (no 0 z0)).trans ((bG (no 1 z1)).trans (yes 2 z2 h))),z2▸k⟩
 by_cases z3:kd=3
 ·obtain⟨q,Q,Ok,g,rv,h,k⟩:=zvx ns h63 f
  rw[←eX]at h
  exact⟨q,Q,Ok,g,rv,gi ((bG (no 0 z0)).trans ((bG (no 1 z1)).trans ((bG (no 2 z2)).trans (yes 3 z3 h)))),z3▸k⟩
 by_cases z4:kd=4
 ·obtain⟨q,Q,Ok,g,rv,h,k⟩:=zuw ns h63 f
  rw[←eX]at h
  exact⟨q,Q,Ok,g,rv,gi ((bG (no 0 z0)).trans ((bG (no 1 z1)).trans ((bG (no 2 z2)).trans ((bG (no 3 z3)).trans (yes 4 z4 h))))),z4▸k⟩
 ·obtain⟨q,Q,Ok,g,rv,h,k⟩:=zq0 ns h63 f
  rw[←eX]at h
  exact⟨q,Q,Ok,g,rv,gi ((bG (no 0 z0)).trans ((bG (no 1 z1)).trans ((bG (no 2 z2)).trans ((bG (no 3 z3)).trans ((bG (no 4 z4)).trans (ret h)))))),(show kd=5 by lia)▸k⟩
def Rk (r:Rn):gM 8 (pQ r)=true:=by
 have p1:gM 7 (jD r.b)=true:=by cases r.b with
  |none=>rfl|some p=>exact DO p.1 5
 have p2:gM 7 (jE r.b)=true:=by cases r.b with
  |none=>rfl|some p=>rfl
 have p3:gM 7 (.lst (r.cl.map encC))=true:=by
  show(r.cl.map encC).all (gM 6)=true
  rw[nq,jj]
  intro x _;exact DO x 4
 show([jD r.b,jE r.b,.lst (r.cl.map encC)]:List D).all (gM 7)=true
 simp[p1,p2,p3]
def tD (ns:List Int)(h:ns.length<=63):Px [.c_ ns]=.ok (.bl true):=by
 have f6:eN 6:=dG 10 (by decide)
 have c0:iR [.c_ ns,.int 0]=.ok (.int (ns.getD 0 0)):=HD ns 0
 obtain⟨a0,e0⟩:∃a,a=ns.getD 0 0:=⟨_,rfl⟩
 rw[←e0]at c0
 obtain⟨kd,ek⟩:=zaa (a0%6)
 obtain⟨f,ef⟩:=zaa (a0/6%1000000000000)
 obtain⟨q,Q,Ok,g,rv,hm,K⟩:=zAI ns h (kd:=kd) (f:=f) (by rw[ek];exact rF _ (by decide)) (by rw[ek];exact vb _ (by decide)) (by rw[ef];exact rF _ (by decide))
 have bB:=K.ok
 obtain⟨S,hs⟩:=K.sz
 have z0:qD S [[]]<=2000:=by
  have:=hs.all
  simpa[qD]using this
 have Rl:∀x∈[([]:List Int)],Ok x:=fun x hx=>by rw[bj.mp hx];exact bB.nil
 obtain⟨r,hr⟩:=QD bB.toWalk hs 2000 none [[]] Rl z0
 have rv':=QB hr
 have b1:=QJ bB hr (aC _) (M:=2000) (by lia)
 have b2:=QJ bB hr (aC _) (M:=5000) (by lia)
 obtain⟨r1,r2,r3⟩:=Ii bB.toWalk hr Rl
 obtain⟨rb,rn⟩:=r2 rfl (by simp)
 obtain⟨⟨c,k⟩,eb⟩:∃p,r.b=some p:=Option.ne_none_iff_exists'.mp rb
 have B7:=r3 (fun _ _ z=>by cases z) c k eb
 obtain⟨_,lw,lc⟩:=Im hr c k eb
 obtain⟨cm,cl,ck⟩:=lc.resolve_left (by intro z;cases z)
 obtain⟨ff,kk,hf,hfk,Rm⟩:=K.riv
 have kle:=ji (zz1 bB.toWalk K.mono hr eb hf) hfk
 have eA:pQ r=.tup [encC c,.int k,.lst (r.cl.map encC)]:=by unfold pQ jD jE;rw[eb]
 have ed:sr (pQ r) (pQ r)=some (.bl true):=by
  unfold sr
  rw[gQ ⟨Rk r,Rk r⟩];simp
 have ni:=zC3 c r.cl
 rw[da cm]at ni
 rw[eA]at b1 b2 ed
 obtain⟨C,eC⟩:=zaa (D.lst (r.cl.map encC))
 obtain⟨V,eV⟩:=zaa (encC c)
 have isC:fB "list" C=some (.bl true):=by rw[eC];rfl
 have isV:fB "tuple" V=some (.bl true):=by rw[eV];rfl
 obtain⟨X,eX⟩:=zaa (D.c_ ns)
 obtain⟨A,eRv⟩:=zaa (iL rv)
 rw[←eC]at b1 b2 ed ni
 rw[←eV]at b1 b2 ed ni
 rw[←eX]at c0 hm⊢
 rw[←eRv]at hm Rm
 obtain⟨T,eT⟩:=zaa (D.tup [V,.int k,C])
 have isT:fB "tuple" T=some (.bl true):=by rw[eT];rfl
 have lT:au [T]=some (.int 3):=by rw[eT];rfl
 have i0:dX T (.int 0)=some V:=by rw[eT];rfl
 rw[←eT]at b1 b2 ed
 have q1:aD (m2 oMod (bu iR (ai (ag 0) (ai (mC (.int 0)) af))) (mC (.int 6))) (aQ 1) [.v X,.no,.no,.no,.no,.no,.no,.no,.no,.no]=.nx [.v X,.v (.int kd),.no,.no,.no,.no,.no,.no,.no,.no]:=iW (d:=.int kd) (by simp[bu,ai,af,ag,mC,c0,gN,ek]) rfl
 have q2:aD (bu CZ (ai (ag 0) (ai (ag 1) (ai (m2 oMod (m2 oDiv (bu iR (ai (ag 0) (ai (mC (.int 0)) af))) (mC (.int 6))) (m2 gJ (mC (.int 10)) (mC (.int 12)))) af)))) (mE 3 (cB (aQ 2) (cB (aQ 3) (cB (aQ 4) cw)))) [.v X,.v (.int kd),.no,.no,.no,.no,.no,.no,.no,.no]=.nx [.v X,.v (.int kd),.v q,.v g,.v A,.no,.no,.no,.no,.no]:=iW (d:=.lst [q,g,A]) (by simp[bu,ai,af,ag,mC,c0,n_,f6,Iu,gN,←ef,hm]) rfl
 have q3:aD (bu yM (ai (ag 2) (ai (mC (.int 2000)) af))) (aQ 5) [.v X,.v (.int kd),.v q,.v g,.v A,.no,.no,.no,.no,.no]=.nx [.v X,.v (.int kd),.v q,.v g,.v A,.v T,.no,.no,.no,.no]:=iW (d:=T) (by simp only[bu,ai,af,ag,mC,List.getElem?_cons_succ,List.getElem?_cons_zero,R.aA,b1,R.bF]) rfl
 have t4:gI (ik (aR (m1 (fB "tuple") (aj 5)))) (gI (aR (m2 kL (aK au (ai (aj 5) af)) (mC (.int 3)))) (ik (aR (m1 (fB "tuple") (m2 dX (aj 5) (mC (.int 0))))))) [.v X,.v (.int kd),.v q,.v g,.v A,.v T,.no,.no,.no,.no]=.ok false:=by simp[gI,ik,aR,aK,ai,af,aj,mC,isT,lT,i0,isV]
 have q5:aD (ag 5) (c5 3 (cB (aQ 6) (cB (aQ 7) (cB (aQ 8) cw)))) [.v X,.v (.int kd),.v q,.v g,.v A,.v T,.no,.no,.no,.no]=.nx [.v X,.v (.int kd),.v q,.v g,.v A,.v T,.v V,.v (.int k),.v C,.no]:=iW (d:=T) rfl (by rw[eT];rfl)
 have t6:gI (ik (aR (m1 (fB "int") (aj 7)))) (gI (aR (m1 (fB "bool") (aj 7))) (gI (ik (aR (m1 (fB "list") (aj 8)))) (aR (m2 AY (aj 6) (aj 8))))) [.v X,.v (.int kd),.v q,.v g,.v A,.v T,.v V,.v (.int k),.v C,.no]=.ok false:=by
  have i1:fB "int" (.int k)=some (.bl true):=rfl
  have i2:fB "bool" (.int k)=some (.bl false):=rfl
  simp[gI,ik,aR,aj,i1,i2,isC,ni]
 obtain⟨a,ha,Ro⟩:=K.ans c B7 cl 2 (ag 6) [.v X,.v (.int kd),.v q,.v g,.v A,.v T,.v V,.v (.int k),.v C,.no] rfl (by rw[←eV];rfl)
 rw[ck]at Ro
 have t7:gI (aR (m2 kL (bu pP (ai (ag 1) (ai (ag 3) (ai (Io 2 (ag 6)) af)))) (aj 7))) (aR (m2 oLt (bu pP (ai (ag 1) (ai (ag 3) (ai (ag 4) af)))) (aj 7))) [.v X,.v (.int kd),.v q,.v g,.v A,.v T,.v V,.v (.int k),.v C,.no]=.ok false:=by
  have w1:bu pP (ai (ag 1) (ai (ag 3) (ai (Io 2 (ag 6)) af))) [.v X,.v (.int kd),.v q,.v g,.v A,.v T,.v V,.v (.int k),.v C,.no]=.ok (.int k):=by simp only[bu,ai,af,ha,show ag 1 [.v X,.v (.int kd),.v q,.v g,.v A,.v T,.v V,.v (.int k),.v C,.no]=.ok (.int kd)from rfl,show ag 3 [.v X,.v (.int kd),.v q,.v g,.v A,.v T,.v V,.v (.int k),.v C,.no]=.ok g from rfl,R.aA,Ro,R.bF]
  have nk:¬kk<k:=by lia
  simp only[gI,aR,jK,w1]
  simp[bu,ai,af,ag,aj,Rm,nk]
 have loop:∀(l:List (List Int))(o9:Option D),(∀x∈l,Ok x/\k<=Q.low x)->∃p9,kJ (aQ 9) HB (l.map encC) [.v X,.v (.int kd),.v q,.v g,.v A,.v T,.v V,.v (.int k),.v C,sv o9]=.nx [.v X,.v (.int kd),.v q,.v g,.v A,.v T,.v V,.v (.int k),.v C,sv p9]:=fun l=>by induction l with|nil=>exact fun o9 _=>⟨o9,rfl⟩|cons x l ih=>
  intro o9 all
  obtain⟨ox,lx⟩:=all x (by simp)
  have lo:=bB.low x 2 (ag 9) [.v X,.v (.int kd),.v q,.v g,.v A,.v T,.v V,.v (.int k),.v C,.v (encC x)] ox rfl rfl
  have nk:¬Q.low x<k:=by lia
  have t:aR (m2 oLt (Bx 2 (ag 9)) (aj 7)) [.v X,.v (.int kd),.v q,.v g,.v A,.v T,.v V,.v (.int k),.v C,.v (encC x)]=.ok false:=by
   simp only[aR,jK,lo,R.aA]
   simp[aj,nk]
  have bd:HB [.v X,.v (.int kd),.v q,.v g,.v A,.v T,.v V,.v (.int k),.v C,.v (encC x)]=.nx [.v X,.v (.int kd),.v q,.v g,.v A,.v T,.v V,.v (.int k),.v C,.v (encC x)]:=(iK t).trans rfl
  rw[bR]
  unfold kJ
  have b9:aQ 9 (encC x) [.v X,.v (.int kd),.v q,.v g,.v A,.v T,.v V,.v (.int k),.v C,sv o9]=some [.v X,.v (.int kd),.v q,.v g,.v A,.v T,.v V,.v (.int k),.v C,.v (encC x)]:=jy (o:=o9) rfl
  rw[b9]
  dsimp only
  rw[bd]
  exact ih (some (encC x)) fun y hy=>all y (by simp[hy])
 obtain⟨p9,hl⟩:=loop r.cl none fun x hx=>⟨r1 x hx,lw x hx⟩
 refine iA ?_
 show aq _ _ [.v X,.no,.no,.no,.no,.no,.no,.no,.no,.no]=_
 refine(bG q1).trans ((bG q2).trans ((bG q3).trans ((bG ((iK t4).trans rfl)).trans ((bG q5).trans ((bG ((iK t6).trans rfl)).trans ((bG ((iK t7).trans rfl)).trans ((bG ((jn (l:=r.cl.map encC) (by rw[eC];rfl)).trans hl)).trans ?_)))))))
 simp only[aG,jK,bu,ai,af,ag,aj,mC,List.getElem?_cons_succ,List.getElem?_cons_zero,R.aA,b2,R.bF,ed,R.bI];rfl
end My
namespace My
open PM
noncomputable def top (i:Nat):Stmt:=PySem.Challenge.pw_goodenough_k40_whole_best_of_any.main.body.getD i (.Pass ⟨0,0,0,0⟩)
def Rp:Stmt->Stmt|.ClassDef _ _ _ b _ _ _ _ _ _ _=>b.getD 0 (.Pass ⟨0,0,0,0⟩)|s=>s
structure xO where
 a0:Addr
 a1:Addr
 a2:Addr
 a3:Addr
 a4:Addr
 a5:Addr
 a6:Addr
 a7:Addr
 a8:Addr
 a9:Addr
 jM:Addr
 jF:Addr
 b0:Addr
 b1:Addr
noncomputable def IC (ad:xO):Nat->Addr|0=>ad.a0|1=>ad.a1|2=>ad.a2|3=>ad.a3|4=>ad.a4|5=>ad.a5|7=>ad.a6|8=>ad.a7|9=>ad.a8|10=>ad.a9|11=>ad.jM|12=>ad.jF|_=>0
def BC (ad:xO)(c:Nat):Addr:=IC ad (c%16)
noncomputable def Rq:Nat->Str|4=>"thing"|5=>"thing"|_=>Str.empty
def BD (c:Nat):Str:=Rq (c%16)
abbrev KX (K:W.Frag)(ad:xO):Kx:=⟨K,BC ad,BD⟩
def DZ (K:W.Frag):Sp:=fun vs H Q _=>∃(a:Addr)(ns:List Int),vs=[.ref a]/\eE K H a (ns.map V.int)/\ns.length<=63/\∀H',Q (.bl true) H'
structure Txt (K:W.Frag)(mg:Str->Option Value)(ad:xO):Prop where
 xg:∃h:Heap,K.In h/\h.Ns mainGlobals mg
 c3:mg "len"=none
 ID:mg "abs"=none
 wg:mg "isinstance"=none
 qF:mg "list"=none
 tE:mg "sum"=none
 Rr:mg "int"=none
 Rt:mg "bool"=none
 Ru:mg "tuple"=none
 qai:mg "dict"=none
 gj:mg "range"=none
 xP:mg "enumerate"=none
 IE:mg "reversed"=none
 vo:mg "max"=none
 BE:mg "min"=none
 Rv:mg "sorted"=none
 D0:mg "zip"=none
 BF:mg "set"=none
 qar:mg "ValueError"=none
 qas:mg "CoverQuestion"=some (.ref ad.a6)
 qat:mg "BenchQuestion"=some (.ref ad.a7)
 qau:mg "BinQuestion"=some (.ref ad.a8)
 qav:mg "SackQuestion"=some (.ref ad.a9)
 qaw:mg "RoundQuestion"=some (.ref ad.jM)
 qax:mg "PlaceQuestion"=some (.ref ad.jF)
 tF:dP K ad.a6
 Rw:aB K ad.a6 "cheapest"
 Rx:aB K ad.a6 "many"
 Ry:aB K ad.a6 "sets"
 rK:dP K ad.a7
 Rz:aB K ad.a7 "falling"
 RA:aB K ad.a7 "least"
 RB:aB K ad.a7 "many"
 RC:aB K ad.a7 "order"
 tG:dP K ad.a8
 RD:aB K ad.a8 "falling"
 RE:aB K ad.a8 "order"
 RF:aB K ad.a8 "room"
 wj:dP K ad.a9
 RG:aB K ad.a9 "room"
 RH:aB K ad.a9 "things"
 y':dP K ad.jM
 RI:aB K ad.jM "lengths"
 wk:dP K ad.jF
 RJ:aB K ad.jF "lengths"
 RK:aB K ad.jF "many"
 qbj:mg "EnoughError"=some (.ref ad.a0)
 qbk:mg "NoShare"=some (.ref ad.a1)
 IF:mg "NoLengths"=some (.ref ad.a2)
 qbm:mg "TooMany"=some (.ref ad.a3)
 qbn:mg "NoCover"=some (.ref ad.a4)
 qbo:mg "NoRoom"=some (.ref ad.a5)
 qbp:yx K ad.a4 [.type "ValueError",.type "Exception",.type "BaseException",.type "object"] "ValueError.__new__" ad.b0=true
 qbq:W.isFn K (.ref ad.b0)=true
 RL:aB K ad.a4 "thing"
 qbs:yx K ad.a5 [.type "ValueError",.type "Exception",.type "BaseException",.type "object"] "ValueError.__new__" ad.b1=true
 qbt:W.isFn K (.ref ad.b1)=true
 RM:aB K ad.a5 "thing"
 qbv:W.excIn K ad.a1 [.type "ValueError",.type "Exception",.type "BaseException",.type "object"] "ValueError.__new__"=true
 IG:W.excIn K ad.a2 [.type "ValueError",.type "Exception",.type "BaseException",.type "object"] "ValueError.__new__"=true
 qbx:W.excIn K ad.a3 [.type "ValueError",.type "Exception",.type "BaseException",.type "object"] "ValueError.__new__"=true
 qby:gG K ad.a1
 qbz:gG K ad.a2
 qb0:gG K ad.a3
 qb1:gG K ad.a4
 qb2:sE K ad.a4
 qb3:gG K ad.a5
 qb4:sE K ad.a5
 qb5:W.makesIn K ad.a6=true/\W.keepIn K (.ref ad.a6)=true
 qb6:W.makesIn K ad.a7=true/\W.keepIn K (.ref ad.a7)=true
 qb7:W.makesIn K ad.a8=true/\W.keepIn K (.ref ad.a8)=true
 qb8:W.makesIn K ad.a9=true/\W.keepIn K (.ref ad.a9)=true
 qb9:W.makesIn K ad.jM=true/\W.keepIn K (.ref ad.jM)=true
 qca:W.makesIn K ad.jF=true/\W.keepIn K (.ref ad.jF)=true
structure ar where
 P:Program
 w:World
 K:W.Frag
 mg:Str->Option Value
 base:Heap
 ad:xO
abbrev mQ (c:ar):Kx:=(KX c.K c.ad)
abbrev bc (c:ar):Prop:=Txt c.K c.mg c.ad
abbrev cy (c:ar)(k:Nat)(x:Str)(ps:List Str)(sp:Sp):Prop:=uD c.P c.w c.K c.mg c.base mw k x ps sp
abbrev eI (c:ar)(k:Nat)(x:Str)(C:Addr)(ps:List Str)(sp:Sp):Prop:=pH c.P c.w c.K c.mg c.base mw k x C ps sp
abbrev IH (c:ar)(k:Nat)(x:Str)(C:Addr)(ps:List Str)(sp:Sp):Prop:=sJ c.P c.w c.K c.mg c.base mw k x C ps sp
abbrev vp (c:ar)(k:Nat)(x:Str)(ps:List Str)(sp:Sp):Prop:=uD c.P c.w c.K c.mg c.base (qO c.P c.w) k x ps sp
abbrev II (c:ar)(k:Nat)(x:Str)(C:Addr)(ps:List Str)(sp:Sp):Prop:=pH c.P c.w c.K c.mg c.base (qO c.P c.w) k x C ps sp
abbrev tH (c:ar)(k:Nat)(x:Str)(C:Addr)(ps:List Str)(sp:Sp):Prop:=sJ c.P c.w c.K c.mg c.base (qO c.P c.w) k x C ps sp
abbrev cI (c:ar)(f:List D->R D):Sp:=so (mQ c) (kN (mQ c)) f
abbrev dD (c:ar)(f:List D->R D):Sp:=tV (mQ c) (kN (mQ c)) f
abbrev q_ (c:ar)(k:Nat)(f:List D->R D):Sp:=yB (mQ c) k f
section
variable {P:Program} {w:World} {K:PySem.W.Frag} {mg:Str->Option Value} {base:Heap} {ad:xO}
abbrev zac(K ad c s):=dP (KX K ad).f ((KX K ad).ca c)/\aB (KX K ad).f ((KX K ad).ca c) s
def zrA (T:Txt K mg ad):∀c,xE c=true->zac K ad c "cheapest":=by
 intro c h
 match c,h with|7,_=>exact⟨T.tF,T.Rw⟩
def zfQ (T:Txt K mg ad):zac K ad 7 "cheapest":=⟨T.tF,T.Rw⟩
def zue (T:Txt K mg ad):∀c,qz c=true->zac K ad c "falling":=by
 intro c h
 match c,h with|8,_=>exact⟨T.rK,T.Rz⟩|9,_=>exact⟨T.tG,T.RD⟩
def zgi (T:Txt K mg ad):zac K ad 8 "falling":=⟨T.rK,T.Rz⟩
def zhi (T:Txt K mg ad):zac K ad 9 "falling":=⟨T.tG,T.RD⟩
def zxC (T:Txt K mg ad):∀c,GI c=true->zac K ad c "least":=by
 intro c h
 match c,h with|8,_=>exact⟨T.rK,T.RA⟩
def zhe (T:Txt K mg ad):zac K ad 8 "least":=⟨T.rK,T.RA⟩
def ztY (T:Txt K mg ad):∀c,rD c=true->zac K ad c "lengths":=by
 intro c h
 match c,h with|11,_=>exact⟨T.y',T.RI⟩|12,_=>exact⟨T.wk,T.RJ⟩
def zgk (T:Txt K mg ad):zac K ad 11 "lengths":=⟨T.y',T.RI⟩
def zf0 (T:Txt K mg ad):zac K ad 12 "lengths":=⟨T.wk,T.RJ⟩
def zAN (T:Txt K mg ad):∀c,rE c=true->zac K ad c "many":=by
 intro c h
 match c,h with|7,_=>exact⟨T.tF,T.Rx⟩|8,_=>exact⟨T.rK,T.RB⟩|12,_=>exact⟨T.wk,T.RK⟩
def zhW (T:Txt K mg ad):zac K ad 7 "many":=⟨T.tF,T.Rx⟩
def zh5 (T:Txt K mg ad):zac K ad 8 "many":=⟨T.rK,T.RB⟩
def zhB (T:Txt K mg ad):zac K ad 12 "many":=⟨T.wk,T.RK⟩
def zyk (T:Txt K mg ad):∀c,u_ c=true->zac K ad c "order":=by
 intro c h
 match c,h with|8,_=>exact⟨T.rK,T.RC⟩|9,_=>exact⟨T.tG,T.RE⟩
def zg9 (T:Txt K mg ad):zac K ad 8 "order":=⟨T.rK,T.RC⟩
def ziv (T:Txt K mg ad):zac K ad 9 "order":=⟨T.tG,T.RE⟩
def RN (T:Txt K mg ad):∀c,xF c=true->zac K ad c "room":=by
 intro c h
 match c,h with|9,_=>exact⟨T.tG,T.RF⟩|10,_=>exact⟨T.wj,T.RG⟩
def zjd (T:Txt K mg ad):zac K ad 9 "room":=⟨T.tG,T.RF⟩
def zil (T:Txt K mg ad):zac K ad 10 "room":=⟨T.wj,T.RG⟩
def zBl (T:Txt K mg ad):∀c,tY c=true->zac K ad c "sets":=by
 intro c h
 match c,h with|7,_=>exact⟨T.tF,T.Ry⟩
def zhS (T:Txt K mg ad):zac K ad 7 "sets":=⟨T.tF,T.Ry⟩
def IJ (T:Txt K mg ad):∀c,yH c=true->zac K ad c "things":=by
 intro c h
 match c,h with|10,_=>exact⟨T.wj,T.RH⟩
def zg6 (T:Txt K mg ad):zac K ad 10 "things":=⟨T.wj,T.RH⟩
def ztb (k:Nat):BC ad (4+16*(k+1))=ad.a4:=by
 unfold BC
 rw[show(4+16*(k+1))%16=4 by lia];rfl
def zt7 (k:Nat):BD (4+16*(k+1))="thing":=by
 unfold BD
 rw[show(4+16*(k+1))%16=4 by omega];rfl
def zxj (k:Nat):BC ad (5+16*(k+1))=ad.a5:=by
 unfold BC
 rw[show(5+16*(k+1))%16=5 by lia];rfl
def zvf (k:Nat):BD (5+16*(k+1))="thing":=by
 unfold BD
 rw[show(5+16*(k+1))%16=5 by omega];rfl
abbrev IK:Stmt:=Rp (top 5)
def zmi:bY ["self","thing"] ["self","thing"] (cb IK):=kB
def zms {f:Addr}{fd:FuncData}(F:jJ K "__init__" "NoCover.__init__" IK f fd):cA P w K mg base mw 1 f fd ["self","thing"] (yy K "thing"):=by
 refine F.ok zmi (fun vs H Q E h=>Nu h) (fun rk A outer s H vs Q E hr h=>?_)
 obtain⟨e,C,xs,n,rfl,hH,zA,zN,q⟩:=h
 exact⟨_,cR (Nr (pv 0) (pv 1) rfl),_,rfl,_,rfl,e,C,xs,rfl,hH,zA,zN,fun dx hd=>q dx hd⟩
abbrev RO (c:ar):Prop:=xo c.P c.w c.K c.mg c.base c.ad.b0 ["self","thing"] (yy c.K "thing")
abbrev IL:Stmt:=Rp (top 6)
def zm2:bY ["self","thing"] ["self","thing"] (cb IL):=kB
def zm3 {f:Addr}{fd:FuncData}(F:jJ K "__init__" "NoRoom.__init__" IL f fd):cA P w K mg base mw 1 f fd ["self","thing"] (yy K "thing"):=by
 refine F.ok zm2 (fun vs H Q E h=>Nu h) (fun rk A outer s H vs Q E hr h=>?_)
 obtain⟨e,C,xs,n,rfl,hH,zA,zN,q⟩:=h
 exact⟨_,cR (Nr (pv 0) (pv 1) rfl),_,rfl,_,rfl,e,C,xs,rfl,hH,zA,zN,fun dx hd=>q dx hd⟩
abbrev RP (c:ar):Prop:=xo c.P c.w c.K c.mg c.base c.ad.b1 ["self","thing"] (yy c.K "thing")
def zs {a:Prop}(h:a:=by repeat' first|((with_reducible apply cS);first|exact kM|exact Fp|exact Av|exact Ci|exact tU|exact Mn|exact tR|exact Mm|exact w_|exact Ml|exact Fq|exact Mo|exact yk|exact FN|exact Mp|exact MW|exact MX|exact W'|exact NK|exact W2)|with_reducible (first|apply yh|apply V2|apply As|apply XJ|apply Wb|apply bZ|apply cf|apply sI|apply d_|apply jm|apply fc|apply GG|apply yG|apply gR|apply zev|apply pA|apply hI|apply hL|apply dc|apply jb|apply mU|apply pw|apply AR|apply uH|apply Fc|apply Cd|apply vN|apply Fy|apply Ar|apply wU|apply fi|apply wV|apply sM|apply Wa|apply Wh|apply xt|apply nX|apply B_|apply V'|apply Cf|apply Aq|apply mD|apply MB|apply fT|apply VZ|apply V1|apply NO|apply Y6|apply Fb|apply GH|apply yC|apply Fe|apply Fg|apply L6|apply Fo|apply L5|apply Mj|apply Y5|apply MT|apply L3|apply yc|apply Fl|apply NP|apply W_|apply Mg|apply Wg|apply Xe|apply NV|apply Xx|apply Xb|apply L8|apply Ng|apply NZ|apply Zu|apply Mh|apply Zo|apply XN|apply Md|apply MR|apply ZJ|apply Nn|apply N8|apply Wf|apply M_|apply NJ|apply V0|apply ZA|apply We|apply Mb|apply L_|apply MS|apply M0|apply SE.r|apply Mc|apply pz)|rfl|exact wY|exact V5|exact FN|exact Ff|exact NK|(apply jw;first|exact pC|exact tX|exact AJ|exact Cr|exact M5|exact Mz|exact M4|exact Mx|exact M9)|(apply FF;first|exact pC|exact tX|exact AJ|exact Cr|exact M5|exact Mz|exact M4|exact Mx|exact M9)|apply AR|apply Ar|with_reducible apply iy.e|exact Or.inl ⟨rfl,rfl⟩|refine Or.inr ⟨_,_,rfl,rfl,?_⟩|decide|exact zhW T|exact zhS T|exact zfQ T|exact zh5 T|exact zg9 T|exact zgi T|exact zyk T|exact zhe T|exact zjd T|exact ziv T|exact zhi T|exact zil T|exact zg6 T|exact zgk T|exact zf0 T|exact zhB T|exact zue T|exact zxC T|exact zAN T|exact RN T|exact zBl T|exact zrA T|exact ztY T|exact IJ T|apply d_|apply vN|apply jb|apply zev|apply wV|apply As|apply Aq|apply Cf|apply mU|apply MB|apply Fo|apply Fg|apply gR|apply Fl|apply sM|apply Fe|apply Mg|apply NZ|apply NO|apply NV|apply Md|apply Mh|apply pA|apply M_|apply NP|apply MS|apply M0|apply MR|apply Nn|apply N8|apply Ng|apply Cd|apply Ar|apply NJ|apply Mb|apply L_|apply SI.c):a:=h
abbrev vq (c:ar):Prop:=cy c 1 "_law_cell_at" ["_law_script","_law_k"] (cI c iR)
abbrev RQ:Stmt:=top 43
def zm9 {c:ar}(T:bc c)(d:De c.K "_law_cell_at" RQ):vq c:=hD T.xg d fun F=>hO ["_law_script","_law_k"] F fun hr hu nd=>⟨_,(a_ (fg (pq r6 (pv 1) (pB dq T.c3 az (aU (pv 0)))) (pR (pI (pv 0) (pv 1))) ft) (pR aT)),zs⟩
abbrev BG (c:ar):Prop:=cy c 1 "_law_number" ["_law_cell","_law_k"] (cI c tZ)
abbrev RS:Stmt:=top 44
def zob {c:ar}(T:bc c)(d:De c.K "_law_number" RS):BG c:=hD T.xg d fun F=>hO ["_law_cell","_law_k"] F fun hr hu nd=>⟨_,(pR (bC gC (bC si (bC fQ (bC fQ (bC gC (pv 0) (bC vE aT aT)) (bC si (pv 1) (pv 1))) aT) (bC fQ aT (bC si aT (pv 1)))) aT)),zs⟩
abbrev D1 (c:ar):Prop:=cy c 1 "_law_amount" ["_law_cell","_law_number_here"] (cI c t8)
abbrev RT:Stmt:=top 45
def zpa {c:ar}(T:bc c)(d:De c.K "_law_amount" RT):D1 c:=hD T.xg d fun F=>hO ["_law_cell","_law_number_here","_law_way","_law_part"] F fun hr hu nd=>⟨_,(a_ (pS 2 nd (bC gC (pv 1) aT)) (a_ (pS 3 nd (bC pj (pv 1) aT)) (a_ (fg (pq kU (pv 2) aT) (pR (bC gC (pv 3) aT)) ft) (a_ (fg (pq kU (pv 2) aT) (pR (bC gC (pv 0) (bC fQ (bC vE aT aT) aT))) ft) (a_ (fg (pq kU (pv 2) aT) (pR (bC uv (bC vE aT aT) (bC gC (pv 3) aT))) ft) (pR (bC gC (pv 3) aT))))))),zs⟩
abbrev RU (c:ar):Prop:=cy c 2 "_law_sets" ["_law_cells","_law_many"] (dD c GO)
abbrev D2:Stmt:=top 47
noncomputable abbrev IM:List Str:=["_law_cells","_law_many","_law_sets_here","_law_k","_law_cell","_law_bits","_law_things","_law_there","_law_price","_law_t"]
def zrS {c:ar}(T:bc c)(d:De c.K "_law_sets" D2)(g1:BG c)(g2:D1 c):RU c:=hD T.xg d fun F=>iB IM F fun hr hu nd=>⟨_,(a_ (pS 2 nd (ic dW)) (a_ (pF (x8 rfl T.xP (aU (pv 0))) (oZ rfl (fu (pN 3 nd) (fu (pN 4 nd) kT))) (a_ (pS 5 nd (bC pj (bq g1 hr bL (bS (pv 4) (pv 3))) aT)) (a_ (sQ 6 nd (iF rfl T.gj (aU (pv 1))) (pO (cb D2) IM ["_law_bits","_law_t"] [5] 1 (fun nd=>⟨(pN 1 nd),(pv 1),(pq kU (bC gC (bC pj (pv 0) (bC UK aT (pv 1))) aT) aT)⟩))) (cR (v7 (pv 2) (vG (bS (bq g2 hr bL (bS (pv 4) (bC pj (pv 5) aT))) (pv 6)))))))) (a_ (pS 7 nd Ad) (a_ (pF (ia (pv 2)) (oZ rfl (fu (pN 8 nd) (fu (pN 6 nd) kT))) (cR (pF (ia (pv 6)) (pN 9 nd) (cR (Ac hu (pv 7) (pv 9) vz rfl))))) (pR (bC Cv (pv 2) (ic (aU (vG (bS aT (ig rfl (iF rfl T.gj (aU (pv 1))) (pO (cb D2) IM ["_law_there","_law_t"] [7] 1 (fun nd=>⟨(pN 1 nd),(pv 1),(zD (Ab hu (pv 1) (pv 0)))⟩))))))))))))),zs⟩
abbrev IP (c:ar):Prop:=cy c 1 "_law_covered" ["_law_sets_here","_law_chosen"] (dD c xG)
abbrev RV:Stmt:=top 51
def zm6 {c:ar}(T:bc c)(d:De c.K "_law_covered" RV):IP c:=hD T.xg d fun F=>iB ["_law_sets_here","_law_chosen","_law_there","_law_number_here","_law_t"] F fun hr hu nd=>⟨_,(a_ (pS 2 nd Ad) (a_ (pF (ia (pv 1)) (pN 3 nd) (cR (pF (ia (pJ (pI (pv 0) (pv 3)) aT)) (pN 4 nd) (cR (Ac hu (pv 2) (pv 4) vz rfl))))) (pR (pv 2)))),zs⟩
abbrev RW (c:ar):Prop:=vp c 3 "refuse_missing" ["many","sets"] (cI c GR)
abbrev RX:Stmt:=top 20
def zky {c:ar}(T:bc c)(d:De c.K "refuse_missing" RX)(jf:RO c):RW c:=hD T.xg d fun F=>sR ["many","sets","held","one","thing"] F fun hr hu nd=>⟨_,(a_ (pS 2 nd Ad) (a_ (rj eP rfl (ia (pv 1)) (pN 3 nd) (cR (rj eP rfl (ia (pJ (pv 3) aT)) (pN 4 nd) (cR (Ac hu (pv 2) (pv 4) vz rfl))))) (cR (rj eP rfl (iF rfl T.gj (aU (pv 0))) (pN 4 nd) (cR (fg (zD (Ab hu (pv 4) (pv 2))) (cR (Nv rfl rfl (by rfl) T.qbn T.qbp dJ (by decide+kernel) dJ Nt jf (hr.mono (by decide)) T.qbq (aU (pv 4)))) ft)))))),(d_ (yh L6) (d_ (vN (Aq cf) jm (vN (Aq (cS tU bZ sI)) jm (Fo cf yc))) (vN (Cd wY (yG cf)) jm (mU (mD (Mj cf bZ)) (Nw (c0:=4) (by decide) (fun k=>(ztb k).symm) zt7 T.qb2 T.RL (yG cf)) pz))))⟩
abbrev RY (c:ar):Prop:=cy c 1 "least_prices" ["sets"] (dD c GS)
abbrev RZ:Stmt:=top 34
def zmh {c:ar}(T:bc c)(d:De c.K "least_prices" RZ):RY c:=hD T.xg d fun F=>iB ["sets","rows","price","things","row","thing"] F fun hr hu nd=>⟨_,(a_ (pS 1 nd (ic (aU Ad))) (a_ (pF (MO rfl T.IE (aU (pv 0))) (oZ rfl (fu (pN 2 nd) (fu (pN 3 nd) kT))) (a_ (pS 4 nd (nG YK (by rfl) T.qai boot_dict (aU (pI (pv 1) (xV xW aT))))) (a_ (pF (ia (pv 3)) (pN 5 nd) (cR (Ac hu (pv 4) (pv 5) (pB (Eu rfl) T.BE boot_min (bS (pv 2) (LK hu (pv 4) (pv 5) (pv 2) MV))) rfl))) (cR (v7 (pv 1) (pv 4)))))) (pR (XU rfl (by rfl) T.qF (by rfl) T.IE (pv 1))))),zs⟩
abbrev R0 (c:ar):Prop:=tH c 4 "CoverQuestion" c.ad.a6 ["self","many","sets"] (q_ c 7 GW)
abbrev IQ:Stmt:=hG (top 36) 0
abbrev R1:List Str:=["self","many","sets"]
def zfJ {c:ar}(T:bc c)(d:Dm c.K c.ad.a6 "__init__" "CoverQuestion.__init__" IQ)(g5:RW c)(g6:RY c):R0 c:=hC T.qb5 T.qas d fun F=>sS R1 F fun hr hu nd=>⟨_,(a_ (vD (yF g5 hr yb (bS (pv 1) (pv 2)))) (a_ (pa (pv 0) (pv 1) rfl) (a_ (pa (pv 0) (ig rfl (ia (pv 2)) (jq (cb IQ) R1 ["price","things"] [] 2 (fun nd=>⟨(oZ rfl (fu (pN 0 nd) (fu (pN 1 nd) kT))),(vG (bS (pv 0) (nG xZ (by rfl) T.qF dM (aU (pv 1)))))⟩))) rfl) (cR (pa (pv 0) (bq g6 hr bL (aU (f_ (pv 0) rfl))) rfl))))),(sM zs (sM zs (sM (N7 zs (N4 zs (by decide) (wV (pw hI (pw hI wU))) (Cc (wW hL (wW hL Cb))) (N3 cf (FF Cr (fc bZ))))) zs)))⟩
abbrev R3 (c:ar):Prop:=cy c 6 "_law_cover" ["_law_script","_law_first"] (dD c GX)
abbrev D3:Stmt:=top 52
noncomputable abbrev IS:List Str:=["_law_script","_law_first","_law_many","_law_sets_here","_law_rival","_law_t","_law_having"]
def zqi {c:ar}(T:bc c)(d:De c.K "_law_cover" D3)(g0:vq c)(g3:RU c)(g4:IP c)(g7:R0 c):R3 c:=hD T.xg d fun F=>iB IS F fun hr hu nd=>⟨_,(a_ (pS 2 nd (bC gC (pv 1) aT)) (a_ (pS 3 nd (bq g3 hr bL (bS (wH wL (pv 0) (sb aT) (sb aT)) (pv 2)))) (a_ (sQ 4 nd (iF rfl T.gj (aU (pB dq T.c3 az (aU (pv 3))))) (pO (cb D3) IS ["_law_script","_law_k"] [0] 1 (fun nd=>⟨(pN 1 nd),(pv 1),(pq kU (bC gC (bq g0 hr bL (bS (pv 0) (bC fQ aT (pv 1)))) aT) aT)⟩))) (a_ (pF (iF rfl T.gj (aU (pv 2))) (pN 5 nd) (cR (fg (zD (Ab hu (pv 5) (bq g4 hr bL (bS (pv 3) (pv 4))))) (a_ (sQ 6 nd (iF rfl T.gj (aU (pB dq T.c3 az (aU (pv 3))))) (pO (cb D3) IS ["_law_t","_law_sets_here","_law_k"] [5,3] 1 (fun nd=>⟨(pN 2 nd),(pv 2),(o6 Lq (pv 0) (pJ (pI (pv 1) (pv 2)) aT) (by with_unfolding_all rfl))⟩))) (cR (v7 (pv 4) (pI (pv 6) (bC gC (bq g0 hr bL (bS (pv 0) (bC fQ aT (pv 5)))) (pB dq T.c3 az (aU (pv 6)))))))) ft))) (pR (ic (cq (yz g7 (hr.mono (by decide)) (by rfl) uF (bS (pv 2) (pv 3))) (bS (ic (bS (pv 2) (pv 3))) (pv 4))))))))),(d_ zs (d_ zs (d_ (yh (jb zs (by decide) hI hL (Or.inr ⟨_,_,rfl,rfl,(gR (cS Ci (cS Av (uH (GG cf (cS Fp sI bZ))).r sI).r sI))⟩) cf)) (d_ (vN zs jm (mU zs (d_ (pA (jb zs (by decide) hI hL (Or.inr ⟨_,_,rfl,rfl,(gR (cS MW bZ (cS tU (cS kM bZ bZ).r sI).r))⟩) cf).e jm) zs) pz)) zs))))⟩
abbrev IT (c:ar):Prop:=cy c 2 "_law_sizes" ["_law_cells"] (dD c CQ)
abbrev R4:Stmt:=top 46
def zpf {c:ar}(T:bc c)(d:De c.K "_law_sizes" R4)(g1:BG c)(g2:D1 c):IT c:=hD T.xg d fun F=>iB ["_law_cells","_law_sizes_here","_law_k","_law_cell"] F fun hr hu nd=>⟨_,(a_ (pS 1 nd (ic dW)) (a_ (pF (x8 rfl T.xP (aU (pv 0))) (oZ rfl (fu (pN 2 nd) (fu (pN 3 nd) kT))) (cR (v7 (pv 1) (bC fQ aT (bC gC (bq g2 hr bL (bS (pv 3) (bC pj (bq g1 hr bL (bS (pv 3) (pv 2))) aT))) (bC vE aT aT)))))) (pR (pv 1)))),zs⟩
abbrev IU (c:ar):Prop:=cy c 1 "greatest_order" ["sizes"] (dD c va)
abbrev rL:Stmt:=top 15
def zkn:bY ["sizes"] ["sizes"] (cb rL):=kB
def zkm {f vr tP:Addr}{oc:Value}{od D4:Option Addr}{uy:Array (Option Value)}{D5 vu D6 D7:Value}(lk:K.lookup f=some ⟨oc,od,.func (W.fnOf "greatest_order" "greatest_order" (nJ rL) (kI rL) (cb rL) .none D5 vu D6 D4 (.ref vr) D7),uy⟩)(CM:W.codeIn K (.ref vr) "greatest_order"=true)(T:Txt K mg ad)(hT:tabOf K=some (tP,#[.str ("greatest_order"++".<locals>."++"<lambda>") 0,rawInt ((62:Nat):Int),rawInt ((41:Nat):Int)]))(hC:W.codeHdIn K vr tP=true)(hB:mJ mg base):cA P w K mg base mw 1 f (W.fnOf "greatest_order" "greatest_order" (nJ rL) (kI rL) (cb rL) .none D5 vu D6 D4 (.ref vr) D7) ["sizes"] (tV (KX K ad) (kN (KX K ad)) va):=by
 refine BR lk CM zkn (fun vs H Q E h=>Mv h) (fun A outer s H vs Q E hr h=>?_)
 have hu:=uB hr
 exact⟨_,(cR (um (Yt rfl hr (by rfl) T.Rv (cq (CA (by rfl) T.gj (cq (tN dq (by rfl) T.c3 az (cq (pv 0) dW)) dW)) dW) hT hC rfl hB (fun cc h=>by cases h;rfl) rfl (fun _ _ _ _ _ _=>rfl) rfl rfl rfl rfl rfl (by decide+kernel) rfl rfl (by decide) (by decide) (by decide)))),Mu (K:=(KX K ad)) (XO:=(kN (KX K ad))) (E:=E) (np:=1) (nv:=0) (m:=Oz)
 (As YC) rfl h⟩
abbrev R5 (c:ar):Prop:=cy c 1 "common_factor" ["one","other"] (cI c G0)
abbrev R6:Stmt:=top 11
def zlm {c:ar}(T:bc c)(d:De c.K "common_factor" R6):R5 c:=hD T.xg d fun F=>hO ["one","other","great","small","rest"] F fun hr hu nd=>⟨_,(a_ (pS 2 nd (pB Et T.ID boot_abs (aU (pv 0)))) (a_ (pS 3 nd (pB Et T.ID boot_abs (aU (pv 1)))) (a_ (BO jW (pq o5 (pv 3) aT) (a_ (pS 4 nd (bC gC (pv 2) (pv 3))) (a_ (pS 2 nd (pv 3)) (cR (pS 3 nd (pv 4)))))) (pR (pv 2))))),zs⟩
abbrev IV (c:ar):Prop:=vp c 2 "share" ["top","bottom"] (cI c t9)
abbrev R7:Stmt:=top 12
def zxt {c:ar}(T:bc c)(d:De c.K "share" R7)(IW:R5 c):IV c:=hD T.xg d fun F=>sR ["top","bottom","factor"] F fun hr hu nd=>⟨_,(a_ (fg (pq kU (pv 1) aT) (cR (Al rfl (by rfl) T.qbk T.qbv dJ (by decide+kernel) dJ Ao (aU zB))) ft) (a_ (pS 2 nd (bq IW hr bL (bS (pv 0) (pv 1)))) (a_ (fg (pq r6 (pv 1) aT) (cR (pS 2 nd (xV xW (pv 2)))) ft) (pR (vG (bS (bC pj (pv 0) (pv 2)) (bC pj (pv 1) (pv 2)))))))),zs⟩
abbrev IX (c:ar):Prop:=cy c 1 "rounded_up" ["one"] (cI c v8)
abbrev R8:Stmt:=top 13
def zo0 {c:ar}(T:bc c)(d:De c.K "rounded_up" R8):IX c:=hD T.xg d fun F=>hO ["one"] F fun hr hu nd=>⟨_,(pR (xV xW (bC pj (xV xW (pJ (pv 0) aT)) (pJ (pv 0) aT)))),zs⟩
abbrev R9 (c:ar):Prop:=tH c 3 "BenchQuestion" c.ad.a7 ["self","works","many"] (q_ c 8 G3)
abbrev IY:Stmt:=hG (top 37) 0
abbrev R_:List Str:=["self","works","many"]
def zfS {c:ar}(T:bc c)(d:Dm c.K c.ad.a7 "__init__" "BenchQuestion.__init__" IY)(za:IU c)(zb:IV c)(zc:IX c):R9 c:=hC T.qb6 T.qat d fun F=>sS R_ F fun hr hu nd=>⟨_,(a_ (pa (pv 0) (pv 2) rfl) (a_ (pa (pv 0) (bq za hr bL (aU (pv 1))) rfl) (a_ (pa (pv 0) (ig rfl (ia (f_ (pv 0) rfl)) (jq (cb IY) R_ ["works","number"] [1] 1 (fun nd=>⟨(pN 1 nd),(pI (pv 0) (pv 1))⟩))) rfl) (cR (pa (pv 0) (bq zc hr bL (aU (yF zb hr yb (bS (pB (su rfl) T.tE eU (aU (pv 1))) (pv 2))))) rfl))))),(sM zs (sM zs (sM (Gx zs (jb zs (by decide) hI hL (Or.inl ⟨rfl,rfl⟩) (cS kM bZ bZ))) zs)))⟩
abbrev R' (c:ar):Prop:=cy c 5 "_law_benches" ["_law_script","_law_first"] (dD c G4)
abbrev IZ:Stmt:=top 54
noncomputable abbrev Sa:List Str:=["_law_script","_law_first","_law_works","_law_many"]
def zni {c:ar}(T:bc c)(d:De c.K "_law_benches" IZ)(g0:vq c)(g9:IT c)(I0:R9 c):R' c:=hD T.xg d fun F=>iB Sa F fun hr hu nd=>⟨_,(a_ (pS 2 nd (bq g9 hr bL (aU (wH wL (pv 0) (sb aT) (sb aT))))) (a_ (pS 3 nd (bC fQ aT (bC gC (pv 1) aT))) (pR (ic (cq (yz I0 (hr.mono (by decide)) (by rfl) uF (bS (pv 2) (pv 3))) (bS (ic (bS (pv 2) (pv 3))) (ig rfl (iF rfl T.gj (aU (pB dq T.c3 az (aU (pv 2))))) (jq (cb IZ) Sa ["_law_many","_law_script","_law_k"] [3,0] 1 (fun nd=>⟨(pN 2 nd),(bC gC (bq g0 hr bL (bS (pv 1) (bC fQ aT (pv 2)))) (pv 0))⟩))))))))),zs⟩
abbrev Sb (c:ar):Prop:=vp c 3 "refuse_too_great" ["sizes","room"] (cI c A')
abbrev Sd:Stmt:=top 18
def zi2 {c:ar}(T:bc c)(d:De c.K "refuse_too_great" Sd)(kG:RP c):Sb c:=hD T.xg d fun F=>sR ["sizes","room","number","size"] F fun hr hu nd=>⟨_,(cR (rj eP rfl (x8 rfl T.xP (aU (pv 0))) (oZ rfl (fu (pN 2 nd) (fu (pN 3 nd) kT))) (cR (fg (pq o5 (pv 3) (pv 1)) (cR (Nv rfl rfl (by rfl) T.qbo T.qbs dJ (by decide+kernel) dJ Nt kG (hr.mono (by decide)) T.qbt (aU (pv 2)))) ft)))),(vN (Fg (yG cf)) (wV (pw jm (pw jm wU))) (mU (gR (cS tR bZ bZ)) (Nw (c0:=5) (by decide) (fun k=>(zxj k).symm) zvf T.qb4 T.RM (yG cf)) pz))⟩
abbrev Se (c:ar):Prop:=tH c 4 "BinQuestion" c.ad.a8 ["self","sizes","room"] (q_ c 9 G7)
abbrev I_:Stmt:=hG (top 38) 0
abbrev Sf:List Str:=["self","sizes","room"]
def zgz {c:ar}(T:bc c)(d:Dm c.K c.ad.a8 "__init__" "BinQuestion.__init__" I_)(za:IU c)(Ja:Sb c):Se c:=hC T.qb7 T.qau d fun F=>sS Sf F fun hr hu nd=>⟨_,(a_ (vD (yF Ja hr yb (bS (pv 1) (pv 2)))) (a_ (pa (pv 0) (pv 2) rfl) (a_ (pa (pv 0) (bq za hr bL (aU (pv 1))) rfl) (cR (pa (pv 0) (ig rfl (ia (f_ (pv 0) rfl)) (jq (cb I_) Sf ["sizes","number"] [1] 1 (fun nd=>⟨(pN 1 nd),(pI (pv 0) (pv 1))⟩))) rfl))))),(sM zs (sM zs (sM zs (Gx zs (jb zs (by decide) hI hL (Or.inl ⟨rfl,rfl⟩) (cS kM bZ bZ))))))⟩
abbrev Sh (c:ar):Prop:=cy c 6 "_law_bins" ["_law_script","_law_first"] (dD c G8)
abbrev Jb:Stmt:=top 57
noncomputable abbrev Si:List Str:=["_law_script","_law_first","_law_sizes_here","_law_most","_law_room","_law_sums","_law_rival","_law_k","_law_size","_law_spot_here"]
def zrz {c:ar}(T:bc c)(d:De c.K "_law_bins" Jb)(g0:vq c)(g9:IT c)(Jc:Se c):Sh c:=hD T.xg d fun F=>iB Si F fun hr hu nd=>⟨_,(a_ (pS 2 nd (bq g9 hr bL (aU (wH wL (pv 0) (sb aT) (sb aT))))) (a_ (pS 3 nd (FT rfl (by rfl) T.vo (aU (pv 2)) aT)) (a_ (pS 4 nd (pB (Eu rfl) T.BE boot_min (bS (bC vE aT aT) (bC fQ (pv 3) (pI (ic (cq aT (cq (pv 3) (bS (bC pj (pv 3) aT) (bC gC (pv 1) aT))))) (bC gC (bC pj (pv 1) aT) aT)))))) (a_ (sQ 5 nd (iF rfl T.gj (aU (bC si aT (pB dq T.c3 az (aU (pv 2)))))) (jq (cb Jb) Si ["_law_k"] [] 1 (fun nd=>⟨(pN 0 nd),aT⟩))) (a_ (pS 6 nd (ic dW)) (a_ (pF (x8 rfl T.xP (aU (pv 2))) (oZ rfl (fu (pN 7 nd) (fu (pN 8 nd) kT))) (a_ (pS 9 nd (bC gC (bq g0 hr bL (bS (pv 0) (bC fQ aT (pv 7)))) (pB dq T.c3 az (aU (pv 2))))) (a_ (BO jW (pq o5 (bC fQ (pI (pv 5) (pv 9)) (pv 8)) (pv 4)) (cR (pS 9 nd (bC fQ (pv 9) aT)))) (a_ (rh (bC fQ (pI (pv 5) (pv 9)) (pv 8)) (zP (pv 5) (pv 9) wK)) (cR (v7 (pv 6) (pv 9))))))) (pR (ic (cq (yz Jc (hr.mono (by decide)) (by rfl) uF (bS (pv 2) (pv 4))) (bS (ic (bS (pv 2) (pv 4))) (pv 6))))))))))),zs⟩
abbrev Sj (c:ar):Prop:=IH c 1 "SackQuestion" c.ad.a9 ["self","room","things"] (q_ c 10 G_)
abbrev Sk:Stmt:=hG (top 39) 0
def zgj {c:ar}(T:bc c)(d:Dm c.K c.ad.a9 "__init__" "SackQuestion.__init__" Sk):Sj c:=hC T.qb8 T.qav d fun F=>ZN ["self","room","things"] F fun hr hu nd=>⟨_,(a_ (pa (pv 0) (pv 1) rfl) (cR (pa (pv 0) (nG xZ (by rfl) T.qF dM (aU (pv 2))) rfl))),zs⟩
abbrev Sm (c:ar):Prop:=cy c 3 "_law_sack" ["_law_script","_law_first"] (dD c G')
abbrev So:Stmt:=top 59
def zqN {c:ar}(T:bc c)(d:De c.K "_law_sack" So)(g0:vq c)(g1:BG c)(g2:D1 c)(Jd:Sj c):Sm c:=hD T.xg d fun F=>iB ["_law_script","_law_first","_law_things","_law_k","_law_cell","_law_room","_law_left","_law_rival"] F fun hr hu nd=>⟨_,(a_ (pS 2 nd (ic dW)) (a_ (pF (x8 rfl T.xP (aU (wH wL (pv 0) (sb aT) (sb aT)))) (oZ rfl (fu (pN 3 nd) (fu (pN 4 nd) kT))) (cR (v7 (pv 2) (vG (bS (bq g2 hr bL (bS (pv 4) (bC pj (bq g1 hr bL (bS (pv 4) (bC fQ (pv 3) aT))) aT))) (bC fQ aT (bC gC (bC pj (bq g1 hr bL (bS (pv 4) (pv 3))) aT) aT))))))) (a_ (pS 5 nd (bC gC (pv 1) aT)) (a_ (pS 6 nd (pv 5)) (a_ (pS 7 nd (ic dW)) (a_ (pF (iF rfl T.gj (aU (pB dq T.c3 az (aU (pv 2))))) (pN 3 nd) (cR (fg (Ej (pq kU (bC gC (bq g0 hr bL (bS (pv 0) (bC fQ aT (pv 3)))) aT) aT) (Ei (pq Ep (pJ (pI (pv 2) (pv 3)) aT) (pv 6)))).pt (a_ (v7 (pv 7) (pv 3)) (cR (pS 6 nd (bC uv (pv 6) (pJ (pI (pv 2) (pv 3)) aT))))) ft))) (pR (ic (cq (yz Jd (hr.mono (by decide)) (by rfl) bL (bS (pv 5) (pv 2))) (bS (ic (bS (pv 5) (pv 2))) (pv 7))))))))))),zs⟩
abbrev Sq (c:ar):Prop:=cy c 2 "_law_spot" ["_law_cell","_law_k"] (cI c CT)
abbrev Sr:Stmt:=top 48
def zq9 {c:ar}(T:bc c)(d:De c.K "_law_spot" Sr)(g1:BG c):Sq c:=hD T.xg d fun F=>hO ["_law_cell","_law_k"] F fun hr hu nd=>⟨_,(pR (bC fQ (bC si (bq g1 hr bL (bS (pv 0) (pv 1))) aT) (bC si aT (pv 1)))),zs⟩
abbrev Ss (c:ar):Prop:=cy c 1 "_law_apart" ["_law_spots","_law_one","_law_other","_law_top"] (cI c yI)
abbrev Su:Stmt:=top 49
def zpY {c:ar}(T:bc c)(d:De c.K "_law_apart" Su):Ss c:=hD T.xg d fun F=>hO ["_law_spots","_law_one","_law_other","_law_top"] F fun hr hu nd=>⟨_,(pR (pB Et T.ID boot_abs (aU (bC uv (bC gC (pI (pv 0) (pv 1)) (pv 3)) (bC gC (pI (pv 0) (pv 2)) (pv 3)))))),zs⟩
abbrev Je (c:ar):Prop:=cy c 3 "_law_lengths" ["_law_script","_law_many"] (dD c CV)
abbrev BH:Stmt:=top 50
noncomputable abbrev Jf:List Str:=["_law_script","_law_many","_law_first","_law_top","_law_cells","_law_spots","_law_lengths_here","_law_one","_law_other","_law_far","_law_number_here"]
def znb {c:ar}(T:bc c)(d:De c.K "_law_lengths" BH)(g0:vq c)(Jg:Sq c)(D8:Ss c):Je c:=hD T.xg d fun F=>iB Jf F fun hr hu nd=>⟨_,(a_ (pS 2 nd (bC gC (bq g0 hr bL (bS (pv 0) aT)) (bC vE aT aT))) (a_ (pS 3 nd (pI (ic (cq aT (bS aT (bC si aT (bC vE aT aT))))) (bC gC (bC pj (pv 2) aT) aT))) (a_ (pS 4 nd (bC Cv (wH wL (pv 0) (sb aT) EA) (ic (aU (pv 2))))) (a_ (sQ 5 nd (iF rfl T.gj (aU (bC si aT (pv 1)))) (jq (cb BH) Jf ["_law_cells","_law_k"] [4] 1 (fun nd=>⟨(pN 1 nd),(bq Jg hr bL (bS (pI (pv 0) (bC gC (pv 1) (pB dq (by exact T.c3) az (aU (pv 0))))) (pv 1)))⟩))) (a_ (sQ 6 nd (iF rfl T.gj (aU (pv 1))) (jq (cb BH) Jf ["_law_many","_law_one"] [1] 1 (fun nd=>⟨(pN 1 nd),(ig rfl (iF (by rfl) (by exact T.gj) (aU (pv 0))) (jq (MN _ (cb BH)) ["_law_many","_law_one"] ["_law_other"] [] 1 (fun nd=>⟨(pN 0 nd),aT⟩)))⟩))) (a_ (pF (iF rfl T.gj (aU (pv 1))) (pN 7 nd) (cR (pF (iF rfl T.gj (aU (pv 7))) (pN 8 nd) (a_ (pS 9 nd (bq D8 hr bL (cq (pv 5) (cq (pv 7) (bS (pv 8) (pv 3)))))) (a_ (pS 9 nd (bC fQ (pv 9) (bq D8 hr bL (cq (pv 5) (cq (bC fQ (pv 1) (pv 7)) (bS (bC fQ (pv 1) (pv 8)) (pv 3))))))) (a_ (fg (pq kU (bC gC (pv 2) aT) aT) (a_ (pS 10 nd (bC fQ (pI (pv 5) (pv 8)) (bC si aT (pI (pv 5) (bC fQ (pv 1) (pv 7)))))) (cR (pS 9 nd (bC fQ (pv 3) (bC gC (pv 10) (bC fQ (pv 3) aT)))))) ft) (a_ (rh (pv 9) (zP (pI (pv 6) (pv 7)) (pv 8) wK)) (cR (rh (pv 9) (zP (pI (pv 6) (pv 8)) (pv 7) wK)))))))))) (pR (pv 6)))))))),(d_ zs (d_ zs (d_ zs (d_ (pA (jb zs (by decide) hI hL (Or.inl ⟨rfl,rfl⟩) (uH (GG (cS kM bZ (cS Av bZ (jw pC (fc bZ)).r).r) cf))).e jm) (d_ (Nf (Ga zs (by decide) hI hL (jb (Cd wY (yG cf)).c (by decide) hI hL (Or.inl ⟨rfl,rfl⟩) dc))) zs)))))⟩
abbrev Jh (c:ar):Prop:=vp c 1 "look_at" ["lengths"] (cI c CW)
abbrev Sv:Stmt:=top 23
def ztw {c:ar}(T:bc c)(d:De c.K "look_at" Sv):Jh c:=hD T.xg d fun F=>sR ["lengths","count","a","b","c"] F fun hr hu nd=>⟨_,(a_ (pS 1 nd (pB dq T.c3 az (aU (pv 0)))) (a_ (rj eP rfl (iF rfl T.gj (aU (pv 1))) (pN 2 nd) (cR (fg (pq tM (pI (pI (pv 0) (pv 2)) (pv 2)) aT) (cR (Al rfl (by rfl) T.IF T.IG dJ (by decide+kernel) dJ Ao (aU zB))) ft))) (a_ (rj eP rfl (iF rfl T.gj (aU (pv 1))) (pN 2 nd) (cR (rj eP rfl (iF rfl T.gj (aU (pv 2))) (pN 3 nd) (cR (fg (pq tM (pI (pI (pv 0) (pv 2)) (pv 3)) (pI (pI (pv 0) (pv 3)) (pv 2))) (cR (Al rfl (by rfl) T.IF T.IG dJ (by decide+kernel) dJ Ao (aU zB))) ft))))) (cR (rj eP rfl (iF rfl T.gj (aU (pv 1))) (pN 2 nd) (cR (rj eP rfl (iF rfl T.gj (aU (pv 1))) (pN 3 nd) (cR (rj eP rfl (iF rfl T.gj (aU (pv 1))) (pN 4 nd) (cR (fg (pq r6 (bC fQ (pI (pI (pv 0) (pv 2)) (pv 3)) (pI (pI (pv 0) (pv 3)) (pv 4))) (pI (pI (pv 0) (pv 2)) (pv 4))) (cR (Al rfl (by rfl) T.IF T.IG dJ (by decide+kernel) dJ Ao (aU zB))) ft))))))))))),zs⟩
abbrev Ji (c:ar):Prop:=cy c 1 "copied_lengths" ["lengths"] (AZ (mQ c) (kN (mQ c)) yJ)
abbrev D_:Stmt:=top 30
def zkN:bY ["lengths"] ["lengths"] (cb D_):=kB
def zkh {f:Addr}{fd:FuncData}(F:jJ K "copied_lengths" "copied_lengths" D_ f fd)(T:Txt K mg ad):cA P w K mg base mw 1 f fd ["lengths"] (AZ (KX K ad) (kN (KX K ad)) yJ):=by
 refine F.ok zkN (fun vs H Q E h=>Zs h) (fun rk A outer s H vs Q E hr h=>?_)
 have hu:=uB hr
 exact⟨_,(cR (um (ig rfl (ia (pv 0)) (EZ (cb D_) ["lengths"] ["row"] [] 1 rfl rfl rfl (by decide+kernel) (by decide+kernel) (by decide+kernel) rfl (by decide+kernel) (fun cl C s H fp pins=>(uq (i:=0) (show List.Nodup (["row"]:List Str)by decide+kernel) rfl (Or.inl rfl))) (fun cl C s H fp pins=>(nG xZ (by rfl) T.qF dM (cq (pv 0) dW))) (Or.inl ⟨rfl,rfl⟩))))),Zt (K:=(KX K ad)) (XO:=(kN (KX K ad))) (E:=E) (np:=1) (m:=O3)
 (Ga (Ar bZ) (by decide) hI hL (FF Cr (wR bZ yd))) rfl h⟩
abbrev Sw (c:ar):Prop:=tH c 2 "RoundQuestion" c.ad.jM ["self","lengths"] (q_ c 11 Hf)
abbrev Sx:Stmt:=hG (top 40) 0
def zfT {c:ar}(T:bc c)(d:Dm c.K c.ad.jM "__init__" "RoundQuestion.__init__" Sx)(zd:Jh c)(ze:Ji c):Sw c:=hC T.qb9 T.qaw d fun F=>sS ["self","lengths"] F fun hr hu nd=>⟨_,(a_ (vD (yF zd hr yb (aU (pv 1)))) (cR (pa (pv 0) (bq ze hr bL (aU (pv 1))) rfl))),zs⟩
abbrev Sy (c:ar):Prop:=cy c 4 "_law_round" ["_law_script","_law_first"] (dD c Hh)
abbrev Sz:Stmt:=top 61
def zql {c:ar}(T:bc c)(d:De c.K "_law_round" Sz)(g0:vq c)(zf:Je c)(Jj:Sw c):Sy c:=hD T.xg d fun F=>iB ["_law_script","_law_first","_law_lengths_here","_law_left","_law_rival"] F fun hr hu nd=>⟨_,(a_ (pS 2 nd (bq zf hr bL (bS (pv 0) (bC fQ aT (bC gC (pv 1) aT))))) (a_ (pS 3 nd (nG (FV rfl) (by rfl) T.qF dM (aU (CA (by rfl) T.gj (aU (pB dq T.c3 az (aU (pv 2)))))))) (a_ (pS 4 nd (ic dW)) (a_ (BO jW (pq o5 (pB dq T.c3 az (aU (pv 3))) aT) (cR (v7 (pv 4) (z_ iX PySem.F.slot_list_pop PySem.F.type_list_pop Vh (pv 3) (aU (bC gC (bq g0 hr bL (bS (pv 0) (bC fQ aT (pB dq T.c3 az (aU (pv 3)))))) (pB dq T.c3 az (aU (pv 3))))))))) (pR (ic (cq (yz Jj (hr.mono (by decide)) (by rfl) uF (aU (pv 2))) (bS (ic (aU (pv 2))) (pv 4))))))))),zs⟩
abbrev SD (c:ar):Prop:=tH c 2 "PlaceQuestion" c.ad.jF ["self","lengths","many"] (q_ c 12 Hj)
abbrev SF:Stmt:=hG (top 41) 0
def zfP {c:ar}(T:bc c)(d:Dm c.K c.ad.jF "__init__" "PlaceQuestion.__init__" SF)(zd:Jh c)(ze:Ji c):SD c:=hC T.qca T.qax d fun F=>sS ["self","lengths","many"] F fun hr hu nd=>⟨_,(a_ (vD (yF zd hr yb (aU (pv 1)))) (a_ (pa (pv 0) (bq ze hr bL (aU (pv 1))) rfl) (cR (pa (pv 0) (pv 2) rfl)))),zs⟩
abbrev SH (c:ar):Prop:=cy c 4 "_law_places" ["_law_script","_law_first"] (dD c Hk)
abbrev Jk:Stmt:=top 63
noncomputable abbrev SJ:List Str:=["_law_script","_law_first","_law_lengths_here","_law_many","_law_rival"]
def zn9 {c:ar}(T:bc c)(d:De c.K "_law_places" Jk)(g0:vq c)(zf:Je c)(Jl:SD c):SH c:=hD T.xg d fun F=>iB SJ F fun hr hu nd=>⟨_,(a_ (pS 2 nd (bq zf hr bL (bS (pv 0) (bC fQ aT (bC gC (pv 1) aT))))) (a_ (pS 3 nd (bC fQ aT (bC gC (bC pj (pv 1) aT) (pB dq T.c3 az (aU (pv 2)))))) (a_ (sQ 4 nd (iF rfl T.gj (aU (pv 3))) (jq (cb Jk) SJ ["_law_script","_law_lengths_here","_law_k"] [0,2] 1 (fun nd=>⟨(pN 2 nd),(bC gC (bq g0 hr bL (bS (pv 0) (bC fQ aT (pv 2)))) (pB dq (by exact T.c3) az (aU (pv 1))))⟩))) (pR (ic (cq (yz Jl (hr.mono (by decide)) (by rfl) uF (bS (pv 2) (pv 3))) (bS (ic (bS (pv 2) (pv 3))) (pv 4)))))))),zs⟩
abbrev SK (c:ar):Prop:=cy c 7 "_law_made" ["_law_script","_law_kind","_law_first"] (dD c CZ)
abbrev SM:Stmt:=top 65
def zqK {c:ar}(T:bc c)(d:De c.K "_law_made" SM)(g8:R3 c)(Jm:R' c)(Jn:Sh c)(Jo:Sm c)(Jp:Sy c)(Jq:SH c):SK c:=hD T.xg d fun F=>iB ["_law_script","_law_kind","_law_first"] F fun hr hu nd=>⟨_,(a_ (fg (pq kU (pv 1) aT) (pR (bq g8 hr bL (bS (pv 0) (pv 2)))) ft) (a_ (fg (pq kU (pv 1) aT) (pR (bq Jm hr bL (bS (pv 0) (pv 2)))) ft) (a_ (fg (pq kU (pv 1) aT) (pR (bq Jn hr bL (bS (pv 0) (pv 2)))) ft) (a_ (fg (pq kU (pv 1) aT) (pR (bq Jo hr bL (bS (pv 0) (pv 2)))) ft) (a_ (fg (pq kU (pv 1) aT) (pR (bq Jp hr bL (bS (pv 0) (pv 2)))) ft) (pR (bq Jq hr bL (bS (pv 0) (pv 2))))))))),zs⟩
abbrev SN (c:ar):Prop:=cy c 1 "heaviest" ["works","many","put"] (cI c Hl)
abbrev Jr:Stmt:=top 16
noncomputable abbrev SQ:List Str:=["works","many","put","sums","work","bench"]
def zrO {c:ar}(T:bc c)(d:De c.K "heaviest" Jr):SN c:=hD T.xg d fun F=>hO SQ F fun hr hu nd=>⟨_,(a_ (sQ 3 nd (iF rfl T.gj (aU (pv 1))) (jq (cb Jr) SQ ["bench"] [] 1 (fun nd=>⟨(pN 0 nd),aT⟩))) (a_ (pF (Gy rfl T.D0 (bS (pv 0) (pv 2))) (oZ rfl (fu (pN 4 nd) (fu (pN 5 nd) kT))) (cR (KQ (pv 3) (pv 5) Nb (pv 4) KR wK))) (pR (pB (CB rfl) T.vo boot_max (aU (pv 3)))))),zs⟩
abbrev Js (c:ar):Prop:=eI c 2 "low" c.ad.a7 ["self","case"] (cI c Ba)
abbrev SV:Stmt:=hG (top 37) 3
def ziz {c:ar}(T:bc c)(d:Dm c.K c.ad.a7 "low" "BenchQuestion.low" SV)(Jt:SN c):Js c:=hM T.rK d fun F=>hO ["self","case","so_far"] F fun hr hu nd=>⟨_,(a_ (pS 2 nd (wH wL (f_ (pv 0) rfl) EA (sb (pB dq T.c3 az (aU (pv 1)))))) (pR (pB (K9 rfl) T.vo boot_max (bS (f_ (pv 0) rfl) (bq Jt hr bL (cq (pv 2) (bS (f_ (pv 0) rfl) (pv 1)))))))),zs⟩
abbrev Ju (c:ar):Prop:=eI c 1 "free" c.ad.a8 ["self","case"] (dD c C0)
abbrev Jv:Stmt:=hG (top 38) 1
noncomputable abbrev SW:List Str:=["self","case","left","size","chosen"]
def zjn {c:ar}(T:bc c)(d:Dm c.K c.ad.a8 "free" "BinQuestion.free" Jv):Ju c:=hM T.tG d fun F=>iB SW F fun hr hu nd=>⟨_,(a_ (sQ 2 nd (iF rfl T.gj (aU (pB AM T.c3 az (aU (nG (NY rfl) (by rfl) T.BF boot_set (aU (pv 1))))))) (jq (cb Jv) SW ["self","number"] [0] 1 (fun nd=>⟨(pN 1 nd),(f_ (pv 0) rfl)⟩))) (a_ (pF (Gy rfl T.D0 (bS (f_ (pv 0) rfl) (pv 1))) (oZ rfl (fu (pN 3 nd) (fu (pN 4 nd) kT))) (cR (KQ (pv 2) (pv 4) Nb (pv 3) UD wK))) (pR (pv 2)))),(d_ (yh (jb zs (by decide) hI hL (Or.inl ⟨rfl,rfl⟩) (AR (RN T) bZ))) zs)⟩
abbrev Jw (c:ar):Prop:=II c 3 "low" c.ad.a8 ["self","case"] (cI c Bb)
abbrev SX:Stmt:=hG (top 38) 4
def zjv {c:ar}(T:bc c)(d:Dm c.K c.ad.a8 "low" "BinQuestion.low" SX)(zb:IV c)(zc:IX c)(zg:Ju c):Jw c:=hM T.tG d fun F=>sR ["self","case","left","beyond"] F fun hr hu nd=>⟨_,(a_ (pS 2 nd (pM zg hr bL (pv 0) (aU (pv 1)))) (a_ (pS 3 nd (bC uv (pB (su rfl) T.tE eU (aU (wH wL (f_ (pv 0) rfl) (sb (pB dq T.c3 az (aU (pv 1)))) EA))) (pB (su rfl) T.tE eU (aU (pv 2))))) (pR (bC fQ (pB dq T.c3 az (aU (pv 2))) (pB (K9 rfl) T.vo boot_max (bS aT (bq zc hr bL (aU (yF zb hr yb (bS (pv 3) (f_ (pv 0) rfl))))))))))),zs⟩
abbrev xQ (c:ar):Prop:=cy c 1 "chosen_by" ["case","choice"] (dD c v9)
abbrev Jx:Stmt:=top 32
abbrev SY:List Str:=["case","choice"]
def zpx {c:ar}(T:bc c)(d:De c.K "chosen_by" Jx):xQ c:=hD T.xg d fun F=>iB SY F fun hr hu nd=>⟨_,(pR (ig rfl (YV rfl T.xP (aU (pv 0))) (pO (cb Jx) SY ["choice","number","made"] [1] 2 (fun nd=>⟨(oZ rfl (fu (pN 1 nd) (fu (pN 2 nd) kT))),(pv 1),(pq kU (pv 2) (pv 0))⟩)))),(As (jb zs (by decide) (wV (pw hI (pw hI wU))) (Cc (wW hL (wW hL Cb))) (Or.inr ⟨_,_,rfl,rfl,(gR (cS Ci bZ bZ))⟩) cf))⟩
abbrev Jy (c:ar):Prop:=eI c 2 "not_covered" c.ad.a6 ["self","case"] (dD c C1)
abbrev Jz:Stmt:=hG (top 36) 1
noncomputable abbrev S0:List Str:=["self","case","held","number","thing"]
def zeO {c:ar}(T:bc c)(d:Dm c.K c.ad.a6 "not_covered" "CoverQuestion.not_covered" Jz)(m9:xQ c):Jy c:=hM T.tF d fun F=>iB S0 F fun hr hu nd=>⟨_,(a_ (pS 2 nd Ad) (a_ (pF (ia (bq m9 hr bL (bS (pv 1) aT))) (pN 3 nd) (cR (pF (ia (pJ (pI (f_ (pv 0) rfl) (pv 3)) aT)) (pN 4 nd) (cR (Ac hu (pv 2) (pv 4) vz rfl))))) (pR (ig rfl (iF rfl T.gj (aU (f_ (pv 0) rfl))) (pO (cb Jz) S0 ["held","thing"] [2] 1 (fun nd=>⟨(pN 1 nd),(pv 1),(zD (Ab hu (pv 1) (pv 0)))⟩)))))),zs⟩
abbrev S1 (c:ar):Prop:=cy c 1 "price_of" ["sets","chosen"] (cI c Hn)
abbrev JA:Stmt:=top 21
abbrev S2:List Str:=["sets","chosen"]
def zrb {c:ar}(T:bc c)(d:De c.K "price_of" JA):S1 c:=hD T.xg d fun F=>hO S2 F fun hr hu nd=>⟨_,(pR (pB (su rfl) T.tE eU (aU (ig rfl (ia (pv 1)) (jq (cb JA) S2 ["sets","number"] [0] 1 (fun nd=>⟨(pN 1 nd),(pJ (pI (pv 0) (pv 1)) aT)⟩)))))),(zev (jw tX (fc (jb zs (by decide) hI hL (Or.inl ⟨rfl,rfl⟩) (cS tU (cS kM bZ bZ).r sI)).e.r)))⟩
abbrev JB (c:ar):Prop:=eI c 3 "low" c.ad.a6 ["self","case"] (cI c Bc)
abbrev JC:Stmt:=hG (top 36) 4
noncomputable abbrev S3:List Str:=["self","case","still","besides"]
def ziu {c:ar}(T:bc c)(d:Dm c.K c.ad.a6 "low" "CoverQuestion.low" JC)(m9:xQ c)(zh:Jy c)(JD:S1 c):JB c:=hM T.tF d fun F=>hO S3 F fun hr hu nd=>⟨_,(a_ (pS 2 nd (pI (f_ (pv 0) rfl) (pB dq T.c3 az (aU (pv 1))))) (a_ (pS 3 nd (FT rfl (by rfl) T.vo (aU (ig rfl (ia (pM zh hr bL (pv 0) (aU (pv 1)))) (jq (cb JC) S3 ["still","thing"] [2] 1 (fun nd=>⟨(pN 1 nd),(LK (by exact hu) (pv 0) (pv 1) aT MV)⟩)))) aT)) (pR (bC fQ (bq JD hr bL (bS (f_ (pv 0) rfl) (bq m9 hr bL (bS (pv 1) aT)))) (pv 3))))),zs⟩
abbrev JE (c:ar):Prop:=cy c 1 "behind_last" ["case"] (cI c xH)
abbrev S4:Stmt:=top 33
def zm0 {c:ar}(T:bc c)(d:De c.K "behind_last" S4):JE c:=hD T.xg d fun F=>hO ["case"] F fun hr hu nd=>⟨_,(pR (UC (pq o5 (pB dq T.c3 az (aU (pv 0))) aT) (bC fQ (pJ (pv 0) (xV xW aT)) aT) aT)),zs⟩
abbrev S5 (c:ar):Prop:=cy c 1 "nearest" ["lengths","place","some"] (cI c Hq)
abbrev JF:Stmt:=top 27
abbrev S6:List Str:=["lengths","place","some"]
def zuA {c:ar}(T:bc c)(d:De c.K "nearest" JF):S5 c:=hD T.xg d fun F=>hO S6 F fun hr hu nd=>⟨_,(pR (pB (M3 rfl) T.BE boot_min (aU (ig rfl (ia (pv 2)) (jq (cb JF) S6 ["lengths","place","other"] [0,1] 1 (fun nd=>⟨(pN 2 nd),(pI (pI (pv 0) (pv 1)) (pv 2))⟩)))))),(zev (jw AJ (fc (jb zs (by decide) hI hL (Or.inl ⟨rfl,rfl⟩) (cS kM (cS kM bZ bZ).r bZ)).e.r)))⟩
abbrev S7 (c:ar):Prop:=cy c 2 "reach" ["lengths","some"] (cI c C2)
abbrev JG:Stmt:=top 28
abbrev S8:List Str:=["lengths","some"]
def zx0 {c:ar}(T:bc c)(d:De c.K "reach" JG)(JH:S5 c):S7 c:=hD T.xg d fun F=>hO S8 F fun hr hu nd=>⟨_,(pR (pB (CB rfl) T.vo boot_max (aU (ig rfl (iF rfl T.gj (aU (pB dq T.c3 az (aU (pv 0))))) (jq (cb JG) S8 ["lengths","some","place"] [0,1] 1 (fun nd=>⟨(pN 2 nd),(bq JH hr bL (cq (pv 0) (bS (pv 2) (pv 1))))⟩)))))),zs⟩
abbrev JI (c:ar):Prop:=eI c 3 "low" c.ad.jF ["self","case"] (cI c Be)
abbrev S9:Stmt:=hG (top 41) 3
def zim {c:ar}(T:bc c)(d:Dm c.K c.ad.jF "low" "PlaceQuestion.low" S9)(zi:JE c)(JJ:S7 c):JI c:=hM T.wk d fun F=>hO ["self","case","some"] F fun hr hu nd=>⟨_,(a_ (pS 2 nd (nG xZ (by rfl) T.qF dM (aU (pv 1)))) (a_ (fg (pq r6 (pB dq T.c3 az (aU (pv 1))) (f_ (pv 0) rfl)) (cR (KO (i:=2) nd rfl zab (nG (Nl rfl) (by rfl) T.qF dM (aU (Nj (by rfl) T.gj (bS (bq zi hr bL (aU (pv 1))) (pB dq T.c3 az (aU (f_ (pv 0) rfl))))))) Zz)) ft) (pR (bq JJ hr bL (bS (f_ (pv 0) rfl) (pv 2)))))),zs⟩
abbrev JK (c:ar):Prop:=eI c 1 "answer" c.ad.jM ["self","case"] (dD c Bf)
abbrev S_:Stmt:=hG (top 40) 4
def zgq {c:ar}(T:bc c)(d:Dm c.K c.ad.jM "answer" "RoundQuestion.answer" S_):JK c:=hM T.y' d fun F=>iB ["self","case"] F fun hr hu nd=>⟨_,(pR (bC Cv (ic (aU aT)) (nG xZ (by rfl) T.qF dM (aU (pv 1))))),zs⟩
abbrev S' (c:ar):Prop:=cy c 1 "way_length" ["lengths","way"] (cI c C3)
abbrev JL:Stmt:=top 24
abbrev Ta:List Str:=["lengths","way"]
def zoZ {c:ar}(T:bc c)(d:De c.K "way_length" JL):S' c:=hD T.xg d fun F=>hO Ta F fun hr hu nd=>⟨_,(pR (pB (su rfl) T.tE eU (aU (ig rfl (iF rfl T.gj (aU (bC uv (pB dq T.c3 az (aU (pv 1))) aT))) (jq (cb JL) Ta ["lengths","way","k"] [0,1] 1 (fun nd=>⟨(pN 2 nd),(pI (pI (pv 0) (pI (pv 1) (pv 2))) (pI (pv 1) (bC fQ (pv 2) aT)))⟩)))))),(zev (jw tX (fc (jb zs (by decide) hI hL (Or.inl ⟨rfl,rfl⟩) (cS kM (cS kM bZ (cS kM bZ bZ).r).r (cS kM bZ (cS Fp bZ sI).r).r)).e.r)))⟩
abbrev Tb (c:ar):Prop:=cy c 2 "round_length" ["lengths","way"] (cI c Hr)
abbrev Tc:Stmt:=top 25
def zlH {c:ar}(T:bc c)(d:De c.K "round_length" Tc)(JM:S' c):Tb c:=hD T.xg d fun F=>hO ["lengths","way"] F fun hr hu nd=>⟨_,(a_ (fg (pq kU (pB dq T.c3 az (aU (pv 1))) aT) (pR aT) ft) (pR (bC fQ (bq JM hr bL (bS (pv 0) (pv 1))) (pI (pI (pv 0) (pI (pv 1) (xV xW aT))) (pI (pv 1) aT))))),zs⟩
abbrev JN (c:ar):Prop:=eI c 3 "low" c.ad.jM ["self","case"] (cI c Bg)
abbrev Td:Stmt:=hG (top 40) 3
def ziB {c:ar}(T:bc c)(d:Dm c.K c.ad.jM "low" "RoundQuestion.low" Td)(zj:JK c)(JO:Tb c):JN c:=hM T.y' d fun F=>hO ["self","case"] F fun hr hu nd=>⟨_,(pR (bq JO hr bL (bS (f_ (pv 0) rfl) (pM zj hr bL (pv 0) (aU (pv 1)))))),zs⟩
abbrev JP (c:ar):Prop:=eI c 2 "low" c.ad.a9 ["self","case"] (cI c Bh)
abbrev JQ:Stmt:=hG (top 39) 3
abbrev Te:List Str:=["self","case"]
def zjl {c:ar}(T:bc c)(d:Dm c.K c.ad.a9 "low" "SackQuestion.low" JQ)(m9:xQ c):JP c:=hM T.wj d fun F=>hO Te F fun hr hu nd=>⟨_,(pR (pB (su rfl) T.tE eU (aU (ig rfl (ia (bq m9 hr bL (bS (pv 1) aT))) (jq (cb JQ) Te ["self","number"] [0] 1 (fun nd=>⟨(pN 1 nd),(pJ (pI (f_ (pv 0) rfl) (pv 1)) aT)⟩)))))),(zev (jw tX (fc (jb zs (by decide) hI hL (Or.inl ⟨rfl,rfl⟩) (cS tU (cS kM (AR (IJ T) bZ).r bZ).r sI)).e.r)))⟩
abbrev Tf (c:ar):Prop:=eI c 1 "steps" c.ad.a7 ["self"] (cI c C4)
abbrev Tg:Stmt:=hG (top 37) 1
def zha {c:ar}(T:bc c)(d:Dm c.K c.ad.a7 "steps" "BenchQuestion.steps" Tg):Tf c:=hM T.rK d fun F=>hO ["self"] F fun hr hu nd=>⟨_,(pR (pB dq T.c3 az (aU (f_ (pv 0) rfl)))),zs⟩
abbrev Th (c:ar):Prop:=eI c 1 "steps" c.ad.a8 ["self"] (cI c C5)
abbrev Ti:Stmt:=hG (top 38) 2
def ziy {c:ar}(T:bc c)(d:Dm c.K c.ad.a8 "steps" "BinQuestion.steps" Ti):Th c:=hM T.tG d fun F=>hO ["self"] F fun hr hu nd=>⟨_,(pR (pB dq T.c3 az (aU (f_ (pv 0) rfl)))),zs⟩
abbrev Tj (c:ar):Prop:=eI c 1 "steps" c.ad.a6 ["self"] (cI c C6)
abbrev Tn:Stmt:=hG (top 36) 2
def zg3 {c:ar}(T:bc c)(d:Dm c.K c.ad.a6 "steps" "CoverQuestion.steps" Tn):Tj c:=hM T.tF d fun F=>hO ["self"] F fun hr hu nd=>⟨_,(pR (pB dq T.c3 az (aU (f_ (pv 0) rfl)))),zs⟩
abbrev To (c:ar):Prop:=eI c 1 "steps" c.ad.jF ["self"] (cI c C7)
abbrev Tp:Stmt:=hG (top 41) 1
def zhf {c:ar}(T:bc c)(d:Dm c.K c.ad.jF "steps" "PlaceQuestion.steps" Tp):To c:=hM T.wk d fun F=>hO ["self"] F fun hr hu nd=>⟨_,(pR (f_ (pv 0) rfl)),zs⟩
abbrev Tq (c:ar):Prop:=eI c 1 "steps" c.ad.jM ["self"] (cI c C8)
abbrev Ts:Stmt:=hG (top 40) 1
def zhh {c:ar}(T:bc c)(d:Dm c.K c.ad.jM "steps" "RoundQuestion.steps" Ts):Tq c:=hM T.y' d fun F=>hO ["self"] F fun hr hu nd=>⟨_,(pR (bC uv (pB dq T.c3 az (aU (f_ (pv 0) rfl))) aT)),zs⟩
abbrev Tt (c:ar):Prop:=eI c 1 "steps" c.ad.a9 ["self"] (cI c C9)
abbrev Tu:Stmt:=hG (top 39) 1
def zhl {c:ar}(T:bc c)(d:Dm c.K c.ad.a9 "steps" "SackQuestion.steps" Tu):Tt c:=hM T.wj d fun F=>hO ["self"] F fun hr hu nd=>⟨_,(pR (pB dq T.c3 az (aU (f_ (pv 0) rfl)))),zs⟩
abbrev Tv (c:ar):Prop:=eI c 1 "ways" c.ad.a7 ["self","case"] (dD c C_)
abbrev Tw:Stmt:=hG (top 37) 2
def zhr {c:ar}(T:bc c)(d:Dm c.K c.ad.a7 "ways" "BenchQuestion.ways" Tw):Tv c:=hM T.rK d fun F=>iB ["self","case","used"] F fun hr hu nd=>⟨_,(a_ (pS 2 nd (pB AM T.c3 az (aU (nG (NY rfl) (by rfl) T.BF boot_set (aU (pv 1)))))) (pR (nG (FV rfl) (by rfl) T.qF dM (aU (CA (by rfl) T.gj (aU (pB (Eu rfl) T.BE boot_min (bS (bC fQ (pv 2) aT) (f_ (pv 0) rfl))))))))),zs⟩
abbrev Tx (c:ar):Prop:=eI c 2 "ways" c.ad.a8 ["self","case"] (dD c C')
abbrev JR:Stmt:=hG (top 38) 3
noncomputable abbrev Tz:List Str:=["self","case","left","size"]
def ziT {c:ar}(T:bc c)(d:Dm c.K c.ad.a8 "ways" "BinQuestion.ways" JR)(zg:Ju c):Tx c:=hM T.tG d fun F=>iB Tz F fun hr hu nd=>⟨_,(a_ (pS 2 nd (pM zg hr bL (pv 0) (aU (pv 1)))) (a_ (pS 3 nd (pI (f_ (pv 0) rfl) (pB dq T.c3 az (aU (pv 1))))) (pR (bC Cv (ig rfl (x8 rfl T.xP (aU (pv 2))) (pO (cb JR) Tz ["size","number","space"] [3] 2 (fun nd=>⟨(oZ rfl (fu (pN 1 nd) (fu (pN 2 nd) kT))),(pv 1),(pq Ep (pv 0) (pv 2))⟩))) (ic (aU (pB dq T.c3 az (aU (pv 2))))))))),(d_ zs (d_ zs (As (L5 FN (jb zs (by decide) (wV (pw hI (pw hI wU))) (Cc (wW hL (wW hL Cb))) (Or.inr ⟨_,_,rfl,rfl,(gR (cS Mp bZ bZ))⟩) cf).e.r zs))))⟩
abbrev TB (c:ar):Prop:=eI c 3 "ways" c.ad.a6 ["self","case"] (dD c Dc)
abbrev TC:Stmt:=hG (top 36) 3
def zho {c:ar}(T:bc c)(d:Dm c.K c.ad.a6 "ways" "CoverQuestion.ways" TC)(zh:Jy c):TB c:=hM T.tF d fun F=>iB ["self","case","later","here","thing"] F fun hr hu nd=>⟨_,(a_ (pS 2 nd (pI (f_ (pv 0) rfl) (bC fQ (pB dq T.c3 az (aU (pv 1))) aT))) (a_ (pS 3 nd (pJ (pI (f_ (pv 0) rfl) (pB dq T.c3 az (aU (pv 1)))) aT)) (a_ (pF (ia (pM zh hr bL (pv 0) (aU (pv 1)))) (pN 4 nd) (cR (fg (Ej (o6 Lq (pv 4) (pv 3) (by with_unfolding_all rfl)) (Ei (zD (Ab hu (pv 4) (pv 2))))).pt (pR (ic (aU aT))) ft))) (pR (ic (bS aT aT)))))),zs⟩
abbrev TF (c:ar):Prop:=eI c 2 "ways" c.ad.jF ["self","case"] (dD c Dd)
abbrev TH:Stmt:=hG (top 41) 2
def zhG {c:ar}(T:bc c)(d:Dm c.K c.ad.jF "ways" "PlaceQuestion.ways" TH)(zi:JE c):TF c:=hM T.wk d fun F=>iB ["self","case","to_come"] F fun hr hu nd=>⟨_,(a_ (pS 2 nd (bC uv (f_ (pv 0) rfl) (pB dq T.c3 az (aU (pv 1))))) (pR (nG (Nl rfl) (by rfl) T.qF dM (aU (Nj (by rfl) T.gj (bS (bq zi hr bL (aU (pv 1))) (bC fQ (bC uv (pB dq T.c3 az (aU (f_ (pv 0) rfl))) (pv 2)) aT))))))),zs⟩
abbrev TJ (c:ar):Prop:=eI c 1 "ways" c.ad.jM ["self","case"] (dD c Df)
abbrev JS:Stmt:=hG (top 40) 2
abbrev TK:List Str:=["self","case"]
def zhH {c:ar}(T:bc c)(d:Dm c.K c.ad.jM "ways" "RoundQuestion.ways" JS):TJ c:=hM T.y' d fun F=>iB TK F fun hr hu nd=>⟨_,(pR (ig rfl (UH rfl T.gj (bS aT (pB dq T.c3 az (aU (f_ (pv 0) rfl))))) (pO (cb JS) TK ["case","place"] [1] 1 (fun nd=>⟨(pN 1 nd),(pv 1),(o6 Lr (pv 1) (pv 0) (by with_unfolding_all rfl))⟩)))),zs⟩
abbrev TL (c:ar):Prop:=eI c 2 "ways" c.ad.a9 ["self","case"] (dD c Dg)
abbrev JT:Stmt:=hG (top 39) 2
abbrev TM:List Str:=["self","case","taken"]
def zin {c:ar}(T:bc c)(d:Dm c.K c.ad.a9 "ways" "SackQuestion.ways" JT)(m9:xQ c):TL c:=hM T.wj d fun F=>iB TM F fun hr hu nd=>⟨_,(a_ (pS 2 nd (pB (su rfl) T.tE eU (aU (ig rfl (ia (bq m9 hr bL (bS (pv 1) aT))) (jq (cb JT) TM ["self","number"] [0] 1 (fun nd=>⟨(pN 1 nd),(pJ (pI (f_ (pv 0) rfl) (pv 1)) aT)⟩)))))) (a_ (fg (pq Ep (bC fQ (pv 2) (pJ (pI (f_ (pv 0) rfl) (pB dq T.c3 az (aU (pv 1)))) aT)) (f_ (pv 0) rfl)) (pR (ic (bS aT aT))) ft) (pR (ic (aU aT))))),(d_ (pA (jw tX (fc (jb zs (by decide) hI hL (Or.inl ⟨rfl,rfl⟩) (cS tU (cS kM (AR (IJ T) bZ).r bZ).r sI)).e.r)) jm) zs)⟩
abbrev TN (c:ar):Prop:=cy c 4 "gone_on" ["question","case"] (dD c yL)
abbrev JU:Stmt:=top 8
abbrev TQ:List Str:=["question","case"]
def zuv {c:ar}(T:bc c)(d:De c.K "gone_on" JU)(JV:Tv c)(JW:Tx c)(JX:TB c)(JY:TF c)(JZ:TJ c)(J1:TL c):TN c:=hD T.xg d fun F=>iB TQ F fun hr hu nd=>⟨_,(pR (ig rfl (MO rfl T.IE (aU (jA (pM JV hr bL (pv 0) (aU (pv 1))) (jA (pM JW hr bL (pv 0) (aU (pv 1))) (jA (pM JX hr bL (pv 0) (aU (pv 1))) (jA (pM JY hr bL (pv 0) (aU (pv 1))) (jA (pM JZ hr bL (pv 0) (aU (pv 1))) (pM J1 hr bL (pv 0) (aU (pv 1)))))))))) (jq (cb JU) TQ ["case","way"] [1] 1 (fun nd=>⟨(pN 1 nd),(bC YW (pv 0) (vG (aU (pv 1))))⟩)))),zs⟩
abbrev TR (c:ar):Prop:=sG c.P c.w c.K c.mg c.base (qO c.P c.w) 5 "best_by_cases" ["question","most"] (cI c yM) (.int 2000)
abbrev J2:Stmt:=top 9
def aZ:bY ["question","most","best","cost","closed","looked_at","waiting","case","least"] ["question","most"] (cb J2):=kB
def zlr {f:Addr}{fd:FuncData}(F:qW K "best_by_cases" "best_by_cases" J2 f fd (.int 2000))(T:Txt K mg ad)(zk:Js ⟨P,w,K,mg,base,ad⟩)(zl:Jw ⟨P,w,K,mg,base,ad⟩)(zm:JB ⟨P,w,K,mg,base,ad⟩)(zo:JI ⟨P,w,K,mg,base,ad⟩)(zp:JN ⟨P,w,K,mg,base,ad⟩)(zq:JP ⟨P,w,K,mg,base,ad⟩)(J3:Tf ⟨P,w,K,mg,base,ad⟩)(J4:Th ⟨P,w,K,mg,base,ad⟩)(J5:Tj ⟨P,w,K,mg,base,ad⟩)(J6:To ⟨P,w,K,mg,base,ad⟩)(J7:Tq ⟨P,w,K,mg,base,ad⟩)(J8:Tt ⟨P,w,K,mg,base,ad⟩)(J9:TN ⟨P,w,K,mg,base,ad⟩):cA P w K mg base (qO P w) 5 f fd ["question","most"] (so (KX K ad) (kN (KX K ad)) yM):=by
 refine F.B8 aZ (fun vs H Q E h=>Fx h) (fun rk A outer s H vs Q E hr h=>?_)
 have hu:=uB hr
 exact⟨_,(a_ (ri (i:=2) aZ.nd rfl zab qq)
 (a_ (ri (i:=3) aZ.nd rfl zab qq)
 (a_ (ri (i:=4) aZ.nd rfl zab (ic dW))
 (a_ (ri (i:=5) aZ.nd rfl zab aT)
 (a_ (ri (i:=6) aZ.nd rfl zab (ic (cq (vG dW) dW)))
 (a_ (BO eP (o6 o5 (tN dq (by rfl) T.c3 az (cq (pv 6) dW)) aT (r9 _))
 (a_ (KO (i:=5) aZ.nd rfl zab aT KR)
 (a_ (fg (o6 o5 (pv 5) (pv 1) (r9 _))
 (cR (Al rfl (by rfl) T.qbm T.qbx dJ (by decide+kernel) dJ Ao (cq zB dW))) ft)
 (a_ (ri (i:=7) aZ.nd rfl zab (Ve iX PySem.F.slot_list_pop PySem.F.type_list_pop Vg (pv 6)))
 (a_ (ri (i:=8) aZ.nd rfl zab (jA (mL zk (hr.mono (by decide)) bL (pv 0) (cq (pv 7) dW)) (jA (mL zl (hr.mono (by decide)) uF (pv 0) (cq (pv 7) dW)) (jA (mL zm (hr.mono (by decide)) bL (pv 0) (cq (pv 7) dW)) (jA (mL zo (hr.mono (by decide)) bL (pv 0) (cq (pv 7) dW)) (jA (mL zp (hr.mono (by decide)) bL (pv 0) (cq (pv 7) dW)) (mL zq (hr.mono (by decide)) bL (pv 0) (cq (pv 7) dW))))))))
 (cR (fg ((Ej (o6 UM (pv 3) qq (r9 _)) (Ei (o6 xX (pv 8) (pv 3) (r9 _))))).pt (cR (vD (z_ iX oE oG BZ (pv 4) (cq (pv 7) dW))))
 (cR (fg (o6 kU (tN dq (by rfl) T.c3 az (cq (pv 7) dW)) (jA (yA J3 (hr.mono (by decide)) bL (pv 0)) (jA (yA J4 (hr.mono (by decide)) bL (pv 0)) (jA (yA J5 (hr.mono (by decide)) bL (pv 0)) (jA (yA J6 (hr.mono (by decide)) bL (pv 0)) (jA (yA J7 (hr.mono (by decide)) bL (pv 0)) (yA J8 (hr.mono (by decide)) bL (pv 0))))))) (r9 _))
 (a_ (vD (z_ iX oE oG BZ (pv 4) (cq (pv 7) dW)))
 (a_ (ri (i:=2) aZ.nd rfl zab (pv 7))
 (cR (ri (i:=3) aZ.nd rfl zab (pv 8)))))
 (cR (vD (z_ iX PySem.F.slot_list_extend PySem.F.type_list_extend Vf (pv 6) (cq (bq J9 hr bL (cq (pv 0) (cq (pv 7) dW))) dW)))))))))))))
 (cR (um (vG (cq (pv 2) (cq (pv 3) (cq (pv 4) dW)))))))))))),Cj (K:=(KX K ad)) (XO:=(kN (KX K ad))) (E:=E) (np:=2) (nv:=7) (m:=Ht)
 (d_ (pA B_ jm)
 (d_ (pA B_ jm)
 (d_ (yh (Fc fT))
 (d_ (pA dc jm)
 (d_ (yh (Fc (fi (Fb fT) fT)))
 (d_ (Fl (gR (cS tR ((jw pC (wR bZ yd))).r (dc).r))
 (d_ (V4 dc)
 (d_ (mU (gR (cS tR bZ bZ))
 (MT (c:=3) rfl (by decide) (fi L3 fT)) pz)
 (d_ (Xs jm)
 (d_ (pA (pL (mY rfl cf (fi cf fT)) (pL (mY rfl cf (fi cf fT)) (pL (mY rfl cf (fi cf fT)) (pL (mY rfl cf (fi cf fT)) (pL (mY rfl cf (fi cf fT)) (mY rfl cf (fi cf fT))))))) jm)
 (mU (L8 (gR (cS V7 bZ (B_).r)) (gR (cS yk bZ bZ)))
 (Cf cf)
 (mU (gR (cS Ci ((jw pC (wR bZ yd))).r ((pL (mY rfl cf fT) (pL (mY rfl cf fT) (pL (mY rfl cf fT) (pL (mY rfl cf fT) (pL (mY rfl cf fT) (mY rfl cf fT))))))).r))
 (d_ (Cf cf)
 (d_ (pA cf jm)
 (pA cf jm)))
 (ZL (Fy (fi cf (fi cf fT)))))))))))
 (Mc (i:=4) (zev (Fb (fi cf (fi cf (fi cf fT)))))))))))) rfl h⟩
abbrev J_ (c:ar):Prop:=cy c 1 "put_by_list" ["order","case"] (dD c Di)
abbrev J':Stmt:=top 31
noncomputable abbrev TU:List Str:=["order","case","put","number","chosen"]
def zm7 {c:ar}(T:bc c)(d:De c.K "put_by_list" J'):J_ c:=hD T.xg d fun F=>iB TU F fun hr hu nd=>⟨_,(a_ (sQ 2 nd (ia (pv 0)) (jq (cb J') TU ["number"] [] 1 (fun nd=>⟨(pN 0 nd),aT⟩))) (a_ (pF (Gy rfl T.D0 (bS (pv 0) (pv 1))) (oZ rfl (fu (pN 3 nd) (fu (pN 4 nd) kT))) (cR (rh (pv 4) (zP (pv 2) (pv 3) wK)))) (pR (pv 2)))),zs⟩
abbrev TV (c:ar):Prop:=eI c 2 "answer" c.ad.a7 ["self","case"] (dD c Dj)
abbrev TX:Stmt:=hG (top 37) 4
def zgK {c:ar}(T:bc c)(d:Dm c.K c.ad.a7 "answer" "BenchQuestion.answer" TX)(zr:J_ c):TV c:=hM T.rK d fun F=>iB ["self","case"] F fun hr hu nd=>⟨_,(pR (bq zr hr bL (bS (f_ (pv 0) rfl) (pv 1)))),zs⟩
abbrev TY (c:ar):Prop:=eI c 2 "answer" c.ad.a8 ["self","case"] (dD c Dk)
abbrev TZ:Stmt:=hG (top 38) 5
def zhz {c:ar}(T:bc c)(d:Dm c.K c.ad.a8 "answer" "BinQuestion.answer" TZ)(zr:J_ c):TY c:=hM T.tG d fun F=>iB ["self","case"] F fun hr hu nd=>⟨_,(pR (bq zr hr bL (bS (f_ (pv 0) rfl) (pv 1)))),zs⟩
abbrev T1 (c:ar):Prop:=eI c 2 "answer" c.ad.a6 ["self","case"] (dD c Hu)
abbrev T3:Stmt:=hG (top 36) 5
def zgx {c:ar}(T:bc c)(d:Dm c.K c.ad.a6 "answer" "CoverQuestion.answer" T3)(m9:xQ c):T1 c:=hM T.tF d fun F=>iB ["self","case"] F fun hr hu nd=>⟨_,(pR (bq m9 hr bL (bS (pv 1) aT))),zs⟩
abbrev T4 (c:ar):Prop:=eI c 1 "answer" c.ad.jF ["self","case"] (dD c Hv)
abbrev T5:Stmt:=hG (top 41) 4
def zgl {c:ar}(T:bc c)(d:Dm c.K c.ad.jF "answer" "PlaceQuestion.answer" T5):T4 c:=hM T.wk d fun F=>iB ["self","case"] F fun hr hu nd=>⟨_,(pR (nG xZ (by rfl) T.qF dM (aU (pv 1)))),zs⟩
abbrev T6 (c:ar):Prop:=eI c 2 "answer" c.ad.a9 ["self","case"] (dD c Hw)
abbrev T7:Stmt:=hG (top 39) 4
def zg4 {c:ar}(T:bc c)(d:Dm c.K c.ad.a9 "answer" "SackQuestion.answer" T7)(m9:xQ c):T6 c:=hM T.wj d fun F=>iB ["self","case"] F fun hr hu nd=>⟨_,(pR (bq m9 hr bL (bS (pv 1) aT))),zs⟩
abbrev T8 (c:ar):Prop:=cy c 2 "_law_cover_cost" ["_law_given","_law_answer"] (cI c Dl)
abbrev Ea:Stmt:=top 53
noncomputable abbrev Ka:List Str:=["_law_given","_law_answer","_law_many","_law_sets_here"]
def zks {c:ar}(T:bc c)(d:De c.K "_law_cover_cost" Ea)(g4:IP c):T8 c:=hD T.xg d fun F=>hO Ka F fun hr hu nd=>⟨_,(a_ (rh (pv 0) (x' rfl (fu (pN 2 nd) (fu (pN 3 nd) kT)))) (a_ (fg (nE (pq tM (pB AM T.c3 az (aU (nG (FZ rfl) (by rfl) T.BF boot_set (aU (pv 1))))) (pB dq T.c3 az (aU (pv 1)))) (qr (pq o5 (pB dq T.c3 az (aU (ig rfl (ia (pv 1)) (pO (cb Ea) Ka ["_law_sets_here","_law_k"] [3] 1 (fun nd=>⟨(pN 1 nd),(pv 1),(nE (pq r6 (pv 1) aT) (qr (pq xX (pv 1) (pB dq (by exact T.c3) az (aU (pv 0)))))).pt⟩))))) aT))).pt (pR qq) ft) (a_ (fg (pq tM (pB Vu T.c3 az (aU (bq g4 hr bL (bS (pv 3) (pv 1))))) (pv 2)) (pR qq) ft) (pR (pB (su rfl) T.tE eU (aU (ig rfl (ia (pv 1)) (jq (cb Ea) Ka ["_law_sets_here","_law_k"] [3] 1 (fun nd=>⟨(pN 1 nd),(pJ (pI (pv 0) (pv 1)) aT)⟩))))))))),(d_ zs (d_ (mU (nX zs (gR (cS tR (jw pC (fc (jb zs (by decide) hI hL (Or.inr ⟨_,_,rfl,rfl,(nX (gR (cS w_ bZ sI)) (gR (cS yk bZ (jw pC (fc bZ)).r)))⟩) cf).e.r)).r sI))) zs pz) (d_ zs (zev (jw tX (fc (jb zs (by decide) hI hL (Or.inl ⟨rfl,rfl⟩) (cS tU (cS kM bZ bZ).r sI)).e.r))))))⟩
abbrev Kb (c:ar):Prop:=cy c 1 "_law_filled" ["_law_sizes_here","_law_answer","_law_many"] (dD c Bi)
abbrev Kc:Stmt:=top 55
noncomputable abbrev T9:List Str:=["_law_sizes_here","_law_answer","_law_many","_law_sums","_law_size","_law_spot_here"]
def zo2 {c:ar}(T:bc c)(d:De c.K "_law_filled" Kc):Kb c:=hD T.xg d fun F=>iB T9 F fun hr hu nd=>⟨_,(a_ (sQ 3 nd (iF rfl T.gj (aU (pv 2))) (jq (cb Kc) T9 ["_law_k"] [] 1 (fun nd=>⟨(pN 0 nd),aT⟩))) (a_ (pF (Xj rfl T.D0 (bS (pv 0) (pv 1))) (oZ rfl (fu (pN 4 nd) (fu (pN 5 nd) kT))) (cR (rh (bC fQ (pI (pv 3) (pv 5)) (pv 4)) (zP (pv 3) (pv 5) wK)))) (pR (pv 3)))),zs⟩
abbrev T_ (c:ar):Prop:=cy c 2 "_law_benches_cost" ["_law_given","_law_answer"] (cI c Hx)
abbrev Ke:Stmt:=top 56
noncomputable abbrev Ua:List Str:=["_law_given","_law_answer","_law_works","_law_many"]
def zi9 {c:ar}(T:bc c)(d:De c.K "_law_benches_cost" Ke)(zt:Kb c):T_ c:=hD T.xg d fun F=>hO Ua F fun hr hu nd=>⟨_,(a_ (rh (pv 0) (x' rfl (fu (pN 2 nd) (fu (pN 3 nd) kT)))) (a_ (fg (nE (pq tM (pB dq T.c3 az (aU (pv 1))) (pB dq T.c3 az (aU (pv 2)))) (qr (pq o5 (pB dq T.c3 az (aU (ig rfl (ia (pv 1)) (pO (cb Ke) Ua ["_law_many","_law_k"] [3] 1 (fun nd=>⟨(pN 1 nd),(pv 1),(nE (pq r6 (pv 1) aT) (qr (pq xX (pv 1) (pv 0)))).pt⟩))))) aT))).pt (pR qq) ft) (pR (pB (CB rfl) T.vo boot_max (aU (bq zt hr bL (cq (pv 2) (bS (pv 1) (pv 3))))))))),zs⟩
abbrev Ub (c:ar):Prop:=cy c 2 "_law_bins_cost" ["_law_given","_law_answer"] (cI c Dp)
abbrev Kf:Stmt:=top 58
noncomputable abbrev Uc:List Str:=["_law_given","_law_answer","_law_sizes_here","_law_room"]
def zlq {c:ar}(T:bc c)(d:De c.K "_law_bins_cost" Kf)(zt:Kb c):Ub c:=hD T.xg d fun F=>hO Uc F fun hr hu nd=>⟨_,(a_ (rh (pv 0) (x' rfl (fu (pN 2 nd) (fu (pN 3 nd) kT)))) (a_ (fg (nE (pq tM (pB dq T.c3 az (aU (pv 1))) (pB dq T.c3 az (aU (pv 2)))) (qr (pq o5 (pB dq T.c3 az (aU (ig rfl (ia (pv 1)) (pO (cb Kf) Uc ["_law_sizes_here","_law_k"] [2] 1 (fun nd=>⟨(pN 1 nd),(pv 1),(nE (pq r6 (pv 1) aT) (qr (pq xX (pv 1) (bC si aT (pB dq (by exact T.c3) az (aU (pv 0))))))).pt⟩))))) aT))).pt (pR qq) ft) (a_ (fg (pq o5 (FT rfl (by rfl) T.vo (aU (bq zt hr bL (cq (pv 2) (bS (pv 1) (bC si aT (pB dq T.c3 az (aU (pv 2)))))))) aT) (pv 3)) (pR qq) ft) (pR (pB AM T.c3 az (aU (nG (FZ rfl) (by rfl) T.BF boot_set (aU (pv 1))))))))),(d_ zs (d_ (mU (nX zs (gR (cS tR (jw pC (fc (jb zs (by decide) hI hL (Or.inr ⟨_,_,rfl,rfl,(nX (gR (cS w_ bZ sI)) (gR (cS yk bZ (cS Mm sI (jw pC (fc bZ)).r).r)))⟩) cf).e.r)).r sI))) zs pz) zs))⟩
abbrev Ud (c:ar):Prop:=cy c 1 "_law_sack_cost" ["_law_given","_law_answer"] (cI c Dq)
abbrev BI:Stmt:=top 60
noncomputable abbrev Eb:List Str:=["_law_given","_law_answer","_law_room","_law_things"]
def zlk {c:ar}(T:bc c)(d:De c.K "_law_sack_cost" BI):Ud c:=hD T.xg d fun F=>hO Eb F fun hr hu nd=>⟨_,(a_ (rh (pv 0) (x' rfl (fu (pN 2 nd) (fu (pN 3 nd) kT)))) (a_ (fg (nE (pq tM (pB AM T.c3 az (aU (nG (FZ rfl) (by rfl) T.BF boot_set (aU (pv 1))))) (pB dq T.c3 az (aU (pv 1)))) (qr (pq o5 (pB dq T.c3 az (aU (ig rfl (ia (pv 1)) (pO (cb BI) Eb ["_law_things","_law_k"] [3] 1 (fun nd=>⟨(pN 1 nd),(pv 1),(nE (pq r6 (pv 1) aT) (qr (pq xX (pv 1) (pB dq (by exact T.c3) az (aU (pv 0)))))).pt⟩))))) aT))).pt (pR qq) ft) (a_ (fg (pq o5 (pB (su rfl) T.tE eU (aU (ig rfl (ia (pv 1)) (jq (cb BI) Eb ["_law_things","_law_k"] [3] 1 (fun nd=>⟨(pN 1 nd),(pJ (pI (pv 0) (pv 1)) aT)⟩))))) (pv 2)) (pR qq) ft) (pR (pB (su rfl) T.tE eU (aU (ig rfl (iF rfl T.gj (aU (pB dq T.c3 az (aU (pv 3))))) (pO (cb BI) Eb ["_law_things","_law_answer","_law_k"] [3,1] 1 (fun nd=>⟨(pN 2 nd),(pJ (pI (pv 0) (pv 2)) aT),(o6 Lr (pv 2) (pv 1) (by with_unfolding_all rfl))⟩))))))))),(d_ zs (d_ (mU (nX zs (gR (cS tR (jw pC (fc (jb zs (by decide) hI hL (Or.inr ⟨_,_,rfl,rfl,(nX (gR (cS w_ bZ sI)) (gR (cS yk bZ (jw pC (fc bZ)).r)))⟩) cf).e.r)).r sI))) zs pz) (d_ (mU (gR (cS tR (jw tX (fc (jb zs (by decide) hI hL (Or.inl ⟨rfl,rfl⟩) (cS tU (cS kM bZ bZ).r sI)).e.r)).r bZ)) zs pz) (zev (jw tX (fc (jb zs (by decide) hI hL (Or.inr ⟨_,_,rfl,rfl,(gR (cS MX bZ bZ))⟩) (cS tU (cS kM bZ bZ).r sI)).e.r))))))⟩
abbrev Ue (c:ar):Prop:=cy c 1 "_law_round_cost" ["_law_given","_law_answer"] (cI c Dr)
abbrev Kg:Stmt:=top 62
abbrev Ug:List Str:=["_law_given","_law_answer","_law_lengths_here"]
def zkK {c:ar}(T:bc c)(d:De c.K "_law_round_cost" Kg):Ue c:=hD T.xg d fun F=>hO Ug F fun hr hu nd=>⟨_,(a_ (pS 2 nd (pI (pv 0) aT)) (a_ (fg (pq (WZ hr.units) (pB Xq T.Rv boot_sorted (aU (pv 1))) (nG (FV rfl) (by rfl) T.qF dM (aU (CA (by rfl) T.gj (aU (pB dq T.c3 az (aU (pv 2)))))))) (pR qq) ft) (pR (pB (su rfl) T.tE eU (aU (ig rfl (iF rfl T.gj (aU (pB dq T.c3 az (aU (pv 1))))) (jq (cb Kg) Ug ["_law_lengths_here","_law_answer","_law_k"] [2,1] 1 (fun nd=>⟨(pN 2 nd),(pI (pI (pv 0) (pI (pv 1) (bC uv (pv 2) aT))) (pI (pv 1) (pv 2)))⟩)))))))),(d_ zs (d_ zs (zev (jw tX (fc (jb zs (by decide) hI hL (Or.inl ⟨rfl,rfl⟩) (cS kM (cS kM bZ (cS kM bZ (cS Ml bZ sI).r).r).r (cS kM bZ bZ).r)).e.r)))))⟩
abbrev Uh (c:ar):Prop:=cy c 1 "_law_places_cost" ["_law_given","_law_answer"] (cI c Dt)
abbrev BJ:Stmt:=top 64
noncomputable abbrev Kh:List Str:=["_law_given","_law_answer","_law_lengths_here","_law_many"]
def zjz {c:ar}(T:bc c)(d:De c.K "_law_places_cost" BJ):Uh c:=hD T.xg d fun F=>hO Kh F fun hr hu nd=>⟨_,(a_ (rh (pv 0) (x' rfl (fu (pN 2 nd) (fu (pN 3 nd) kT)))) (a_ (fg (nE (pq tM (pB dq T.c3 az (aU (pv 1))) (pv 3)) (qr (pq o5 (pB dq T.c3 az (aU (ig rfl (ia (pv 1)) (pO (cb BJ) Kh ["_law_lengths_here","_law_k"] [2] 1 (fun nd=>⟨(pN 1 nd),(pv 1),(nE (pq r6 (pv 1) aT) (qr (pq xX (pv 1) (pB dq (by exact T.c3) az (aU (pv 0)))))).pt⟩))))) aT))).pt (pR qq) ft) (pR (pB (CB rfl) T.vo boot_max (aU (ig rfl (ia (pv 2)) (jq (cb BJ) Kh ["_law_answer","_law_row"] [1] 1 (fun nd=>⟨(pN 1 nd),(pB (M3 rfl) (by exact T.BE) boot_min (aU (ig rfl (ia (pv 0)) (jq (MN _ (cb BJ)) ["_law_answer","_law_row"] ["_law_row","_law_k"] [1] 1 (fun nd=>⟨(pN 1 nd),(pI (pv 0) (pv 1))⟩)))))⟩)))))))),(d_ zs (d_ (mU (nX zs (gR (cS tR (jw pC (fc (jb zs (by decide) hI hL (Or.inr ⟨_,_,rfl,rfl,(nX (gR (cS w_ bZ sI)) (gR (cS yk bZ (jw pC (fc bZ)).r)))⟩) cf).e.r)).r sI))) zs pz) (zev (jw AJ (fc (jb zs (by decide) hI hL (Or.inl ⟨rfl,rfl⟩) (jw AJ (fc (jb (Ar bZ) (by decide) hI hL (Or.inl ⟨rfl,rfl⟩) (cS kM bZ bZ)).e.r))).e.r)))))⟩
abbrev Ui (c:ar):Prop:=cy c 3 "_law_cost" ["_law_kind","_law_given","_law_answer"] (cI c pP)
abbrev Ki:Stmt:=top 66
abbrev Uj:List Str:=["_law_kind","_law_given","_law_answer"]
def zrh {c:ar}(T:bc c)(d:De c.K "_law_cost" Ki)(Kj:T8 c)(Kk:T_ c)(Kl:Ub c)(Km:Ud c)(Kn:Ue c)(Ko:Uh c):Ui c:=hD T.xg d fun F=>hO Uj F fun hr hu nd=>⟨_,(a_ (fg (xS (vB (pB vH T.wg gq (bS (pv 2) (vA (v:=.ty "list") (by rfl) T.qF dM rfl))))) (pR qq) ft) (a_ (fg (pq o5 (pB dq T.c3 az (aU (ig rfl (ia (pv 2)) (pO (cb Ki) Uj ["_law_k"] [] 1 (fun nd=>⟨(pN 0 nd),(pv 0),(nE (xS (vB (pB vH T.wg gq (bS (pv 0) (vA (v:=.ty "int") (by rfl) T.Rr boot_int rfl))))) (qr (vB (pB vH T.wg gq (bS (pv 0) (vA (v:=.ty "bool") (by rfl) T.Rt boot_bool rfl)))))).pt⟩))))) aT) (pR qq) ft) (a_ (fg (pq kU (pv 0) aT) (pR (bq Kj hr bL (bS (pv 1) (pv 2)))) ft) (a_ (fg (pq kU (pv 0) aT) (pR (bq Kk hr bL (bS (pv 1) (pv 2)))) ft) (a_ (fg (pq kU (pv 0) aT) (pR (bq Kl hr bL (bS (pv 1) (pv 2)))) ft) (a_ (fg (pq kU (pv 0) aT) (pR (bq Km hr bL (bS (pv 1) (pv 2)))) ft) (a_ (fg (pq kU (pv 0) aT) (pR (bq Kn hr bL (bS (pv 1) (pv 2)))) ft) (pR (bq Ko hr bL (bS (pv 1) (pv 2))))))))))),(d_ (mU (ye (mD (vU MJ bZ))) zs pz) (d_ (mU (gR (cS tR (jw pC (fc (jb zs (by decide) hI hL (Or.inr ⟨_,_,rfl,rfl,(nX (ye (mD (vU FO bZ))) (mD (vU FP bZ)))⟩) cf).e.r)).r sI)) zs pz) zs))⟩
abbrev zu:Stmt:=top 67
def fG:bY ["_law_script","_law_kind","_law_question","_law_given","_law_rival","_law_found","_law_case","_law_cost_here","_law_closed","_law_one"] ["_law_script"] (cb zu):=kB
def zCu {c:ar}{f:Addr}{fd:FuncData}(F:jJ c.K "law" "law" zu f fd)(T:bc c)(g0:vq c)(Kq:SK c)(zk:Js c)(zl:Jw c)(zm:JB c)(zo:JI c)(zj:JK c)(zp:JN c)(zq:JP c)(Ec:TR c)(Kr:TV c)(Ks:TY c)(Kt:T1 c)(Ku:T4 c)(Kv:T6 c)(Ed:Ui c):cA c.P c.w c.K c.mg c.base mw 8 f fd ["_law_script"] (DZ c.K):=by
 refine F.ok fG (fun vs H Q E h=>?_) (fun rk A outer s H vs Q E hr h=>?_)
 ·obtain⟨a,ns,rfl,_⟩:=h
  rfl
 ·obtain⟨a,ns,rfl,hS,hlen,hq⟩:=h
  have hu:=uB hr
  exact⟨_,(a_ (ri (i:=1) fG.nd rfl zab (bC gC (bq g0 hr bL (cq (pv 0) (cq aT dW))) aT))
  (a_ (rh (bq Kq hr bL (cq (pv 0) (cq (pv 1) (cq (bC gC (bC pj (bq g0 hr bL (cq (pv 0) (cq aT dW))) aT) (bC vE aT aT)) dW)))) (x' rfl (fu (uq (i:=2) fG.nd rfl zab) (fu (uq (i:=3) fG.nd rfl zab) (fu (uq (i:=4) fG.nd rfl zab) kT)))))
  (a_ (ri (i:=5) fG.nd rfl zab (ZK Ec (hr.mono (by decide)) (by rfl) uF (pv 2)))
  (a_ (fg ((nE (xS (vB (tN vH (by rfl) T.wg gq (cq (pv 5) (cq (vA (v:=.ty "tuple") (by rfl) T.Ru boot_tuple rfl) dW))))) (nE (o6 tM (tN dq (by rfl) T.c3 az (cq (pv 5) dW)) aT (r9 _)) (qr (xS (vB (tN vH (by rfl) T.wg gq (cq (EE Lo (pv 5) aT (fun _ _=>rfl)) (cq (vA (v:=.ty "tuple") (by rfl) T.Ru boot_tuple rfl) dW))))))))).pt (cR (um vz)) ft)
  (a_ (rh (pv 5) (oZ rfl (fu (uq (i:=6) fG.nd rfl zab) (fu (uq (i:=7) fG.nd rfl zab) (fu (uq (i:=8) fG.nd rfl zab) kT)))))
  (a_ (fg ((nE (xS (vB (tN vH (by rfl) T.wg gq (cq (pv 7) (cq (vA (v:=.ty "int") (by rfl) T.Rr boot_int rfl) dW))))) (nE (vB (tN vH (by rfl) T.wg gq (cq (pv 7) (cq (vA (v:=.ty "bool") (by rfl) T.Rt boot_bool rfl) dW)))) (nE (xS (vB (tN vH (by rfl) T.wg gq (cq (pv 8) (cq (vA (v:=.ty "list") (by rfl) T.qF dM rfl) dW))))) (qr (o6 (Zq hr.units) (pv 6) (pv 8) (by with_unfolding_all rfl))))))).pt (cR (um vz)) ft)
  (a_ (fg ((nE (o6 tM (bq Ed hr bL (cq (pv 1) (cq (pv 3) (cq (jA (mL Kr (hr.mono (by decide)) bL (pv 2) (cq (pv 6) dW)) (jA (mL Ks (hr.mono (by decide)) bL (pv 2) (cq (pv 6) dW)) (jA (mL Kt (hr.mono (by decide)) bL (pv 2) (cq (pv 6) dW)) (jA (mL Ku (hr.mono (by decide)) bL (pv 2) (cq (pv 6) dW)) (jA (mL zj (hr.mono (by decide)) bL (pv 2) (cq (pv 6) dW)) (mL Kv (hr.mono (by decide)) bL (pv 2) (cq (pv 6) dW))))))) dW)))) (pv 7) (r9 _)) (qr (o6 r6 (bq Ed hr bL (cq (pv 1) (cq (pv 3) (cq (pv 4) dW)))) (pv 7) (r9 _))))).pt (cR (um vz)) ft)
  (a_ (rj jW rfl (ia (pv 8)) (uq (i:=9) fG.nd rfl zab)
  (cR (fg (o6 r6 (jA (mL zk (hr.mono (by decide)) bL (pv 2) (cq (pv 9) dW)) (jA (mL zl (hr.mono (by decide)) uF (pv 2) (cq (pv 9) dW)) (jA (mL zm (hr.mono (by decide)) bL (pv 2) (cq (pv 9) dW)) (jA (mL zo (hr.mono (by decide)) bL (pv 2) (cq (pv 9) dW)) (jA (mL zp (hr.mono (by decide)) bL (pv 2) (cq (pv 9) dW)) (mL zq (hr.mono (by decide)) bL (pv 2) (cq (pv 9) dW))))))) (pv 7) (r9 _))
  (cR (um vz)) ft)))
  (cR (um (UN (WY hr.units) (bq Ec.has hr uF (cq (pv 2) (cq aT dW))) (pv 5) (r9 _)))))))))))),Cj (K:=(mQ c)) (XO:=(kN (mQ c))) (E:=E) (np:=1) (nv:=9) (m:=Pw)
  (d_ (pA (cS Av ((uH (fi cf (fi dc fT)))).r (dc).r) jm)
  (d_ (pA ((Fy (fi cf (fi cf (fi (cS Av ((cS Mn ((uH (fi cf (fi dc fT)))).r (dc).r)).r ((cS Mo (dc).r (dc).r)).r) fT))))).e (Fe (pw jm (pw jm (pw jm wU)))))
  (d_ (pA (uH (fi cf (fi dc fT))) jm)
  (d_ (mU (nX (ye (mD (vU MK bZ))) (nX (gR (cS Fq ((jw pC (wR bZ yd))).r (dc).r)) (ye (mD (vU MK ((cS tU bZ (dc).r)).r)))))
  (zev yc) pz)
  (d_ (pA cf (wV (pw jm (pw jm (pw jm wU)))))
  (d_ (mU (nX (ye (mD (vU FO bZ))) (nX (mD (vU FP bZ)) (nX (ye (mD (vU MJ bZ))) (gR (cS Zr bZ bZ)))))
  (zev yc) pz)
  (d_ (mU (nX (gR (cS Fq ((uH (fi cf (fi cf (fi ((yC (xt rfl cf (fi cf fT)) (yC (xt rfl cf (fi cf fT)) (yC (xt rfl cf (fi cf fT)) (yC (xt rfl cf (fi cf fT)) (yC (xt rfl cf (fi cf fT)) (xt rfl cf (fi cf fT)))))))).e fT))))).r bZ)) (gR (cS w_ ((uH (fi cf (fi cf (fi cf fT))))).r bZ)))
  (zev yc) pz)
  (d_ (vN (Aq cf) jm (mU (gR (cS w_ ((pL (mY rfl cf (fi cf fT)) (pL (mY rfl cf (fi cf fT)) (pL (mY rfl cf (fi cf fT)) (pL (mY rfl cf (fi cf fT)) (pL (mY rfl cf (fi cf fT)) (mY rfl cf (fi cf fT)))))))).r bZ))
  (zev yc) pz))
  (zev (cS W0 ((uH (fi cf (fi dc fT)))).r bZ)))))))))) rfl (V_ (f:=Px) (tD ns hlen) hS hq)⟩
end
def all_mk {l:W.OpenLaw}{w:World}{K:W.Frag}{h:Heap}{mg:Str->Option Value}{fa:Addr}{a0 a1 a2 a3 a4 a5 a6 a7 a8 a9 jM jF b0 b1:Addr}(X:K.In h)(G:h.Ns mainGlobals mg)(hfa:mg "law"=some (.ref fa))(zv:W.findIn K (.ref a4) "__init__"=some (some (.ref b0)))(BK:W.findIn K (.ref a5) "__init__"=some (some (.ref b1)))(T:Txt K mg ⟨a0,a1,a2,a3,a4,a5,a6,a7,a8,a9,jM,jF,b0,b1⟩)(d0:De K "_law_cell_at" RQ)(d1:De K "_law_number" RS)(d2:De K "_law_amount" RT)(d3:De K "_law_sets" D2)(d4:De K "_law_covered" RV)(d5:De K "refuse_missing" RX)(d6:De K "least_prices" RZ)(d7:De K "_law_cover" D3)(d8:De K "_law_sizes" R4)(d10:De K "common_factor" R6)(d11:De K "share" R7)(d12:De K "rounded_up" R8)(d13:De K "_law_benches" IZ)(d14:De K "refuse_too_great" Sd)(d15:De K "_law_bins" Jb)(d16:De K "_law_sack" So)(d17:De K "_law_spot" Sr)(d18:De K "_law_apart" Su)(d19:De K "_law_lengths" BH)(d20:De K "look_at" Sv)(d21:De K "copied_lengths" D_)(d22:De K "_law_round" Sz)(d23:De K "_law_places" Jk)(d24:De K "_law_made" SM)(d25:De K "heaviest" Jr)(d26:De K "chosen_by" Jx)(d27:De K "price_of" JA)(d28:De K "behind_last" S4)(d29:De K "nearest" JF)(d30:De K "reach" JG)(d31:De K "way_length" JL)(d32:De K "round_length" Tc)(d33:De K "gone_on" JU)(d34:∃f fd,mK K "best_by_cases" J2 f fd (.int 2000))(d35:De K "put_by_list" J')(d36:De K "_law_cover_cost" Ea)(d37:De K "_law_filled" Kc)(d38:De K "_law_benches_cost" Ke)(d39:De K "_law_bins_cost" Kf)(d40:De K "_law_sack_cost" BI)(d41:De K "_law_round_cost" Kg)(d42:De K "_law_places_cost" BJ)(d43:De K "_law_cost" Ki)(dL:De K "law" zu)(rf:∃fd,jJ K "__init__" "NoCover.__init__" IK b0 fd)(tI:∃fd,jJ K "__init__" "NoRoom.__init__" IL b1 fd){fM vr tP:Addr}{ocM oc2:Value}{odM D4 od2:Option Addr}{Kw Ky:Array (Option Value)}{vT:Array Value}{D5 vu D6 D7:Value}(vn:W.nsIn K mainGlobals "greatest_order"=some (some (.ref fM)))(vl:K.lookup fM=some ⟨ocM,odM,.func (W.fnOf "greatest_order" "greatest_order" (nJ rL) (kI rL) (cb rL) .none D5 vu D6 D4 (.ref vr) D7),Kw⟩)(vc:W.codeIn K (.ref vr) "greatest_order"=true)(vk:W.keepIn K (.ref fM)=true)(vv:K.lookup vr=some ⟨oc2,od2,.fields vT,Ky⟩)(vt:vT[11]?=some (Value.ref tP))(vT:tabOf K=some (tP,#[.str ("greatest_order"++".<locals>."++"<lambda>") 0,rawInt ((62:Nat):Int),rawInt ((41:Nat):Int)]))(vC:W.codeHdIn K vr tP=true)(e0:Dm K a6 "__init__" "CoverQuestion.__init__" IQ)(e1:Dm K a7 "__init__" "BenchQuestion.__init__" IY)(e2:Dm K a8 "__init__" "BinQuestion.__init__" I_)(e3:Dm K a9 "__init__" "SackQuestion.__init__" Sk)(e4:Dm K jM "__init__" "RoundQuestion.__init__" Sx)(e5:Dm K jF "__init__" "PlaceQuestion.__init__" SF)(e6:Dm K a7 "low" "BenchQuestion.low" SV)(e7:Dm K a8 "free" "BinQuestion.free" Jv)(e8:Dm K a8 "low" "BinQuestion.low" SX)(e9:Dm K a6 "not_covered" "CoverQuestion.not_covered" Jz)(e10:Dm K a6 "low" "CoverQuestion.low" JC)(e11:Dm K jF "low" "PlaceQuestion.low" S9)(e12:Dm K jM "answer" "RoundQuestion.answer" S_)(e13:Dm K jM "low" "RoundQuestion.low" Td)(e14:Dm K a9 "low" "SackQuestion.low" JQ)(e15:Dm K a7 "steps" "BenchQuestion.steps" Tg)(e16:Dm K a8 "steps" "BinQuestion.steps" Ti)(e17:Dm K a6 "steps" "CoverQuestion.steps" Tn)(e18:Dm K jF "steps" "PlaceQuestion.steps" Tp)(e19:Dm K jM "steps" "RoundQuestion.steps" Ts)(e20:Dm K a9 "steps" "SackQuestion.steps" Tu)(e21:Dm K a7 "ways" "BenchQuestion.ways" Tw)(e22:Dm K a8 "ways" "BinQuestion.ways" JR)(e23:Dm K a6 "ways" "CoverQuestion.ways" TC)(e24:Dm K jF "ways" "PlaceQuestion.ways" TH)(e25:Dm K jM "ways" "RoundQuestion.ways" JS)(e26:Dm K a9 "ways" "SackQuestion.ways" JT)(e27:Dm K a7 "answer" "BenchQuestion.answer" TX)(e28:Dm K a8 "answer" "BinQuestion.answer" TZ)(e29:Dm K a6 "answer" "CoverQuestion.answer" T3)(e30:Dm K jF "answer" "PlaceQuestion.answer" T5)(e31:Dm K a9 "answer" "SackQuestion.answer" T7):∃fd:FuncData,(∀(s:Shared)(v:Value),BindsTo s fd ⟨[v],[]⟩ [("_law_script",v)])/\∀base:Heap,K.In base->base.Ns mainGlobals mg->mJ mg base->cA l.prog w K mg base mw 8 fa fd ["_law_script"] (DZ K):=by
 let ad:xO:=⟨a0,a1,a2,a3,a4,a5,a6,a7,a8,a9,jM,jF,b0,b1⟩
 obtain⟨fL,gL,DL⟩:=dL
 have e:=hfa.symm.trans (dy X G DL.ns)
 cases e
 have FL:=DL.fn
 obtain⟨oc,od,kV,doc,pm,an,rk,ct,uy,rfl,lk,CM⟩:=DL.fn.ex
 refine⟨W.fnOf "law" "law" (nJ zu) (kI zu) (cb zu) .none kV doc pm an rk ct,fun s v=>.of_eq rfl,fun base _ _ KB=>?_⟩
 let c:ar:=⟨l.prog,w,K,mg,base,ad⟩
 have T:bc c:=T
 obtain⟨_,lJ⟩:=rf
 have jf:RO c:=⟨_,zms lJ,lJ.binds xD⟩
 obtain⟨_,nU⟩:=tI
 have kG:RP c:=⟨_,zm3 nU,nU.binds xD⟩
 obtain⟨f21,q21,Kz⟩:=d21
 obtain⟨f34,q34,KA⟩:=d34
 have D9:nK K "greatest_order" rL fM _:=⟨vn,B5 (st:=rL) vl vc vk⟩
 have g0:=zm9 T d0
 have g1:=zob T d1
 have g2:=zpa T d2
 have g3:=zrS T d3 g1 g2
 have g4:=zm6 T d4
 have g5:=zky T d5 jf
 have g6:=zmh T d6
 have g7:=zfJ T e0 g5 g6
 have g8:=zqi T d7 g0 g3 g4 g7
 have g9:=zpf T d8 g1 g2
 have za:IU c:=D9.has X G (zkm vl vc T vT vC KB) (D9.fn.binds xD)
 have IW:=zlm T d10
 have zb:=zxt T d11 IW
 have zc:=zo0 T d12
 have I0:=zfS T e1 za zb zc
 have Jm:=zni T d13 g0 g9 I0
 have Ja:=zi2 T d14 kG
 have Jc:=zgz T e2 za Ja
 have Jn:=zrz T d15 g0 g9 Jc
 have Jd:=zgj T e3
 have Jo:=zqN T d16 g0 g1 g2 Jd
 have Jg:=zq9 T d17 g1
 have D8:=zpY T d18
 have zf:=znb T d19 g0 Jg D8
 have zd:=ztw T d20
 have ze:Ji c:=Kz.has X G (zkh Kz.fn T) (Kz.fn.binds xD)
 have Jj:=zfT T e4 zd ze
 have Jp:=zql T d22 g0 zf Jj
 have Jl:=zfP T e5 zd ze
 have Jq:=zn9 T d23 g0 zf Jl
 have Kq:=zqK T d24 g8 Jm Jn Jo Jp Jq
 have Jt:=zrO T d25
 have zk:=ziz T e6 Jt
 have zg:=zjn T e7
 have zl:=zjv T e8 zb zc zg
 have m9:=zpx T d26
 have zh:=zeO T e9 m9
 have JD:=zrb T d27
 have zm:=ziu T e10 m9 zh JD
 have zi:=zm0 T d28
 have JH:=zuA T d29
 have JJ:=zx0 T d30 JH
 have zo:=zim T e11 zi JJ
 have zj:=zgq T e12
 have JM:=zoZ T d31
 have JO:=zlH T d32 JM
 have zp:=ziB T e13 zj JO
 have zq:=zjl T e14 m9
 have J3:=zha T e15
 have J4:=ziy T e16
 have J5:=zg3 T e17
 have J6:=zhf T e18
 have J7:=zhh T e19
 have J8:=zhl T e20
 have JV:=zhr T e21
 have JW:=ziT T e22 zg
 have JX:=zho T e23 zh
 have JY:=zhG T e24 zi
 have JZ:=zhH T e25
 have J1:=zin T e26 m9
 have J9:=zuv T d33 JV JW JX JY JZ J1
 have Ec:TR c:=KA.has X G (zlr KA.fn T zk zl zm zo zp zq J3 J4 J5 J6 J7 J8 J9) (KA.fn.binds (fun _ _ _ _ _ _ _ _ us hl=>match us,hl with|[_,_],_=>⟨_,rfl,rfl⟩) fun _ _ _ _ _ _ _ _ us hl=>match us,hl with|[_],_=>⟨_,rfl,rfl⟩)
 have zr:=zm7 T d35
 have Kr:=zgK T e27 zr
 have Ks:=zhz T e28 zr
 have Kt:=zgx T e29 m9
 have Ku:=zgl T e30
 have Kv:=zg4 T e31 m9
 have Kj:=zks T d36 g4
 have zt:=zo2 T d37
 have Kk:=zi9 T d38 zt
 have Kl:=zlq T d39 zt
 have Km:=zlk T d40
 have Kn:=zkK T d41
 have Ko:=zjz T d42
 have Ed:=zrh T d43 Kj Kk Kl Km Kn Ko
 exact zCu (c:=c) FL T g0 Kq zk zl zm zo zj zp zq Ec Kr Ks Kt Ku Kv Ed
def walk {l:W.OpenLaw}{q:Program}{loose:List Str}{XP:(Str->Option Value)->Heap->Prop}{YP:World->Heap->Prop}{d:DefRec}{K:Params->W.Frag}(hn:l.most=some 63)(hdf:d.params.defaults=[])(hY:∀(w:World)(h:Heap),YP w h->(K w.params).In h){tP:Addr}(hY2:∀(w:World)(h:Heap),YP w h->∀t∈[tP],h.get? t=some (W.tabObj #[]))(hT:∀w:World,AQ (K w.params) tP=true)(F:∀(w:World)(mg:Str->Option Value)(fa:Addr)(h:Heap),(K w.params).In h->h.Ns mainGlobals mg->mg d.name=some (.ref fa)->∃fd:FuncData,(∀(s:Shared)(u:Value),BindsTo s fd ⟨[u],[]⟩ [("_law_script",u)])/\∀base:Heap,(K w.params).In base->base.Ns mainGlobals mg->mJ mg base->cA l.prog w (K w.params) mg base mw 8 fa fd ["_law_script"] (DZ (K w.params))):W.WalkO q loose XP YP l.row.toRowW d [] (fun f vs=>PySem.call f vs):=L2.sF (n:=63) (k:=8) (x:="_law_script") (CX:=fun _=>mw) (sp:=fun w=>DZ (K w.params)) hn (by decide) hdf ⟨rfl,by decide,by decide⟩ hY hY2 hT F (fun _ _ a ns hl hS=>⟨a,ns,rfl,hS,hl,fun _=>rfl⟩) fun _ _ _ _ _ z=>z
end My
end
namespace PySem.W.Fast
def N:=Nat
def tw16081010073323200668:=N
def tw6077122284749185775:=N
def tw5128350266143657679:=N
def tw14511403144338337039:=N
def tw11822258375178383310:=N
def tw4447435010504645219:=N
def tw4000414256843555795:=N
def tw5093271523467645882:=N
def tw12854719583963621806:=N
def tw7819005470448721802:=N
def tw11798200761567770731:=N
def tw6351080854414525299:=N
def tw5006524627811492135:=N
def tw11859047177053342332:=N
def tw18144072225169318525:=N
def tw14516498465860546303:=N
def tw2962866660925279570:=N
def tw2172514064171080834:=N
def tw11302654871205098046:=N
def tw8097978377477670326:=N
def tw4099314547550731821:=N
def tw7001118745767046783:=N
def tw6588851821958087999:=N
def tw16572319345558971342:=N
def tw7525590367043845718:=N
def tw8400709217157253250:=N
def tw8798484667513241601:=N
def tw16067207238325615634:=N
def tw14117213240049393030:=N
def tw1466449897096531309:=N
def tw9562623675394584866:=N
def tw15803344194428436388:=N
def tw12078747430993886346:=N
def tw11602231189245171491:=N
def tw2568351842936212637:=N
def tw18085793694355392085:=N
def tw9749524036083359380:=N
def tw6437831242076209328:=N
def tw18022823636360004257:=N
def tw10712460864806980216:=N
def tw14461368637864261707:=N
def tw5263543749840005143:=N
def tw7766118391737987182:=N
def tw452544753574163977:=N
def tw18444745032486972390:=N
def tw12583892225576431579:=N
def tw2006959365617410377:=N
def tw6731529633080486041:=N
def tw4648469028815545612:=N
def tw6130024929283289579:=N
def tw16823093641617941237:=N
def tw11582717861831851997:=N
def tw14641419139258704561:=N
def tw15056260335838729705:=N
def tw14700801498744220533:=N
def tw6020711642210611148:=N
def tw14733167219306491726:=N
def tw9131704612492276135:=N
def tw16725524943025185008:=N
def tw10612389417729896637:=N
def tw857979969518852611:=N
def tw7567501088193604735:=N
def tw16323764478570177518:=N
def tw17597982699860205616:=N
def tw9080921953286990456:=N
def tw16347928807493109175:=N
def tw15481088944704462460:=N
def tw11751002855159690406:=N
def tw16819528653291152173:=N
def tw7726262816404332986:=N
def tw3621077332035450402:=N
def tw6859642107049893352:=N
def tw17924089133722381523:=N
def tw5640432660290086672:=N
def tw17786388665435336122:=N
def tw16726353306787787439:=N
def tw18089245741060535299:=N
def tw17636554142148133373:=N
def tw17506751450272516348:=N
def tw5742873881150928505:=N
def tw460113731831435481:=N
def tw11040611690199897460:=N
def tw14737336400602845736:=N
def tw10090268027269177449:=N
def tw13950120649295666731:=N
def tw3205457441679251094:=N
def tw2183435028307810547:=N
def tw10673969196771070054:=N
def tw14226637431294405808:=N
def tw8063073571898289158:=N
def tw14507688126666603883:=N
def tw10519865058053944457:=N
def tw13129438410596050575:=N
def tw11248018624636655896:=N
def tw14145312831562372314:=N
def tw4467259100435102516:=N
def tw2905629593147300891:=N
def tw5156446237643407554:=N
def tw11796979097073476905:=N
def tw5159823262036087150:=N
def tw17696912073762778982:=N
def tw2789868948357794699:=N
def tw8660159559839212440:=N
def tw4658162979663462974:=N
def tw12516341441230126406:=N
def tw12345424923098450422:=N
def tw12610376774794776485:=N
def tw11250985511847653308:=N
def tw10799520605996803298:=N
def tw13494907370468190996:=N
def tw8080117624659541000:=N
def tw12081760918016739029:=N
def tw14975247020145523289:=N
def tw3155135216813298746:=N
def tw4548072541537804620:=N
def tw12954431177648548156:=N
def tw5861393409117296313:=N
def tw8065001476487527954:=N
def tw16437505802229528730:=N
def tw9781170516841606084:=N
def tw15051543254290333762:=N
def tw14199062349161801320:=N
def tw13447696376081411374:=N
def tw9075581189293272639:=N
def tw3491544491375350699:=N
def tw11282243692584405565:=N
def tw2350477044289107282:=N
def tw1911797339142551354:=N
def tw15785695082423199330:=N
def tw17616207163165950858:=N
def tw8610745538233037448:=N
def tw13621816742868699238:=N
def tw9117917589972512671:=N
def tw12877448119509594810:=N
def tw17535976305287978808:=N
def tw5241956225676823969:=N
def tw7971665556512254334:=N
def tw17162221137198218038:=N
def tw14519170246701730772:=N
def tw4136740969507956174:=N
def tw15525415145710269518:=N
def tw10681788872075228441:=N
def tw3404587112919947922:=N
def tw13949872047324244960:=N
def tw3716129705305248340:=N
def tw10991000211749017755:=N
def tw9512702444127406820:=N
def tw13862860719637034693:=N
def tw7576168354825314071:=N
def tw16078581722256087673:=N
def tw13597850418742304442:=N
def tw4909109598055579549:=N
def tw9496196803383635556:=N
def tw15799260117487779281:=N
def tw4213701992644720723:=N
def tw3271182658556202135:=N
def tw17773779355200292859:=N
def tw16481965746932342873:=N
def tw11451334841691261905:=N
def tw498256050318214924:=N
def tw17420107114378549339:=N
def tw14839380819026204108:=N
def tw13185491083942402457:=N
def tw8771153983425483769:=N
def tw3515583947160419384:=N
def tw9382628476200145414:=N
def tw2155316784281379725:=N
def tw15130514703172193299:=N
def tw3296541738664163273:=N
def tw11998786658264462813:=N
def tw7742216500436013951:=N
def tw5870884790961529352:=N
def tw8255161527698918249:=N
def tw7364004072757518962:=N
def tw15375230572103973589:=N
def tw3029159985415829561:=N
def tw11038611555659916449:=N
def tw6170253498362780434:=N
def tw16283069874791490640:=N
def tw5347401008752404371:=N
def tw2162035501877769963:=N
def tw11646041760093442089:=N
def tw10381555528315127524:=N
def tw6701158200919672211:=N
def tw14486669871034597713:=N
def tw12520366254721846971:=N
def tw6545323041328404552:=N
def tw7774287927585330290:=N
def tw6347382235906368003:=N
def tw16795277145960702919:=N
def tw1858016085487432859:=N
def tw7794800102472395150:=N
def tw14592664670525495568:=N
def tw13264167561733429605:=N
def tw14129496666808289052:=N
def tw16905495150478669155:=N
def tw5127916321846762049:=N
def tw1844826118278754860:=N
def tw6971908572342449291:=N
def tw7292013876102427486:=N
def tw4922763919098443428:=N
def tw17021885366546831187:=N
def tw8718777441823800831:=N
def tw13175042906845352382:=N
def tw8675019620581889351:=N
def tw9963250827348837447:=N
def tw12377373524492459123:=N
def tw4913678254332417578:=N
def tw6805457932276454867:=N
def tw2351041796906723430:=N
def tw10229992309976022938:=N
def tw10232909390557258320:=N
def tw8283528757399880164:=N
def tw12851795608954562106:=N
def tw14113705989649903343:=N
def tw11092748422330380652:=N
def tw6387845418659962719:=N
def tw6986353607696505682:=N
def tw10042261698178978386:=N
def tw10856880248487350083:=N
def tw2183668198607876363:=N
def tw4655062969910497899:=N
def tw2648739917634484227:=N
def tw1460609600902403869:=N
def tw3164446430213065506:=N
def tw15762791237797615456:=N
def tw8899708823969508819:=N
def tw3538851540637746083:=N
def tw226098265702446559:=N
def tw833162040524054199:=N
def tw13034683749994287656:=N
def tw14088690506960714658:=N
def tw15632536862281256295:=N
def tw6952493956432967441:=N
def tw1667651773587409552:=N
def tw7993783083142598036:=N
def tw17730210961813676244:=N
def tw11868786055874948427:=N
def tw3208619086019673796:=N
def tw17683202574790703519:=N
def tw4617202042667581577:=N
def tw13215938500576744091:=N
def tw16672614550994806689:=N
def tw11978929298636637338:=N
def tw17438731204441832501:=N
def tw7803672303057013785:=N
def tw5111081512189067702:=N
def tw11321266695392046758:=N
def tw9599877325942416395:=N
def tw6411090925801052121:=N
def tw511644720108793978:=N
def tw18082537880609564942:=N
def tw17598890105832510165:=N
def tw12447737576915083080:=N
def tw13214276039266565199:=N
def tw10365322698021477354:=N
def tw16408897386478587274:=N
def tw15871818307497846645:=N
def tw15720679069361112083:=N
def tw10839577222463972158:=N
def tw8481667552180844141:=N
def tw11226188290779111212:=N
def tw6351169505719922894:=N
def tw3314599059089800314:=N
def tw16028973654786748111:=N
def tw1130731713899353136:=N
def tw2272338488361522917:=N
def tw1413649009358831458:=N
def tw3918483767955231780:=N
def tw6757177168086721023:=N
def tw1407211256882449581:=N
def tw15302660569412760698:=N
def tw2197588776828236273:=N
def tw15634078376972636848:=N
def tw11114322518670299538:=N
def tw13068835453031748037:=N
def tw2470730313082926999:=N
def tw12048067316089814146:=N
def tw829899575030059094:=N
def tw5445345959888171750:=N
def tw13568787533979087021:=N
def tw15474099860567927942:=N
def tw1034627587142727834:=N
def tw407197486797024190:=N
def tw14510100257083180606:=N
def tw14582036434969758350:=N
def tw6136644611371801444:=N
def tw15949762714688078383:=N
def tw9805914327924212247:=N
def tw239191179355732512:=N
def tw9240313966113020168:=N
def tw12068690612268646607:=N
def tw5544445560889012378:=N
def tw4732023245888321954:=N
def tw17791832648122276064:=N
def tw4284321959806807157:=N
def tw7514593659445246778:=N
def tw7189079118365712619:=N
def tw13420964496564379617:=N
def tw2727595648439601752:=N
def tw10480378449159634543:=N
def tw16617268534657677374:=N
def tw17655625444160909246:=N
def tw18364754630184673161:=N
def tw14653287473742757615:=N
def tw14979101131547138614:=N
def tw8965691568811054189:=N
def tw547223704931967822:=N
def tw15837659865096126948:=N
def tw17721551889297976657:=N
def tw4597292850862915882:=N
def tw13862923374366533874:=N
def tw15925271537197522891:=N
def tw8345646688263889348:=N
def tw11004198995754265200:=N
def tw13716057580413093494:=N
def tw5954222081947070377:=N
def tw7581209319699334432:=N
def tw5297792916713981386:=N
def tw2999063386928661009:=N
def tw1612376687262056157:=N
def tw1545561612337610941:=N
def tw18310335962726750581:=N
def tw15696462719671929700:=N
def tw9799981717037591829:=N
def tw8459350981076736960:=N
def tw18046414733063271189:=N
def tw10692827178534436941:=N
def tw7740467412712928671:=N
def tw14774146139239805404:=N
def tw13039236893125556165:=N
def tw1164822871737902128:=N
def tw17934903367724249286:=N
def tw17084463335135010919:=N
def tw4366372747744034250:=N
def tw9321002676299108909:=N
def tw6233627203278495552:=N
def tw8562547885953190897:=N
def tw17325801587323671346:=N
def tw2367435982465774008:=N
def tw1159304204660371631:=N
def tw9972027715990463159:=N
def tw9040200395086858892:=N
def tw6240033500467917634:=N
def tw3493200735824694626:=N
def tw10928175794429713493:=N
def tw787126870221924576:=N
def tw3037679942617279907:=N
def tw5916980237374831505:=N
def tw5623783448560524722:=N
def tw2083363452188193239:=N
def tw17273354744713347814:=N
def tw4351100682563424680:=N
def tw3968684461862136285:=N
def tw4430944858394914184:=N
def tw12314218336494468711:=N
def tw2530094429891605588:=N
def tw9696732992223857090:=N
def tw13769126836594829208:=N
def tw9285411030781052033:=N
def tw6933002614421968397:=N
def tw8067081166590493326:=N
def tw7639400638414504328:=N
def tw5602998231697274893:=N
def tw11039558663844133552:=N
def tw1690859918759005934:=N
def tw4614033501488343531:=N
def tw8598868902778844599:=N
def tw10109905443460483483:=N
def tw1663610522829245893:=N
def tw10489389251345913261:=N
def tw8583955179693629595:=N
def tw3835236097727353104:=N
def tw15065025664021434527:=N
def tw11629305876227724829:=N
def tw2441241007922857007:=N
def tw10503491745770220360:=N
def tw13110078064567826477:=N
def tw4058630001624162867:=N
def tw3678490458311110256:=N
def tw14665043761145555483:=N
def tw12156445831090574437:=N
def tw9409271043896714572:=N
def tw7073871787404187487:=N
def tw14971850698548957222:=N
def tw5991062971496312300:=N
def tw3822330027252917759:=N
def tw1279974669543727780:=N
def tw8451140271599189980:=N
def tw15951971809701616359:=N
def tw11109040699169716301:=N
def tw7956972660553383668:=N
def tw14119914121718543598:=N
def tw9734054251297583283:=N
def tw10189566736655129404:=N
def tw6701696577288777885:=N
def tw5510583389838227715:=N
def tw5110549228478712272:=N
def tw14412182737161062943:=N
def tw12358913601596305699:=N
def tw10655482933385483143:=N
def tw10014590249666397741:=N
def tw8570527234254910943:=N
def tw5238495916748703426:=N
def tw3400676755078452749:=N
def tw17721357449259055927:=N
def tw1602979003932222714:=N
def tw13329118085067351484:=N
def tw12762333796890550482:=N
def tw14954241534128450644:=N
def tw6101669943834050115:=N
def tw3361164229000584449:=N
def tw618106904592159903:=N
def tw10784872079018077106:=N
def tw8571827847024437708:=N
def tw285956105431223284:=N
def tw16665860246370386848:=N
def tw12796575436369986010:=N
def tw8569898538850378403:=N
def tw6579670499093923343:=N
def tw7455080699148037905:=N
def tw671614953634081769:=N
def tw4055773864331745531:=N
def tw3538886015473026149:=N
def tw1652002204710558637:=N
def tw1496452391381113137:=N
def tw14754527833265740982:=N
def tw1285723478683775299:=N
def tw11838616169228140668:=N
def tw10702296299084306649:=N
def tw1415846439505046735:=N
def tw11863045469301490651:=N
def tw14652353654889978501:=N
def tw16387205158078129420:=N
def tw5522960670289556091:=N
def tw15970065759153069524:=N
def tw846125563395435449:=N
def tw17822775658456514617:=N
def tw9710574237316772399:=N
def tw7695978502785979581:=N
def tw484399628855348006:=N
def tw4837162076828199571:=N
def tw4479618856012595669:=N
def tw16339587168831841604:=N
def tw15430488580405830634:=N
def tw13876347721438961238:=N
def tw5974780375181435662:=N
def tw14197239468306454081:=N
def tw9472008643238361858:=N
def tw8611067948969206122:=N
def tw6743614779960602761:=N
def tw6212377921084826644:=N
def tw4987431210828746874:=N
def tw4865840513547791516:=N
def tw4170344040485579633:=N
def tw3249714534132871971:=N
def tw17800334627619140603:=N
def tw14358225040697864498:=N
def tw12567753352751879043:=N
def tw11999800500111919137:=N
def tw11359697276132295455:=N
def tw8474371494257054851:=N
def tw7843821912843541530:=N
def tw6697688158111104591:=N
def tw6628351016357835763:=N
def tw5847525397335855975:=N
def tw5224686637649758743:=N
def tw3718932158501002672:=N
def tw3143343912888510809:=N
def tw2674779056339916949:=N
def tw1865580544932562595:=N
def tw14656268766039968402:=N
def tw12698765450604543623:=N
def tw10486164191197337434:=N
def tw11253092191873320983:=N
def tw16625410515113251625:=N
def tw6076684137764105885:=N
def tw3989799804505757700:=N
def tw2930812362414553973:=N
def tw183593094540816972:=N
def tw17330677111035587121:=N
def tw17222185200756785815:=N
def tw13422419736281830621:=N
def tw12773527887416309690:=N
def tw12300840189962341714:=N
def tw12168351236868432482:=N
def tw11420271958818902787:=N
def tw9257129744828907074:=N
def tw8315802987013815482:=N
def tw774435816657344985:=N
def tw4130332696118707082:=N
def tw2713284116181787751:=N
def tw263822142565913170:=N
def tw2298977744053373526:=N
def tw2202725287685749636:=N
def tw16337672876913740443:=N
def tw15833082424501753261:=N
def tw15325147649570932105:=N
def tw13699724398509800404:=N
def tw12396874923724188217:=N
def tw9908943651100333416:=N
def tw987252788382872063:=N
def tw9529740840205819663:=N
def tw9464416467207044536:=N
def tw9414308909401980174:=N
def tw9389695563177696988:=N
def tw9310746440185440766:=N
def tw9169048022319475326:=N
def tw9116446232923436341:=N
def tw9092361856496000751:=N
def tw9019358789434732623:=N
def tw8638312528021237920:=N
def tw8572351511011350575:=N
def tw8549392609281670110:=N
def tw8370256594305494805:=N
def tw835583490262522185:=N
def tw8140265970568115400:=N
def tw8127446626513784139:=N
def tw7936844598865010669:=N
def tw7851020088513453935:=N
def tw7808251856771820682:=N
def tw774815191045051204:=N
def tw7614372606208026314:=N
def tw7602764005016531153:=N
def tw7357886615719712617:=N
def tw702172144936639724:=N
def tw6920775938888043385:=N
def tw6709635260085330831:=N
def tw6705080919103351672:=N
def tw6657354668287003026:=N
def tw664640215165007360:=N
def tw6641482387344532639:=N
def tw6550692233523056685:=N
def tw6528561735066101989:=N
def tw6444815620558123369:=N
def tw6397491381345125144:=N
def tw6377515602227252821:=N
def tw6258861485618573098:=N
def tw6257842868365813939:=N
def tw6157699031853023191:=N
def tw5994032111276299984:=N
def tw596729152253640912:=N
def tw5847795342261621564:=N
def tw5079024375155375250:=N
def tw475955137309260628:=N
def tw457791068262406410:=N
def tw4575913269988555949:=N
def tw4520614851989848890:=N
def tw4436529566588110838:=N
def tw4329793140022189153:=N
def tw4106637401950654762:=N
def tw4093837855970537556:=N
def tw3837851732231831484:=N
def tw3338765725115506621:=N
def tw3290563492853312133:=N
def tw3226540439913172467:=N
def tw2970457671119517289:=N
def tw2926295001275420820:=N
def tw2888263504166919477:=N
def tw2724652499570151740:=N
def tw2588480945438657359:=N
def tw2494709466652277538:=N
def tw2470273677534659458:=N
def tw2459668999633331332:=N
def tw2407063010311890260:=N
def tw2011715424547306079:=N
def tw1853067071021601159:=N
def tw18378472925119177377:=N
def tw182707093474930589:=N
def tw18005304981943809455:=N
def tw17750675168357680718:=N
def tw17707587650712270051:=N
def tw17689732755385655284:=N
def tw17406174086174378159:=N
def tw17404666066414042642:=N
def tw1734888370079534585:=N
def tw1731769496807314778:=N
def tw17171115361013166312:=N
def tw17130594388377461931:=N
def tw16899948615026686520:=N
def tw16893878297935705273:=N
def tw16654489288925655976:=N
def tw16491156614853841924:=N
def tw16321508443176536690:=N
def tw16273719209445728290:=N
def tw16137809191583607199:=N
def tw16022868864998427290:=N
def tw15988158015867259138:=N
def tw15862039168137370703:=N
def tw15830461869276712219:=N
def tw1582984501445125051:=N
def tw1570025778482194517:=N
def tw15535006127939741169:=N
def tw15483422072198398259:=N
def tw1526200583999905646:=N
def tw1523855107543749884:=N
def tw15182268674202769047:=N
def tw15100475078683058845:=N
def tw15052769235027044113:=N
def tw15024649696825267992:=N
def tw14776704973226379612:=N
def tw14514105207947753144:=N
def tw14109139893323837547:=N
def tw14073674747122022184:=N
def tw14064354144272403058:=N
def tw1391642243332685332:=N
def tw138374405799370958:=N
def tw13836889068724322246:=N
def tw13740918358874577682:=N
def tw13637109408791080531:=N
def tw13513401574174375140:=N
def tw1345416875789340753:=N
def tw13439055194765034437:=N
def tw13419898724147714308:=N
def tw13292480699330111399:=N
def tw12828823964054761670:=N
def tw12781379338353171871:=N
def tw12677052603885642109:=N
def tw12664365572217770548:=N
def tw12577791358538769439:=N
def tw1243148641541521593:=N
def tw12322699807253577071:=N
def tw1217454332092703929:=N
def tw12140309342991485453:=N
def tw1205650566850536195:=N
def tw11906250750846664336:=N
def tw11809933384070023616:=N
def tw11801009392292322111:=N
def tw11786505695476816450:=N
def tw11746991988584772116:=N
def tw11482186142139313660:=N
def tw11272442952335146407:=N
def tw1111747211714642148:=N
def tw10970435025397690197:=N
def tw10919942171621904598:=N
def tw10913807924456515835:=N
def tw10877352500665064714:=N
def tw10797528429409411406:=N
def tw10775930834071095234:=N
def tw10714165736004287069:=N
def tw10617964469075712858:=N
def tw10588710017476345013:=N
def tw10524873387273574642:=N
def tw10282404933225827095:=N
def tw10239489403319950620:=N
def tw1019688876131110768:=N
def tw10178690911184689174:=N
def tw10136707078770487358:=N
def tw1011690297482995316:=N
def tw10107313030260700260:=N
def tw10038228483392177358:=N
def tw1002123164514772291:=N
end PySem.W.Fast
open PySem PySem.W PyProof.Rows
set_option maxRecDepth 100000 in
set_option maxHeartbeats 0 in
theorem PySem.Challenge.cw_goodenough_k40_whole_best_of_any_holds : PySem.Challenge.rw_goodenough_k40_whole_best_of_any.Holds := by
 w_on;o_law;k_head;(case hw=>w_witness2)
 k_fill
 refine My.walk (l:=PySem.Challenge.rw_goodenough_k40_whole_best_of_any) rfl rfl (fun w h Y=>by first|exact PySem.W.kIn_of Y|exact PySem.W.km_in_of Y) (fun w h Y=>PySem.W.km_tabs_of Y) ?tab ?F
 (case tab=>intro w;kernel_rfl)
 case F=>
 intro w mg fa h X G hmg
 refine' My.all_mk X G hmg ?_ ?_ ⟨⟨h,X,G⟩,cJ X G ?_,cJ X G ?_,cJ X G ?_,cJ X G ?_,cJ X G ?_,cJ X G ?_,cJ X G ?_,cJ X G ?_,cJ X G ?_,cJ X G ?_,cJ X G ?_,cJ X G ?_,cJ X G ?_,cJ X G ?_,cJ X G ?_,cJ X G ?_,cJ X G ?_,cJ X G ?_,dy X G ?h0,dy X G ?h1,dy X G ?h2,dy X G ?h3,dy X G ?h4,dy X G ?h5,⟨?h14,?h8,?h15,?h16⟩,?h17,?h18,?h19,⟨?h22,?h9,?h23,?h24⟩,?h25,?h26,?h27,?h28,⟨?h31,?h10,?h32,?h33⟩,?h34,?h35,?h36,⟨?h39,?h11,?h40,?h41⟩,?h42,?h43,⟨?h46,?h12,?h47,?h48⟩,?h49,⟨?h52,?h13,?h53,?h54⟩,?h55,?h56,dy X G ?h59,dy X G ?h60,dy X G ?h61,dy X G ?h62,dy X G ?h63,dy X G ?h64,?h69,?h70,?h71,?h78,?h79,?h80,?h83,?h84,?h85,⟨?h100,?h101,?h89,?h102,?h86,?h87,?h109,?h110⟩,⟨?h112,?h113,?h90,?h114,?h86,?h87,?h121,?h122⟩,⟨?h124,?h125,?h91,?h126,?h86,?h87,?h133,?h134⟩,⟨?h136,?h137,?h92,?h138,?h86,?h87,?h145,?h146⟩,⟨⟨?h136,?h137,?h92,?h138,?h86,?h87,?h145,?h146⟩,?h72,?h73⟩,⟨?h148,?h149,?h93,?h150,?h86,?h87,?h157,?h158⟩,⟨⟨?h148,?h149,?h93,?h150,?h86,?h87,?h157,?h158⟩,?h81,?h82⟩,⟨?h20,?h21⟩,⟨?h29,?h30⟩,⟨?h37,?h38⟩,⟨?h44,?h45⟩,⟨?h50,?h51⟩,⟨?h57,?h58⟩⟩ ?_ ?_ ?_ ?_ ?_ ?_ ?_ ?_ ?_ ?_ ?_ ?_ ?_ ?_ ?_ ?_ ?_ ?_ ?_ ?_ ?_ ?_ ?_ ?_ ?_ ?_ ?_ ?_ ?_ ?_ ?_ ?_ ?_ ?_ ?_ ?_ ?_ ?_ ?_ ?_ ?_ ?_ ?_ ?_ ?_ ?_ ?_ ?_ ?_ ?_ ?_ ?vt ?_ ?_ ?_ ?_ ?_ ?_ ?_ ?_ ?_ ?_ ?_ ?_ ?_ ?_ ?_ ?_ ?_ ?_ ?_ ?_ ?_ ?_ ?_ ?_ ?_ ?_ ?_ ?_ ?_ ?_ ?_ ?_ ?_ ?_
 any_goals refine' L2.sj ?_ ?_ ?_ ?_
 any_goals refine' L2.qX ?_ ?_ ?_ ?_ ?_
 any_goals refine' L2.qZ ?_ ?_ ?_ ?_ ?_
 any_goals refine' L2.A9 ?_ ?_ ?_
 all_goals try first|k_is|(dsimp only;k_is)|(unfold L2.aB;dsimp only;k_is)
 (case vt=>rfl)
 all_goals try first|k_is|(dsimp only;k_is)
 all_goals first|k_exc|(dsimp only;k_exc)|kernel_rfl|(dsimp only;kernel_rfl)|rfl
#print axioms PySem.Challenge.cw_goodenough_k40_whole_best_of_any_holds
