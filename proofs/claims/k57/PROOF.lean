import PyProof.Rows.All
import Wide.All
import OpenK.KLine
import OpenK.KOwn
import OpenK.KNot
import KE.KIntText
import KE.KIsAll
import KE.KIsNot
import KE.KItem
import KE.KLam
import KE.KMathGC
import KE.KNestM
import KE.KUnpack
import Wide.FinOn
import Lean
import PyProof.EqAt
import PyProof.EqKinds
import PyProof.TupleCall
import PySem.Challenge.RW_goodenough_k57_first_lines_refused
set_option Elab.async false
set_option linter.all false
set_option maxRecDepth 100000
set_option maxHeartbeats 4000000
noncomputable section
def PySem.W.Fast.tw7489369909402469818:Nat:=0
def PySem.W.Fast.tw4189043985221462478:Nat:=0
def PySem.W.Fast.tw4019352534021098319:Nat:=0
def PySem.W.Fast.tw13914309317892545980:Nat:=0
def PySem.W.Fast.tw2374053664901193089:Nat:=0
def PySem.W.Fast.tw17816044404001607783:Nat:=0
def PySem.W.Fast.tw3487291523454592026:Nat:=0
def PySem.W.Fast.tw17395834920174935811:Nat:=0
def PySem.W.Fast.tw5654762729646966292:Nat:=0
def PySem.W.Fast.tw5400189860057711010:Nat:=0
def PySem.W.Fast.tw16396520585255172866:Nat:=0
def PySem.W.Fast.tw12597218668509995681:Nat:=0
def PySem.W.Fast.tw10142305241658898917:Nat:=0
def PySem.W.Fast.tw17981900517650297084:Nat:=0
def PySem.W.Fast.tw4849665591416823916:Nat:=0
def PySem.W.Fast.tw3342897325347627755:Nat:=0
def PySem.W.Fast.tw12434125533885434084:Nat:=0
def PySem.W.Fast.tw14249189903455759581:Nat:=0
def PySem.W.Fast.tw14672867202898100123:Nat:=0
def PySem.W.Fast.tw1214578893465211581:Nat:=0
def PySem.W.Fast.tw975123363617879896:Nat:=0
def PySem.W.Fast.tw1359180159486297950:Nat:=0
def PySem.W.Fast.tw2674291433624621027:Nat:=0
def PySem.W.Fast.tw8449828448107203154:Nat:=0
def PySem.W.Fast.tw1813637296115659979:Nat:=0
def PySem.W.Fast.tw7502524618211228269:Nat:=0
def PySem.W.Fast.tw14502250348837276641:Nat:=0
def PySem.W.Fast.tw6034502128840647489:Nat:=0
def PySem.W.Fast.tw15952278005427008871:Nat:=0
def PySem.W.Fast.tw9815415586318977920:Nat:=0
def PySem.W.Fast.tw4945887622553396456:Nat:=0
def PySem.W.Fast.tw13739333379545020510:Nat:=0
def PySem.W.Fast.tw12284665591259083524:Nat:=0
def PySem.W.Fast.tw14517508709982771987:Nat:=0
def PySem.W.Fast.tw447014336854796753:Nat:=0
def PySem.W.Fast.tw1551562578327387203:Nat:=0
def PySem.W.Fast.tw8181173054085210559:Nat:=0
def PySem.W.Fast.tw17538682485413613088:Nat:=0
def PySem.W.Fast.tw15100858610815498650:Nat:=0
def PySem.W.Fast.tw2134956127390359613:Nat:=0
def PySem.W.Fast.tw4646680391169513539:Nat:=0
def PySem.W.Fast.tw14042690865935345456:Nat:=0
def PySem.W.Fast.tw16093934599962251353:Nat:=0
def PySem.W.Fast.tw9166112542747096041:Nat:=0
def PySem.W.Fast.tw14294021211581767929:Nat:=0
def PySem.W.Fast.tw2135413195098476877:Nat:=0
def PySem.W.Fast.tw13761150681899924717:Nat:=0
def PySem.W.Fast.tw910969820594911012:Nat:=0
def PySem.W.Fast.tw11238158495259302119:Nat:=0
def PySem.W.Fast.tw14148111570227994225:Nat:=0
def PySem.W.Fast.tw15107076421176640959:Nat:=0
def PySem.W.Fast.tw14020833890451600402:Nat:=0
def PySem.W.Fast.tw14837783018490486552:Nat:=0
def PySem.W.Fast.tw11756122406355036883:Nat:=0
def PySem.W.Fast.tw14233083307133013671:Nat:=0
def PySem.W.Fast.tw3971304142268540982:Nat:=0
def PySem.W.Fast.tw8219126893327911973:Nat:=0
def PySem.W.Fast.tw3333325613550402569:Nat:=0
def PySem.W.Fast.tw2872442812344074925:Nat:=0
def PySem.W.Fast.tw5701475038649526911:Nat:=0
def PySem.W.Fast.tw13280543756245626269:Nat:=0
def PySem.W.Fast.tw5290672894859276470:Nat:=0
def PySem.W.Fast.tw5771943889229473082:Nat:=0
def PySem.W.Fast.tw314821524515311056:Nat:=0
def PySem.W.Fast.tw1343940449540311588:Nat:=0
def PySem.W.Fast.tw18265911996882657437:Nat:=0
def PySem.W.Fast.tw697228226360553788:Nat:=0
def PySem.W.Fast.tw6335793041552307682:Nat:=0
def PySem.W.Fast.tw2186661182229876103:Nat:=0
def PySem.W.Fast.tw7961385017210003333:Nat:=0
def PySem.W.Fast.tw3929653173084401214:Nat:=0
def PySem.W.Fast.tw15014500004871577180:Nat:=0
def PySem.W.Fast.tw8659292382348219469:Nat:=0
def PySem.W.Fast.tw9661099092540204625:Nat:=0
def PySem.W.Fast.tw11231912673169425451:Nat:=0
def PySem.W.Fast.tw5789088059736252076:Nat:=0
def PySem.W.Fast.tw11137591985049214162:Nat:=0
def PySem.W.Fast.tw12431182115252525932:Nat:=0
def PySem.W.Fast.tw13400783847638904416:Nat:=0
def PySem.W.Fast.tw827794185437974421:Nat:=0
def PySem.W.Fast.tw11360622411756814583:Nat:=0
def PySem.W.Fast.tw11519240200464726866:Nat:=0
def PySem.W.Fast.tw2732853215833498825:Nat:=0
def PySem.W.Fast.tw6897450091076171809:Nat:=0
def PySem.W.Fast.tw16794792296565708053:Nat:=0
def PySem.W.Fast.tw4427664707169316498:Nat:=0
def PySem.W.Fast.tw13928616519110070619:Nat:=0
def PySem.W.Fast.tw5613144029526522019:Nat:=0
def PySem.W.Fast.tw9307396068846088077:Nat:=0
def PySem.W.Fast.tw505672505721571004:Nat:=0
def PySem.W.Fast.tw4262128451997657712:Nat:=0
def PySem.W.Fast.tw1230178039961528533:Nat:=0
def PySem.W.Fast.tw8729434298592678852:Nat:=0
def PySem.W.Fast.tw6319858914700840833:Nat:=0
def PySem.W.Fast.tw486400538410139325:Nat:=0
def PySem.W.Fast.tw2281040698964619612:Nat:=0
def PySem.W.Fast.tw16533196141243533282:Nat:=0
def PySem.W.Fast.tw10757532132421424856:Nat:=0
def PySem.W.Fast.tw1032916289775640586:Nat:=0
def PySem.W.Fast.tw5414822650580132021:Nat:=0
def PySem.W.Fast.tw17356276856776641902:Nat:=0
def PySem.W.Fast.tw15945306521191605083:Nat:=0
def PySem.W.Fast.tw9059496867648433246:Nat:=0
def PySem.W.Fast.tw3685077932323072159:Nat:=0
def PySem.W.Fast.tw9371516358892436240:Nat:=0
def PySem.W.Fast.tw7680954553139544382:Nat:=0
def PySem.W.Fast.tw4903013937178337858:Nat:=0
def PySem.W.Fast.tw18306925501348451143:Nat:=0
def PySem.W.Fast.tw18319129837457355718:Nat:=0
def PySem.W.Fast.tw9050356482018692832:Nat:=0
def PySem.W.Fast.tw12282337501663792181:Nat:=0
def PySem.W.Fast.tw4027795852137132999:Nat:=0
def PySem.W.Fast.tw5677678498408408419:Nat:=0
def PySem.W.Fast.tw6761931515691231559:Nat:=0
def PySem.W.Fast.tw10900465011775824590:Nat:=0
def PySem.W.Fast.tw9481561165125127590:Nat:=0
def PySem.W.Fast.tw11680117146103174355:Nat:=0
def PySem.W.Fast.tw15912894652867004309:Nat:=0
def PySem.W.Fast.tw14734907880285404393:Nat:=0
def PySem.W.Fast.tw3742783915655510503:Nat:=0
def PySem.W.Fast.tw8683071738901108309:Nat:=0
def PySem.W.Fast.tw2110106508423657870:Nat:=0
def PySem.W.Fast.tw12640721596516821149:Nat:=0
def PySem.W.Fast.tw12073427339973907594:Nat:=0
def PySem.W.Fast.tw14073762813361614175:Nat:=0
def PySem.W.Fast.tw17470069050018111063:Nat:=0
def PySem.W.Fast.tw17247285341506426476:Nat:=0
def PySem.W.Fast.tw6825616167412941858:Nat:=0
def PySem.W.Fast.tw5945599563580299663:Nat:=0
def PySem.W.Fast.tw4803105430400825348:Nat:=0
def PySem.W.Fast.tw15385717117541227955:Nat:=0
def PySem.W.Fast.tw9091916123402882648:Nat:=0
def PySem.W.Fast.tw5363345962454183789:Nat:=0
def PySem.W.Fast.tw9233786651151845633:Nat:=0
def PySem.W.Fast.tw11113074325888372033:Nat:=0
def PySem.W.Fast.tw14244118665079591640:Nat:=0
def PySem.W.Fast.tw13504961881200376402:Nat:=0
def PySem.W.Fast.tw342523158375260631:Nat:=0
def PySem.W.Fast.tw174535414071646147:Nat:=0
def PySem.W.Fast.tw8089130169102591965:Nat:=0
def PySem.W.Fast.tw8266812673502430862:Nat:=0
def PySem.W.Fast.tw13760988848563051996:Nat:=0
def PySem.W.Fast.tw15760782603626992946:Nat:=0
def PySem.W.Fast.tw12462000797756193309:Nat:=0
def PySem.W.Fast.tw677328265371768615:Nat:=0
def PySem.W.Fast.tw16759001667022814796:Nat:=0
def PySem.W.Fast.tw11367011078144229729:Nat:=0
def PySem.W.Fast.tw12886664714072340790:Nat:=0
def PySem.W.Fast.tw9238806822247679161:Nat:=0
def PySem.W.Fast.tw2189461502196783231:Nat:=0
def PySem.W.Fast.tw8303164842759994144:Nat:=0
def PySem.W.Fast.tw1549206909390400485:Nat:=0
def PySem.W.Fast.tw15375102597326263323:Nat:=0
def PySem.W.Fast.tw8438863702184831074:Nat:=0
def PySem.W.Fast.tw8514933595383647106:Nat:=0
def PySem.W.Fast.tw12073784515226691800:Nat:=0
def PySem.W.Fast.tw10208939228083580521:Nat:=0
def PySem.W.Fast.tw8110224711367267950:Nat:=0
def PySem.W.Fast.tw16452163888681983324:Nat:=0
def PySem.W.Fast.tw11194001006868524393:Nat:=0
def PySem.W.Fast.tw2906858800393684655:Nat:=0
def PySem.W.Fast.tw5895248175085902731:Nat:=0
def PySem.W.Fast.tw2634499172505217232:Nat:=0
def PySem.W.Fast.tw3642200472752489376:Nat:=0
def PySem.W.Fast.tw11467347238699170934:Nat:=0
def PySem.W.Fast.tw1828202420949812074:Nat:=0
def PySem.W.Fast.tw9941643249030515783:Nat:=0
def PySem.W.Fast.tw6131663058322495426:Nat:=0
def PySem.W.Fast.tw5363002873043193272:Nat:=0
def PySem.W.Fast.tw9260642684154261156:Nat:=0
def PySem.W.Fast.tw1897451553782378782:Nat:=0
def PySem.W.Fast.tw2610903061762805306:Nat:=0
def PySem.W.Fast.tw6189579195273787566:Nat:=0
def PySem.W.Fast.tw8712364281591104586:Nat:=0
def PySem.W.Fast.tw839552194356099318:Nat:=0
def PySem.W.Fast.tw15232606785627092045:Nat:=0
def PySem.W.Fast.tw17205818248020100315:Nat:=0
def PySem.W.Fast.tw12214392384585221708:Nat:=0
def PySem.W.Fast.tw3470477145111300346:Nat:=0
def PySem.W.Fast.tw13049046875075732710:Nat:=0
def PySem.W.Fast.tw2942361224567906661:Nat:=0
def PySem.W.Fast.tw338038879827836769:Nat:=0
def PySem.W.Fast.tw15827577061687437347:Nat:=0
def PySem.W.Fast.tw10232002897385684066:Nat:=0
def PySem.W.Fast.tw8404152555092698395:Nat:=0
def PySem.W.Fast.tw5583103548650228593:Nat:=0
def PySem.W.Fast.tw1321455561781559825:Nat:=0
def PySem.W.Fast.tw4059425095705247303:Nat:=0
def PySem.W.Fast.tw5497643905449066162:Nat:=0
def PySem.W.Fast.tw10998731617212640009:Nat:=0
def PySem.W.Fast.tw16704042673758854896:Nat:=0
def PySem.W.Fast.tw8610474849555759759:Nat:=0
def PySem.W.Fast.tw3319719340819625538:Nat:=0
def PySem.W.Fast.tw9912639895705221449:Nat:=0
def PySem.W.Fast.tw11748585712338056684:Nat:=0
def PySem.W.Fast.tw9908080043933077494:Nat:=0
def PySem.W.Fast.tw15435385780030151182:Nat:=0
def PySem.W.Fast.tw13494849402104385027:Nat:=0
def PySem.W.Fast.tw4200030527757245985:Nat:=0
def PySem.W.Fast.tw906305925505576834:Nat:=0
def PySem.W.Fast.tw11322394478325695544:Nat:=0
def PySem.W.Fast.tw4750147699808455475:Nat:=0
def PySem.W.Fast.tw4997696703429055862:Nat:=0
def PySem.W.Fast.tw9905617044023232542:Nat:=0
def PySem.W.Fast.tw1230559007911518029:Nat:=0
def PySem.W.Fast.tw6483601999247446391:Nat:=0
def PySem.W.Fast.tw9154050254233455222:Nat:=0
def PySem.W.Fast.tw16277375763373728054:Nat:=0
def PySem.W.Fast.tw5922965462286781499:Nat:=0
def PySem.W.Fast.tw5554792367503452800:Nat:=0
def PySem.W.Fast.tw18208673413951685795:Nat:=0
def PySem.W.Fast.tw7824225504082884997:Nat:=0
def PySem.W.Fast.tw8078350854153905442:Nat:=0
def PySem.W.Fast.tw11328605310024578058:Nat:=0
def PySem.W.Fast.tw14387728840894007857:Nat:=0
def PySem.W.Fast.tw17140796387449530910:Nat:=0
def PySem.W.Fast.tw3009099598881183566:Nat:=0
def PySem.W.Fast.tw17053022506954724078:Nat:=0
def PySem.W.Fast.tw9094370755891045088:Nat:=0
def PySem.W.Fast.tw10597118624960304862:Nat:=0
def PySem.W.Fast.tw18005727645501069539:Nat:=0
def PySem.W.Fast.tw12268546173223110772:Nat:=0
def PySem.W.Fast.tw11510608829018657693:Nat:=0
set_option maxRecDepth 100000 in
set_option maxHeartbeats 0 in
open_top hd_top for PySem.Challenge.rw_goodenough_k57_first_lines_refused
namespace L2
open PySem PySem.Spec PyProof.Rows
abbrev Key:=Sum Int Str
def zmh:Key→Value→Bool
 | .inl k,v=>Value.isInt k v
 | .inr x,v=>Value.isStrOf x v
def keyH (w:World):Key→Int
 | .inl k=>hashInt k
 | .inr x=>hashStr w x
theorem zb6:∀ {k:Key} {v:Value},zmh k v=true→(∃i t,k=Sum.inl i∧v=Value.int i t)∨(∃x t,k=Sum.inr x∧v=Value.str x t)
 | .inl i,v,h=>by
  obtain⟨t,e⟩:=Value.isInt_shape h
  simp_all
 | .inr x,v,h=>by
  obtain⟨t,e⟩:=Value.isStrOf_shape h
  simp_all
theorem zmP (i:Int) (t:Tok):zmh (.inl i) (.int i t)=true:=by simp[zmh,Value.isInt]
theorem zm4 (x:Str) (t:Tok):zmh (.inr x) (.str x t)=true:=by simp[zmh,Value.isStrOf]
theorem zrG (a b:Int):decide ((Sum.inl a:Key)=Sum.inl b)=(a == b):=by
 by_cases e:a=b
 ·simp_all
 ·have h:¬ (Sum.inl a:Key)=Sum.inl b:=fun q=>e (Sum.inl.inj q)
  rw[decide_eq_false h]
  exact (beq_eq_false_iff_ne.mpr e).symm
theorem zrV (a b:Str):decide ((Sum.inr a:Key)=Sum.inr b)=decide (a=b):=by
 simp
theorem zsA (a:Int) (b:Str):decide ((Sum.inl a:Key)=Sum.inr b)=false:=decide_eq_false (fun q=>nomatch q)
theorem zsm (a:Str) (b:Int):decide ((Sum.inr a:Key)=Sum.inl b)=false:=decide_eq_false (fun q=>nomatch q)
def zdc (prog:Program) (w:World):PySem.KeyKind prog w Key where
 is:=zmh
 hash:=keyH w
 inj:=fun v a b ha hb=>by
  rcases zb6 ha with ⟨i,t,rfl,rfl⟩|⟨x,t,rfl,rfl⟩
  ·rcases zb6 hb with ⟨j,u,rfl,e⟩|⟨y,u,rfl,e⟩
   ·injection e with e1 _;rw[e1]
   ·exact nomatch e
  ·rcases zb6 hb with ⟨j,u,rfl,e⟩|⟨y,u,rfl,e⟩
   ·exact nomatch e
   ·injection e with e1 _;rw[e1]
 byValue:=fun k v h=>by
  rcases zb6 h with ⟨i,t,rfl,rfl⟩|⟨x,t,rfl,rfl⟩ <;> rfl
 pyHash:=fun hv h=>by
  rcases zb6 hv with ⟨i,t,rfl,rfl⟩|⟨x,t,rfl,rfl⟩
  ·exact wpAny_pyHash_int h
  ·exact wpAny_pyHash_str h
 eqBool:=fun hu hv h=>by
  rcases zb6 hu with ⟨i,t,rfl,rfl⟩|⟨x,t,rfl,rfl⟩
  ·rcases zb6 hv with ⟨j,u,rfl,rfl⟩|⟨y,u,rfl,rfl⟩
   ·rw[zrG] at h;exact wpAny_eqBool_int h
   ·rw[zsA] at h;exact SeqAt.EqAt.int_str i t y u _ _ _ _ h
  ·rcases zb6 hv with ⟨j,u,rfl,rfl⟩|⟨y,u,rfl,rfl⟩
   ·rw[zsm] at h;exact SeqAt.EqAt.str_int x t j u _ _ _ _ h
   ·rw[zrV] at h;exact wpAny_eqBool_str h
 «strs»:=fun k x t v h=>by
  rcases zb6 h with ⟨i,u,rfl,e⟩|⟨y,u,rfl,e⟩
  ·exact nomatch e
  ·injection e with e1 _
   subst e1
   cases v <;> rfl
theorem zkC (prog:Program) (w:World) (i:Int) (t:Tok):(zdc prog w).is (.inl i) (.int i t)=true:=zmP i t
theorem zkB (prog:Program) (w:World) (x:Str) (t:Tok):(zdc prog w).is (.inr x) (.str x t)=true:=zm4 x t
inductive V where
 | non|bl (b:Bool)|int (i:Int)|str (x:Str)|byt (b:Array UInt8)|flt (b:UInt64)|ref (a:Addr)|ty (n:String)
 deriving DecidableEq
def RelV:V→Value→Prop
 | .non,u=>u=Value.none
 | .bl b,u=>u=Value.bool b
 | .int i,u=>∃t,u=Value.int i t
 | .str x,u=>∃t,u=Value.str x t
 | .byt b,u=>∃t,u=Value.bytes b t
 | .flt b,u=>∃t,u=Value.float b t
 | .ref a,u=>u=Value.ref a
 | .ty n,u=>u=Value.type n
abbrev Vals:List V→List Value→Prop:=Paired RelV
theorem Vals.length {xs:List V} {us:List Value} (r:Vals xs us):xs.length=us.length:=Paired.length r
theorem Vals.get:∀ {xs:List V} {us:List Value} {i:Nat} {x:V},Vals xs us→xs[i]?=some x→∃u,us[i]?=some u∧RelV x u
 | _,_,_,_,.nil,e=>by simp at e
 | _,_,0,_,.cons r _,e=>by simp_all
 | _,_,i+1,x,.cons _ t,e=>by
  obtain⟨u,h1,h2⟩:=Vals.get (i:=i) (x:=x) t (by simp_all)
  simp_all
theorem Vals.set {x:V} {u:Value} (r:RelV x u):∀ {xs:List V} {us:List Value} (i:Nat),Vals xs us→Vals (xs.set i x) (us.set i u)
 | _,_,_,.nil=>.nil
 | _,_,0,.cons _ t=>.cons r t
 | _,_,i+1,.cons q t=>.cons q (Vals.set r i t)
theorem Vals.append:∀ {xs ys:List V} {us ws:List Value},Vals xs us→Vals ys ws→Vals (xs++ys) (us++ws)
 | _,_,_,_,.nil,s=>s
 | _,_,_,_,.cons r t,s=>.cons r (Vals.append t s)
theorem Vals.take:∀ {xs:List V} {us:List Value} (n:Nat),Vals xs us→Vals (xs.take n) (us.take n)
 | _,_,0,_=>.nil
 | _,_,_+1,.nil=>.nil
 | _,_,n+1,.cons r t=>.cons r (Vals.take n t)
theorem Vals.drop:∀ {xs:List V} {us:List Value} (n:Nat),Vals xs us→Vals (xs.drop n) (us.drop n)
 | _,_,0,r=>r
 | _,_,_+1,.nil=>.nil
 | _,_,n+1,.cons _ t=>Vals.drop n t
def RelO:Option V→Option Value→Prop
 | some v,some u=>RelV v u
 | none,none=>True
 | _,_=>False
def KV {κ:Type}:List (κ×V)→List (κ×Value)→Prop:=Paired fun (p:κ×V) (q:κ×Value)=>p.1=q.1∧RelV p.2 q.2
def kV:Key→V
 | .inl i=>.int i
 | .inr x=>.str x
inductive HO where
 | lst (xs:List V)
 | tup (xs:List V)
 | dK (kvs:List (Key×V))|dT (kvs:List (List Key×V))
 | set (S:Int→Bool) (n:Nat)
 | ins (C dx:Addr) (fs:List (Str×V))
 | own (x:Addr)
 | xd (fs:List (Str×V))
 | met (f x:Addr)
 | rng (lo hi:Int)
 | frz (o:Obj) (u:HO)
 | tbl (ps:Array Value)
 | ext (φ:Heap→Prop)
abbrev Hp:=Addr→Option HO
def upd (H:Hp) (a:Addr) (o:HO):Hp:=fun b=>if b=a then some o else H b
theorem zaB {H:Hp} {a:Addr} {o:HO}:upd H a o a=some o:=by unfold upd;simp
theorem zaz {H:Hp} {a b:Addr} {o:HO} (h:b≠a):upd H a o b=H b:=by unfold upd;simp_all
theorem zsS {H:Hp} {a b:Addr} {o u:HO} (h:H a=some o) (h':H b=some u) (d:o≠u):a≠b:=by
 intro e;simp_all
theorem zaW {H:Hp} {a b:Addr} {o:HO} (h:H a=some o) (h':H b=none):a≠b:=by
 intro e;simp_all
def zrC (fd:FuncData):Option Pos:=
 match fd.body with
 | .stmts [.Return (some (.Call _ _ [⟨_,.Lambda _ _ _ pos,_⟩] _)) _]=>some pos
 | _=>none
def zsJ (K:PySem.W.Frag) (v:Value):Option Addr:=
 match v with
 | .ref c=>match K.lookup c with
  | some o=>match o.data with
   | .fields vs=>match (vs[11]?:Option Value) with
    | some (.ref P)=>some P
    | _=>none
   | _=>none
  | _=>none
 | _=>none
def tabOf (K:PySem.W.Frag):Option (Addr×Array Value):=
 K.findSome? fun p=>match p.2.data with
  | .func fd=>match zrC fd with
   | some pos=>(zsJ K fd.code).map fun P=>(P,#[.str (fd.qualname++".<locals>."++"<lambda>") 0,rawInt pos.line,rawInt pos.col])
   | none=>none
  | _=>none
def TblOk (H:Hp) (h:Heap) (a:Addr) (ps:Array Value):Prop:=
 ∃(q:Str) (t:Tok) (ln cl:Int) (more:List Value) (real:Array Value),ps.toList=.str q t::rawInt ln::rawInt cl::more∧h.get? a=some { cls:=.none,data:=.fields real } ∧
  (real = #[]∨∃(c:Addr) (o:Obj) (vs:Array Value) (u:Tok),real = #[rawInt ln,rawInt cl,.ref c]∧H c=some (.own a)∧h.get? c=some o∧o.data=.fields vs∧vs[1]?=some (.str q u))
theorem TblOk.lt {H:Hp} {h:Heap} {a:Addr} {ps:Array Value} (x:TblOk H h a ps):a<h.objs.size:=let ⟨_,_,_,_,_,_,_,e,_⟩:=x;Heap.lt_size e
theorem TblOk.stay {H H':Hp} {h h':Heap} {a:Addr} {ps:Array Value} (x:TblOk H h a ps) (k:∀b u,(b=a∨H b=some (.own a))→h.get? b=some u→h'.get? b=some u)
  (ho:∀b,H b=some (.own a)→H' b=some (.own a)):TblOk H' h' a ps:=by
 obtain⟨q,t,ln,cl,more,real,e1,e2,e3⟩:=x
 refine⟨q,t,_,_,_,_,e1,k _ _ (.inl rfl) e2,?_⟩
 rcases e3 with e3|⟨c,o,vs,u,r1,r2,r3,r4⟩
 ·simp_all
 ·exact .inr ⟨c,o,_,u,r1,ho _ r2,k _ _ (.inr r2) r3,r4⟩
def TbAt (K:PySem.W.Frag) (H:Hp):Prop:=∀t,tabOf K=some t→∃more,H t.1=some (.tbl (t.2++more))
theorem TbAt.grown {K:PySem.W.Frag} {H H':Hp} (x:TbAt K H) (g:∀b ps,H b=some (.tbl ps)→∃more,H' b=some (.tbl (ps++more))):TbAt K H':=fun t e=>by
 obtain⟨m1,e1⟩:=x t e
 obtain⟨m2,e2⟩:=g _ _ e1
 exact⟨m1++m2,by simp_all⟩
section
variable (P:Program) (w:World)
def ObjOk (H:Hp) (h:Heap) (a:Addr):HO→Prop
 | .lst xs=>xs.length≤sizeLine∧∃(its:List Value) (n:Nat),Vals xs its∧h.get? a=some { cls:=.type "list",data:=.seq its.toArray n }
 | .tup xs=>xs.length≤sizeLine∧∃its:List Value,Vals xs its∧IsTup h a its.toArray
 | .dK kvs=>kvs.length≤sizeLine∧(a == sysModules)=false∧∃vs,KV kvs vs∧h.DictOf (zdc P w) a vs
 | .dT kvs=>kvs.length≤sizeLine∧(a == sysModules)=false∧∃xs:List (List Key×Addr×Value),
   Paired (fun (p:List Key×V) (q:List Key×Addr×Value)=>p.1=q.1∧H q.2.1=some (.tup (p.1.map kV))∧RelV p.2 q.2.2) kvs xs ∧
   ∃o es ep,h.get? a=some o∧o.ExactDict∧o.data=.dict es ep∧es.toList=xs.map (entryOfKey (tupleKind (zdc P w)))∧(xs.map (·.1)).Nodup
 | .set S n=>h.SetOf (intKind P w) a S n
 | .ins C dx fs=>H dx=some (.own a)∧fs.length≤1000∧dx≠a∧h.get? a=some (PySem.W.instObj C dx) ∧
   ∃mA,h.Ns1 dx mA∧(∀f,RelO (fs.lookup f) (mA f))∧PySem.Within mA (fs.map (·.1))
 | .own _=>∃o,h.get? a=some o
 | .xd fs=>∃mA,h.Ns1 a mA∧∀f,RelO (fs.lookup f) (mA f)
 | .rng lo hi=>∃t u v,h.get? a=some { cls:=.type "range",data:=.fields #[.int lo t,.int hi u,.int 1 v] }
 | .frz o u=>h.get? a=some o∧ObjOk H h a u
 | .tbl ps=>TblOk H h a ps
 | .met f x=>h.get? a=some (PySem.W.methodObj (.ref f) (.ref x))
 | .ext φ=>φ h∧(∃o,h.get? a=some o)∧∀h1 h2:Heap,φ h1→(∀o,h1.get? a=some o→h2.get? a=some o)→φ h2
def HOk (H:Hp) (h:Heap):Prop:=∀a o,H a=some o→ObjOk P w H h a o
end
section
variable {P:Program} {w:World} {H H':Hp} {h h':Heap} {a:Addr} {o:HO}
theorem ObjOk.lt (x:ObjOk P w H h a o):a<h.objs.size:=by
 cases o with
 | lst xs=>obtain⟨_,_,_,_,e⟩:=x;exact Heap.lt_size e
 | tup xs=>obtain⟨_,_,_,p⟩:=x;exact p.lt
 | dK kvs=>obtain⟨_,_,_,_,o,_,_,e,_⟩:=x;exact Heap.lt_size e
 | dT kvs=>obtain⟨_,_,_,_,o,_,_,e,_⟩:=x;exact Heap.lt_size e
 | set S n=>obtain⟨o,_,_,_,e,_⟩:=x;exact Heap.lt_size e
 | ins C dx fs=>obtain⟨_,_,_,e,_⟩:=x;exact Heap.lt_size e
 | own y=>obtain⟨_,e⟩:=x;exact Heap.lt_size e
 | xd fs=>obtain⟨_,⟨_,_,_,e,_⟩,_⟩:=x;exact Heap.lt_size e
 | rng lo hi=>obtain⟨_,_,_,e⟩:=x;exact Heap.lt_size e
 | frz ob u=>obtain⟨e,_⟩:=x;exact Heap.lt_size e
 | tbl ps=>exact TblOk.lt x
 | met f y=>exact Heap.lt_size x
 | ext φ=>obtain⟨_,⟨_,e⟩,_⟩:=x;exact Heap.lt_size e
theorem Paired.mapP {α β:Type} {F G:α→β→Prop}:∀ {l₁:List α} {l₂:List β},Paired F l₁ l₂→(∀a b,F a b→G a b)→Paired G l₁ l₂
 | _,_,.nil,_=>.nil
 | _,_,.cons r t,f=>.cons (f _ _ r) (Paired.mapP t f)
theorem ObjOk.stay (x:ObjOk P w H h a o) (k:∀b u,(b=a∨H b=some (.own a))→h.get? b=some u→h'.get? b=some u)
  (ho:∀b,H b=some (.own a)→H' b=some (.own a)) (ht:∀b xs,H b=some (.tup xs)→H' b=some (.tup xs)):ObjOk P w H' h' a o:=by
 induction o with
 | lst xs=>obtain⟨z,its,n,r,e⟩:=x;exact⟨z,_,n,r,k _ _ (.inl rfl) e⟩
 | tup xs=>obtain⟨z,its,r,ob,e,c⟩:=x;exact⟨z,_,r,_,k _ _ (.inl rfl) e,c⟩
 | dK kvs=>obtain⟨z,y,vs,r,ob,es,ep,e,c⟩:=x;exact⟨z,y,_,r,_,_,_,k _ _ (.inl rfl) e,c⟩
 | dT kvs=>
  obtain⟨z,y,xs,r,ob,es,ep,e,c⟩:=x
  exact⟨z,y,_,Paired.mapP r fun p q z=>⟨z.1,ht _ _ z.2.1,z.2.2⟩,_,_,_,k _ _ (.inl rfl) e,c⟩
 | set S n=>obtain⟨ob,es,ep,t,e,c⟩:=x;exact⟨_,_,_,t,k _ _ (.inl rfl) e,c⟩
 | ins C dx fs=>
  obtain⟨d,z,ne,e,mA,⟨od,es,ep,e2,c⟩,r⟩:=x
  exact⟨ho _ d,z,ne,k _ _ (.inl rfl) e,_,⟨_,_,_,k _ _ (.inr d) e2,c⟩,r⟩
 | own y=>obtain⟨ob,e⟩:=x;exact⟨_,k _ _ (.inl rfl) e⟩
 | xd fs=>obtain⟨mA,⟨od,es,ep,e,c⟩,r⟩:=x;exact⟨_,⟨_,_,_,k _ _ (.inl rfl) e,c⟩,r⟩
 | rng lo hi=>obtain⟨t,u,v,e⟩:=x;exact⟨t,u,v,k _ _ (.inl rfl) e⟩
 | frz ob u ih=>obtain⟨e,q⟩:=x;exact⟨k _ _ (.inl rfl) e,ih q⟩
 | tbl ps=>exact TblOk.stay x k ho
 | met f y=>
  have e:h.get? a=some _:=x
  show h'.get? a=some _
  simp_all
 | ext φ=>obtain⟨p,⟨o,e⟩,st⟩:=x;exact⟨st _ _ p fun o q=>k _ _ (.inl rfl) q,⟨o,k _ _ (.inl rfl) e⟩,st⟩
theorem HOk.lt (x:HOk P w H h) (e:H a=some o):a<h.objs.size:=(x a o e).lt
theorem HOk.fresh (x:HOk P w H h) (e:h.objs.size≤a):H a=none:=by
 cases q:H a with
 | none=>rfl
 | some u=>exact absurd (Nat.lt_of_lt_of_le (x.lt q) e) (Nat.lt_irrefl _)
theorem HOk.kept (x:HOk P w H h) (k:∀b u,h.get? b=some u→h'.get? b=some u):HOk P w H h':=fun a o e=>
 (x a o e).stay (fun b u _ q=>k b u q) (fun _ q=>q) fun _ _ q=>q
theorem HOk.laid (x:HOk P w H h) (k:∀b u,h.get? b=some u→h'.get? b=some u) (hp:h.objs.size≤a) (new:ObjOk P w (upd H a o) h' a o):HOk P w (upd H a o) h':=fun b u e=>by
 have hn:=x.fresh hp
 by_cases hb:b=a
 ·subst hb;rw[zaB] at e;simp_all
 ·rw[zaz hb] at e
  exact (x b u e).stay (fun c v _ q=>k c v q) (fun c q=>by rwa [zaz (zaW q hn)]) fun c xs q=>by rwa [zaz (zaW q hn)]
end
def Rd (H:Hp) (a:Addr) (u:HO):Prop:=H a=some u∨∃o,H a=some (.frz o u)
theorem Rd.ok {P:Program} {w:World} {H:Hp} {h:Heap} {a:Addr} {u:HO} (r:Rd H a u) (x:HOk P w H h):ObjOk P w H h a u:=by
 rcases r with r|⟨o,r⟩
 ·exact x a u r
 ·obtain⟨_,q⟩:=x a _ r
  exact q
def Mut:Option HO→Prop
 | some (.lst _)=>True
 | some (.dK _)=>True
 | some (.dT _)=>True
 | some (.set _ _)=>True
 | some (.ins _ _ _)=>True
 | some (.ext _)=>True
 | _=>False
section
variable {P:Program} {w:World} {H:Hp} {h h':Heap} {x e:Addr} {o':HO}
theorem HOk.write (ok:HOk P w H h) (mu:Mut (H x)) (he:e=x∨H e=some (.own x)) (k:∀b u,b≠e→h.get? b=some u→h'.get? b=some u) (heo:∃u,h'.get? e=some u)
  (new:ObjOk P w (upd H x o') h' x o'):HOk P w (upd H x o') h':=fun b u q=>by
 have nown:∀c y,H c=some (.own y)→c≠x:=fun c y r z=>by subst z;rwa [r] at mu
 have ntup:∀c xs,H c=some (.tup xs)→c≠x:=fun c xs r z=>by subst z;rwa [r] at mu
 by_cases hb:b=x
 ·subst hb;rw[zaB] at q;grind
 ·rw[zaz hb] at q
  by_cases hbe:b=e
  ·have q':H b=some (.own x):=by
    rcases he with z|z
    ·grind
    grind
   rw[q] at q';cases q'
   obtain⟨v,hv⟩:=heo
   exact⟨v,by rwa [hbe]⟩
  ·refine (ok b u q).stay (fun c v hc r=>k c v ?_ r) (fun c r=>by rwa [zaz (nown c b r)]) fun c xs r=>by rwa [zaz (ntup c _ r)]
   rcases hc with rfl|hc
   ·exact hbe
   ·rintro rfl
    rcases he with z|z
    ·exact nown c b hc z
    ·rw[hc] at z;cases z;exact hb rfl
end
structure Un (fs ex:List Addr) (H H':Hp) (h h':Heap):Prop where
 keep:∀b o,h.get? b=some o→H b=none→b∉fs→b∉ex→h'.get? b=some o
 slot:∀b o,h.get? b=some o→H b=none→b∈fs→b∉ex→∃sl,h'.get? b=some { o with slots:=sl }
 free:∀b o,h.get? b=some o→H b=none→b∉ex→H' b=none
 there:∀b o,h.get? b=some o→b∉ex→∃o',h'.get? b=some o'
 tups:∀b xs,H b=some (.tup xs)→H' b=some (.tup xs)
 frzs:∀b o u,H b=some (.frz o u)→H' b=some (.frz o u)
 tbls:∀b ps,H b=some (.tbl ps)→∃more,H' b=some (.tbl (ps++more))
section
variable {fs fs' ex ex':List Addr} {H H1 H2:Hp} {h h1 h2 h':Heap} {a x e:Addr} {o:HO}
theorem Un.any (u:Un fs ex H H1 h h1) {b:Addr} {ob:Obj} (q:h.get? b=some ob) (n:H b=none) (hx:b∉ex):∃sl,h1.get? b=some { ob with slots:=sl }:=by
 by_cases hb:b∈fs
 ·exact u.slot b _ q n hb hx
 ·exact⟨_,u.keep b _ q n hb hx⟩
theorem Un.kept (k:∀b u,h.get? b=some u→h'.get? b=some u):Un fs ex H H h h':=
 ⟨fun b ob q _ _ _=>k b _ q,fun b ob q _ _ _=>⟨_,k b _ q⟩,fun _ _ _ n _=>n,fun b ob q _=>⟨_,k b _ q⟩,fun _ _ q=>q,fun _ _ _ q=>q,fun _ ps q=>⟨#[],by simp_all⟩⟩
theorem Un.refl:Un fs ex H H h h:=Un.kept fun _ _ q=>q
theorem Un.laid (k:∀b u,h.get? b=some u→h'.get? b=some u) (hp:h.objs.size≤a) (hn:H a=none):Un fs ex H (upd H a o) h h' where
 keep:=fun b u q _ _ _=>k b u q
 slot:=fun b u q _ _ _=>⟨_,k b u q⟩
 free:=fun b u q n _=>by rwa [zaz (Nat.ne_of_lt (Nat.lt_of_lt_of_le (Heap.lt_size q) hp))]
 there:=fun b u q _=>⟨u,k b u q⟩
 tups:=fun b xs q=>by rwa [zaz (zaW q hn)]
 frzs:=fun b u xs q=>by rwa [zaz (zaW q hn)]
 tbls:=fun b ps q=>⟨#[],by rw[zaz (zaW q hn),q];simp⟩
theorem Un.write (mu:Mut (H x)) (he:e=x∨H e=some (.own x)) (k:∀b u,b≠e→h.get? b=some u→h'.get? b=some u) (heo:∃u,h'.get? e=some u):Un fs ex H (upd H x o) h h':=by
 have hx:∀b,H b=none→b≠x:=fun b n z=>by subst z;rwa [n] at mu
 have hb:∀b,H b=none→b≠e:=fun b n z=>by
  simp_all
 have hm:∀b u,H b=some u→¬ Mut (some u)→b≠x:=fun b u q nm z=>by subst z;rw[q] at mu;exact nm mu
 refine⟨fun b u q n _ _=>k b u (hb b n) q,fun b u q n _ _=>⟨_,k b u (hb b n) q⟩,fun b u q n _=>by rwa [zaz (hx b n)],fun b u q _=>?_,
  fun b xs q=>by rwa [zaz (hm b _ q fun z=>z)],fun b u xs q=>by rwa [zaz (hm b _ q fun z=>z)],fun b ps q=>⟨#[],by rw[zaz (hm b _ q fun z=>z),q];simp⟩⟩
 by_cases hbe:b=e
 ·subst hbe;exact heo
 ·exact⟨u,k b u hbe q⟩
theorem Un.mono (u:Un fs ex H H1 h h1) (hs:∀b∈fs,b∈fs') (hx:∀b∈ex,b∈ex'):Un fs' ex' H H1 h h1:=
 ⟨fun b ob q n hb he=>u.keep b _ q n (fun z=>hb (hs b z)) fun z=>he (hx b z),fun _ _ q n _ he=>u.any q n fun z=>he (hx _ z),fun b ob q n he=>u.free b _ q n fun z=>he (hx b z),fun b ob q he=>u.there b _ q fun z=>he (hx b z),u.tups,u.frzs,u.tbls⟩
end
def trk (h:Heap) (H:Hp):List Addr:=(List.range h.objs.size).filter fun a=>(H a).isSome
def hidT (h:Heap) (H:Hp):Heap:=PySem.W.hideAll h (trk h H)
theorem znl (h:Heap) (H:Hp):(hidT h H).objs.size=h.objs.size:=PySem.W.hideAll_size _ _
theorem zim {h:Heap} {H:Hp} {b:Addr} {o:Obj} (e:h.get? b=some o) (n:H b=none):(hidT h H).get? b=some o:=
 PySem.W.hideAll_get _ e fun hm=>by
  have q:=(List.mem_filter.mp hm).2
  simp_all
theorem zqx {h:Heap} {H:Hp} {b:Addr} {o:Obj} (e:(hidT h H).get? b=some o):h.get? b=some o∧H b=none:=by
 have e':=PySem.W.of_hideAll _ e
 refine⟨e',?_⟩
 cases q:H b with
 | none=>rfl
 | some x=>
  have hm:b∈trk h H:=List.mem_filter.mpr ⟨List.mem_range.mpr (Heap.lt_size e'),by simp[q]⟩
  have z:(hidT h H).get? b=none:=PySem.W.hideAll_none _ hm
  simp_all
def zqg (g h:Heap) (L:Addr):List (Addr×Obj):=(List.range h.objs.size).filterMap fun a=>if a=L∨(g.get? a).isSome=true then none else (h.get? a).map fun o=>(a,o)
def rest (g h:Heap) (L d:Addr):List (Addr×Obj):=(zqg g h L).filter fun p=>decide (p.1≠d)
structure Mod (K:PySem.W.Frag) (mg:Str→Option Value) (base:Heap):Prop where
 kin:K.In base
 glob:base.Ns mainGlobals mg
 blt:∃mb,base.Ns builtinsNs mb∧∀x:Str,x≠"__name__"→mb x=bootBuiltins x
 nolimit:base.NoLimit
structure Cx where
 prog:Program
 w:World
 K:PySem.W.Frag
 mg:Str→Option Value
 base:Heap
 A:Around
 N:List Str
 s₀:Shared
 H₀:Hp
 env:Env
 outer:List Env
 stack:List Env
 ex:List Addr
 fn:Str→Bool
 calm:Bool
 pn:List (Addr×Obj)
 xe:Value→Shared→Prop
def frs (l:List Env):List Addr:=l.filterMap (·.frame)
abbrev Cx.fs (X:Cx):List Addr:=frs X.outer
def Vis (sc:Scope) (x:Str):Prop:=sc.names.lookup x=some .local∨sc.names.lookup x=some .cell∨sc.names.lookup x=some .free
def Loc (sc:Scope) (x:Str):Prop:=sc.names.lookup x=some .local∨sc.names.lookup x=some .cell
def Look (env:Env) (h:Heap) (m:Str→Option Value) (x:Str) (u:Value):Prop:=
 (env.kindOf x=some .local∧m x=some u)∨((env.kindOf x=some .cell∨env.kindOf x=some .free)∧∃c,env.cells.lookup x=some c∧h.IsCell c (some u))
structure Cx.Ok (X:Cx):Prop where
 mod:Mod X.K X.mg X.base
 kind:X.env.scope.kind=.function
 glob:X.env.globals=mainGlobals
 blt:X.env.builtins=builtinsNs
 above:X.s₀.heap.objs.size≤X.env.locals
 inj:∀x y c,X.env.cells.lookup x=some c→X.env.cells.lookup y=some c→x=y
 has:∀x,(X.env.kindOf x=some .cell∨X.env.kindOf x=some .free)→∃c,X.env.cells.lookup x=some c
 cab:∀x c,X.fn x=true→X.env.cells.lookup x=some c→X.s₀.heap.objs.size≤c
 hd:X.calm=true→X.A.handled=none
 frames:X.A.frames=some X.stack
 stk:X.stack=X.outer∨(X.stack=X.env::X.outer∧X.env.frame=some X.env.locals)
 exf:∀b∈X.ex,b≠X.env.locals∧∀x c,X.env.cells.lookup x=some c→c≠b
 bs:∀b o,X.base.get? b=some o→X.s₀.heap.get? b=some o∧X.H₀ b=none
 bsz:X.base.objs.size≤X.s₀.heap.objs.size
 noex:∀b o,X.base.get? b=some o→b∉X.ex
 exfs:∀b∈X.ex,b∉X.fs
 funs:X.s₀.heap.FunFrames X.base X.outer
 frf:∀b∈X.fs,X.H₀ b=none
 tb:TbAt X.K X.H₀
structure Inv (X:Cx) (pins:List (Addr×Obj)) (σ:List (Option V)) (H:Hp) (s:Shared):Prop where
 ok:X.Ok
 os:s.os=X.s₀.os
 bare:AllBare s.gens
 base:Un X.fs X.ex X.H₀ H X.s₀.heap s.heap
 loc:∃m,s.heap.Ns X.env.locals m∧∀(i:Nat) (x:Str) (v:V),X.N[i]?=some x→σ[i]?=some (some v)→Vis X.env.scope x→∃u,RelV v u∧Look X.env s.heap m x u
 cell:∀x c,X.env.cells.lookup x=some c→∃v,s.heap.IsCell c v
 free:H X.env.locals=none
 freeC:∀x c,X.env.cells.lookup x=some c→H c=none
 pin:∀p∈X.pn++pins,s.heap.get? p.1=some p.2∧H p.1=none∧p.1≠X.env.locals∧p.1∉X.fs∧∀v,p.2.data≠.cell v
 hok:HOk X.prog X.w H s.heap
 len:σ.length=X.N.length
section
variable {X:Cx} {pins:List (Addr×Obj)} {σ:List (Option V)} {H H':Hp} {s:Shared} {h':Heap}
theorem Cx.Ok.nofr (ok:X.Ok) {b:Addr} {o:Obj} (e:X.base.get? b=some o):b∉X.fs:=fun hb=>by
 have:=(ok.funs.mem hb).1
 simp_all
theorem Inv.bs (I:Inv X pins σ H s):∀b o,X.base.get? b=some o→s.heap.get? b=some o∧H b=none:=fun b o e=>
 ⟨I.base.keep b o (I.ok.bs b o e).1 (I.ok.bs b o e).2 (I.ok.nofr e) (I.ok.noex b o e),I.base.free b o (I.ok.bs b o e).1 (I.ok.bs b o e).2 (I.ok.noex b o e)⟩
theorem Inv.bk (I:Inv X pins σ H s):∀b o,X.base.get? b=some o→s.heap.get? b=some o:=fun b o e=>(I.bs b o e).1
theorem Inv.mod (I:Inv X pins σ H s):Mod X.K X.mg X.base:=I.ok.mod
theorem Inv.kIn (I:Inv X pins σ H s):X.K.In s.heap:=I.ok.mod.kin.keeps I.bk
theorem Inv.fr (I:Inv X pins σ H s):∃m,Fr X.base X.env.locals s.heap m:=
 let ⟨m,hn,_⟩:=I.loc
 ⟨m,hn,I.bk,Nat.le_trans I.ok.bsz I.ok.above⟩
theorem Inv.lt (I:Inv X pins σ H s):X.env.locals<s.heap.objs.size:=let ⟨_,hn,_⟩:=I.loc;hn.lt
theorem Inv.sz (I:Inv X pins σ H s):X.s₀.heap.objs.size≤s.heap.objs.size:=Nat.le_trans I.ok.above (Nat.le_of_lt I.lt)
theorem Inv.nofs (I:Inv X pins σ H s) {a:Addr} (h:s.heap.objs.size≤a):a∉X.fs:=fun hb=>let ⟨_,o,ho,_⟩:=I.ok.funs.mem hb;absurd (Nat.lt_of_lt_of_le (Heap.lt_size ho) (Nat.le_trans I.sz h)) (Nat.lt_irrefl _)
theorem Inv.cne (I:Inv X pins σ H s):∀x c,X.env.cells.lookup x=some c→c≠X.env.locals:=fun x c e z=>by
 obtain⟨v,o,ho,hd⟩:=I.cell x c e
 obtain⟨m,⟨o',es,ep,ho',hd',_⟩,_⟩:=I.loc
 simp_all
theorem Inv.funs (I:Inv X pins σ H s):s.heap.FunFrames X.base X.outer:=by
 have all:∀(l:List _),(∀b∈frs l,b∈X.fs)→X.s₀.heap.FunFrames X.base l→s.heap.FunFrames X.base l:=by
  intro l
  induction l with
  | nil=>intro _ _;trivial
  | cons env r ih=>
   rintro hs ⟨hk,⟨L,o,hf,hn,ho,hd⟩,hr⟩
   have hL:=hs L (by unfold frs;rw[List.filterMap_cons,hf];simp)
   obtain⟨sl,e⟩:=I.base.slot L o ho (I.ok.frf L hL) hL fun z=>I.ok.exfs L z hL
   exact⟨hk,⟨L,_,hf,hn,e,hd⟩,ih (fun b hb=>hs b (by unfold frs;rw[List.filterMap_cons,hf];exact List.mem_cons_of_mem _ hb)) hr⟩
 exact all _ (fun _ hb=>hb) I.ok.funs
theorem Inv.stack (I:Inv X pins σ H s):s.heap.FunFrames X.base X.stack:=by
 rcases I.ok.stk with e|⟨e,hf⟩
 ·rw[e];exact I.funs
 ·rw[e]
  obtain⟨m,hn,_⟩:=I.loc
  exact .cons (by rw[I.ok.kind];decide) hf hn (Heap.get?_none_of_le (Nat.le_trans I.ok.bsz I.ok.above)) I.funs
theorem Inv.stkSub (I:Inv X pins σ H s):∀b∈frs X.stack,b∈X.env.locals::X.fs:=fun b hb=>by
 rcases I.ok.stk with e|⟨e,hf⟩
 ·simp_all
 ·rw[e] at hb
  unfold frs at hb
  rwa [List.filterMap_cons,hf] at hb
theorem Inv.stkFree (I:Inv X pins σ H s):∀b∈frs X.stack,H b=none:=fun b hb=>by
 rcases List.mem_cons.mp (I.stkSub b hb) with e|hb
 ·rw[e];exact I.free
 ·obtain⟨_,o,ho,_⟩:=I.ok.funs.mem hb
  exact I.base.free b o ho (I.ok.frf b hb) fun z=>I.ok.exfs b z hb
theorem Inv.step {g':Array GenState} {t':Nat} {d':Drawn} {ch:List Addr} (I:Inv X pins σ H s)
  (hch:∀b∈ch,(b∈X.ex∨X.s₀.heap.objs.size≤b)∧b≠X.env.locals∧(∀x c,X.env.cells.lookup x=some c→c≠b)∧∀p∈X.pn++pins,p.1≠b)
  (keep:∀b o,b≠X.env.locals→b∉X.fs→b∉ch→s.heap.get? b=some o→H b=none→h'.get? b=some o)
  (slot:∀b o,b≠X.env.locals→b∈X.fs→b∉ch→s.heap.get? b=some o→H b=none→∃sl,h'.get? b=some { o with slots:=sl }) (free:∀b o,b∉ch→s.heap.get? b=some o→H b=none→H' b=none)
  (there:∀b o,b∉ch→s.heap.get? b=some o→∃o',h'.get? b=some o')
  (tups:∀b xs,H b=some (.tup xs)→H' b=some (.tup xs)) (frzs:∀b o u,H b=some (.frz o u)→H' b=some (.frz o u)) (tbls:∀b ps,H b=some (.tbl ps)→∃more,H' b=some (.tbl (ps++more)))
  (ns:∀m,s.heap.Ns X.env.locals m→h'.Ns X.env.locals m) (hok:HOk X.prog X.w H' h') (hg:AllBare g') :
  Inv X pins σ H' { s with heap:=h',gens:=g',drawn:=d',toks:=t' }:=by
 have neL:∀b o,X.s₀.heap.get? b=some o→b≠X.env.locals:=fun b o e=>Nat.ne_of_lt (Nat.lt_of_lt_of_le (Heap.lt_size e) I.ok.above)
 have neC:∀b o,X.s₀.heap.get? b=some o→b∉X.ex→b∉ch:=fun b o e hx hb=>by
  rcases (hch b hb).1 with z|z
  ·exact hx z
  ·exact absurd (Nat.lt_of_lt_of_le (Heap.lt_size e) z) (Nat.lt_irrefl _)
 have cellK:∀x c,X.env.cells.lookup x=some c→∀v,s.heap.IsCell c v→h'.IsCell c v:=fun x c e v ⟨o,ho,hd⟩=>by
  have nch:=fun z=>(hch c z).2.2.1 x c e rfl
  by_cases hc:c∈X.fs
  ·obtain⟨sl,q⟩:=slot c o (I.cne x c e) hc nch ho (I.freeC x c e)
   exact⟨_,q,hd⟩
  ·exact⟨o,keep c o (I.cne x c e) hc nch ho (I.freeC x c e),hd⟩
 refine⟨I.ok,I.os,hg,⟨fun b o e n hb hx=>?_,fun b o e n hb hx=>?_,fun b o e n hx=>?_,fun b o e hx=>?_,fun b xs e=>tups b _ (I.base.tups b _ e),fun b o xs e=>frzs b o _ (I.base.frzs b o _ e),fun b ps e=>?_⟩,?_,fun x c e=>?_,?_,fun x c e=>?_,fun p hp=>?_,hok,I.len⟩
 ·exact keep b o (neL b o e) hb (neC b o e hx) (I.base.keep b o e n hb hx) (I.base.free b o e n hx)
 ·obtain⟨sl,e1⟩:=I.base.slot b o e n hb hx
  obtain⟨sl',e2⟩:=slot b _ (neL b o e) hb (neC b o e hx) e1 (I.base.free b o e n hx)
  exact⟨_,e2⟩
 ·obtain⟨o',e1⟩:=I.base.there b o e hx
  exact free b _ (neC b o e hx) e1 (I.base.free b o e n hx)
 ·obtain⟨o',e1⟩:=I.base.there b o e hx
  exact there b _ (neC b o e hx) e1
 ·obtain⟨m1,e1⟩:=I.base.tbls b _ e
  obtain⟨m2,e2⟩:=tbls b _ e1
  exact⟨_,by rw[e2,Array.append_assoc]⟩
 ·obtain⟨m,hn,hl⟩:=I.loc
  refine⟨m,ns m hn,fun i x v e1 e2 e3=>?_⟩
  obtain⟨u,r,l⟩:=hl i x v e1 e2 e3
  refine⟨u,r,?_⟩
  rcases l with l|⟨k,c,e,z⟩
  ·exact .inl l
  ·exact .inr ⟨k,c,e,cellK x c e _ z⟩
 ·obtain⟨v,z⟩:=I.cell x c e
  exact⟨v,cellK x c e v z⟩
 ·obtain⟨m,⟨o,_,_,ho,_⟩,_⟩:=I.loc
  exact free _ o (fun z=>(hch _ z).2.1 rfl) ho I.free
 ·obtain⟨v,o,ho,hd⟩:=I.cell x c e
  exact free c o (fun z=>(hch c z).2.2.1 x c e rfl) ho (I.freeC x c e)
 ·obtain⟨e,n,ne,nf,d⟩:=I.pin p hp
  have nch:=fun z=>(hch _ z).2.2.2 p hp rfl
  exact⟨keep _ _ ne nf nch e n,free _ _ nch e n,ne,nf,d⟩
theorem Inv.un {t':Nat} (I:Inv X pins σ H s) (u:Un X.fs [] H H' s.heap h') (hok:HOk X.prog X.w H' h'):Inv X pins σ H' { s with heap:=h',toks:=t' }:=by
 obtain⟨m,⟨o,es,ep,ho,r⟩,_⟩:=id I.loc
 obtain⟨sl,hL⟩:=u.any ho I.free (by simp)
 exact I.step (ch:=[]) (fun _ z=>nomatch z) (fun b o _ hb _ e n=>u.keep b o e n hb (by simp)) (fun b o _ hb _ e n=>u.slot b o e n hb (by simp)) (fun b o _ e n=>u.free b o e n (by simp)) (fun b o _ e=>u.there b o e (by simp)) u.tups u.frzs u.tbls (fun m' hm=>by
  obtain⟨o',es',ep',ho',r'⟩:=hm
  rw[ho] at ho';cases ho'
  exact⟨_,_,_,hL,r'⟩) hok I.bare
theorem Inv.call {g':Array GenState} {t':Nat} {d':Drawn} {ch:List Addr} (I:Inv X pins σ H s) (u:Un (frs X.stack) ch H H' s.heap h') (hok:HOk X.prog X.w H' h') (hg:AllBare g')
  (hch:∀b∈ch,(b∈X.ex∨X.s₀.heap.objs.size≤b)∧b≠X.env.locals∧(∀x c,X.env.cells.lookup x=some c→c≠b)∧∀p∈X.pn++pins,p.1≠b) :
  Inv X pins σ H' { s with heap:=h',gens:=g',drawn:=d',toks:=t' }:=by
 obtain⟨m,⟨o,es,ep,ho,r⟩,_⟩:=id I.loc
 obtain⟨sl,hL⟩:=u.any ho I.free fun z=>(hch _ z).2.1 rfl
 exact I.step hch (fun b o hL hb hc e n=>u.keep b o e n (fun z=>(List.mem_cons.mp (I.stkSub b z)).elim hL hb) hc) (fun b o _ _ hc e n=>u.any e n hc) (fun b o hc e n=>u.free b o e n hc) (fun b o hc e=>u.there b o e hc) u.tups u.frzs u.tbls (fun m' hm=>by
  obtain⟨o',es',ep',ho',r'⟩:=hm
  rw[ho] at ho';cases ho'
  exact⟨_,_,_,hL,r'⟩) hok hg
theorem Inv.turned {t':Nat} {it:Addr} (I:Inv X pins σ H s) (k:∀b o,b≠it→s.heap.get? b=some o→h'.get? b=some o) (hn:H it=none) (hL:it≠X.env.locals)
  (h1:it∈X.ex∨X.s₀.heap.objs.size≤it) (h2:∀x c,X.env.cells.lookup x=some c→c≠it) (h3:∀p∈X.pn++pins,p.1≠it):Inv X pins σ H { s with heap:=h',toks:=t' }:=by
 have nit:∀b u,H b=some u→b≠it:=fun b u e z=>by simp_all
 refine I.step (ch:=[it]) (fun b hb=>?_) (fun b o _ _ hc e _=>k b o (fun z=>hc (by simp[z])) e) (fun b o _ _ hc e _=>⟨_,k b o (fun z=>hc (by simp[z])) e⟩) (fun _ _ _ _ n=>n)
  (fun b o hc e=>⟨o,k b o (fun z=>hc (by simp[z])) e⟩) (fun _ _ e=>e) (fun _ _ _ e=>e) (fun b ps e=>⟨#[],by rw[e];simp⟩) (fun m hm=>?_) (fun b u e=>?_) I.bare
 ·have e:=by simpa using hb
  subst e
  exact⟨h1,hL,h2,h3⟩
 ·obtain⟨o,es,ep,ho,r⟩:=hm
  exact⟨o,_,_,k _ o (Ne.symm hL) ho,r⟩
 ·refine (I.hok b u e).stay (fun c v hc q=>k c v ?_ q) (fun _ q=>q) fun _ _ q=>q
  rcases hc with z|z
  ·rw[z];exact nit b u e
  ·exact nit c _ z
theorem Inv.tok (I:Inv X pins σ H s) (t:Nat):Inv X pins σ H { s with toks:=t }:=I.un Un.refl I.hok
theorem Inv.kept {t':Nat} (I:Inv X pins σ H s) (k:∀b u,s.heap.get? b=some u→h'.get? b=some u):Inv X pins σ H { s with heap:=h',toks:=t' }:=I.un (Un.kept k) (I.hok.kept k)
theorem Inv.laid {a:Addr} {o:HO} {t':Nat} (I:Inv X pins σ H s) (k:∀b u,s.heap.get? b=some u→h'.get? b=some u) (hp:s.heap.objs.size≤a) (new:ObjOk X.prog X.w (upd H a o) h' a o) :
  Inv X pins σ (upd H a o) { s with heap:=h',toks:=t' }:=I.un (Un.laid k hp (I.hok.fresh hp)) (I.hok.laid k hp new)
theorem Inv.write {x e:Addr} {o:HO} {t':Nat} (I:Inv X pins σ H s) (mu:Mut (H x)) (he:e=x∨H e=some (.own x)) (k:∀b u,b≠e→s.heap.get? b=some u→h'.get? b=some u) (heo:∃u,h'.get? e=some u)
  (new:ObjOk X.prog X.w (upd H x o) h' x o):Inv X pins σ (upd H x o) { s with heap:=h',toks:=t' }:=I.un (Un.write mu he k heo) (I.hok.write mu he k heo new)
theorem Inv.weak {σ':List (Option V)} (I:Inv X pins σ H s) (hl:σ'.length=σ.length) (w:∀(i:Nat) v,σ'[i]?=some (some v)→σ[i]?=some (some v)):Inv X pins σ' H s:=
 ⟨I.ok,I.os,I.bare,I.base,let ⟨m,hn,hl'⟩:=I.loc;⟨m,hn,fun i x v e1 e2 e3=>hl' i x v e1 (w i v e2) e3⟩,I.cell,I.free,I.freeC,I.pin,I.hok,hl.trans I.len⟩
theorem Inv.pins_of {pins':List (Addr×Obj)} (I:Inv X pins σ H s) (h:∀p∈pins',s.heap.get? p.1=some p.2∧H p.1=none∧p.1≠X.env.locals∧p.1∉X.fs∧∀v,p.2.data≠.cell v):Inv X pins' σ H s:=
 ⟨I.ok,I.os,I.bare,I.base,I.loc,I.cell,I.free,I.freeC,fun p hp=>(List.mem_append.mp hp).elim (fun z=>I.pin p (List.mem_append_left _ z)) (h p),I.hok,I.len⟩
theorem ziK {N:List Str} (hN:N.Nodup) {i j:Nat} {x:Str} (a:N[i]?=some x) (b:N[j]?=some x):i=j:=by
 obtain⟨h1,e1⟩:=List.getElem?_eq_some_iff.mp a
 obtain⟨h2,e2⟩:=List.getElem?_eq_some_iff.mp b
 exact (List.getElem_inj hN).mp (e1.trans e2.symm)
theorem zou {M:Model} {A:Around} {E:Value→Shared→Prop} {i:Nat} {x:Str} {v:V} {u:Value} {Q:Unit→Shared→Prop} (I:Inv X pins σ H s) (hN:X.N.Nodup) (hi:X.N[i]?=some x) (hx:Loc X.env.scope x) (r:RelV v u)
  (h:∀s',Inv X pins (σ.set i (some v)) H s'→(∃a,Heap.SameBut a s.heap s'.heap∧(a=X.env.locals∨X.env.cells.lookup x=some a))→Q () s') (hf:X.fn x=true∨X.env.scope.names.lookup x=some .local:=by first|exact .inl rfl|exact .inr rfl|assumption):wpAny M A (storeName X.env x u) Q E s:=by
 obtain⟨m,hn,hl⟩:=id I.loc
 have hcls:(X.env.scope.kind == .class || (X.env.scope.kind == .module && X.env.locals != X.env.globals))=false:=by rw[I.ok.kind];rfl
 have hiσ:i<σ.length:=by rw[I.len];exact (List.getElem?_eq_some_iff.mp hi).1
 have cne:=I.cne
 have tracked:∀ {a:Addr} {h':Heap},(∃o,s.heap.get? a=some o∧H a=none)→Heap.SameBut a s.heap h'→HOk X.prog X.w H h':=fun {a h'} ha hs b ob e=>by
  refine (I.hok b ob e).stay (fun c w' hc q=>(hs.2 c ?_).trans q) (fun _ q=>q) fun _ _ q=>q
  rintro rfl
  simp_all
 rcases hx with hk|hk
 ·refine wpAny_storeName_local hk hn (fun h' hn' hs=>?_) hcls
  obtain⟨oL,_,_,hoL,_⟩:=id hn
  refine h _ ⟨I.ok,I.os,I.bare,⟨fun b o e n hb hx=>?_,fun b o e n hb hx=>?_,I.base.free,fun b o e hx=>?_,I.base.tups,I.base.frzs,I.base.tbls⟩,⟨_,hn',fun j y v' e1 e2 e3=>?_⟩,fun y c e=>?_,I.free,I.freeC,fun p hp=>?_,tracked ⟨oL,hoL,I.free⟩ hs,by simpa using I.len⟩ ⟨_,hs,.inl rfl⟩
  ·exact (hs.2 b (Nat.ne_of_lt (Nat.lt_of_lt_of_le (Heap.lt_size e) I.ok.above))).trans (I.base.keep b o e n hb hx)
  ·obtain⟨sl,e1⟩:=I.base.slot b o e n hb hx
   exact⟨sl,(hs.2 b (Nat.ne_of_lt (Nat.lt_of_lt_of_le (Heap.lt_size e) I.ok.above))).trans e1⟩
  ·obtain⟨o',e1⟩:=I.base.there b o e hx
   exact⟨o',(hs.2 b (Nat.ne_of_lt (Nat.lt_of_lt_of_le (Heap.lt_size e) I.ok.above))).trans e1⟩
  ·by_cases hj:j=i
   ·subst hj
    rw[hi] at e1;cases e1
    rw[List.getElem?_set_self hiσ] at e2
    cases e2
    exact⟨u,r,.inl ⟨hk,by simp⟩⟩
   ·rw[List.getElem?_set_ne (Ne.symm hj)] at e2
    obtain⟨u',r',q⟩:=hl j y v' e1 e2 e3
    refine⟨u',r',?_⟩
    rcases q with ⟨k,e⟩|⟨k,c,e,z⟩
    ·refine .inl ⟨k,?_⟩
     have:y≠x:=fun e=>hj (ziK hN e1 (e ▸ hi))
     grind
    ·exact .inr ⟨k,c,e,z.sameBut hs (cne y c e)⟩
  ·obtain⟨w',z⟩:=I.cell y c e
   exact⟨w',z.sameBut hs (cne y c e)⟩
  ·obtain⟨e,n,ne,nf,d⟩:=I.pin p hp
   exact⟨(hs.2 p.1 ne).trans e,n,ne,nf,d⟩
 ·have hfn:X.fn x=true:=by
   rcases hf with z|z
   ·exact z
   grind
  obtain⟨c,hc⟩:=I.ok.has x (.inl hk)
  obtain⟨w',z⟩:=I.cell x c hc
  refine wpAny_storeName_cell I.ok.kind hk hc z (fun h' hc' hs=>?_)
  obtain⟨oc,hoc,hocd⟩:=id z
  refine h { s with heap:=h' } ⟨I.ok,I.os,I.bare,⟨fun b o e n hb hx=>?_,fun b o e n hb hx=>?_,I.base.free,fun b o e hx=>?_,I.base.tups,I.base.frzs,I.base.tbls⟩,⟨m,hn.sameBut hs (Ne.symm (cne x c hc)),fun j y v' e1 e2 e3=>?_⟩,fun y c' e=>?_,I.free,I.freeC,fun p hp=>?_,tracked ⟨oc,hoc,I.freeC x c hc⟩ hs,by simpa using I.len⟩ ⟨c,hs,.inr hc⟩
  ·exact (hs.2 b (Nat.ne_of_lt (Nat.lt_of_lt_of_le (Heap.lt_size e) (I.ok.cab x c hfn hc)))).trans (I.base.keep b o e n hb hx)
  ·obtain⟨sl,e1⟩:=I.base.slot b o e n hb hx
   exact⟨sl,(hs.2 b (Nat.ne_of_lt (Nat.lt_of_lt_of_le (Heap.lt_size e) (I.ok.cab x c hfn hc)))).trans e1⟩
  ·obtain⟨o',e1⟩:=I.base.there b o e hx
   exact⟨o',(hs.2 b (Nat.ne_of_lt (Nat.lt_of_lt_of_le (Heap.lt_size e) (I.ok.cab x c hfn hc)))).trans e1⟩
  ·by_cases hj:j=i
   ·subst hj
    rw[hi] at e1;cases e1
    rw[List.getElem?_set_self hiσ] at e2
    cases e2
    exact⟨u,r,.inr ⟨.inl hk,c,hc,hc'⟩⟩
   ·rw[List.getElem?_set_ne (Ne.symm hj)] at e2
    obtain⟨u',r',q⟩:=hl j y _ e1 e2 e3
    refine⟨_,r',?_⟩
    rcases q with q|⟨k,c',e,z'⟩
    ·exact .inl q
    ·refine .inr ⟨k,_,e,z'.sameBut hs ?_⟩
     rintro rfl
     exact hj (ziK hN e1 (I.ok.inj _ _ _ e hc ▸ hi))
  ·by_cases hcc:c'=c
   ·subst hcc;exact⟨_,hc'⟩
   ·obtain⟨w2,z2⟩:=I.cell y _ e
    exact⟨_,z2.sameBut hs hcc⟩
  ·obtain⟨e,n,ne,nf,d⟩:=I.pin p hp
   refine⟨(hs.2 _ ?_).trans e,n,ne,nf,d⟩
   intro q
   rw[q,hoc] at e
   have q':=Option.some.inj e
   exact d _ (by rwa [← q'])
theorem zff {M:Model} {A:Around} {E:Value→Shared→Prop} {i:Nat} {x:Str} {v:V} {u:Value} {Q:Unit→Shared→Prop} (I:Inv X pins σ H s) (hN:X.N.Nodup) (hi:X.N[i]?=some x) (hx:Loc X.env.scope x) (r:RelV v u)
  (h:∀s',Inv X pins (σ.set i (some v)) H s'→Q () s') (hf:X.fn x=true∨X.env.scope.names.lookup x=some .local:=by first|exact .inl rfl|exact .inr rfl|assumption):wpAny M A (storeName X.env x u) Q E s:=
 zou I hN hi hx r (fun s' I' _=>h _ I') hf
end
abbrev XK:=Value→Option Addr→Hp→Prop
abbrev St:=List (Option V)
abbrev VK:=V→Hp→Prop
abbrev TE:=St→Hp→VK→Prop
abbrev TT:=St→Hp→(Bool→Hp→Prop)→Prop
abbrev TA:=St→Hp→(List V→Hp→Prop)→Prop
structure Ends where
 nx:St→Hp→Prop
 rt:VK
 bk:St→Hp→Prop:=fun _ _=>False
 ct:St→Hp→Prop:=fun _ _=>False
abbrev TS:=Ends→St→Hp→Prop
def EP (X:Cx) (pins:List (Addr×Obj)) (σ:St) (Q:VK) (u:Value) (s':Shared):Prop:=∃v H',Inv X pins σ H' s'∧RelV v u∧Q v H'
def TP (X:Cx) (pins:List (Addr×Obj)) (σ:St) (Q:Bool→Hp→Prop) (b:Bool) (s':Shared):Prop:=∃H',Inv X pins σ H' s'∧Q b H'
def AP (X:Cx) (pins:List (Addr×Obj)) (σ:St) (Q:List V→Hp→Prop) (us:List Value) (s':Shared):Prop:=∃vs H',Inv X pins σ H' s'∧Vals vs us∧Q vs H'
def SP (X:Cx) (pins:List (Addr×Obj)) (D:Ends) (f:Flow) (s':Shared):Prop:=
 match f with
 | .next=>∃σ' H',Inv X pins σ' H' s'∧D.nx σ' H'
 | .brk=>∃σ' H',Inv X pins σ' H' s'∧D.bk σ' H'
 | .cont=>∃σ' H',Inv X pins σ' H' s'∧D.ct σ' H'
 | .ret u=>∃v σ' H',Inv X pins σ' H' s'∧RelV v u∧D.rt v H'
def PE (X:Cx) (e:Expr) (t:TE):Prop:=
 ∀(pins:List (Addr×Obj)) (s:Shared) (σ:St) (H:Hp) (Q:VK),Inv X pins σ H s→t σ H Q→wpAny (model X.prog X.w) X.A (eval e X.env) (EP X pins σ Q) X.xe s
def PT (X:Cx) (e:Expr) (t:TT):Prop:=
 ∀(pins:List (Addr×Obj)) (s:Shared) (σ:St) (H:Hp) (Q:Bool→Hp→Prop),Inv X pins σ H s→t σ H Q→wpAny (model X.prog X.w) X.A (isTrue e X.env (eval e X.env)) (TP X pins σ Q) X.xe s
def PW (X:Cx) (e:Expr) (t:TT):Prop:=
 ∀(whole:Sem Value) (pins:List (Addr×Obj)) (s:Shared) (σ:St) (H:Hp) (Q:Bool→Hp→Prop),Inv X pins σ H s→t σ H Q→wpAny (model X.prog X.w) X.A (isTrue e X.env whole) (TP X pins σ Q) X.xe s
theorem PW.pt {X:Cx} {e:Expr} {t:TT} (h:PW X e t):PT X e t:=h _
def PA (X:Cx) (es:List Expr) (t:TA):Prop:=
 ∀(pos:Pos) (pins:List (Addr×Obj)) (s:Shared) (σ:St) (H:Hp) (Q:List V→Hp→Prop),Inv X pins σ H s→t σ H Q→wpAny (model X.prog X.w) X.A (spliced (backTo pos (starEach es X.env))) (AP X pins σ Q) X.xe s
def PS (X:Cx) (st:Stmt) (t:TS):Prop:=
 ∀(pins:List (Addr×Obj)) (s:Shared) (σ:St) (H:Hp) (D:Ends),Inv X pins σ H s→t D σ H→wpAny (model X.prog X.w) X.A (exec st X.env) (SP X pins D) X.xe s
def PSs (X:Cx) (st:List Stmt) (t:TS):Prop:=
 ∀(pins:List (Addr×Obj)) (s:Shared) (σ:St) (H:Hp) (D:Ends),Inv X pins σ H s→t D σ H→wpAny (model X.prog X.w) X.A (execs st X.env) (SP X pins D) X.xe s
theorem thn {α:Type} {t:Sem α} {Q Q':α→Shared→Prop} {M:Model} {A:Around} {E:Value→Shared→Prop} {s:Shared} (h:wpAny M A t Q E s) (hQ:∀a s,Q a s→Q' a s):wpAny M A t Q' E s:=wpAny_mono h hQ fun _ _ x=>x
section
variable {X:Cx}
def tVar (i:Nat):TE:=fun σ H Q=>∃v,σ[i]?=some (some v)∧Q v H
def tC (v:V):TE:=fun _ H Q=>Q v H
theorem zr0 {i:Nat} {x:Str} {pos:Pos} (hN:X.N[i]?=some x) (hv:Vis X.env.scope x) (hd:(x == ("__debug__" : Str))=false:=by decide) (hcd:(x == ("__classdict__" : Str))=false:=by decide):PE X (.Name x pos) (tVar i):=by
 rintro pins s σ H Q I ⟨v,e,h⟩
 obtain⟨m,hn,hl⟩:=I.loc
 obtain⟨u,r,l⟩:=hl i x v hN e hv
 have fin:EP X _ _ Q u s:=⟨v,H,I,r,h⟩
 rcases l with ⟨hk,hm⟩|⟨hk,c,hc,hcell⟩
 ·exact wpAny_Name (wpAny_loadName_local I.ok.kind hk hn hm fin) hd
 ·rcases hk with hk|hk
  ·exact wpAny_Name (wpAny_loadName_cell I.ok.kind hk hc hcell fin) hd
  ·exact wpAny_Name (wpAny_loadName_free I.ok.kind hk hc hcell fin hcd) hd
theorem zai {i j pos}:PE X (.Constant (.int i) j pos) (tC (.int i)):=fun _ _ _ H _ I h=>wpAny_Constant_int ⟨.int i,H,I.tok _,⟨_,rfl⟩,h⟩
theorem ziH {b j pos}:PE X (.Constant (.bool b) j pos) (tC (.bl b)):=fun _ _ _ H _ I h=>Constant_bool ⟨.bl b,H,I,rfl,h⟩
theorem zod {j pos}:PE X (.Constant .none j pos) (tC .non):=fun _ _ _ H _ I h=>Constant_none ⟨.non,H,I,rfl,h⟩
theorem zaA {x j pos}:PE X (.Constant (.str x) j pos) (tC (.str x)):=fun _ _ _ H _ I h=>Calls.Constant_str ⟨.str x,H,I.tok _,⟨_,rfl⟩,h⟩
def Gl (X:Cx) (x:Str):Prop:=X.env.kindOf x=some .globalImplicit
theorem zfM {E:Value→Shared→Prop} {pins:List (Addr×Obj)} {s:Shared} {σ:St} {H:Hp} {x:Str} {u:Value} {pos:Pos} {Q:Value→Shared→Prop} (I:Inv X pins σ H s) (hg:Gl X x) (hm:X.mg x=some u) (h:Q u s)
  (hd:(x == ("__debug__" : Str))=false:=by decide):wpAny (model X.prog X.w) X.A (eval (.Name x pos) X.env) Q E s:=
 Calls.Name_function_global I.ok.kind hg (Calls.loadGlobal_global (by rw[I.ok.glob];exact I.mod.glob.keeps I.bk) hm h) hd
theorem zhW {E:Value→Shared→Prop} {pins:List (Addr×Obj)} {s:Shared} {σ:St} {H:Hp} {x:Str} {u:Value} {pos:Pos} {Q:Value→Shared→Prop} (I:Inv X pins σ H s) (hg:Gl X x) (hm:X.mg x=none) (hv:bootBuiltins x=some u) (h:Q u s)
  (hn:x≠"__name__":=by decide) (hd:(x == ("__debug__" : Str))=false:=by decide):wpAny (model X.prog X.w) X.A (eval (.Name x pos) X.env) Q E s:=let ⟨_,h1,h2⟩:=I.mod.blt;Calls.Name_function_global I.ok.kind hg (Calls.loadGlobal_builtin (by rw[I.ok.glob];exact I.mod.glob.keeps I.bk) hm (by rw[I.ok.blt];exact h1.keeps I.bk) ((h2 x hn).trans hv) h) hd
theorem zeU {x:Str} {v:V} {u:Value} {pos:Pos} (hg:Gl X x) (hm:X.mg x=some u) (r:RelV v u) (hd:(x == ("__debug__" : Str))=false:=by decide):PE X (.Name x pos) (tC v):=
 fun _ _ _ H _ I h=>zfM I hg hm ⟨v,H,I,r,h⟩ hd
theorem zki {x:Str} {v:V} {u:Value} {pos:Pos} (hg:Gl X x) (hm:X.mg x=none) (hv:bootBuiltins x=some u) (r:RelV v u) (hn:x≠"__name__":=by decide) (hd:(x == ("__debug__" : Str))=false:=by decide):PE X (.Name x pos) (tC v):=
 fun _ _ _ H _ I h=>zhW I hg hm hv ⟨v,H,I,r,h⟩ hn hd
variable {a b:Expr} {ta tb:TE} {pos:Pos}
def PC (X:Cx) (op:CmpOp) (a b:Expr) (t:TE):Prop:=
 ∀(pins:List (Addr×Obj)) (s:Shared) (σ:St) (H:Hp) (Q:VK),Inv X pins σ H s→t σ H Q →
  wpAny (model X.prog X.w) X.A (eval a X.env) (fun v s₁=>wpAny (model X.prog X.w) X.A (eval b X.env) (fun u s₂=>wpAny (model X.prog X.w) X.A (compareOp op v u) (EP X pins σ Q) X.xe s₂) X.xe s₁) X.xe s
def tB (t:TE):TT:=fun σ H Q=>t σ H fun x H1=>∃c,x=.bl c∧Q c H1
theorem zru {op:CmpOp} {t:TE} (h:PC X op a b t) (h1:behindInMarks op b=false:=by first|exact nobehind _ (by decide) (by decide)|rfl):PT X (.Compare a [op] [b] pos) (tB t):=by
 intro pins s σ H Q I hw
 refine wpAny_isTrue_Compare1 (thn (h _ s _ H _ I hw) fun v s1 h1=>thn h1 fun u s2 h2=>thn h2 fun c s3 ⟨x,_,I1,r1,q1⟩=>?_) h1
 obtain⟨d,rfl,q⟩:=q1
 cases r1
 exact wpAny_truthy_bool ⟨_,I1,q⟩
theorem zfr {e:Expr} {t:TE} (h:PE X e t) (he:∀whole,isTrue e X.env whole=(do let v ← whole;standAt e.pos;holding [v] (truthy v)):=by intro _;rfl):PT X e (tB t):=by
 intro pins s σ H Q I hw
 refine isTrue_plain (thn (h _ s _ H _ I hw) fun v s1 ⟨x,_,I1,r1,q1⟩=>?_) (he _)
 obtain⟨d,rfl,q⟩:=q1
 cases r1
 exact wpAny_truthy_bool ⟨_,I1,q⟩
variable {tA tB':TT} {rest:List Expr}
def tAnd (t u:TT):TT:=fun σ H Q=>t σ H fun c H1=>if c=true then u σ H1 Q else Q false H1
def tOr (t u:TT):TT:=fun σ H Q=>t σ H fun c H1=>if c=true then Q true H1 else u σ H1 Q
def tNot (t:TT):TT:=fun σ H Q=>t σ H fun c H1=>Q (!c) H1
theorem zkr (ha:PT X a tA):PW X (.BoolOp .And [a] pos) tA:=by
 intro wh pins s σ H Q I h
 refine isTrue_and (thn (ha _ s _ H Q I h) fun c s1 e=>?_)
 cases c with
 | true=>exact isTrue_and_nil e
 | false=>exact e
theorem zjR (ha:PT X a tA):PW X (.BoolOp .Or [a] pos) tA:=by
 intro wh pins s σ H Q I h
 refine isTrue_or (thn (ha _ s _ H Q I h) fun c s1 e=>?_)
 cases c with
 | false=>exact isTrue_or_nil e
 | true=>exact e
theorem znd (ha:PT X a tA) (hb:PW X (.BoolOp .And (b::rest) pos) tB'):PW X (.BoolOp .And (a::b::rest) pos) (tAnd tA tB'):=by
 intro wh pins s σ H Q I h
 refine isTrue_and (thn (ha _ s _ H _ I h) fun c s1 ⟨_,I1,q1⟩=>?_)
 cases c with
 | true=>exact hb _ _ _ _ _ Q I1 q1
 | false=>exact⟨_,I1,q1⟩
theorem zkR (ha:PT X a tA) (hb:PW X (.BoolOp .Or (b::rest) pos) tB'):PW X (.BoolOp .Or (a::b::rest) pos) (tOr tA tB'):=by
 intro wh pins s σ H Q I h
 refine isTrue_or (thn (ha _ s _ H _ I h) fun c s1 ⟨_,I1,q1⟩=>?_)
 cases c with
 | true=>exact⟨_,I1,q1⟩
 | false=>exact hb _ _ _ _ _ Q I1 q1
theorem znK (ha:PT X a tA):PT X (.UnaryOp .Not a pos) (tNot tA):=fun pins s σ H Q I h=>isTrue_not (ha _ s _ H _ I h)
def zrp (ta tb:TE):TE:=fun σ H Q=>ta σ H fun x H1=>∃c,x=.bl c∧if c=true then tb σ H1 Q else Q (.bl false) H1
def tOrV (ta tb:TE):TE:=fun σ H Q=>ta σ H fun x H1=>∃c,x=.bl c∧if c=true then Q (.bl true) H1 else tb σ H1 Q
def zr3 (ta:TE):TE:=fun σ H Q=>ta σ H fun x H1=>∃c,x=.bl c∧Q (.bl (!c)) H1
theorem zh3 {op} {t:TE} (h:PE X a t):PE X (.BoolOp op [a] pos) t:=fun pins s σ H Q I hw=>BoolOp_one (h _ s _ H Q I hw)
theorem zpM (ha:PE X a ta) (hb:PE X (.BoolOp .And (b::rest) pos) tb):PE X (.BoolOp .And (a::b::rest) pos) (zrp ta tb):=by
 intro pins s σ H Q I h
 refine BoolOp_and (thn (ha _ s _ H _ I h) fun v s1 ⟨x,_,I1,r1,q1⟩=>?_)
 obtain⟨c,rfl,q1⟩:=q1
 cases r1
 refine wpAny_truthy_bool ?_
 cases c with
 | true=>exact hb _ _ _ _ Q I1 q1
 | false=>exact⟨.bl _,_,I1,rfl,q1⟩
theorem zoB (ha:PE X a ta) (hb:PE X (.BoolOp .Or (b::rest) pos) tb):PE X (.BoolOp .Or (a::b::rest) pos) (tOrV ta tb):=by
 intro pins s σ H Q I h
 refine BoolOp_or (thn (ha _ s _ H _ I h) fun v s1 ⟨x,_,I1,r1,q1⟩=>?_)
 obtain⟨c,rfl,q1⟩:=q1
 cases r1
 refine wpAny_truthy_bool ?_
 cases c with
 | false=>exact hb _ _ _ _ Q I1 q1
 | true=>exact⟨.bl _,_,I1,rfl,q1⟩
theorem zob (ha:PE X a ta):PE X (.UnaryOp .Not a pos) (zr3 ta):=by
 intro pins s σ H Q I h
 refine UnaryOp_ (thn (ha _ s _ H _ I h) fun v s1 ⟨x,_,I1,r1,q1⟩=>?_)
 obtain⟨c,rfl,q1⟩:=q1
 cases r1
 exact not_of (wpAny_truthy_bool ⟨.bl _,_,I1,rfl,q1⟩)
end
def SqL (K:PySem.W.Frag) (H:Hp) (a:Addr) (xs:List V):Prop:=
 Rd H a (.lst xs) ∨
  ∃(o:Obj) (its:Array Value) (n:Nat),K.lookup a=some o∧o.cls=.type "list"∧o.dict=none∧o.data=.seq its n∧its.size≤sizeLine∧Vals xs its.toList
def SqT (K:PySem.W.Frag) (H:Hp) (a:Addr) (xs:List V):Prop:=
 Rd H a (.tup xs) ∨
  ∃(o:Obj) (its:Array Value) (n:Nat),K.lookup a=some o∧o.cls=.type "tuple"∧o.data=.seq its n∧its.size≤sizeLine∧Vals xs its.toList
def absV:Value→Option V
 | .none=>some .non
 | .bool b=>some (.bl b)
 | .int i _=>some (.int i)
 | .str x _=>some (.str x)
 | .bytes b _=>some (.byt b)
 | .float b _=>some (.flt b)
 | .ref a=>some (.ref a)
 | .type n=>some (.ty n)
 | _=>none
theorem RelV.abs {x:V} {u:Value} (r:RelV x u):absV u=some x:=by
 cases x with
 | non=>cases r;rfl
 | bl _=>cases r;rfl
 | int _=>obtain⟨t,rfl⟩:=r;rfl
 | str _=>obtain⟨t,rfl⟩:=r;rfl
 | byt _=>obtain⟨t,rfl⟩:=r;rfl
 | flt _=>obtain⟨t,rfl⟩:=r;rfl
 | ref _=>cases r;rfl
 | ty _=>cases r;rfl
theorem RelV.inj {x y:V} {u:Value} (r:RelV x u) (q:RelV y u):x=y:=Option.some.inj (r.abs.symm.trans q.abs)
theorem Vals.inj:∀ {xs ys:List V} {us:List Value},Vals xs us→Vals ys us→xs=ys
 | _,_,_,.nil,.nil=>rfl
 | _,_,_,.cons r t,.cons r' t'=>by rw[r.inj r',Vals.inj t t']
section
variable {X:Cx} {pins:List (Addr×Obj)} {σ:St} {H:Hp} {s:Shared} {a:Addr} {xs ys:List V}
theorem Inv.list (I:Inv X pins σ H s) (h:SqL X.K H a xs):∃its:List Value,Vals xs its∧PlainL s.heap a its.toArray∧xs.length≤sizeLine:=by
 rcases h with h|⟨o,its,n,hk,hc,hd,hs,hz,r⟩
 ·obtain⟨z,its,n,r,e⟩:=h.ok I.hok
  exact⟨_,r,⟨_,n,e,rfl,rfl,rfl⟩,z⟩
 ·refine⟨_,r,⟨o,n,I.kIn a o hk,hc,hd,by omega⟩,?_⟩
  have e:=r.length
  simp at e
  omega
theorem Inv.tuple (I:Inv X pins σ H s) (h:SqT X.K H a xs):∃its:List Value,Vals xs its∧IsTup s.heap a its.toArray∧xs.length≤sizeLine:=by
 rcases h with h|⟨o,its,n,hk,hc,hs,hz,r⟩
 ·obtain⟨z,its,r,p⟩:=h.ok I.hok
  exact⟨_,r,p,z⟩
 ·refine⟨_,r,⟨o,I.kIn a o hk,hc,n,by omega⟩,?_⟩
  have e:=r.length
  simp at e
  omega
theorem Inv.list_inj (I:Inv X pins σ H s) (h:SqL X.K H a xs) (h':SqL X.K H a ys):xs=ys:=by
 obtain⟨its,r,⟨o,n,e,_,_,d⟩,_⟩:=I.list h
 obtain⟨its',r',⟨o',n',e',_,_,d'⟩,_⟩:=I.list h'
 have:its=its':=by simp_all
 subst this
 exact r.inj r'
end
abbrev Cx.wish (X:Cx) (E:Value→Shared→Prop):Cx:={ X with xe:=E }
abbrev Cx.nox (X:Cx):Cx:=X.wish fun _ _=>False
theorem Cx.Ok.wish {X:Cx} (ok:X.Ok) (E:Value→Shared→Prop):(X.wish E).Ok:=
 ⟨ok.mod,ok.kind,ok.glob,ok.blt,ok.above,ok.inj,ok.has,ok.cab,ok.hd,ok.frames,ok.stk,ok.exf,ok.bs,ok.bsz,ok.noex,ok.exfs,ok.funs,ok.frf,ok.tb⟩
theorem Cx.Ok.unwish {X:Cx} {E:Value→Shared→Prop} (ok:(X.wish E).Ok):X.Ok:=
 ⟨ok.mod,ok.kind,ok.glob,ok.blt,ok.above,ok.inj,ok.has,ok.cab,ok.hd,ok.frames,ok.stk,ok.exf,ok.bs,ok.bsz,ok.noex,ok.exfs,ok.funs,ok.frf,ok.tb⟩
section
variable {X:Cx} {pins:List (Addr×Obj)} {σ:St} {H:Hp} {s:Shared} {E:Value→Shared→Prop}
theorem Inv.wish (I:Inv X pins σ H s) (E:Value→Shared→Prop):Inv (X.wish E) pins σ H s:=⟨I.ok.wish E,I.os,I.bare,I.base,I.loc,I.cell,I.free,I.freeC,I.pin,I.hok,I.len⟩
theorem Inv.unwish (I:Inv (X.wish E) pins σ H s):Inv X pins σ H s:=⟨I.ok.unwish,I.os,I.bare,I.base,I.loc,I.cell,I.free,I.freeC,I.pin,I.hok,I.len⟩
theorem SP.unwish {D:Ends} {f:Flow} {s':Shared} (h:SP (X.wish E) pins D f s'):SP X pins D f s':=by
 cases f with
 | next=>obtain⟨σ',H',I,q⟩:=h;exact⟨_,_,I.unwish,q⟩
 | brk=>obtain⟨σ',H',I,q⟩:=h;exact⟨_,_,I.unwish,q⟩
 | cont=>obtain⟨σ',H',I,q⟩:=h;exact⟨_,_,I.unwish,q⟩
 | ret u=>obtain⟨v,σ',H',I,r,q⟩:=h;exact⟨v,_,_,I.unwish,r,q⟩
theorem PSs.nox {st:List Stmt} {t:TS} (h:PSs X.nox st t):PSs X st t:=fun pins s σ H D I hw=>
 wpAny_mono (h _ s _ H D (I.wish _) hw) (fun _ _ q=>q.unwish) fun _ _ z=>False.elim z
end
section
variable {X:Cx} {st:Stmt} {rest:List Stmt} {t u:TS} {e:Expr} {te:TE} {pos:Pos}
def zrQ:TS:=fun D σ H=>D.nx σ H
def tSeq (t u:TS):TS:=fun D σ H=>t { D with nx:=u D } σ H
theorem za0:PSs X [] zrQ:=fun _ _ σ H _ I h=>wpAny_execs_nil ⟨_,H,I,h⟩
theorem zaf (h1:PS X st t) (h2:PSs X rest u):PSs X (st::rest) (tSeq t u):=by
 intro pins s σ H D I h
 refine wpAny_execs_cons (thn (h1 _ s _ H _ I h) fun f s1 q=>?_)
 cases f with
 | next=>
  obtain⟨σ',H',I',q⟩:=q
  exact h2 _ _ _ _ D I' q
 | ret v=>exact q
 | brk=>exact q
 | cont=>exact q
theorem zan (h1:PS X st t):PSs X [st] t:=by
 intro pins s σ H D I h
 refine wpAny_execs_cons (thn (h1 _ s _ H D I h) fun f s1 q=>?_)
 cases f with
 | next=>exact wpAny_execs_nil q
 | ret v=>exact q
 | brk=>exact q
 | cont=>exact q
theorem Inv.quiet {pins:List (Addr×Obj)} {σ:St} {H:Hp} {s:Shared} (I:Inv X pins σ H s):interactive X.env=false:=by simp[interactive,I.ok.kind]
def zpC (te:TE):TS:=fun D σ H=>te σ H fun _ H1=>D.nx σ H1
theorem zaS (he:PE X e te) (hs:swapsWith e none pos.line X.env=pure false:=by rfl):PS X (.Expr e pos) (zpC te):=fun pins s σ H D I h=>wpAny_Expr_any (thn (he _ s _ H _ I h) fun v s1 ⟨x,_,I1,_,q1⟩=>⟨_,_,I1,q1⟩) I.quiet hs
def tRet (te:TE):TS:=fun D σ H=>te σ H D.rt
theorem zaL (he:PE X e te):PS X (.Return (some e) pos) (tRet te):=fun pins s σ H D I h=>wpAny_Return_some (thn (he _ s _ H _ I h) fun v s1 ⟨x,_,I1,r1,q1⟩=>⟨x,_,_,I1,r1,q1⟩)
def tIfS (c:TT) (t u:TS):TS:=fun D σ H=>c σ H fun b H1=>if b=true then t D σ H1 else u D σ H1
theorem zb4 {c:Expr} {a b:List Stmt} {tc:TT} (hc:PT X c tc) (ha:PSs X a t) (hb:PSs X b u):PS X (.If c a b pos) (tIfS tc t u):=by
 intro pins s σ H D I h
 refine wpAny_If (thn (hc _ s _ H _ I h) fun d s1 ⟨_,I1,q1⟩=>?_)
 cases d with
 | true=>exact ha _ _ _ _ D I1 q1
 | false=>exact hb _ _ _ _ D I1 q1
def zpS:TS:=fun _ _ _=>False
theorem zjn {sts:List Stmt}:PSs X sts zpS:=fun _ _ _ _ _ _ h=>h.elim
end
abbrev TG:=V→St→Hp→(St→Hp→Prop)→Prop
abbrev TGs:=List V→St→Hp→(St→Hp→Prop)→Prop
def PG (X:Cx) (target:Expr) (t:TG):Prop:=
 ∀(pins:List (Addr×Obj)) (s:Shared) (σ:St) (H:Hp) (v:V) (u:Value) (Q:St→Hp→Prop),Inv X pins σ H s→RelV v u→t v σ H Q →
  wpAny (model X.prog X.w) X.A (assign target X.env u) (fun _ s'=>∃σ' H',Inv X pins σ' H' s'∧Q σ' H') X.xe s
def PGs (X:Cx) (ts:List Expr) (t:TGs):Prop:=
 ∀(pins:List (Addr×Obj)) (s:Shared) (σ:St) (H:Hp) (vs:List V) (us:List Value) (Q:St→Hp→Prop),Inv X pins σ H s→Vals vs us→t vs σ H Q →
  wpAny (model X.prog X.w) X.A (assignInOrder ((assignEach ts X.env).map (·.2)) us) (fun _ s'=>∃σ' H',Inv X pins σ' H' s'∧Q σ' H') X.xe s
abbrev TSet:=V→V→V→Hp→(Hp→Prop)→Prop
def PSet (X:Cx) (t:TSet):Prop:=
 ∀(pins:List (Addr×Obj)) (s:Shared) (σ:St) (H:Hp) (o i v:V) (ov iv u:Value) (Q:Hp→Prop),Inv X pins σ H s→RelV o ov→RelV i iv→RelV v u→t o i v H Q →
  wpAny (model X.prog X.w) X.A (setItem ov iv u) (fun _ s'=>∃H',Inv X pins σ H' s'∧Q H') X.xe s
section
variable {X:Cx} {pos:Pos}
def zkm (i:Nat):TG:=fun v σ H Q=>Q (σ.set i (some v)) H
theorem za4 {i:Nat} {x:Str} (hN:X.N.Nodup) (hi:X.N[i]?=some x) (hx:Loc X.env.scope x) (hf:X.fn x=true∨X.env.scope.names.lookup x=some .local:=by first|exact .inl rfl|exact .inr rfl|assumption):PG X (.Name x pos) (zkm i):=fun pins s σ H v u Q I r h=>wpAny_assign_Name (zff I hN hi hx r (fun s' I'=>⟨_,H,I',h⟩) hf)
def gNil:TGs:=fun vs σ H Q=>vs=[]∧Q σ H
def zrS (t:TG) (u:TGs):TGs:=fun vs σ H Q=>∃v r,vs=v::r∧t v σ H fun σ' H'=>u r σ' H' Q
theorem zgj:PGs X [] gNil:=by
 rintro pins s σ H vs us Q I r ⟨e,h⟩
 exact assignInOrder_nil ⟨_,H,I,h⟩
theorem zcD {e:Expr} {es:List Expr} {t:TG} {u:TGs} (h1:PG X e t) (h2:PGs X es u)
  (hs:(assignEach (e::es) X.env).map (·.2)=assign e X.env::(assignEach es X.env).map (·.2):=by rfl):PGs X (e::es) (zrS t u):=by
 rintro pins s σ H vs us Q I r ⟨v,vr,e1,h⟩
 subst e1
 cases r with
 | cons r rr=>
  rw[hs]
  exact assignInOrder_cons (thn (h1 _ s _ H _ _ _ I r h) fun _ s1 ⟨_,_,I1,q1⟩=>h2 _ _ _ _ _ _ Q I1 rr q1)
def gTup (K:PySem.W.Frag) (n:Nat) (t:TGs):TG:=fun v σ H Q=>∃a xs,v=.ref a∧SqT K H a xs∧xs.length=n∧t xs σ H Q
theorem zjJ {es:List Expr} {k:Nat} {t:TGs} {n:Nat} (hc:X.calm=true) (h:PGs X es t)
  (hn:(assignEach es X.env).length=n:=by rfl) (hst:(assignEach es X.env).findIdx? (·.1)=none:=by rfl):PG X (.Tuple es k pos) (gTup X.K n t):=by
 rintro pins s σ H v u Q I r ⟨a,xs,e1,hq,hl,hw⟩
 subst e1
 cases r
 obtain⟨its,rv,ht,hz⟩:=I.tuple hq
 refine assign_Tuple_tuple (I.ok.hd hc) ht (by simp[hn,← hl,rv.length]) hst fun h' hx=>?_
 have I1:Inv X _ _ H { s with heap:=h' }:=I.kept fun b o e=>hx b o (Nat.ne_of_lt (Heap.lt_size e)) e
 exact h _ _ _ H _ _ Q I1 (by omega) hw
def gSub (to ti:TE) (t:TSet):TG:=fun v σ H Q=>to σ H fun o H1=>ti σ H1 fun i H2=>t o i v H2 fun H3=>Q σ H3
theorem zr7 {o i:Expr} {to ti:TE} {t:TSet} (ho:PE X o to) (hi:PE X i ti) (hs:PSet X t)
  (ha:∀v,assign (.Subscript o i pos) X.env v=(do
   let ov ← holding [v] (eval o X.env)
   let iv ← holding [v,ov] (eval i X.env)
   standAt pos
   holding [v,ov,iv] (setItem ov iv v)
   release [v,ov,iv] []):=by intro _;rfl):PG X (.Subscript o i pos) (gSub to ti t):=fun pins s σ H v u Q I r h=>wpAny_bind (wpAny_holding (thn (ho _ s _ H _ I h) fun ov s1 ⟨x,_,I1,r1,q1⟩=>(wpAny_bind (wpAny_holding (thn (hi _ _ _ _ _ I1 q1) fun iv s2 ⟨y,_,I2,r2,q2⟩=>wpAny_bind (wpAny_standAt (wpAny_bind (wpAny_holding (thn (hs _ _ _ _ x y v _ _ u _ I2 r1 r2 r q2) fun _ s3 ⟨_,I3,q3⟩=>wpAny_release ⟨_,_,I3,q3⟩)))))))))
def tAsg (te:TE) (g:TG):TS:=fun D σ H=>te σ H fun x H1=>g x σ H1 D.nx
theorem zpU {tg e:Expr} {te:TE} {g:TG} (he:PE X e te) (hg:PG X tg g) (hs:swapsWithSole [tg] e pos.line X.env=pure false:=by rfl) (hw:swappedStores [tg] e X.env=pure none:=by rfl)
  (h1:(assignEach [tg] X.env).map (·.2)=[assign tg X.env]:=by rfl):PS X (.Assign [tg] e pos) (tAsg te g):=by
 intro pins s σ H D I h
 refine wpAny_Assign_stores (thn (he _ s _ H _ I h) fun v s1 ⟨x,_,I1,r1,q1⟩=>?_) hs hw
 rw[h1]
 exact thn (hg _ _ _ _ x v _ I1 r1 q1) fun _ s2 q=>q
theorem zaJ {i:Nat} {x:Str} {e:Expr} {te:TE} {pos':Pos} (hN:X.N.Nodup) (hi:X.N[i]?=some x) (hx:Loc X.env.scope x) (he:PE X e te) (hs:swapsWith e (some (.Name x pos')) pos.line X.env=pure false:=by rfl) (hf:X.fn x=true∨X.env.scope.names.lookup x=some .local:=by first|exact .inl rfl|exact .inr rfl|assumption) :
  PS X (.Assign [.Name x pos'] e pos) (tAsg te (zkm i)):=fun pins s σ H D I h=>wpAny_Assign_Name (thn (he _ s _ H _ I h) fun v s1 ⟨y,H1,I1,r1,q1⟩=>zff I1 hN hi hx r1 (fun s2 I2=>⟨_,_,I2,q1⟩) hf) hs
def zp1 (c:TT) (tb:TS):TS:=fun D σ H=>∃W:Nat→St→Hp→Prop,(∃m,W m σ H)∧∀m σ H,W m σ H →
 c σ H fun b H1=>if b=true then ∃N:St→Hp→Prop,(∀σ' H',N σ' H'→∃m',m'<m∧W m' σ' H')∧tb { D with nx:=N,ct:=N,bk:=D.nx } σ H1 else D.nx σ H1
theorem zoI {c:Expr} {body:List Stmt} {tc:TT} {tb:TS} (hp:PassesOwn (model X.prog X.w) X.A X.env X.xe) (hc:PT X c tc) (hb:PSs X body tb):PS X (.While c body [] pos) (zp1 tc tb):=by
 rintro pins s σ H D I ⟨W,⟨m0,w0⟩,turn⟩
 refine wpAny_While (codeAny_whileLoop (fun n s'=>∃σ' H',Inv X _ σ' H' s'∧W n σ' H') ?_ _ ⟨_,H,I,w0⟩)
 rintro n s1 ⟨σ1,H1,I1,w1⟩
 refine wpAny_passesOwn hp (thn (hc _ _ _ _ _ I1 (turn n _ _ w1)) fun b s2 ⟨_,I2,q2⟩=>?_)
 cases b with
 | true=>
  obtain⟨N,hN,q2⟩:=q2
  refine wpAny_passesOwn hp (thn (hb _ _ _ _ _ I2 q2) fun f s3 q3=>?_)
  cases f with
  | next=>
   obtain⟨σ3,H3,I3,n3⟩:=q3
   obtain⟨m',hm,w3⟩:=hN _ _ n3
   exact⟨_,hm,_,_,I3,w3⟩
  | cont=>
   obtain⟨σ3,H3,I3,n3⟩:=q3
   obtain⟨m',hm,w3⟩:=hN _ _ n3
   exact⟨_,hm,_,_,I3,w3⟩
  | brk=>exact q3
  | ret v=>exact q3
 | false=>
  exact wpAny_execs_nil ⟨_,_,I2,q2⟩
end
structure It where
 go:Nat→Hp→Prop
 yld:Nat→Hp→V→Hp→Prop
 stop:Nat→Hp→Prop
def FpOk (X:Cx) (pins:List (Addr×Obj)) (H:Hp) (b:Addr):Prop:=
 H b=none∧b≠X.env.locals∧b∉X.fs∧(b∈X.ex∨X.s₀.heap.objs.size≤b)∧(∀x c,X.env.cells.lookup x=some c→c≠b)∧∀p∈X.pn++pins,p.1≠b
theorem Inv.fpOk {X:Cx} {pins:List (Addr×Obj)} {σ:St} {H H':Hp} {s:Shared} {b:Addr} (I:Inv X pins σ H s) (hb:s.heap.objs.size≤b) (hn:H' b=none):FpOk X pins H' b:=by
 refine⟨hn,Nat.ne_of_gt (Nat.lt_of_lt_of_le I.lt hb),I.nofs hb,.inr (Nat.le_trans I.sz hb),fun x c e z=>?_,fun p hp z=>?_⟩
 ·obtain⟨v,q⟩:=I.cell x c e
  exact absurd (Nat.lt_of_lt_of_le q.lt (by simp_all)) (Nat.lt_irrefl _)
 ·exact absurd (Nat.lt_of_lt_of_le (Heap.lt_size (I.pin p hp).1) (by simp_all)) (Nat.lt_irrefl _)
structure Turn (P:Program) (w:World) (K:PySem.W.Frag) (tg:Expr) (J:It) (fp:List Addr) (it:Addr) (tn:Nat→Heap→Prop):Prop where
 mem:it∈fp
 obj:∀i h,tn i h→∀b∈fp,∃o,h.get? b=some o∧∀v,o.data≠.cell v
 keep:∀i h h',tn i h→(∀b∈fp,∀o,h.get? b=some o→h'.get? b=some o)→tn i h'
 item:∀(X:Cx),X.prog=P→X.w=w→X.K=K→X.calm=true→∀(i:Nat) (pins:List (Addr×Obj)) (s:Shared) (σ:St) (H:Hp) (E:Value→Shared→Prop),Inv X pins σ H s→(∀b∈fp,FpOk X pins H b)→tn i s.heap→J.go i H →
  wpAny (model P w) X.A (pyNext (.ref it)) (fun r s1=>∃u,r=some u ∧
   wpAny (model P w) X.A (letOwnedTupleGo tg (.ref it) u) (fun _ s2=>∃x H',Inv X pins σ H' s2∧RelV x u∧J.yld i H x H'∧tn (i+1) s2.heap∧∀b∈fp,H' b=none) E s1) E s
 done:∀(X:Cx),X.prog=P→X.w=w→X.K=K→X.calm=true→∀(i:Nat) (pins:List (Addr×Obj)) (s:Shared) (σ:St) (H:Hp) (E:Value→Shared→Prop),Inv X pins σ H s→(∀b∈fp,FpOk X pins H b)→tn i s.heap→J.stop i H →
  wpAny (model P w) X.A (pyNext (.ref it)) (fun r s1=>r=none∧Inv X pins σ H s1) E s
 self:∀(A:Around) (i:Nat) (s:Shared) (Q:Value→Shared→Prop) (E:Value→Shared→Prop),tn i s.heap→Q (.ref it) s→wpAny (model P w) A (pyIter (.ref it)) Q E s
abbrev TI:=St→Hp→(It→Hp→Prop)→Prop
def PIE (X:Cx) (pins:List (Addr×Obj)) (σ:St) (tg:Expr) (R:It→Hp→Prop) (itv:Value) (s2:Shared):Prop:=
 ∃(it:Addr) (fp:List Addr) (tn:Nat→Heap→Prop) (J:It) (H':Hp),itv=.ref it∧Inv X pins σ H' s2∧Turn X.prog X.w X.K tg J fp it tn∧tn 0 s2.heap∧(∀b∈fp,FpOk X pins H' b)∧R J H'
def PI (X:Cx) (tg iter:Expr) (wi:TI):Prop:=
 ∀(pins:List (Addr×Obj)) (s:Shared) (σ:St) (H:Hp) (R:It→Hp→Prop),Inv X pins σ H s→wi σ H R →
  wpAny (model X.prog X.w) X.A (eval iter X.env) (fun v s1=>wpAny (model X.prog X.w) X.A (pyIter v) (PIE X pins σ tg R) X.xe s1) X.xe s
theorem zqN {M:Model} {A:Around} {E:Value→Shared→Prop} {s:Shared} {tg:Expr} {it:Addr} {u:Value} {o:Obj} {n:String} {vs:Array Value} {Q:Unit→Shared→Prop} (ho:s.heap.get? it=some o) (hc:o.cls=.type n) (hd:o.data=.fields vs)
  (hn : ["enumerate","zip","dict_itemiterator","dict_reverseitemiterator","odict_iterator","itertools.zip_longest","itertools.pairwise"].contains n=false) (hQ:Q () s):wpAny M A (letOwnedTupleGo tg (.ref it) u) Q E s:=by
 cases tg <;> first
  | exact wpAny_pure hQ
  | (cases u <;> first
    | exact wpAny_pure hQ
    | (refine wpAny_bind (wpAny_load ho ?_)
       rw[hc,hd]
       show wpAny M A (if (["enumerate","zip","dict_itemiterator","dict_reverseitemiterator","odict_iterator","itertools.zip_longest","itertools.pairwise"].contains n && vs[0]? == some _)=true then _ else _) Q E s
       rw[if_neg (by grind)]
       exact wpAny_pure hQ))
def Itl (K:PySem.W.Frag) (a:Addr):It:=
 ⟨fun i H=>∃xs x,SqL K H a xs∧xs[i]?=some x,fun i H x H'=>H'=H∧∀xs,SqL K H a xs→xs[i]?=some x,fun i H=>∃xs,SqL K H a xs∧xs.length≤i⟩
def Itr (lo:Int) (n:Nat):It:=⟨fun i _=>i<n,fun i H x H'=>H'=H∧x=.int (lo+i),fun i _=>n≤i⟩
theorem zmJ {P:Program} {w:World} {K:PySem.W.Frag} {tg:Expr} (a it:Addr):Turn P w K tg (Itl K a) [it] it (fun i h=>h.IsListIter it a i) where
 mem:=by simp
 obj:=fun i h st b hb=>by
  have e:b=it:=by simp_all
  subst e
  obtain⟨o,e,c,d⟩:=st
  exact⟨o,e,fun v z=>by grind⟩
 keep:=fun i h h' st k=>st.at fun o e=>k _ (by simp) o e
 item:=by
  intro X hP hw hK hc i pins s σ H E I hf st hg
  subst hP hw hK
  obtain⟨xs,x,hq,hx⟩:=hg
  obtain⟨its,rv,p,hz⟩:=I.list hq
  obtain⟨u,hu,ru⟩:=rv.get hx
  obtain⟨f0,f1,f2,f3,f4,f5⟩:=hf it (by simp)
  refine wpAny_pyNext_list_item st p.isList (x:=u) (by simp_all) fun h' st' sb=>?_
  obtain⟨o,e,c,d⟩:=id st'
  exact⟨u,rfl,zqN e c d rfl ⟨x,H,(I.turned (fun b o hb e=>(sb.2 b hb).trans e) f0 f1 f3 f4 f5),ru,⟨rfl,fun ys hy=>by rwa [I.list_inj hy hq]⟩,st',fun b hb=>(hf b hb).1⟩⟩
 done:=by
  intro X hP hw hK hc i pins s σ H E I hf st hg
  subst hP hw hK
  obtain⟨xs,hq,hx⟩:=hg
  obtain⟨its,rv,p,hz⟩:=I.list hq
  obtain⟨f0,f1,f2,f3,f4,f5⟩:=hf it (by simp)
  have hl:=rv.length
  exact wpAny_pyNext_list_end (I.ok.hd hc) st p.isList (by simp_all) fun h' eb=>⟨rfl,I.turned (fun b o hb e=>eb b o hb e) f0 f1 f3 f4 f5⟩
 self:=fun _ _ _ _ _ st h=>wpAny_pyIter_listiter st h
theorem zlJ {P:Program} {w:World} {K:PySem.W.Frag} {tg:Expr} (it:Addr) (lo:Int) (n:Nat):Turn P w K tg (Itr lo n) [it] it (fun i h=>IsRangeIter h it (lo+(i:Nat)*1) ((n:Int) - (i:Nat)) 1) where
 mem:=by simp
 obj:=fun i h st b hb=>by
  have e:b=it:=by simp_all
  subst e
  exact⟨_,st,fun v z=>by
   trivial⟩
 keep:=fun i h h' st k=>k _ (by simp) _ st
 item:=by
  intro X hP hw hK hc i pins s σ H E I hf st hg
  subst hP hw hK
  obtain⟨f0,f1,f2,f3,f4,f5⟩:=hf it (by simp)
  refine (Walks.range (I.ok.hd hc) _ _ 1 n).item i s _ _ hg st fun v h' tk hv st' kk=>?_
  obtain⟨t,rfl⟩:=hv
  have I1:Inv X _ _ H { s with heap:=h',toks:=tk }:=I.turned (fun b o hb e=>kk b o (by grind) e) f0 f1 f3 f4 f5
  refine⟨_,rfl,zqN st' rfl rfl (by decide) ⟨.int _,H,I1,⟨t,?_⟩,⟨rfl,rfl⟩,st',fun b hb=>(hf b hb).1⟩⟩
  rw[Int.mul_one]
 done:=by
  intro X hP hw hK hc i pins s σ H E I hf st hg
  obtain⟨f0,f1,f2,f3,f4,f5⟩:=hf it (by simp)
  exact wpAny_pyNext_range_end (I.ok.hd hc) st (by have:n≤i:=hg;omega) fun h' eb=>⟨rfl,I.turned (fun b o hb e=>eb b o hb e) f0 f1 f3 f4 f5⟩
 self:=fun _ _ _ _ _ st h=>wpAny_pyIter_rangeiter st h
section
variable {X:Cx} {tg:Expr}
def zqi (K:PySem.W.Frag) (tl:TE):TI:=fun σ H R=>tl σ H fun x H1=>∃a,x=.ref a∧(∃xs,SqL K H1 a xs)∧R (Itl K a) H1
theorem zcw {l:Expr} {tl:TE} (hl:PE X l tl):PI X tg l (zqi X.K tl):=by
 intro pins s σ H R I h
 refine thn (hl _ s _ H _ I h) fun v s1 ⟨x,_,I1,r1,q1⟩=>?_
 obtain⟨a,e,⟨xs,hq⟩,q⟩:=q1
 subst e
 cases r1
 obtain⟨its,rv,p,hz⟩:=I1.list hq
 refine wpAny_pyIter_list p.isList (⟨_,_,_,_,_,rfl,I1.kept fun b o e=>Heap.get?_push_of_some _ e,zmJ a _,⟨_,Heap.get?_push_size _ rfl,rfl,rfl⟩,fun b hb=>?_,q⟩)
 have e:b=s1.heap.objs.size:=by simp_all
 subst e
 exact I1.fpOk (Nat.le_refl _) (I1.hok.fresh (Nat.le_refl _))
theorem zlE {pins:List (Addr×Obj)} {σ:St} {H:Hp} {s:Shared} {R:It→Hp→Prop} {E:Value→Shared→Prop} {lo hi:Int} {t u v:Tok} {tk:Nat} (I:Inv X pins σ H s) (h1 : -(2 ^ 62)≤lo) (h2:lo<2 ^ 62) (h3 : -(2 ^ 62)≤hi) (h4:hi<2 ^ 62)
  (q:R (Itr lo (hi - lo).toNat) H):wpAny (model X.prog X.w) X.A (pyIter (.ref s.heap.objs.size)) (PIE X pins σ tg R) E { s with heap:=s.heap.push { cls:=.type "range",data:=.fields #[.int lo t,.int hi u,.int 1 v] },toks:=tk }:=by
 refine wpAny_pyIter_range (IsRange.new ..) (small_one h1 h2 h3 h4) ?_
 have I1:Inv X _ _ H { s with heap:=s.heap.push { cls:=.type "range",data:=.fields #[.int lo t,.int hi u,.int 1 v] },toks:=tk }:=I.kept fun b o e=>Heap.get?_push_of_some _ e
 refine⟨_,_,_,_,H,rfl,
  I1.kept fun b o e=>Heap.get?_push_of_some _ e,zlJ _ _ _,?_,fun b hb=>?_,q⟩
 ·have e1:lo+(0:Nat)*1=lo:=by simp
  have e2:((hi - lo).toNat:Int) - (0:Nat)=Builtin.Range.rangeSize lo hi 1:=by rw[rangeSize_one];omega
  rw[e1,e2]
  exact Heap.get?_push_size _ rfl
 ·have e:b=(s.heap.push { cls:=.type "range",data:=.fields #[.int lo t,.int hi u,.int 1 v] }).objs.size:=by simp_all
  subst e
  exact I1.fpOk (Nat.le_refl _) (I1.hok.fresh (Nat.le_refl _))
def zsf (ta:TA):TI:=fun σ H R=>ta σ H fun vs H1=>∃j:Int,vs=[.int j]∧-(2 ^ 62)≤j∧j<2 ^ 62∧R (Itr 0 j.toNat) H1
def zsE (ta:TA):TI:=fun σ H R=>ta σ H fun vs H1=>∃i j:Int,vs=[.int i,.int j]∧(-(2 ^ 62)≤i∧i<2 ^ 62∧-(2 ^ 62)≤j∧j<2 ^ 62)∧R (Itr i (j - i).toNat) H1
theorem zdQ {a:Expr} {ta:TA} {p pos:Pos} (hg:Gl X "range") (hm:X.mg "range"=none) (ha:PA X [a] ta) (hs:starEach [a] X.env=[(false,eval a X.env)]:=by rfl):PI X tg (.Call (.Name "range" p) [a] [] pos) (zsf ta):=by
 intro pins s σ H R I h
 refine Call_ (zhW I hg hm boot_range (PyProof.Rows.callWith_type1 (thn (ha _ _ s _ H _ I h) fun us s1 ⟨_,_,I1,r1,q1⟩=>?_) hs rfl))
 obtain⟨j,e,q1,q2,q⟩:=q1
 subst e
 cases r1 with
 | cons r rr=>
  cases rr
  obtain⟨t,rfl⟩:=r
  exact call_range_1 (zlE I1 (by omega) (by omega) q1 q2 (by simp_all))
theorem zf8 {a b:Expr} {ta:TA} {p pos:Pos} (hg:Gl X "range") (hm:X.mg "range"=none) (ha:PA X [a,b] ta) (hs:starEach [a,b] X.env=[(false,eval a X.env),(false,eval b X.env)]:=by rfl) (hs2:starEach [b] X.env=[(false,eval b X.env)]:=by rfl) :
  PI X tg (.Call (.Name "range" p) [a,b] [] pos) (zsE ta):=by
 intro pins s σ H R I h
 refine Call_ (zhW I hg hm boot_range (PyProof.Rows.callWith_type1 (thn (ha _ _ s _ H _ I h) fun us s1 ⟨_,_,I1,r1,q1⟩=>?_) (by simp_all) (by rw[hs2];rfl)))
 obtain⟨i,j,e,⟨q1,q2,q3,q4⟩,q⟩:=q1
 subst e
 cases r1 with
 | cons r rr=>
  cases rr with
  | cons r' rr=>
   cases rr
   obtain⟨t,rfl⟩:=r
   obtain⟨t',rfl⟩:=r'
   exact call_range_2 (zlE I1 q1 q2 q3 q4 q)
def tFor (wi:TI) (g:TG) (tb:TS):TS:=fun D σ H=>wi σ H fun J H1=>∃W:Nat→Nat→St→Hp→Prop,(∃m,W 0 m σ H1)∧∀i m σ H,W i m σ H →
 (J.stop i H∧D.nx σ H)∨(J.go i H∧∃N:St→Hp→Prop,(∀σ' H',N σ' H'→∃m',m'<m∧W (i+1) m' σ' H')∧∀x H',J.yld i H x H'→g x σ H' fun σ2 H2=>tb { D with nx:=N,ct:=N,bk:=D.nx } σ2 H2)
def zgG (fp:List Addr) (h:Heap):List (Addr×Obj):=fp.filterMap fun b=>(h.get? b).map fun o=>(b,o)
theorem zcO {fp:List Addr} {h:Heap} {b:Addr} {o:Obj} (hb:b∈fp) (e:h.get? b=some o):(b,o)∈zgG fp h:=List.mem_filterMap.mpr ⟨b,hb,by simp_all⟩
theorem zny {fp:List Addr} {h:Heap} {p:Addr×Obj} (hp:p∈zgG fp h):p.1∈fp∧h.get? p.1=some p.2:=by
 obtain⟨b,hb,e⟩:=List.mem_filterMap.mp hp
 cases q:h.get? b with
 | none=>simp_all
 | some o=>
  grind
theorem Inv.pinned {pins:List (Addr×Obj)} {σ:St} {H:Hp} {s:Shared} {fp:List Addr} (I:Inv X pins σ H s) (hf:∀b∈fp,FpOk X pins H b) (ho:∀b∈fp,∃o,s.heap.get? b=some o∧∀v,o.data≠.cell v):Inv X (pins++zgG fp s.heap) σ H s:=
 I.pins_of fun p hp=>(List.mem_append.mp hp).elim (fun z=>I.pin p (List.mem_append_right _ z)) fun z=>by
  obtain⟨hb,e⟩:=zny z
  obtain⟨f0,f1,f2,_⟩:=hf _ hb
  obtain⟨o,e',d⟩:=ho _ hb
  rw[e] at e';cases e'
  exact⟨e,f0,f1,f2,d⟩
theorem Inv.unpinned {pins pl:List (Addr×Obj)} {σ:St} {H:Hp} {s:Shared} (I:Inv X (pins++pl) σ H s):Inv X pins σ H s:=I.pins_of fun p hp=>I.pin p (List.mem_append_right _ (List.mem_append_left _ hp))
theorem zc6 {iter:Expr} {body:List Stmt} {wi:TI} {g:TG} {tb:TS} {pos:Pos} (hp:PassesOwn (model X.prog X.w) X.A X.env X.xe) (hc:X.calm=true) (hi:PI X tg iter wi) (hg:PG X tg g) (hb:PSs X body tb)
  (hs:∀x,foldedSetIterable iter X.env x=pure x:=by intro _;rfl):PS X (.For tg iter body [] pos) (tFor wi g tb):=by
 intro pins s σ H D I h
 refine wpAny_For (thn (hi pins s σ H _ I h) fun v s1 h1=>thn h1 fun itv s2 h2=>?_) hs
 obtain⟨it,fp,tn,J,H2,e,I2,T,st2,f2,W,⟨m0,w0⟩,turn⟩:=h2
 subst e
 -- what stays true of the iterator's objects through the loop
 have stat:∀ {H':Hp},(∀b∈fp,H' b=none)→∀b∈fp,FpOk X pins H' b:=fun hn b hb=>⟨hn b hb,(f2 b hb).2⟩
 refine codeAny_forLoop_any (fun n s'=>∃i σ' H',Inv X pins σ' H' s'∧tn i s'.heap∧(∀b∈fp,H' b=none)∧W i n σ' H') ?_ m0 ⟨0,σ,H2,I2,st2,fun b hb=>(f2 b hb).1,w0⟩
 rintro n s3 ⟨i,σ3,H3,I3,st3,fr3,w3⟩
 rcases turn i n σ3 H3 w3 with ⟨stop,qn⟩|⟨go,N,hN,step⟩
 ·refine wpAny_passesOwn hp (thn (T.done X rfl rfl rfl hc i pins s3 σ3 H3 X.xe I3 (stat fr3) st3 stop) fun r s4 ⟨hr,I4⟩=>?_)
  subst hr
  exact wpAny_execs_nil ⟨_,_,I4,qn⟩
 ·refine wpAny_passesOwn hp (thn (T.item X rfl rfl rfl hc i _ _ _ _ _ I3 (stat fr3) st3 go) fun r s4 ⟨u,hr,h4⟩=>?_)
  subst hr
  refine wpAny_passesOwn hp (thn h4 fun _ s5 ⟨x,_,I5,r5,y5,st5,fr5⟩=>?_)
  refine wpAny_passesOwn hp (thn (hg _ _ _ _ x u _ (I5.pinned (stat fr5) (T.obj _ _ st5)) r5 (step x _ y5)) fun _ s6 ⟨_,_,I6,q6⟩=>(wpAny_passesOwn hp (thn (hb _ _ _ _ _ I6 q6) fun f s7 q7=>?_)))
  have again:∀ {σ7:St} {H7:Hp},Inv X (pins++zgG _ _) σ7 H7 _→N _ _→∃m,m<n∧∃i σ' H',Inv X _ σ' H' _∧tn i s7.heap∧(∀b∈fp,H' b=none)∧W i m σ' H':=fun {σ7 H7} I7 n7=>by
   obtain⟨m',hm,w7⟩:=hN _ _ n7
   refine⟨_,hm,_,_,_,I7.unpinned,T.keep _ _ _ st5 fun b hb o e=>(I7.pin _ (List.mem_append_right _ (List.mem_append_right _ (zcO hb e)))).1,fun b hb=>?_,w7⟩
   obtain⟨o,e,d⟩:=T.obj _ _ st5 b hb
   exact (I7.pin _ (List.mem_append_right _ (List.mem_append_right _ (zcO hb e)))).2.1
  cases f with
  | next=>obtain⟨σ7,H7,I7,n7⟩:=q7;exact again I7 n7
  | cont=>obtain⟨σ7,H7,I7,n7⟩:=q7;exact again I7 n7
  | brk=>obtain⟨σ7,H7,I7,q7⟩:=q7;exact⟨_,_,I7.unpinned,q7⟩
  | ret v=>obtain⟨x7,σ7,H7,I7,r7,q7⟩:=q7;exact⟨_,_,_,I7.unpinned,r7,q7⟩
end
abbrev R2:=V→V→Hp→VK→Prop
def OpR (X:Cx) (f:Value→Value→Sem Value) (r:R2):Prop:=
 ∀(pins:List (Addr×Obj)) (s:Shared) (σ:St) (H:Hp) (x y:V) (v u:Value) (Q:VK),Inv X pins σ H s→RelV x v→RelV y u→r x y H Q →
  wpAny (model X.prog X.w) X.A (f v u) (EP X pins σ Q) X.xe s
def UnR (X:Cx) (f:Value→Sem Value) (r:V→Hp→VK→Prop):Prop:=
 ∀(pins:List (Addr×Obj)) (s:Shared) (σ:St) (H:Hp) (x:V) (v:Value) (Q:VK),Inv X pins σ H s→RelV x v→r x H Q →
  wpAny (model X.prog X.w) X.A (f v) (EP X pins σ Q) X.xe s
def zgQ (X:Cx) (f:Value) (r:List V→Hp→VK→Prop):Prop:=
 ∀(pins:List (Addr×Obj)) (s:Shared) (σ:St) (H:Hp) (xs:List V) (us:List Value) (Q:VK),Inv X pins σ H s→Vals xs us→r xs H Q →
  wpAny (model X.prog X.w) X.A (call f us) (EP X pins σ Q) X.xe s
def tOp (r:R2) (ta tb:TE):TE:=fun σ H Q=>ta σ H fun x H1=>tb σ H1 fun y H2=>r x y H2 Q
def tUn (r:V→Hp→VK→Prop) (ta:TE):TE:=fun σ H Q=>ta σ H fun x H1=>r x H1 Q
def rI (C:Int→Int→Prop) (g:Int→Int→V):R2:=fun x y H Q=>∃i j,x=.int i∧y=.int j∧C i j∧Q (g i j) H
def rI0 (g:Int→Int→V):R2:=fun x y H Q=>∃i j,x=.int i∧y=.int j∧Q (g i j) H
def rU (g:Int→V):V→Hp→VK→Prop:=fun x H Q=>∃i,x=.int i∧Q (g i) H
section
variable {X:Cx} {a b c:Expr} {ta tb tc:TE} {pos:Pos}
theorem binT (ha:PE X a ta) (hb:PE X b tb) {pins:List (Addr×Obj)} {s:Shared} {σ:St} {H:Hp} {R:V→V→Hp→Prop} (I:Inv X pins σ H s)
  (h:ta σ H fun x H1=>tb σ H1 fun y H2=>R x y H2) {Q:Value→Shared→Prop} {f:Value→Value→Sem Value}
  (hf:∀v u s2 x y H2,Inv X pins σ H2 s2→RelV x v→RelV y u→R x y H2→wpAny (model X.prog X.w) X.A (f v u) Q X.xe s2) :
  wpAny (model X.prog X.w) X.A (eval a X.env) (fun v s₁=>wpAny (model X.prog X.w) X.A (eval b X.env) (fun u s₂=>wpAny (model X.prog X.w) X.A (f v u) Q X.xe s₂) X.xe s₁) X.xe s:=by
 refine thn (ha _ s _ H _ I h) fun v s1 ⟨x,_,I1,_,q1⟩=>(thn (hb _ _ _ _ _ I1 q1) fun u s2 ⟨y,_,_,_,_⟩=>?_)
 grind
theorem zaU {op:Operator} {r:R2} (ho:OpR X (binaryOp op) r) (ha:PE X a ta) (hb:PE X b tb):PE X (.BinOp a op b pos) (tOp r ta tb):=fun pins s σ H Q I h=>wpAny_BinOp (binT ha hb I h fun v u s2 x y H2 I2 rx ry q=>ho _ _ _ _ x y v u Q I2 rx ry q)
theorem zlS {op:UnaryOp} {r:V→Hp→VK→Prop} (ho:UnR X (unaryOp op) r) (ha:PE X a ta):PE X (.UnaryOp op a pos) (tUn r ta):=fun pins s σ H Q I h=>UnaryOp_ (thn (ha _ s _ H _ I h) fun v s1 ⟨x,_,I1,r1,q1⟩=>ho _ _ _ _ x v Q I1 r1 q1)
theorem opI {f:Value→Value→Sem Value} {C:Int→Int→Prop} {g:Int→Int→Int}
  (rule:∀(i j:Int) (t u:Tok) (s:Shared) (Q:Value→Shared→Prop) (E:Value→Shared→Prop),C i j→Q (.int (g i j) s.toks) { s with toks:=s.toks+1 }→wpAny (model X.prog X.w) X.A (f (.int i t) (.int j u)) Q E s) :
  OpR X f (rI C fun i j=>.int (g i j)):=by
 rintro pins s σ H x y v u Q I rx ry ⟨i,j,rfl,rfl,hc,q⟩
 obtain⟨t,rfl⟩:=rx
 obtain⟨t',rfl⟩:=ry
 exact rule i j t _ s _ _ hc ⟨.int _,H,I.tok _,⟨_,rfl⟩,q⟩
theorem opI0 {f:Value→Value→Sem Value} {g:Int→Int→Int}
  (rule:∀(i j:Int) (t u:Tok) (s:Shared) (Q:Value→Shared→Prop) (E:Value→Shared→Prop),Q (.int (g i j) s.toks) { s with toks:=s.toks+1 }→wpAny (model X.prog X.w) X.A (f (.int i t) (.int j u)) Q E s) :
  OpR X f (rI0 fun i j=>.int (g i j)):=by
 rintro pins s σ H x y v u Q I rx ry ⟨i,j,rfl,rfl,q⟩
 obtain⟨t,rfl⟩:=rx
 obtain⟨t',rfl⟩:=ry
 exact rule i j t _ s _ _ ⟨.int _,H,I.tok _,⟨_,rfl⟩,q⟩
theorem opB0 {f:Value→Value→Sem Value} {g:Int→Int→Bool}
  (rule:∀(i j:Int) (t u:Tok) (s:Shared) (Q:Value→Shared→Prop) (E:Value→Shared→Prop),Q (.bool (g i j)) s→wpAny (model X.prog X.w) X.A (f (.int i t) (.int j u)) Q E s) :
  OpR X f (rI0 fun i j=>.bl (g i j)):=by
 rintro pins s σ H x y v u Q I rx ry ⟨i,j,rfl,rfl,q⟩
 obtain⟨t,rfl⟩:=rx
 obtain⟨t',rfl⟩:=ry
 exact rule i j t _ s _ _ ⟨.bl _,H,I,rfl,q⟩
def CPow (i j:Int):Prop:=0≤j∧j≤1000000∧i.natAbs<2 ^ 64
theorem zds:OpR X (binaryOp .Add) (rI0 fun i j=>.int (i+j)):=opI0 fun _ _ _ _ _ _ _ q=>add_int q
theorem zli:OpR X (binaryOp .Sub) (rI0 fun i j=>.int (i - j)):=opI0 fun _ _ _ _ _ _ _ q=>sub_int q
theorem zdL:OpR X (binaryOp .Mod) (rI (fun _ j=>0<j) fun i j=>.int (i%j)):=opI fun i j _ _ _ _ _ hc q=>mod_int' (by omega) (by rwa [Int.fmod_eq_emod_of_nonneg i (by omega)])
theorem zsg:OpR X (binaryOp .Pow) (rI CPow fun i j=>.int (i ^ j.toNat)):=opI fun _ _ _ _ _ _ _ hc q=>pow_int_small hc.1 hc.2.1 hc.2.2 q
theorem unI {f:Value→Sem Value} {g:Int→Int}
  (rule:∀(i:Int) (t:Tok) (s:Shared) (Q:Value→Shared→Prop) (E:Value→Shared→Prop),Q (.int (g i) s.toks) { s with toks:=s.toks+1 }→wpAny (model X.prog X.w) X.A (f (.int i t)) Q E s) :
  UnR X f (rU fun i=>.int (g i)):=by
 rintro pins s σ H x v Q I rx ⟨i,rfl,q⟩
 obtain⟨t,rfl⟩:=rx
 exact rule i t s _ _ ⟨.int _,H,I.tok _,⟨_,rfl⟩,q⟩
theorem zh4:UnR X (unaryOp .USub) (rU fun i=>.int (-i)):=unI fun _ _ _ _ _ q=>neg_int q
end
def scal:V→V→Bool
 | .non,.non=>true|.non,.int _=>true|.int _,.non=>true|.non,.bl _=>true|.bl _,.non=>true|.non,.str _=>true|.str _,.non=>true
 | .int _,.int _=>true|.bl _,.bl _=>true|.str _,.str _=>true|.byt _,.byt _=>true
 | .int _,.str _=>true|.str _,.int _=>true|.bl _,.str _=>true|.str _,.bl _=>true
 | _,_=>false
def rEq:R2:=fun x y H Q=>scal x y=true∧Q (.bl (decide (x=y))) H
def rNe:R2:=fun x y H Q=>scal x y=true∧Q (.bl (!decide (x=y))) H
theorem znW {i j:Int}:decide (V.int i=V.int j)=(i == j):=by
 grind
theorem zpG {i j:Bool}:decide (V.bl i=V.bl j)=(i == j):=by
 grind
theorem zmC {i j:Str}:decide (V.str i=V.str j)=(i == j):=by
 grind
theorem zmF {i j:Array UInt8}:decide (V.byt i=V.byt j)=(i.toList == j.toList):=by
 rw[Bool.eq_iff_iff]
 simp
section
variable {X:Cx} {a b c:Expr} {ta tb tc:TE} {pos:Pos}
theorem zbF {pins:List (Addr×Obj)} {σ:St} {H:Hp} {s:Shared} {Q:VK} {k k':Bool} (I:Inv X pins σ H s) (q:Q (.bl k) H) (e:k=k'):EP X pins σ Q (.bool k') s:=by
 subst e
 exact⟨.bl k,H,I,rfl,q⟩
theorem zcn:OpR X (compareOp .Eq) rEq:=by
 rintro pins s σ H x y v u Q I rx ry ⟨hs,q⟩
 cases x with
 | non=>
  cases rx
  cases y with
  | non=>cases ry;exact PySem.EqNone.eq_none_none (zbF I q (by simp))
  | bl j=>cases ry;exact PySem.EqNone.eq_none_bool (zbF I q (by simp))
  | int j=>obtain⟨t',rfl⟩:=ry;exact PySem.EqNone.eq_none_int (zbF I q (by simp))
  | str j=>obtain⟨t',rfl⟩:=ry;exact PySem.EqNone.eq_none_str (zbF I q (by simp))
  | _=>exact absurd (show false=true from hs) Bool.false_ne_true
 | bl i=>
  cases rx
  cases y with
  | non=>cases ry;exact PySem.EqNone.eq_bool_none (zbF I q (by simp))
  | bl j=>cases ry;exact eq_bool (zbF I q zpG)
  | str j=>obtain⟨t',rfl⟩:=ry;exact PySem.EqMixed.eq_bool_str (zbF I q (by simp))
  | _=>exact absurd (show false=true from hs) Bool.false_ne_true
 | int i=>
  obtain⟨t,rfl⟩:=rx
  cases y with
  | non=>cases ry;exact PySem.EqNone.eq_int_none (zbF I q (by simp))
  | int j=>obtain⟨t',rfl⟩:=ry;exact eq_int (zbF I q znW)
  | str j=>obtain⟨t',rfl⟩:=ry;exact PySem.EqMixed.eq_int_str (zbF I q (by simp))
  | _=>exact absurd (show false=true from hs) Bool.false_ne_true
 | str i=>
  obtain⟨t,rfl⟩:=rx
  cases y with
  | non=>cases ry;exact PySem.EqNone.eq_str_none (zbF I q (by simp))
  | bl j=>cases ry;exact PySem.EqMixed.eq_str_bool (zbF I q (by simp))
  | int j=>obtain⟨t',rfl⟩:=ry;exact PySem.EqMixed.eq_str_int (zbF I q (by simp))
  | str j=>obtain⟨t',rfl⟩:=ry;exact eq_str (zbF I q zmC)
  | _=>exact absurd (show false=true from hs) Bool.false_ne_true
 | byt i=>
  obtain⟨t,rfl⟩:=rx
  cases y with
  | byt j=>obtain⟨t',rfl⟩:=ry;exact PySem.W.eq_bytes (zbF I q zmF)
  | _=>exact absurd (show false=true from hs) Bool.false_ne_true
 | _=>cases y <;> exact absurd (show false=true from hs) Bool.false_ne_true
theorem zor:OpR X (compareOp .NotEq) rNe:=by
 rintro pins s σ H x y v u Q I rx ry ⟨hs,q⟩
 cases x with
 | non=>
  cases rx
  cases y with
  | non=>cases ry;exact PySem.EqNone.ne_none_none (zbF I q (by simp))
  | bl j=>cases ry;exact PySem.EqNone.ne_none_bool (zbF I q (by simp))
  | int j=>obtain⟨t',rfl⟩:=ry;exact PySem.EqNone.ne_none_int (zbF I q (by simp))
  | str j=>obtain⟨t',rfl⟩:=ry;exact PySem.EqNone.ne_none_str (zbF I q (by simp))
  | _=>exact absurd (show false=true from hs) Bool.false_ne_true
 | bl i=>
  cases rx
  cases y with
  | non=>cases ry;exact PySem.EqNone.ne_bool_none (zbF I q (by simp))
  | bl j=>cases ry;exact ne_bool (zbF I q (congrArg not zpG))
  | str j=>obtain⟨t',rfl⟩:=ry;exact PySem.EqMixed.ne_bool_str (zbF I q (by simp))
  | _=>exact absurd (show false=true from hs) Bool.false_ne_true
 | int i=>
  obtain⟨t,rfl⟩:=rx
  cases y with
  | non=>cases ry;exact PySem.EqNone.ne_int_none (zbF I q (by simp))
  | int j=>obtain⟨t',rfl⟩:=ry;exact ne_int (zbF I q (congrArg not znW))
  | str j=>obtain⟨t',rfl⟩:=ry;exact PySem.EqMixed.ne_int_str (zbF I q (by simp))
  | _=>exact absurd (show false=true from hs) Bool.false_ne_true
 | str i=>
  obtain⟨t,rfl⟩:=rx
  cases y with
  | non=>cases ry;exact PySem.EqNone.ne_str_none (zbF I q (by simp))
  | bl j=>cases ry;exact PySem.EqMixed.ne_str_bool (zbF I q (by simp))
  | int j=>obtain⟨t',rfl⟩:=ry;exact PySem.EqMixed.ne_str_int (zbF I q (by simp))
  | str j=>obtain⟨t',rfl⟩:=ry;exact ne_str (zbF I q (congrArg not zmC))
  | _=>exact absurd (show false=true from hs) Bool.false_ne_true
 | byt i=>
  obtain⟨t,rfl⟩:=rx
  cases y with
  | byt j=>obtain⟨t',rfl⟩:=ry;exact PySem.W.ne_bytes (zbF I q (congrArg not zmF))
  | _=>exact absurd (show false=true from hs) Bool.false_ne_true
 | _=>cases y <;> exact absurd (show false=true from hs) Bool.false_ne_true
theorem zlK:OpR X (compareOp .Lt) (rI0 fun i j=>.bl (decide (i<j))):=opB0 fun _ _ _ _ _ _ _ q=>lt_int q
theorem zfj:OpR X (compareOp .Gt) (rI0 fun i j=>.bl (decide (j<i))):=opB0 fun _ _ _ _ _ _ _ q=>gt_int q
theorem zsz:OpR X (compareOp .Is) (fun x y H Q=>y=.non∧Q (.bl (decide (x=.non))) H):=by
 rintro pins s σ H x y v u Q I rx ry ⟨rfl,q⟩
 cases ry
 refine is_none_gen (zbF I q ?_)
 cases x <;> first
  | rfl
  | (obtain⟨t,rfl⟩:=rx;rfl)
theorem zqm:OpR X (compareOp .IsNot) (fun x y H Q=>y=.non∧Q (.bl (!decide (x=.non))) H):=by
 rintro pins s σ H x y v u Q I rx ry ⟨rfl,q⟩
 cases ry
 refine isnot_none_gen (zbF I q ?_)
 cases x <;> first
  | rfl
  | (obtain⟨t,rfl⟩:=rx;rfl)
theorem zaF (b:Expr) {op:CmpOp} (h:op≠.In:=by decide) (h2:op≠.NotIn:=by decide):behindInMarks op b=false:=by
 have e1:(op == CmpOp.In)=false:=by cases op <;> first|rfl|simp_all
 have e2:(op == CmpOp.NotIn)=false:=by cases op <;> first|rfl|grind
 cases b <;> simp[behindInMarks,e1,e2]
theorem zbu {op:CmpOp} {r:R2} (ho:OpR X (compareOp op) r) (ha:PE X a ta) (hb:PE X b tb) (hm:behindInMarks op b=false):PE X (.Compare a [op] [b] pos) (tOp r ta tb):=fun pins s σ H Q I h=>wpAny_Compare1 (binT ha hb I h fun v u s2 x y H2 I2 rx ry q=>ho _ _ _ _ x y v u Q I2 rx ry q) hm
def zr6 (t:TE):TT:=fun σ H Q=>t σ H fun x H'=>∃k,x=.bl k∧Q k H'
theorem zaX {op:CmpOp} {r:R2} (ho:OpR X (compareOp op) r) (ha:PE X a ta) (hb:PE X b tb) (hm:behindInMarks op b=false):PT X (.Compare a [op] [b] pos) (zr6 (tOp r ta tb)):=by
 intro pins s σ H Q I h
 refine wpAny_isTrue_Compare1 (thn (ha _ s _ H _ I h) fun v s1 ⟨x,_,I1,r1,q1⟩=>thn (hb _ _ _ _ _ I1 q1) fun u s2 ⟨y,_,I2,r2,q2⟩=>
  thn (ho _ _ _ _ x y v u _ I2 r1 r2 q2) fun c s3 ⟨z,_,I3,r3,k,e,q3⟩=>?_) hm
 subst e
 cases r3
 exact wpAny_truthy_bool ⟨_,I3,q3⟩
theorem zh1:(sizeLine:Nat)<2 ^ 63:=by decide
theorem za6:OpR X (binaryOp .Add) (fun x y H Q=>∃i j,x=.str i∧y=.str j∧i.length+j.length≤sizeLine∧Q (.str (i++j)) H):=by
 rintro pins s σ H x y v u Q I rx ry ⟨i,j,rfl,rfl,hz,q⟩
 obtain⟨t,rfl⟩:=rx
 obtain⟨t',rfl⟩:=ry
 exact add_str (fun t' tk=>⟨.str _,H,I.tok _,⟨_,rfl⟩,q⟩) hz
theorem zhF {x:V} {us:List Value} (r:Vals [x] us):∃u,us=[u]∧RelV x u:=by
 cases r with
 | cons r1 r2=>cases r2;simp_all
theorem zrO {x y:V} {us:List Value} (r:Vals [x,y] us):∃u w',us=[u,w']∧RelV x u∧RelV y w':=by
 cases r with
 | cons r1 r2=>
  cases r2 with
  | cons r3 r4=>cases r4;grind
theorem zle:zgQ X (.builtin "abs") (fun xs H Q=>∃i,xs=[.int i]∧Q (.int (if i<0 then -i else i)) H):=by
 rintro pins s σ H xs us Q I r ⟨i,rfl,q⟩
 obtain⟨u,rfl,t,rfl⟩:=zhF r
 exact call_abs_int fun u tk=>⟨.int _,H,I.tok _,⟨_,rfl⟩,q⟩
theorem znj:zgQ X (.type "int") (fun xs H Q=>(∃i,xs=[.int i]∧Q (.int i) H)∨∃k,xs=[.bl k]∧Q (.int (if k then 1 else 0)) H):=by
 intro pins s σ H xs us Q I r h
 rcases h with ⟨i,rfl,q⟩|⟨k,rfl,q⟩
 ·obtain⟨u,rfl,t,rfl⟩:=zhF r
  exact call_int_int ⟨.int i,H,I,⟨_,rfl⟩,q⟩
 ·obtain⟨u,rfl,r1⟩:=zhF r
  cases r1
  exact call_int_bool ⟨.int _,H,I.tok _,⟨_,rfl⟩,q⟩
end
structure ObjM (h:Heap) (x dx C:Addr) (mA:Str→Option Value):Prop where
 obj:h.get? x=some (PySem.W.instObj C dx)
 ns:h.Ns1 dx mA
 ne:dx≠x
theorem zjk {h:Heap} {dx:Addr} {mA:Str→Option Value} (n:h.Ns1 dx mA):∃od,h.get? dx=some od∧∀name,PySem.W.lookIn name od=some (mA name):=by
 obtain⟨o,es,ep,ho,hd,hk,_,hm⟩:=n
 refine⟨o,ho,fun name=>?_⟩
 have e:=hm name
 unfold nsFind findBy at e
 rw[← Array.find?_toList] at e
 unfold PySem.W.lookIn
 rw[hd]
 dsimp
 split
 ·simp_all
 ·have a:es.toList.any (·.refKey)=false:=by
   rw[List.any_eq_false]
   intro y hy
   obtain⟨z,t,hkey⟩:=hk y (Array.mem_toList_iff.mp hy)
   simp[DictEntry.refKey,hkey]
  simp_all
theorem ObjM.look {h:Heap} {x dx C:Addr} {mA:Str→Option Value} (I:ObjM h x dx C mA):∃od,PySem.W.InstAt h x (PySem.W.instObj C dx) C (some od)∧∀name,PySem.W.lookIn name od=some (mA name):=
 let ⟨_,ho,hl⟩:=zjk I.ns
 ⟨_,⟨I.obj,rfl,rfl,ho⟩,hl⟩
theorem RelO.some_of {v:V} {o:Option Value} (r:RelO (some v) o):∃u,o=some u∧RelV v u:=by
 cases o with
 | none=>exact r.elim
 | some u=>exact⟨u,rfl,r⟩
theorem zmM {v:V} {u:Value} (r:RelV v u):PySem.W.handedIn u=true:=by
 cases v with
 | non=>cases r;rfl
 | bl b=>cases r;rfl
 | int i=>obtain⟨t,e⟩:=r;cases e;rfl
 | str x=>obtain⟨t,e⟩:=r;cases e;rfl
 | byt b=>obtain⟨t,e⟩:=r;cases e;rfl
 | flt b=>obtain⟨t,e⟩:=r;cases e;rfl
 | ref a=>cases r;rfl
 | ty n=>cases r;rfl
section
variable {P:Program} {w:World} {H H':Hp} {h h':Heap} {a C dx:Addr} {fs fs':List (Str×V)}
theorem zqM (hok:HOk P w H h) (e:H a=some (.ins C dx fs)):∃mA,ObjM h a dx C mA∧(∀f,RelO (fs.lookup f) (mA f))∧PySem.Within mA (fs.map (·.1))∧fs.length≤1000∧H dx=some (.own a):=let ⟨d,z,ne,ob,_,n,r,q⟩:=(hok a _ e);⟨_,⟨ob,n,ne⟩,r,q,z,d⟩
end
structure Cls (K:PySem.W.Frag) (C:Addr):Prop where
 pg:PySem.W.plainGet K C Str.empty=true
 hd:PySem.W.hasDictIn K C=true
 po:PySem.W.plainOver K C=true
 sa:PySem.W.findIn K (.ref C) "__setattr__"=some (some (.builtin "object.__setattr__"))
theorem Cls.get {K:PySem.W.Frag} {C:Addr} (c:Cls K C) (f:Str):PySem.W.plainGet K C f=true:=c.pg
def NoAttr (K:PySem.W.Frag) (C:Addr) (f:Str):Prop:=PySem.W.findIn K (.ref C) f=some none
theorem NoAttr.taker {K:PySem.W.Frag} {C:Addr} {f:Str} (n:NoAttr K C f):PySem.W.takerIn K C f=some none:=by
 unfold PySem.W.takerIn
 rw[n]
 rfl
section
variable {X:Cx} {pins:List (Addr×Obj)} {σ:St} {H:Hp} {s:Shared} {a C dx:Addr} {fs:List (Str×V)} {f:Str} {v:V} {A:Around} {E:Value→Shared→Prop}
theorem zq8 {prog:Program} {w:World} {env:Env} {e:Expr} {f:Str} {pos:Pos} {s:Shared} {Q:Value→Shared→Prop} (hb:attributeBase e f env (eval e env)=eval e env)
  (h:wpAny (model prog w) A (eval e env) (fun o s₁=>wpAny (model prog w) A (getAttr o f true) Q E s₁) E s):wpAny (model prog w) A (eval (.Attribute e f pos) env) Q E s:=
 Attribute_any_ h (by rw[arm_eval_Attribute,hb])
end
section
variable {X:Cx} {pins:List (Addr×Obj)} {σ:St} {H:Hp} {s:Shared} {A:Around} {E:Value→Shared→Prop} {Q:Value→Shared→Prop} {c:Value} {b:Bool}
inductive TyOf (K:PySem.W.Frag) (H:Hp):V→Value→Prop where
 | non:TyOf K H .non (.type "NoneType")
 | bl (x:Bool):TyOf K H (.bl x) (.type "bool")
 | int (i:Int):TyOf K H (.int i) (.type "int")
 | str (x:Str):TyOf K H (.str x) (.type "str")
 | flt (x:UInt64):TyOf K H (.flt x) (.type "float")
 | lst {a:Addr} {xs:List V} (e:H a=some (.lst xs)):TyOf K H (.ref a) (.type "list")
 | frz {a:Addr} {o:Obj} {xs:List V} (e:H a=some (.frz o (.lst xs))):TyOf K H (.ref a) (.type "list")
 | tup {a:Addr} {xs:List V} (e:H a=some (.tup xs)):TyOf K H (.ref a) (.type "tuple")
 | dK {a:Addr} {kvs:List (Key×V)} (e:H a=some (.dK kvs)):TyOf K H (.ref a) (.type "dict")
 | dT {a:Addr} {kvs:List (List Key×V)} (e:H a=some (.dT kvs)):TyOf K H (.ref a) (.type "dict")
 | ins {a C dx:Addr} {fs:List (Str×V)} (e:H a=some (.ins C dx fs)) (cl:Cls K C) (ha:PySem.W.findIn K (.ref C) "__class__"=some (some (.builtin "object.__class__")))
   (hn:PySem.W.specialIn K (.builtin "object.__class__") "__get__"=some (some (.builtin "getset_descriptor.__get__"))) (htk:PySem.W.takesIn K (.builtin "object.__class__")=some true)
   (hm:PySem.W.mroIn K C (.type "object")=some true):TyOf K H (.ref a) (.ref C)
theorem znF {x:V} {u t:Value} (I:Inv X pins σ H s) (rx:RelV x u) (ty:TyOf X.K H x t) (e:PySem.W.kitOne X.K t c=some b) (h:∀tk,Q (.bool b) { s with toks:=tk }) :
  wpAny (model X.prog X.w) A (call (.builtin "isinstance") [u,c]) Q E s:=by
 cases ty with
 | non=>cases rx;exact PySem.W.kia_one PySem.W.kitx_none I.kIn True.intro e (fun z=>nomatch z) h
 | bl y=>cases rx;exact PySem.W.kia_one PySem.W.kitx_bool I.kIn True.intro e (fun z=>nomatch z) h
 | int i=>obtain⟨t,q⟩:=rx;cases q;exact PySem.W.kia_one PySem.W.kitx_int I.kIn True.intro e (fun z=>nomatch z) h
 | str y=>obtain⟨t,q⟩:=rx;cases q;exact PySem.W.kia_one PySem.W.kitx_str I.kIn True.intro e (fun z=>nomatch z) h
 | flt y=>obtain⟨t,q⟩:=rx;cases q;exact PySem.W.kia_one PySem.W.kitx_float I.kIn True.intro e (fun z=>nomatch z) h
 | @lst a xs ea=>
  cases rx
  obtain⟨_,_,n,_,h1⟩:=(I.hok a _ ea)
  exact PySem.W.kia_one PySem.W.kitx_list I.kIn ⟨_,h1,rfl⟩ e (fun z=>nomatch z) h
 | @frz a ob xs ea=>
  cases (rx)
  obtain⟨_,_,_,n,_,h1⟩:=(I.hok a _ ea)
  exact PySem.W.kia_one PySem.W.kitx_list I.kIn ⟨_,h1,rfl⟩ e (fun z=>nomatch z) h
 | @tup a xs ea=>
  cases rx
  obtain⟨_,_,_,p⟩:=(I.hok a _ ea)
  obtain⟨o,h1,h2,_⟩:=p
  exact PySem.W.kia_one PySem.W.kitx_tuple I.kIn ⟨o,h1,h2⟩ e (fun z=>nomatch z) h
 | @dK a kvs ea=>
  cases rx
  obtain⟨_,_,vs,_,p⟩:=(I.hok a _ ea)
  obtain⟨o,es,ep,h1,h2,_⟩:=p
  exact PySem.W.kia_one PySem.W.kitx_dict I.kIn ⟨o,h1,h2.1⟩ e (fun z=>nomatch z) h
 | @dT a kvs ea=>
  cases rx
  obtain⟨_,_,xs,_,o,es,ep,h1,h2,_⟩:=(I.hok a _ ea)
  exact PySem.W.kia_one PySem.W.kitx_dict I.kIn ⟨o,h1,h2.1⟩ e (fun z=>nomatch z) h
 | @ins a C dx fs ea cl ha hn htk hm=>
  cases rx
  obtain⟨mA,O,_⟩:=zqM I.hok ea
  obtain⟨od,J,_⟩:=O.look
  exact PySem.W.kia_one (PySem.W.kitx_own (cl.get _) cl.hd ha hn htk hm) I.kIn J e (fun z=>nomatch z) h
end
structure Room (k:Nat) (A:Around):Prop where
 hd:A.handled=none
 dp:A.depth+3*k+5<recursionLimit
 un:A.units+16*k+200<cLine
theorem Room.mono {j k:Nat} {A:Around} (r:Room k A) (h:j≤k):Room j A:=⟨r.hd,by have:=r.dp;omega,by have:=r.un;omega⟩
theorem Room.deeper {k:Nat} {A:Around} (r:Room (k+1) A) (env:Env):Room k (A.deeper env):=
 ⟨r.hd,by have:=r.dp;show A.depth+1+3*k+5<_;omega,by have:=r.un;show A.units+3+16*k+200<_;omega⟩
theorem zl5 {A:Around} {C:Addr} {us:List Value} {kw:List (Str×Value)}:(A.under (.builtin "type.__call__" ⟨.ref C::us,kw⟩)).depth=A.depth+1:=by
 rfl
theorem zmu {A:Around} {C:Addr} {us:List Value} {kw:List (Str×Value)}:(A.under (.builtin "type.__call__" ⟨.ref C::us,kw⟩)).units=A.units+1:=rfl
theorem Room.make {k:Nat} {A:Around} (r:Room (k+1) A) (C:Addr) (us:List Value) (kw:List (Str×Value)):Room k (A.under (.builtin "type.__call__" ⟨.ref C::us,kw⟩)):=
 ⟨r.hd,by have:=r.dp;rw[zl5];omega,by have:=r.un;rw[zmu];omega⟩
theorem Room.depth {k:Nat} {A:Around} (r:Room k A):A.depth<recursionLimit:=by have:=r.dp;omega
theorem Room.units {k:Nat} {A:Around} (r:Room k A):A.units+64<cLine:=by have:=r.un;omega
def tNil:TA:=fun _ H Q=>Q [] H
def ze3 (ta:TE) (tr:TA):TA:=fun σ H Q=>ta σ H fun x H1=>tr σ H1 fun xs H2=>Q (x::xs) H2
section
variable {X:Cx} {e:Expr} {es:List Expr} {te:TE} {t:TA} {pos:Pos}
theorem zae:PA X [] tNil:=fun _ _ _ _ H Q I h=>Calls.spliced_nil ⟨_,H,I,.nil,h⟩
theorem zaa (ha:PE X e te) (hr:PA X es t) (hs:starEach (e::es) X.env=(false,eval e X.env)::starEach es X.env:=by rfl):PA X (e::es) (ze3 te t):=by
 intro pos pins s σ H Q I h
 rw[hs]
 exact Calls.spliced_cons (thn (ha _ s _ H _ I h) fun u s1 ⟨x,_,I1,r1,q1⟩=>thn (hr _ _ _ _ _ _ I1 q1) fun us s2 ⟨_,_,I2,r2,q2⟩=>⟨_,_,I2,.cons r1 r2,q2⟩)
def tTup (t:TA):TE:=fun σ H Q=>t σ H fun xs H1=>xs.length≤sizeLine∧∀p,H1 p=none→Q (.ref p) (upd H1 p (.tup xs))
def tLst (t:TA):TE:=fun σ H Q=>t σ H fun xs H1=>xs.length≤sizeLine∧∀p,H1 p=none→Q (.ref p) (upd H1 p (.lst xs))
theorem zcf {x1} (h:PA X es t):PE X (.Tuple es x1 pos) (tTup t):=by
 intro pins s σ H Q I hq
 refine wpAny_Tuple_spliced (thn (h _ _ s _ H _ I hq) fun us s1 ⟨_,_,I1,r,z,q⟩=>⟨by rwa [← r.length],(⟨.ref _,_,I1.laid (fun b u e=>Heap.get?_push_of_some _ e) (Nat.le_refl _) ?_,rfl,q _ (I1.hok.fresh (Nat.le_refl _))⟩)⟩)
 exact⟨z,_,r,⟨_,Heap.get?_push_size _ rfl,rfl,_,rfl⟩⟩
theorem zbK (h:PA X es t):PE X (.List es pos) (tLst t):=by
 intro pins s σ H Q I hq
 refine wpAny_List_spliced (thn (h _ _ s _ H _ I hq) fun us s1 ⟨_,_,I1,r,z,q⟩=>⟨by rwa [← r.length],(⟨.ref _,_,I1.laid (fun b u e=>Heap.get?_push_of_some _ e) (Nat.le_refl _) ?_,rfl,q _ (I1.hok.fresh (Nat.le_refl _))⟩)⟩)
 exact⟨z,_,0,r,Heap.get?_push_size _ rfl⟩
end
abbrev Sp:=List V→Hp→VK→XK→Prop
abbrev CXT:=List Env→Hp→Shared→XK→Value→Shared→Prop
structure Env0 (P:Program) (w:World) (K:PySem.W.Frag) (mg:Str→Option Value) (base:Heap) (A:Around) (outer:List Env) (s:Shared) (H:Hp):Prop where
 frames:A.frames=some outer
 mod:Mod K mg base
 bs:∀b o,base.get? b=some o→s.heap.get? b=some o∧H b=none
 bsz:base.objs.size≤s.heap.objs.size
 funs:s.heap.FunFrames base outer
 frf:∀b∈frs outer,H b=none
 hok:HOk P w H s.heap
 bare:AllBare s.gens
 tb:TbAt K H
def CE (outer:List Env) (P:Program) (w:World) (H:Hp) (s:Shared) (Q:VK) (u:Value) (s':Shared):Prop:=
 ∃v H',s'.os=s.os∧AllBare s'.gens∧Un (frs outer) [] H H' s.heap s'.heap∧HOk P w H' s'.heap∧RelV v u∧Q v H'
def CR (CX:CXT) (outer:List Env) (P:Program) (w:World) (H:Hp) (s:Shared) (Q:VK) (E:XK) (r:Result) (s':Shared):Prop:=
 match r with
 | .ok (.ret u)=>CE outer P w H s Q u s'
 | .ok _=>False
 | .error e=>CX outer H s E e s'
structure FnOk (P:Program) (w:World) (K:PySem.W.Frag) (mg:Str→Option Value) (base:Heap) (CX:CXT) (k:Nat) (f:Addr) (fd:FuncData) (ps:List Str) (sp:Sp):Prop where
 len:∀vs H Q E,sp vs H Q E→vs.length=ps.length
 run:∀(A:Around) (outer:List Env) (s:Shared) (H:Hp) (args:Args) (us:List Value) (vs:List V) (Q:VK) (E:XK),Room k A→Env0 P w K mg base A outer s H→BindsTo s fd args (ps.zip us)→Vals vs us→sp vs H Q E →
  codeAny (model P w) A (.call (.ref f) args) (CR CX outer P w H s Q E) s
theorem Env0.make {P:Program} {w:World} {K:PySem.W.Frag} {mg:Str→Option Value} {base:Heap} {A:Around} {outer:List Env} {s:Shared} {H:Hp} (e:Env0 P w K mg base A outer s H) (C:Addr) (us:List Value) (kw:List (Str×Value)) :
  Env0 P w K mg base (A.under (.builtin "type.__call__" ⟨.ref C::us,kw⟩)) outer s H:=⟨by first|rfl|(simpa[Around.under,Code.envs,Code.isFrame,pushEnvs] using e.frames),e.mod,e.bs,e.bsz,e.funs,e.frf,e.hok,e.bare,e.tb⟩
section
variable {X:Cx} {pins:List (Addr×Obj)} {σ:St} {H:Hp} {s s':Shared}
theorem Inv.env0 (I:Inv X pins σ H s):Env0 X.prog X.w X.K X.mg X.base X.A X.stack s H:=
 ⟨I.ok.frames,I.ok.mod,I.bs,Nat.le_trans I.ok.bsz I.sz,I.stack,I.stkFree,I.hok,I.bare,I.ok.tb.grown I.base.tbls⟩
theorem Inv.after {Q:VK} {u:Value} (I:Inv X pins σ H s) (h:CE X.stack X.prog X.w H s Q u s'):EP X pins σ Q u s':=by
 obtain⟨v,H',os,bare,un,hok,r,q⟩:=h
 obtain⟨hh,g,d,t,os'⟩:=s'
 obtain rfl:os'=s.os:=os
 exact⟨v,_,I.call un hok bare (fun b z=>absurd z (by simp)),r,q⟩
end
def zlT (sp:Sp) (dvs:List V) (E:XK) (t:TA):TE:=fun σ H Q=>t σ H fun vs H1=>sp (vs++dvs) H1 Q E
def Binds (K:PySem.W.Frag) (fd:FuncData) (ps:List Str) (ds:List Value):Prop:=
 ∀(s:Shared) (us:List Value),K.In s.heap→(us++ds).length=ps.length→BindsTo s fd ⟨us,[]⟩ (ps.zip (us++ds))
theorem Binds.all {K:PySem.W.Frag} {fd:FuncData} {ps:List Str} (h:∀us:List Value,us.length=ps.length→bindArgs fd ⟨us,[]⟩=pure (ps.zip us)):Binds K fd ps []:=fun s us _ hl=>by
 rw[List.append_nil] at hl ⊢
 exact .of_eq (h _ hl)
def zh6 (CX:CXT) (X:Cx) (E:XK):Prop:=∀(pins:List (Addr×Obj)) (σ:St) (H:Hp) (s:Shared) (e:Value) (s':Shared),Inv X pins σ H s→CX X.stack H s E e s'→X.xe e s'
section
variable {X:Cx} {CX:CXT} {k:Nat} {f C:Addr} {fd:FuncData} {ps:List Str} {sp:Sp} {dvs:List V} {ds:List Value} {E:XK} {x m:Str} {p pos apos:Pos} {e o:Expr} {es:List Expr} {ta:TE} {t:TA}
theorem zrZ {pins:List (Addr×Obj)} {σ:St} {H:Hp} {s:Shared} {Q:VK} {us:List Value} {vs:List V} (F:FnOk X.prog X.w X.K X.mg X.base CX k f fd ps sp) (hr:Room k X.A) (hb:Binds X.K fd ps ds) (hd:Vals dvs ds) (hx:zh6 CX X E)
  (I:Inv X pins σ H s) (r:Vals vs us) (h:sp (vs++dvs) H Q E):wpAny (model X.prog X.w) X.A (call (.ref f) us) (EP X pins σ Q) X.xe s:=by
 have r2:=r.append hd
 have hl:(us++ds).length=ps.length:=by rw[← r2.length];exact F.len _ _ _ _ h
 refine wpAny_call (codeAny_mono (F.run _ _ s H _ _ _ Q E hr I.env0 (hb s _ I.kIn hl) r2 h) fun r s' hq=>?_)
 cases r with
 | error e=>exact hx _ _ H s e _ I hq
 | ok fl=>
  cases fl with
  | ret u=>exact I.after hq
  | next=>exact False.elim hq
  | brk=>exact False.elim hq
  | cont=>exact False.elim hq
theorem zqL (F:FnOk X.prog X.w X.K X.mg X.base CX k f fd ps sp) (hr:Room k X.A) (hg:Gl X x) (hm:X.mg x=some (.ref f)) (hk:PySem.W.keepIn X.K (.ref f)=true) (hb:Binds X.K fd ps ds) (hd:Vals dvs ds) (hx:zh6 CX X E)
  (ha:PA X (e::es) t) (hdb:(x == ("__debug__" : Str))=false:=by decide) (he:starEach (e::es) X.env=(false,eval e X.env)::starEach es X.env:=by rfl) (hpl:(backTo pos (starEach es X.env)).any (·.1)=false:=by rfl) :
  PE X (.Call (.Name x p) (e::es) [] pos) (zlT sp dvs E t):=fun pins s σ H Q I h=>wpAny_Call_Name_kw (zfM I hg hm (PySem.W.callWith_K I.ok.mod.kin hk (thn (ha _ _ s _ H _ I h) fun us s1 ⟨_,_,I1,r,q⟩=>⟨I1.kIn,zrZ F hr hb hd hx I1 r q⟩) he hpl) hdb)
end
structure FnScope (N P:List Str) (sc:Scope):Prop where
 kind:sc.kind=.function
 co:sc.isCoroutine=false
 gen:sc.isGenerator=false
 nd:N.Nodup
 pre:N.take P.length=P
 par:∀x∈P,sc.names.lookup x=some .local∨sc.names.lookup x=some .cell
 nofree:∀y∈sc.names,y.2≠.free
theorem zjf {kindOf:Str→Option NameKind} {x:Str}:∀ {binds:List (Str×Value)} {m:Str→Option Value},(∀v,(x,v)∉binds)→bindL kindOf binds m x=m x
 | [],_,_=>rfl
 | (n,v)::r,m,h=>by
  unfold bindL
  rw[zjf fun w hw=>h w (List.mem_cons_of_mem _ hw)]
  split
  ·have:x≠n:=by grind
   simp_all
  ·rfl
theorem zjj {kindOf:Str→Option NameKind} {x:Str}:∀ {binds:List (Str×Value)} {m:Str→Option Value},(∀v,(x,v)∉binds)→bindC kindOf binds m x=m x
 | [],_,_=>rfl
 | (n,v)::r,m,h=>by
  unfold bindC
  rw[zjj fun w hw=>h w (List.mem_cons_of_mem _ hw)]
  split
  ·rfl
  ·have:x≠n:=by grind
   simp_all
theorem zjB {kindOf:Str→Option NameKind} {x:Str} {v:Value}:∀ {P:List Str} {vs:List Value} {i:Nat} {m:Str→Option Value},P.Nodup→P[i]?=some x→vs[i]?=some v→kindOf x=some .local →
  bindL kindOf (P.zip vs) m x=some v
 | [],_,_,_,_,h,_,_=>by simp at h
 | _::_,[],_,_,_,_,h,_=>by simp at h
 | p::P,w::vs,0,m,nd,h1,h2,hk=>by
  simp at h1 h2;subst h1;subst h2
  show bindL _ ((p,w)::P.zip _) m p=_
  unfold bindL
  rw[zjf fun v hv=>(List.nodup_cons.mp nd).1 (List.of_mem_zip hv).1,if_pos hk]
  simp
 | p::P,w::vs,i+1,m,nd,h1,h2,hk=>by
  show bindL _ ((p,w)::P.zip _) m x=_
  exact zjB (i:=i) (List.nodup_cons.mp nd).2 (by simp_all) (by simp_all) hk
theorem zjd {kindOf:Str→Option NameKind} {x:Str} {v:Value}:∀ {P:List Str} {vs:List Value} {i:Nat} {m:Str→Option Value},P.Nodup→P[i]?=some x→vs[i]?=some v→kindOf x≠some .local →
  bindC kindOf (P.zip vs) m x=some v
 | [],_,_,_,_,h,_,_=>by simp at h
 | _::_,[],_,_,_,_,h,_=>by simp at h
 | p::P,w::vs,0,m,nd,h1,h2,hk=>by
  simp at h1 h2;subst h1;subst h2
  show bindC _ ((p,w)::P.zip _) m p=_
  unfold bindC
  rw[zjj fun v hv=>(List.nodup_cons.mp nd).1 (List.of_mem_zip hv).1,if_neg hk]
  simp
 | p::P,w::vs,i+1,m,nd,h1,h2,hk=>by
  show bindC _ ((p,w)::P.zip _) m x=_
  exact zjd (i:=i) (List.nodup_cons.mp nd).2 (by simp_all) (by simp_all) hk
def start (N:List Str) (vs:List V):St:=vs.map some++List.replicate (N.length - vs.length) none
def cxOf (CX:CXT) (P:Program) (w:World) (K:PySem.W.Frag) (mg:Str→Option Value) (base:Heap) (N:List Str) (qual:Str) (scope:Scope) (f:Addr) (cd:Value) (A:Around) (outer:List Env) (s:Shared) (H:Hp) (E:XK):Cx where
 prog:=P
 w:=w
 K:=K
 mg:=mg
 base:=base
 A:=A.deeper (envOfC qual scope s.heap.objs.size f cd)
 N:=N
 s₀:=s
 H₀:=H
 env:=envOfC qual scope s.heap.objs.size f cd
 outer:=outer
 stack:=envOfC qual scope s.heap.objs.size f cd::outer
 ex:=[]
 calm:=true
 fn:=fun _=>true
 pn:=[]
 xe:=fun e s'=>wpAny (model P w) (A.deeper (envOfC qual scope s.heap.objs.size f cd)) (leaving (envOfC qual scope s.heap.objs.size f cd) e) (fun _ s''=>CX outer H s E e s'') (fun e' s''=>CX outer H s E e' s'') s'
theorem zlc {sc:Scope} {n:Nat} {x:Str} (h:sc.names.lookup x=some .cell):∃c,(cellsFrom n sc.names []).lookup x=some c:=Option.isSome_iff_exists.mp (PySem.W.cellsFrom_some _ n [] (.inl h))
theorem znz {CX:CXT} {P:Program} {w:World} {K:PySem.W.Frag} {mg:Str→Option Value} {base:Heap} {N ps:List Str} {qual:Str} {scope:Scope} {f:Addr} {cd:Value} {A:Around} {outer:List Env} {s s1:Shared} {H:Hp} {E:XK} {us:List Value} {vs:List V}
  (S:FnScope N ps scope) (hd:A.handled=none) (e0:Env0 P w K mg base A outer s H) (hl:vs.length=ps.length) (r:Vals vs us)
  (x:InCallC s s.heap.objs.size (bindL (envOfC qual scope s.heap.objs.size f cd).kindOf (ps.zip us) fun _=>none) (cellsFrom (s.heap.objs.size+1) scope.names []) (bindC (envOfC qual scope s.heap.objs.size f cd).kindOf (ps.zip us) fun _=>none) s1) :
  Inv (cxOf CX P w K mg base N qual scope f cd A outer s H E) [] (start N vs) H s1:=by
 have hpl:ps.length≤N.length:=by have:=congrArg List.length S.pre;grind
 obtain⟨h1,tk,rfl,hk⟩:=x.done
 have noA:∀b ,b∉(cxOf CX P w K mg base N qual scope f cd A outer s H E).ex:=fun b z=>absurd (show b∈[] from z) (by simp)
 refine⟨⟨e0.mod,S.kind,rfl,rfl,Nat.le_refl _,fun y z c h1 h2=>?_,fun y hy=>?_,fun y c _ h=>?_,fun _=>hd,Around.frames_deeper e0.frames,.inr ⟨rfl,rfl⟩,fun b z=>absurd z (noA b),e0.bs,e0.bsz,fun b _ _=>noA b,fun b z=>absurd z (noA b),e0.funs,e0.frf,e0.tb⟩,
  rfl,e0.bare,Un.kept hk,⟨_,x.toInCall.ns,fun i y v h1 h2 h3=>?_⟩,fun y c h=>⟨_,x.cell y c h⟩,e0.hok.fresh (Nat.le_refl _),fun y c h=>?_,fun p hp=>absurd (show p∈[] from hp) (by simp),e0.hok.kept hk,?_⟩
 ·exact name_of_addr x.apart (PySem.mem_of_lookup h1) (PySem.mem_of_lookup h2)
 ·rcases hy with hy|hy
  ·exact zlc hy
  ·exact absurd rfl (S.nofree _ (PySem.mem_of_lookup hy))
 ·exact Nat.le_of_lt (x.above y c (PySem.mem_of_lookup h))
 ·have hi:i<vs.length:=by
   unfold start at h2
   by_cases hi:i<vs.length
   ·exact hi
   ·rw[List.getElem?_append_right (by simp_all),List.getElem?_replicate] at h2
    simp_all
  have ha:vs[i]?=some v:=by
   unfold start at h2
   rw[List.getElem?_append_left (by simpa using hi),List.getElem?_map] at h2
   cases e:vs[i]? with
   | none=>simp_all
   | some a=>rw[e] at h2;cases h2;rfl
  obtain⟨u,hu,rv⟩:=r.get ha
  have hp:ps[i]?=some y:=by
   rwa [← S.pre,List.getElem?_take_of_lt (by omega)]
  have ndP:ps.Nodup:=by rw[← S.pre];exact S.nd.sublist (List.take_sublist _ _)
  refine⟨u,rv,?_⟩
  rcases S.par y (List.mem_of_getElem? hp) with k|k
  ·exact .inl ⟨k,zjB ndP hp hu k⟩
  ·obtain⟨c,e⟩:=zlc k
   refine .inr ⟨.inl k,c,e,?_⟩
   have q:=x.cell y c e
   rwa [zjd ndP hp hu (by show scope.names.lookup y≠_;rw[k];decide)] at q
 ·exact e0.hok.fresh (Nat.le_of_lt (x.above y c (PySem.mem_of_lookup h)))
 ·unfold start
  show _=N.length
  rw[List.length_append,List.length_map,List.length_replicate]
  omega
theorem zqj {CX:CXT} {P:Program} {w:World} {K:PySem.W.Frag} {mg:Str→Option Value} {base:Heap} {k:Nat} {f:Addr} {name qual:Str} {params:Arguments} {body:List Stmt} {scope:Scope} {dV kV doc pm cdv ct oc:Value} {an od:Option Addr}
  {osl:Array (Option Value)} {N ps:List Str} {sp:Sp} (lk:K.lookup f=some ⟨oc,od,.func (PySem.W.fnOf name qual params body scope dV kV doc pm an cdv ct),osl⟩) (hcd:PySem.W.codeIn K cdv qual=true) (S:FnScope N ps scope)
  (len:∀vs H Q E,sp vs H Q E→vs.length=ps.length)
  (hbody:∀(A:Around) (outer:List Env) (s:Shared) (H:Hp) (vs:List V) (Q:VK) (E:XK),Room k (A.deeper (envOfC qual scope s.heap.objs.size f cdv))→sp vs H Q E →
   ∃t,PSs (cxOf CX P w K mg base N qual scope f cdv A outer s H E) body t∧t { nx:=fun _ H'=>Q .non H',rt:=Q } (start N vs) H) :
  FnOk P w K mg base CX (k+1) f (PySem.W.fnOf name qual params body scope dV kV doc pm an cdv ct) ps sp:=by
 refine⟨len,fun A outer s H args us vs Q E hr e0 hb r hsp=>?_⟩
 have KX:=e0.mod.kin.keeps fun b o e=>(e0.bs b o e).1
 have hkind:∀y∈ps.zip us,scope.names.lookup y.1=some .local∨(scope.names.lookup y.1=some _∧((cellsFrom (s.heap.objs.size+1) _ []).lookup y.1).isSome=true):=fun ⟨n,v⟩ hy=>by
  rcases S.par n (List.of_mem_zip hy).1 with q|q
  ·simp_all
  ·exact .inr ⟨q,PySem.W.cellsFrom_some _ _ _ (.inl q)⟩
 refine codeAny_call_function hr.depth (KX _ _ lk) rfl S.co S.gen rfl (PySem.W.codeRec_of KX hcd) (hb _ _ _ _ (wpAny_newFunctionEnv_cells S.kind hkind fun env he s1 x=>?_))
 subst he
 refine⟨(e0.mod.nolimit.keeps fun b o e=>(e0.bs b o e).1).keeps x.toInCall.keep,codeAny_func ?_⟩
 obtain⟨t,ht,hq⟩:=hbody A _ s H _ Q E (hr.deeper _) hsp
 have I:Inv (cxOf CX P w K _ _ N _ _ f _ A _ s H E) _ _ H _:=znz S hr.hd e0 (len _ _ _ _ hsp) r x
 refine wpAny_mono (ht _ _ _ H _ I hq) (fun fl s' hs=>?_) fun e s' hs=>hs
 have fin:∀ {σ':St} {H':Hp} {v:V} {u:Value},Inv (cxOf CX P w K mg base N qual scope f cdv A outer s H E) [] σ' _ s'→RelV v u→Q v _→CE _ P w H s Q u _:=
  fun {σ' H' v u} J rv q=>⟨v,H',J.os,J.bare,J.base,J.hok,rv,q⟩
 cases fl with
 | ret u=>
  obtain⟨v,σ',H',J,rv,q⟩:=hs
  exact fin J rv q
 | next=>
  obtain⟨σ',H',J,q⟩:=hs
  exact fin (v:=V.non) J rfl q
 | brk=>
  obtain⟨_,_,_,q⟩:=hs
  exact False.elim q
 | cont=>
  obtain⟨_,_,_,q⟩:=hs
  exact False.elim q
section
variable {X:Cx} {x:Str} {p pos:Pos} {e:Expr} {es:List Expr} {t:TA} {id T:String} {r:List V→Hp→VK→Prop}
def tCB (r:List V→Hp→VK→Prop) (t:TA):TE:=fun σ H Q=>t σ H fun vs H1=>r vs H1 Q
theorem zaM (hc:zgQ X (.builtin id) r) (hg:Gl X x) (hm:X.mg x=none) (hv:bootBuiltins x=some (.builtin id)) (ha:PA X (e::es) t) (hn:x≠"__name__":=by decide) (hdb:(x == ("__debug__" : Str))=false:=by decide)
  (he:starEach (e::es) X.env=(false,eval e X.env)::starEach es X.env:=by rfl) (hpl:(backTo pos (starEach es X.env)).any (·.1)=false:=by rfl):PE X (.Call (.Name x p) (e::es) [] pos) (tCB r t):=fun pins s σ H Q I h=>wpAny_Call_Name_kw (zhW I hg hm hv (PyProof.Rows.callWith_builtin1 (thn (ha _ _ s σ H _ I h) fun us s1 ⟨_,_,I1,r1,q1⟩=>hc _ _ _ _ _ _ Q I1 r1 q1) he hpl) hn hdb)
theorem zdk (hc:zgQ X (.type T) r) (hg:Gl X x) (hm:X.mg x=none) (hv:bootBuiltins x=some (.type T)) (ha:PA X (e::es) t) (hn:x≠"__name__":=by decide) (hdb:(x == ("__debug__" : Str))=false:=by decide)
  (he:starEach (e::es) X.env=(false,eval e X.env)::starEach es X.env:=by rfl) (hpl:(backTo pos (starEach es X.env)).any (·.1)=false:=by rfl):PE X (.Call (.Name x p) (e::es) [] pos) (tCB r t):=fun pins s σ H Q I h=>wpAny_Call_Name_kw (zhW I hg hm hv (PyProof.Rows.callWith_type1 (thn (ha _ _ s _ H _ I h) fun us s1 ⟨_,_,I1,r1,q1⟩=>hc _ _ _ _ _ _ Q I1 r1 q1) he hpl) hn hdb)
end
end L2
namespace HT
open PySem PyProof.Rows
section
variable {prog:Program} {w:World} {A:Around} {E:Value→Shared→Prop} {s:Shared}
def sIx (n d:Nat):Option Int→Nat
 | none=>d
 | some v=>if v<0 then (v+(n:Int)).toNat else min v.toNat n
end
end HT
namespace L2
open PySem PySem.Spec PyProof.Rows
abbrev TO:=St→Hp→(Option Int→Hp→Prop)→Prop
def PO (X:Cx) (e:Option Expr) (t:TO):Prop:=
 ∀(pins:List (Addr×Obj)) (s:Shared) (σ:St) (H:Hp) (Q:Option Int→Hp→Prop),Inv X pins σ H s→t σ H Q →
  wpAny (model X.prog X.w) X.A (evalPart e X.env) (fun u s'=>∃o H',Inv X pins σ H' s'∧IsPart u o∧Q o H') X.xe s
def zn1:TO:=fun _ H Q=>Q none H
def zrI (t:TE):TO:=fun σ H Q=>t σ H fun x H1=>∃i,x=.int i∧Q (some i) H1
section
variable {X:Cx} {e:Expr} {te:TE} {lo hi:Option Expr} {tl th:TO} {pos p2:Pos}
theorem zcK:PO X none zn1:=fun pins s σ H Q I h=>wpAny_pure ⟨_,H,I,.none,h⟩
theorem zbS (h:PE X e te):PO X (some e) (zrI te):=by
 intro pins s σ H Q I hw
 refine thn (h _ s _ H _ I hw) fun u s1 ⟨x,_,I1,r1,q1⟩=>?_
 obtain⟨i,rfl,q⟩:=q1
 obtain⟨t,rfl⟩:=r1
 exact⟨_,_,I1,.int i t,q⟩
def SlR (X:Cx) (r:V→Option Int→Option Int→Hp→VK→Prop):Prop:=
 ∀(pins:List (Addr×Obj)) (s:Shared) (σ:St) (H:Hp) (x:V) (v vl vu:Value) (lo hi:Option Int) (sl:Addr) (Q:VK),Inv X pins σ H s→RelV x v→s.heap.IsSliceOf sl vl vu .none→IsPart vl lo→IsPart vu hi→r x lo hi H Q →
  ∃T id,typeLookup (.type T) "__getitem__"=pure (some (.builtin id))∧s.TypeIs v T∧wpAny (model X.prog X.w) X.A (getItem v (.ref sl)) (EP X pins σ Q) X.xe s
def tSl (r:V→Option Int→Option Int→Hp→VK→Prop) (te:TE) (tl th:TO):TE:=fun σ H Q=>te σ H fun x H1=>tl σ H1 fun l H2=>th σ H2 fun u H3=>r x l u H3 Q
theorem zbN {r:V→Option Int→Option Int→Hp→VK→Prop} (hr:SlR X r) (he:PE X e te) (hl:PO X lo tl) (hu:PO X hi th):PE X (.Subscript e (.Slice lo hi none p2) pos) (tSl r te tl th):=by
 intro pins s σ H Q I h
 refine Subscript_ (thn (he _ s _ H _ I h) fun v s1 ⟨x,_,I1,r1,q1⟩=>(wpAny_Slice (thn (hl _ _ _ _ _ I1 q1) fun vl s2 ⟨l,_,I2,pl,q2⟩=>thn (hu _ _ _ _ _ I2 q2) fun vu s3 ⟨u,_,I3,pu,q3⟩=>(wpAny_pure ?_))))
 have I4:Inv X _ _ _ { s3 with heap:=s3.heap.push { cls:=.type "slice",data:=.fields #[vl,vu,.none] } }:=I3.kept fun b ob q=>Heap.get?_push_of_some _ q
 obtain⟨T,id,hT,ht,hg⟩:=hr _ _ _ _ x v _ _ l u _ Q I4 r1 (Heap.IsSliceOf.new ..) pl pu q3
 exact tail_any ht hT hg rfl
def cutV (xs:List V) (lo hi:Option Int):List V:=(xs.drop (HT.sIx xs.length 0 lo)).take (HT.sIx xs.length xs.length hi - HT.sIx xs.length 0 lo)
theorem zkJ (xs:List V) (lo hi:Option Int):(cutV xs lo hi).length≤xs.length:=by
 unfold cutV
 rw[List.length_take,List.length_drop]
 omega
end
def ixN (n:Nat) (i:Int):Option Nat:=if 0≤i then (if i<n then some i.toNat else none) else if -(n:Int)≤i then some (i+n).toNat else none
def atI {α:Type} (xs:List α) (i:Int):Option α:=(ixN xs.length i).bind fun j=>xs[j]?
theorem znx {n:Nat} {i:Int} {j:Nat} (h:ixN n i=some j):seqIndex? i n=some j∧j<n∧-(n:Int)≤i∧i<n:=by
 unfold ixN at h
 by_cases h0:0≤i
 ·rw[if_pos h0] at h
  by_cases h1:i<n
  ·rw[if_pos h1] at h
   have e:=Option.some.inj h
   exact⟨by rw[seqIndex_of h0 h1,e],by omega,by omega,h1⟩
  simp_all
 ·rw[if_neg h0] at h
  by_cases h1 : -n≤i
  ·rw[if_pos h1] at h
   have e:=Option.some.inj h
   exact⟨by rw[seqIndex_neg (by omega) h1,e],by omega,h1,by omega⟩
  simp_all
theorem zkZ {α:Type} {xs:List α} {i:Int} {v:α} (h:atI xs i=some v):∃j,seqIndex? i xs.length=some j∧xs[j]?=some v∧j<xs.length∧-(xs.length:Int)≤i∧i<xs.length:=by
 unfold atI at h
 cases e:ixN xs.length i with
 | none=>simp_all
 | some j=>
  obtain⟨h1,h2,h3,h4⟩:=znx e
  simp_all
theorem atI_nat {α:Type} {xs:List α} {j:Nat} {v:α} (h:xs[j]?=some v):atI xs (j:Int)=some v:=by
 have hj:=(List.getElem?_eq_some_iff.mp h).1
 have e:ixN xs.length j=some j:=by
  unfold ixN
  rw[if_pos (by omega),if_pos (by omega)];simp
 unfold atI;simp_all
def zqI (b:Expr):Prop:=∀o i,subscripted b false o i=operate [o,i] (getItem o i)
def IxR (X:Cx) (r:R2):Prop:=
 ∀(value slice:Expr) (pins:List (Addr×Obj)) (s:Shared) (σ:St) (H:Hp) (x y:V) (v u:Value) (Q:VK),Inv X pins σ H s→RelV x v→RelV y u→r x y H Q →
  subscripted slice false v u=operate [v,u] (getItem v u)→wpAny (model X.prog X.w) X.A (subscriptTail value slice v u) (EP X pins σ Q) X.xe s
def MtR (X:Cx) (id:String) (r:V→List V→Hp→VK→Prop):Prop:=
 ∀(pins:List (Addr×Obj)) (s:Shared) (σ:St) (H:Hp) (x:V) (xs:List V) (v:Value) (us:List Value) (Q:VK),Inv X pins σ H s→RelV x v→Vals xs us→r x xs H Q →
  wpAny (model X.prog X.w) X.A (call (.builtin id) (v::us)) (EP X pins σ Q) X.xe s
section
variable {X:Cx} {a b:Expr} {ta tb:TE} {pos:Pos}
theorem zba {r:R2} (hr:IxR X r) (ha:PE X a ta) (hb:PE X b tb) (hs:zqI b):PE X (.Subscript a b pos) (tOp r ta tb):=fun pins s σ H Q I h=>Subscript_ (binT ha hb I h fun v u s2 x y H2 I2 rx ry q=>hr a b _ _ _ _ x y v u Q I2 rx ry q (hs _ _))
def rIxL (K:PySem.W.Frag):R2:=fun x y H Q=>∃p xs i v,x=.ref p∧y=.int i∧SqL K H p xs∧atI xs i=some v∧Q v H
def rIxT (K:PySem.W.Frag):R2:=fun x y H Q=>∃p xs i v,x=.ref p∧y=.int i∧SqT K H p xs∧atI xs i=some v∧Q v H
def rIxS:R2:=fun x y H Q=>∃z i c,x=.str z∧y=.int i∧z.length≤sizeLine∧atI z.cps.toList i=some c∧Q (.str ⟨#[c]⟩) H
theorem zaD:IxR X (rIxL X.K):=by
 rintro value slice pins s σ H x y v u Q I rx ry ⟨p,xs,i,z,rfl,rfl,hq,he,q⟩ hs
 cases rx
 obtain⟨t,rfl⟩:=ry
 obtain⟨its,r,pl,hz⟩:=I.list hq
 obtain⟨j,h1,h2,h3,h4,h5⟩:=zkZ he
 obtain⟨w,ew,rw'⟩:=r.get h2
 have hl:=r.length
 have hn:=zh1
 have fin:EP X _ _ Q w s:=⟨z,H,I,rw',q⟩
 by_cases h0:0≤i
 ·have hj:i.toNat=j:=by
   rw[seqIndex_of h0 h5] at h1
   simp_all
  exact item_listR pl.isList h0 (by omega) (by simp_all) fin hs
 ·have hj:(i+its.toArray.size).toNat=j:=by
   rw[seqIndex_neg (by omega) h4] at h1
   simp_all
  exact subscriptTail_builtinR pl.isList.typeIs slot_list_getitem.lookup
   (wpAny_getItem_list_neg pl.isList (by omega) (by simp_all) (by omega) (by simp_all) ⟨rfl,fin⟩) hs
theorem zc7:IxR X (rIxT X.K):=by
 rintro value slice pins s σ H x y v u Q I rx ry ⟨p,xs,i,z,rfl,rfl,hq,he,q⟩ hs
 cases rx
 obtain⟨t,rfl⟩:=ry
 obtain⟨its,r,pl,hz⟩:=I.tuple hq
 obtain⟨j,h1,h2,h3,h4,h5⟩:=zkZ he
 obtain⟨w,ew,rw'⟩:=r.get h2
 have hn:=zh1
 have fin:EP X _ _ Q w s:=⟨z,H,I,rw',q⟩
 exact subscriptTail_builtinR pl.typeIs slot_tuple_getitem.lookup
  (getItem_tuple pl (by omega) (by omega) (by rwa [List.size_toArray,← r.length]) (by simpa using ew) ⟨rfl,fin⟩) hs
theorem zrs:IxR X rIxS:=by
 rintro value slice pins s σ H x y v u Q I rx ry ⟨z,i,c,rfl,rfl,hz,he,q⟩ hs
 obtain⟨t,rfl⟩:=rx
 obtain⟨t',rfl⟩:=ry
 obtain⟨j,h1,h2,h3,h4,h5⟩:=zkZ he
 have hl:z.cps.toList.length=z.length:=rfl
 have hn:=zh1
 exact tail_any rfl slot_str_getitem.lookup (getItem_str (by
  have e1:decide (i < -2 ^ 63)=false:=decide_eq_false (by omega)
  have e2:decide (i≥2 ^ 63)=false:=decide_eq_false (by omega)
  simp_all) (by simp_all) ⟨.str _,H,I.tok _,⟨_,rfl⟩,q⟩) hs
theorem zl8 (its:List Value) (n j:Nat) (u:Value):Obj.mapSeq (·.setIfInBounds j u) { cls:=.type "list",data:=.seq its.toArray n } = { cls:=.type "list",data:=.seq (its.set j u).toArray n }:=by
 simp[Obj.mapSeq]
theorem Inv.lst {pins:List (Addr×Obj)} {σ:St} {H:Hp} {s:Shared} {p:Addr} {xs:List V} (I:Inv X pins σ H s) (h:H p=some (.lst xs)) :
  ∃(its:List Value) (n:Nat),Vals xs its∧s.heap.get? p=some { cls:=.type "list",data:=.seq its.toArray n }∧xs.length≤sizeLine:=by
 obtain⟨z,its,n,r,e⟩:=I.hok p _ h
 simp_all
theorem Inv.lstUpd {pins:List (Addr×Obj)} {σ:St} {H:Hp} {s:Shared} {p:Addr} {xs ys:List V} {its its':List Value} {n n':Nat} {f:Obj→Obj} (I:Inv X pins σ H s) (h:H p=some (.lst xs))
  (ho:s.heap.get? p=some { cls:=.type "list",data:=.seq its.toArray n }) (hf:f { cls:=.type "list",data:=.seq its.toArray n } = { cls:=.type "list",data:=.seq its'.toArray n' }) (r:Vals ys its') (hz:ys.length≤sizeLine) (t:Nat) :
  Inv X pins σ (upd H p (.lst ys)) { s with heap:=s.heap.update p f,toks:=t }:=by
 have e:(s.heap.update p f).get? p=some { cls:=.type "list",data:=.seq its'.toArray n' }:=by
  rw[Heap.get?_update_self f ho (by rw[hf] <;> rfl),hf]
 refine I.write (by rw[h];trivial) (.inl rfl) (fun b u hb q=>(Heap.get?_update_other _ _ (Ne.symm hb)).trans q) ⟨_,e⟩ ?_
 exact⟨hz,_,_,r,e⟩
def zrA:V→V→V→Hp→(Hp→Prop)→Prop:=fun o i v H Q=>∃p xs k j,o=.ref p∧i=.int k∧H p=some (.lst xs)∧ixN xs.length k=some j∧Q (upd H p (.lst (xs.set j v)))
theorem zoD:PSet X zrA:=by
 rintro pins s σ H o i v ov iv u Q I ro ri rv ⟨p,xs,k,j,rfl,rfl,hp,hj,q⟩
 cases ro
 obtain⟨t,rfl⟩:=ri
 obtain⟨its,n,r,ho,hz⟩:=I.lst hp
 obtain⟨h1,h2,h3,h4⟩:=znx hj
 have hl:=r.length
 have hn:=zh1
 have I':Inv X _ _ _ { s with heap:=s.heap.update p _ }:=
  I.lstUpd hp ho (zl8 _ n j u) (r.set rv j) (by simp_all) _
 by_cases h0:0≤k
 ·have hk:k.toNat=j:=by
   rw[seqIndex_of h0 h4] at h1
   simp_all
  exact PySem.W.ki_setAt ho h0 (by omega) (by rwa [List.size_toArray,← hl]) (by rw[hk];exact⟨_,I',q⟩)
 ·have hk:(k+its.toArray.size).toNat=j:=by
   rw[seqIndex_neg (by omega) h3] at h1
   simp_all
  exact PySem.W.ki_setBack ho (by omega) (by rwa [List.size_toArray,← hl]) (by omega) (by rw[hk];exact⟨_,I',q⟩)
theorem zjs (lo hi:Option Int) (n:Nat):(sliceBounds lo hi none n).1=((HT.sIx n 0 lo:Nat):Int)∧(sliceBounds lo hi none n).2.1=((HT.sIx n n hi:Nat):Int)∧(sliceBounds lo hi none n).2.2=1:=by
 refine⟨?_,?_,rfl⟩
 ·cases lo with
  | none=>rfl
  | some i=>
   simp[sliceBounds,HT.sIx]
   grind
 ·cases hi with
  | none=>rfl
  | some i=>
   simp[sliceBounds,HT.sIx,show 1 > 0 by decide]
   grind
theorem zik (its:List Value) (lo hi:Option Int):slicePick its.toArray lo hi none=((its.drop (HT.sIx its.length 0 lo)).take (HT.sIx its.length its.length hi - HT.sIx its.length 0 lo)).toArray:=by
 obtain⟨h1,h2,h3⟩:=zjs _ _ _
 unfold slicePick
 rw[h1,h2,h3]
 simp only[sliceRange_one,pick_run] <;> rfl
def rSlL (K:PySem.W.Frag):V→Option Int→Option Int→Hp→VK→Prop:=fun x lo hi H Q=>∃a xs,x=.ref a∧SqL K H a xs∧∀p,H p=none→Q (.ref p) (upd H p (.lst (cutV xs lo hi)))
theorem zci:SlR X (rSlL X.K):=by
 rintro pins s σ H x v vl vu lo hi sl Q I rx hs pl pu ⟨a,xs,rfl,hx,q⟩
 cases rx
 obtain⟨its,r,ht,hz⟩:=I.list hx
 have hlen:=r.length
 refine⟨_,_,slot_list_getitem.lookup,ht.isList.typeIs,(wpAny_getItem_list_slice ht.isList hs pl pu .none (by simp) ?_ (by simp_all))⟩
 rw[zik,← hlen]
 refine⟨.ref _,_,I.laid (fun b ob q=>Heap.get?_push_of_some _ q) (Nat.le_refl _) ?_,rfl,q _ (I.hok.fresh (Nat.le_refl _))⟩
 exact⟨Nat.le_trans (zkJ _ _ _) hz,_,0,(r.drop _).take _,Heap.get?_push_size _ rfl⟩
def zix:V→Bool
 | .non=>true
 | .bl _=>true
 | .int _=>true
 | .str _=>true
 | _=>false
def eqV:V→V→Bool
 | .non,.non=>true
 | .bl a,.bl b=>a == b
 | .bl a,.int b=>(if a then 1 else 0) == b
 | .int a,.bl b=>a == (if b then 1 else 0)
 | .int a,.int b=>a == b
 | .str a,.str b=>a == b
 | _,_=>false
theorem zsh {A:Around} {s:Shared} {y x:V} {u v:Value} (ry:RelV y u) (rx:RelV x v) (fy:zix y=true) (fx:zix x=true):SeqAt.EqAt A s u v (eqV y x):=by
 cases y with
 | non=>
  cases ry
  cases x with
  | non=>cases rx;exact SeqAt.EqAt.same _
  | bl b=>cases rx;exact SeqAt.EqAt.none_bool b
  | int b=>obtain⟨t,rfl⟩:=rx;exact SeqAt.EqAt.none_int b t
  | str b=>obtain⟨t,rfl⟩:=rx;exact SeqAt.EqAt.none_str b t
  | _=>exact absurd (show false=true from fx) Bool.false_ne_true
 | bl a=>
  cases ry
  cases x with
  | non=>cases rx;exact SeqAt.EqAt.bool_none a
  | bl b=>cases rx;exact SeqAt.EqAt.bool_bool a b
  | int b=>obtain⟨t,rfl⟩:=rx;exact SeqAt.EqAt.bool_int a b t
  | str b=>obtain⟨t,rfl⟩:=rx;exact SeqAt.EqAt.bool_str a b t
  | _=>exact absurd (show false=true from fx) Bool.false_ne_true
 | int a=>
  obtain⟨t',rfl⟩:=ry
  cases x with
  | non=>cases rx;exact SeqAt.EqAt.int_none a t'
  | bl b=>cases rx;exact SeqAt.EqAt.int_bool a t' b
  | int b=>obtain⟨t,rfl⟩:=rx;exact SeqAt.EqAt.int_int a t' b t
  | str b=>obtain⟨t,rfl⟩:=rx;exact SeqAt.EqAt.int_str a t' b t
  | _=>exact absurd (show false=true from fx) Bool.false_ne_true
 | str a=>
  obtain⟨t',rfl⟩:=ry
  cases x with
  | non=>cases rx;exact SeqAt.EqAt.str_none a t'
  | bl b=>cases rx;exact SeqAt.EqAt.str_bool a t' b
  | int b=>obtain⟨t,rfl⟩:=rx;exact SeqAt.EqAt.str_int a t' b t
  | str b=>obtain⟨t,rfl⟩:=rx;exact SeqAt.EqAt.str_str a t' b t
  | _=>exact absurd (show false=true from fx) Bool.false_ne_true
 | _=>exact absurd (show false=true from fy) Bool.false_ne_true
def eqU (x:V) (u:Value):Bool:=match u with
 | .none=>eqV .non x
 | .bool b=>eqV (.bl b) x
 | .int i _=>eqV (.int i) x
 | .str z _=>eqV (.str z) x
 | _=>false
theorem zp2 {x y:V} {u:Value} (r:RelV y u) (f:zix y=true):eqU x u=eqV y x:=by
 cases y with
 | non=>cases r;rfl
 | bl b=>cases r;rfl
 | int i=>obtain⟨t,rfl⟩:=r;rfl
 | str z=>obtain⟨t,rfl⟩:=r;rfl
 | _=>exact absurd f Bool.false_ne_true
theorem zk1 {x:V}:∀ {xs:List V} {us:List Value},Vals xs us→xs.all zix=true→us.any (eqU x)=xs.any fun y=>eqV y x
 | _,_,.nil,_=>rfl
 | y::xs,u::us,.cons r t,f=>by
  rw[List.all_cons,Bool.and_eq_true] at f
  rw[List.any_cons,List.any_cons,zp2 r f.1,zk1 t f.2]
theorem ziw {A:Around} {s:Shared} {x:V} {v:Value} (rx:RelV x v) (fx:zix x=true):∀ {xs:List V} {us:List Value},Vals xs us→xs.all zix=true→∀u∈us,SeqAt.EqAt A s u v (eqU x u)
 | _,_,.nil,_=>fun u hu=>by cases hu
 | y::xs,u::us,.cons r t,f=>fun u' hu=>by
  rw[List.all_cons,Bool.and_eq_true] at f
  rcases List.mem_cons.mp hu with rfl|hu
  ·rw[zp2 r f.1];exact zsh r rx f.1 fx
  ·exact ziw rx fx t f.2 _ hu
def inV (x:V) (xs:List V):Bool:=xs.any fun y=>eqV y x
def rIn (K:PySem.W.Frag) (neg:Bool):R2:=fun x y H Q=>∃p xs,y=.ref p∧(SqL K H p xs∨SqT K H p xs)∧zix x=true∧xs.all zix=true∧Q (.bl (if neg then !inV x xs else inV x xs)) H
theorem zoA:OpR X (compareOp .In) (rIn X.K false):=by
 rintro pins s σ H x y v u Q I rx ry ⟨p,xs,rfl,hq,fx,fs,q⟩
 cases ry
 rcases hq with hq|hq
 ·obtain⟨its,r,pl,hz⟩:=I.list hq
  refine SeqAt.in_listAt _ pl.isList (fun w hw=>ziw rx fx r fs w (by simp_all)) ⟨.bl _,H,I,rfl,?_⟩
  rwa [show its.toArray.any _=its.any (eqU x) by simp,zk1 r fs]
 ·obtain⟨its,r,pl,hz⟩:=I.tuple hq
  refine SeqAt.in_tupleAt _ pl (fun w hw=>ziw rx fx r fs w (by simp_all)) ⟨.bl _,H,I,rfl,?_⟩
  rwa [show its.toArray.any _=its.any (eqU x) by simp,zk1 r fs]
theorem zaI:zgQ X (.builtin "len") (fun xs H Q=>∃p ys,xs=[.ref p]∧(SqL X.K H p ys∨SqT X.K H p ys)∧Q (.int ys.length) H):=by
 rintro pins s σ H xs us Q I r ⟨p,ys,rfl,hq,q⟩
 obtain⟨u,rfl,rx⟩:=zhF r
 cases rx
 have hn:=zh1
 rcases hq with hq|hq
 ·obtain⟨its,r',pl,hz⟩:=I.list hq
  have hlen:=r'.length
  exact Calls.call_len_list pl.isList (by simp <;> omega) ⟨.int _,H,I.tok _,⟨s.toks+1,by simp_all⟩,q⟩
 ·obtain⟨its,r',pl,hz⟩:=I.tuple hq
  have hlen:=r'.length
  exact len_tuple pl (by simp <;> omega) ⟨.int _,H,I.tok _,⟨s.toks+1,by simp_all⟩,q⟩
theorem zgC:zgQ X (.builtin "len") (fun xs H Q=>∃z,xs=[.str z]∧z.length≤sizeLine∧Q (.int z.length) H):=by
 rintro pins s σ H xs us Q I r ⟨z,rfl,hz,q⟩
 obtain⟨u,rfl,t,rfl⟩:=zhF r
 have hn:=zh1
 exact len_str (by omega) ⟨.int _,H,I.tok _,⟨_,rfl⟩,q⟩
def tyV (K:PySem.W.Frag) (T:String) (x:V) (H:Hp):Prop:=match x with
 | .str _=>T = "str"
 | .int _=>T = "int"
 | .ref p=>(T = "list"∧∃xs,SqL K H p xs)∨(T = "tuple"∧∃o,K.lookup p=some o∧o.cls=.type "tuple"∧o.dict=none) ∨
   (T = "dict"∧((∃kvs,H p=some (.dK kvs))∨∃kvs,H p=some (.dT kvs)))∨(T = "set"∧∃S n,H p=some (.set S n))
 | _=>False
theorem zro {pins:List (Addr×Obj)} {σ:St} {H:Hp} {s:Shared} {T:String} {x:V} {v:Value} (I:Inv X pins σ H s) (r:RelV x v) (ty:tyV X.K T x H) :
  s.TypeIs v T∧∀a,v=.ref a→∃ob,s.heap.get? a=some ob∧ob.dict=none:=by
 cases x with
 | str z=>
  obtain⟨t,rfl⟩:=r
  cases (ty)
  exact⟨rfl,fun _ e=>nomatch e⟩
 | int i=>
  obtain⟨t,rfl⟩:=r
  cases ty
  exact⟨rfl,fun _ e=>nomatch e⟩
 | ref p=>
  cases r
  rcases ty with ⟨rfl,xs,hq⟩|⟨rfl,o,hk,hc,hd⟩|⟨rfl,hk⟩|⟨rfl,S,n,hk⟩
  ·obtain⟨its,_,pl,_⟩:=I.list hq
   refine⟨pl.isList.typeIs,fun a e=>?_⟩
   cases e
   obtain⟨o,n,e,c,hd,_⟩:=pl
   exact⟨o,e,hd⟩
  ·refine⟨⟨o,I.kIn p o hk,hc⟩,fun a e=>?_⟩
   cases e
   exact⟨o,I.kIn _ o hk,hd⟩
  ·have z:∃o,s.heap.get? p=some o∧o.ExactDict:=by
    rcases hk with ⟨kvs,hk⟩|⟨kvs,hk⟩
    ·obtain⟨_,_,_,_,o,_,_,e,ex,_⟩:=I.hok p _ hk
     grind
    ·obtain⟨_,_,_,_,o,_,_,e,ex,_⟩:=I.hok p _ hk
     exact⟨o,e,ex⟩
   obtain⟨o,e,ex⟩:=z
   refine⟨⟨o,e,ex.1⟩,fun a e2=>?_⟩
   cases e2
   exact⟨o,e,ex.2.1⟩
  ·obtain⟨o,_,_,_,e,ex,_⟩:=I.hok p _ hk
   refine⟨⟨o,e,ex.1⟩,fun a e2=>?_⟩
   cases e2
   exact⟨o,e,ex.2.1⟩
 | _=>exact False.elim ty
def tBM (K:PySem.W.Frag) (T:String) (r:V→List V→Hp→VK→Prop) (to:TE) (t:TA):TE:=fun σ H Q=>to σ H fun x H1=>tyV K T x H1∧t σ H1 fun xs H2=>r x xs H2 Q
variable {o e:Expr} {es:List Expr} {to:TE} {t:TA} {name:Str} {apos cpos:Pos} {T id:String} {r:V→List V→Hp→VK→Prop}
theorem ze2 (pa:PlainAttrs T) (slot:Slot T name id) (hty:typeOf (.builtin id)=pure (.type "method_descriptor")) (hm:MtR X id r) (ho:PE X o to) (ha:PA X (e::es) t)
  (hbase:attributeBase o name X.env (eval o X.env)=eval o X.env:=by rfl)
  (hfew:((backTo cpos (starEach (e::es) X.env)).all (fun x=>!x.1) && (backToKw cpos (keywordEach [] X.env)).all (fun x=>x.1.isSome)
   && decide ((e::es).length+([]:List Keyword).length+(if ([]:List Keyword).isEmpty then 0 else 1)<30))=true:=by rfl)
  (hline:(apos.endLine == cpos.line)=true:=by rfl) (hs:starEach (e::es) X.env=(false,eval e X.env)::starEach es X.env:=by rfl) (hplain:(backTo cpos (starEach es X.env)).any (·.1)=false:=by rfl) :
  PE X (.Call (.Attribute o name apos) (e::es) [] cpos) (tBM X.K T r to t):=by
 intro pins s σ H Q I h
 refine wpAny_Call_method_late hbase hfew hline rfl (thn (ho _ s _ H _ I h) fun v s1 ⟨x,_,I1,r1,ty,q1⟩=>?_)
 obtain⟨h1,h2⟩:=zro I1 r1 ty
 refine⟨T,_,pa,slot,hty,h1,h2,?_⟩
 have hA:=ha cpos _ _ _ _ _ I1 q1
 rw[hs] at hA ⊢
 exact Calls.callWith_builtin (by grind) (Calls.evalArgs_plain (thn hA fun us s2 ⟨_,_,I2,r2,q2⟩=>hm _ _ _ _ x _ v _ Q I2 r1 r2 q2))
end
def MtM (X:Cx) (id:String) (r:V→List V→Hp→VK→Prop):Prop:=
 ∀(pins:List (Addr×Obj)) (s:Shared) (σ:St) (H:Hp) (x:V) (xs:List V) (v:Value) (us:List Value) (Q:VK),Inv X pins σ H s→RelV x v→Vals xs us→r x xs H Q →
  wpAny (model X.prog X.w) X.A (call (.builtin id) (v::us)) (EP X pins σ Q) X.xe s
theorem Vals.one:∀ {x:V} {us:List Value},Vals [x] us→∃u,us=[u]∧RelV x u
 | _,_,.cons r .nil=>⟨_,rfl,r⟩
theorem Vals.eraseIdx:∀ {xs:List V} {us:List Value} (i:Nat),Vals xs us→Vals (xs.eraseIdx i) (us.eraseIdx i)
 | _,_,_,.nil=>.nil
 | _,_,0,.cons _ t=>t
 | _,_,i+1,.cons r t=>.cons r (Vals.eraseIdx i t)
section
variable {X:Cx} {pins:List (Addr×Obj)} {σ:St} {H:Hp} {s:Shared} {l b:Addr} {xs ys zs:List V}
theorem Inv.lset {its its':List Value} {n:Nat} {f:Array Value→Array Value} {t':Nat} (I:Inv X pins σ H s) (hH:H l=some (.lst xs))
  (e:s.heap.get? l=some { cls:=.type "list",data:=.seq its.toArray n }) (hf:f its.toArray=its'.toArray) (hv:Vals ys its') (hz:ys.length≤sizeLine) :
  Inv X pins σ (upd H l (.lst ys)) { s with heap:=s.heap.update l (Obj.mapSeq f),toks:=t' }:=by
 have q:=PySem.IsL.update e f
 rw[hf] at q
 refine I.write (by rw[hH];exact trivial) (.inl rfl) (fun b' u hb hu=>(Heap.get?_update_other _ _ (Ne.symm hb)).trans hu) ⟨_,q⟩ ?_
 exact⟨hz,_,_,hv,q⟩
theorem Inv.lnew {its:List Value} {t':Nat} (I:Inv X pins σ H s) (hv:Vals ys its) (hz:ys.length≤sizeLine) :
  Inv X pins σ (upd H s.heap.objs.size (.lst ys)) { s with heap:=s.heap.push { cls:=.type "list",data:=.seq its.toArray },toks:=t' }:=
 I.laid (fun _ _ q=>Heap.get?_push_of_some _ q) (Nat.le_refl _) ⟨hz,_,0,hv,Heap.get?_push_size _ rfl⟩
theorem Inv.fresh (I:Inv X pins σ H s):H s.heap.objs.size=none:=I.hok.fresh (Nat.le_refl _)
theorem Inv.lstM (I:Inv X pins σ H s) (hH:H l=some (.lst xs)):xs.length≤sizeLine∧∃(its:List Value) (n:Nat),Vals xs its∧xs.length=its.length∧s.heap.get? l=some { cls:=.type "list",data:=.seq its.toArray n }:=let ⟨z,_,n,r,e⟩:=I.hok l _ hH;⟨z,_,n,r,r.length,e⟩
theorem zlz {n:Nat} (h:n≤sizeLine):Builtin.List.listTooLong n=false:=by
 unfold Builtin.List.listTooLong
 simp_all
end
section
variable {X:Cx}
def zmN:V→List V→Hp→VK→Prop:=fun x vs H Q=>∃l xs y,x=.ref l∧vs=[y]∧H l=some (.lst xs)∧xs.length<sizeLine∧Q .non (upd H l (.lst (xs++[y])))
theorem zdM:MtM X "list.append" zmN:=by
 rintro pins s σ H x vs v us Q I rx rv ⟨l,xs,y,rfl,rfl,hH,hz,q⟩
 cases rx
 obtain⟨u,rfl,ru⟩:=rv.one
 obtain⟨z,its,n,r,hl,e⟩:=I.lstM hH
 refine call_meets F.slot_list_append ⟨_,e,rfl⟩ F.entry_list_append (F.args_list_append_2 _ _) (PySem.list_append l _ n u (by simp_all)) ⟨e,(⟨.non,_,I.lset hH e (by simp) (r.append (.cons ru .nil)) ?_,rfl,q⟩)⟩
 rw[List.length_append,List.length_singleton]
 omega
def zra:V→List V→Hp→VK→Prop:=fun x vs H Q=>∃l b xs zs,x=.ref l∧vs=[.ref b]∧H l=some (.lst xs)∧H b=some (.lst zs)∧xs.length+zs.length≤sizeLine∧Q .non (upd H l (.lst (xs++zs)))
theorem znw:MtM X "list.extend" zra:=by
 rintro pins s σ H x vs v us Q I rx rv ⟨l,b,xs,zs,rfl,rfl,hH,hB,hz,q⟩
 cases rx
 obtain⟨u,rfl,ru⟩:=rv.one
 cases ru
 obtain⟨z,its,n,r,hl,e⟩:=I.lstM hH
 obtain⟨z2,its2,n2,r2,hl2,e2⟩:=I.lstM hB
 have hsz:its.toArray.size+its2.toArray.size≤sizeLine:=by rw[List.size_toArray,List.size_toArray];omega
 have hlong:¬ (!its.toArray.isEmpty && Builtin.List.listTooLong (its.toArray.size+its2.toArray.size))=true:=by
  rw[zlz hsz]
  simp
 refine call_meets F.slot_list_extend ⟨_,e,rfl⟩ F.entry_list_extend (F.args_list_extend_2 _ _)
  (AutoSeq1.list_extend_list_list_0 l _ n b _ _ hlong (by omega) (by omega)) ⟨e,e2,(⟨.non,_,I.lset hH e (by simp) (r.append r2) ?_,rfl,q⟩)⟩
 simp_all
def zpY:V→List V→Hp→VK→Prop:=fun x vs H Q=>∃l xs i k y,x=.ref l∧vs=[.int i]∧H l=some (.lst xs)∧-(2 ^ 63)≤i∧i<2 ^ 63∧seqIndex? i xs.length=some k∧xs[k]?=some y∧Q y (upd H l (.lst (xs.eraseIdx k)))
theorem zo5:MtM X "list.pop" zpY:=by
 rintro pins s σ H x vs v us Q I rx rv ⟨l,xs,i,k,y,rfl,rfl,hH,h1,h2,hk,hy,q⟩
 cases rx
 obtain⟨u,rfl,ru⟩:=rv.one
 obtain⟨t,rfl⟩:=ru
 obtain⟨z,its,n,r,hl,e⟩:=I.lstM hH
 obtain⟨w,hw,rw'⟩:=r.get hy
 refine call_meets F.slot_list_pop ⟨_,e,rfl⟩ F.entry_list_pop (F.args_list_pop_2 _ _)
  (MeetsSeq.list_pop_at l _ n i t k w (fitsIndex_both h1 h2) (by rwa [List.size_toArray,← hl]) (by rwa [← Array.getElem?_toList]) (by rw[List.size_toArray];omega)) ⟨e,?_⟩
 refine⟨y,_,I.lset hH e ?_ (r.eraseIdx k) ?_,rw',q⟩
 ·simp
 grind
end
section
variable {κ:Type} [DecidableEq κ]
def valV (kvs:List (κ×V)) (k:κ):Option V:=(kvs.find? fun kv=>decide (kv.1=k)).map (·.2)
def putK (kvs:List (κ×V)) (k:κ) (v:V):List (κ×V):=
 if (kvs.any fun kv=>decide (kv.1=k))=true then kvs.map (fun kv=>if kv.1=k then (kv.1,v) else kv) else kvs++[(k,v)]
theorem ziY {p:κ×V} {r:List (κ×V)} {k:κ} (e:p.1=k):valV (p::r) k=some p.2:=by simp[valV,e]
theorem zi0 {p:κ×V} {r:List (κ×V)} {k:κ} (e:¬ p.1=k):valV (p::r) k=valV r k:=by simp[valV,e]
theorem zlv (k:κ):∀kvs:List (κ×V),(kvs.any fun kv=>decide (kv.1=k))=(valV kvs k).isSome
 | []=>rfl
 | p::r=>by
  rw[List.any_cons]
  by_cases e:p.1=k
  ·simp[ziY e,decide_eq_true e,Bool.true_or]
  ·rw[zi0 e,decide_eq_false e];exact zlv k r
theorem zg8 (kvs:List (κ×V)) (k:κ) (v:V):(putK kvs k v).length≤kvs.length+1:=by
 unfold putK
 split
 ·simp
 simp
theorem RelO.isSome_eq {o:Option V} {u:Option Value} (r:RelO o u):o.isSome=u.isSome:=by
 cases o with
 | none=>cases u with
  | none=>rfl
  | some _=>exact r.elim
 | some _=>cases u with
  | none=>exact r.elim
  | some _=>rfl
theorem KV.val {kvs:List (κ×V)} {vs:List (κ×Value)} (r:KV kvs vs) (k:κ):RelO (valV kvs k) (valueAt vs k):=by
 induction r with
 | nil=>exact True.intro
 | @cons p q ps qs h t ih=>
  obtain⟨h1,h2⟩:=h
  by_cases e:p.1=k
  ·have b:valueAt (q::qs) k=some q.2:=by simp[valueAt,(h1.symm.trans e)]
   rwa [ziY e,b]
  ·have e':¬ q.1=k:=fun z=>e (h1.trans z)
   have b:valueAt (q::qs) k=valueAt qs k:=by simp[valueAt,e']
   rwa [zi0 e,b]
theorem KV.any {kvs:List (κ×V)} {vs:List (κ×Value)} (r:KV kvs vs) (k:κ):(kvs.any fun kv=>decide (kv.1=k))=vs.any fun kv=>decide (kv.1=k):=by
 induction r with
 | nil=>rfl
 | cons h t ih=>rw[List.any_cons,List.any_cons,ih,h.1]
theorem KV.repl {kvs:List (κ×V)} {vs:List (κ×Value)} (r:KV kvs vs) (k:κ) {y:V} {u:Value} (ry:RelV y u) :
  KV (kvs.map fun kv=>if kv.1=k then (kv.1,y) else kv) (vs.map fun kv=>if kv.1=k then (kv.1,u) else kv):=by
 induction r with
 | nil=>exact .nil
 | @cons p q ps qs h t ih=>
  refine .cons ?_ ih
  by_cases e:p.1=k
  ·simp_all
  simp_all
theorem KV.put {kvs:List (κ×V)} {vs:List (κ×Value)} (r:KV kvs vs) (k:κ) {y:V} {u:Value} (ry:RelV y u):KV (putK kvs k y) (stored vs k u):=by
 unfold putK stored
 rw[r.any k]
 by_cases e:(vs.any fun kv=>decide (kv.1=k))=true
 ·rw[if_pos e,if_pos e];exact r.repl k ry
 ·rw[if_neg e,if_neg e];exact Paired.snoc r ⟨rfl,ry⟩
theorem KV.length {kvs:List (κ×V)} {vs:List (κ×Value)} (r:KV kvs vs):kvs.length=vs.length:=Paired.length r
end
theorem zqr {P:Program} {w:World} {k:Key} {u:Value} (r:RelV (kV k) u):(zdc P w).is k u=true:=by
 cases k with
 | inl i=>obtain⟨t,e⟩:=r;subst e;exact zkC P w i t
 | inr x=>obtain⟨t,e⟩:=r;subst e;exact zkB P w x t
theorem zjC {P:Program} {w:World}:∀ {ks:List Key} {us:List Value},Vals (ks.map kV) us→ItemsAre (zdc P w) ks us
 | [],_,r=>by cases r;exact .nil
 | k::ks,_,r=>by
  cases r with
  | cons h t=>exact .cons (zqr h) (zjC t)
abbrev KT (H:Hp):List (List Key×V)→List (List Key×Addr×Value)→Prop:=Paired fun p q=>p.1=q.1∧H q.2.1=some (.tup (p.1.map kV))∧RelV p.2 q.2.2
theorem KT.val {H:Hp} {kvs:List (List Key×V)} {xs:List (List Key×Addr×Value)} (r:KT H kvs xs) (k:List Key):RelO (valV kvs k) ((atKey xs k).map (·.2)):=by
 induction r with
 | nil=>exact True.intro
 | @cons p q ps qs h t ih=>
  obtain⟨h1,_,h2⟩:=h
  by_cases e:p.1=k
  ·have b:atKey (q::qs) k=some q.2:=by simp[atKey,(h1.symm.trans e)]
   rwa [ziY e,b]
  ·have e':¬ q.1=k:=fun z=>e (h1.trans z)
   have b:atKey (q::qs) k=atKey qs k:=by simp[atKey,e']
   rwa [zi0 e,b]
theorem KT.repl {H:Hp} {kvs:List (List Key×V)} {xs:List (List Key×Addr×Value)} (r:KT H kvs xs) (k:List Key) {y:V} {u:Value} (ry:RelV y u) :
  KT H (kvs.map fun kv=>if kv.1=k then (kv.1,y) else kv) (xs.map (putAt k u)):=by
 induction r with
 | nil=>exact .nil
 | @cons p q ps qs h t ih=>
  refine .cons ?_ ih
  unfold putAt
  by_cases e:p.1=k
  ·simp_all
  simp_all
theorem KT.put {H:Hp} {kvs:List (List Key×V)} {xs:List (List Key×Addr×Value)} (r:KT H kvs xs) (k:List Key) {b:Addr} {y:V} {u:Value} (hb:H b=some (.tup (k.map kV))) (ry:RelV y u) :
  KT H (putK kvs k y) (storedH xs k b u):=by
 have e:(kvs.any fun kv=>decide (kv.1=k))=(atKey xs k).isSome:=by
  rw[zlv,(r.val k).isSome_eq,Option.isSome_map]
 unfold putK storedH
 rw[e]
 by_cases q:(atKey xs k).isSome=true
 ·rw[if_pos q,if_pos q];exact r.repl k ry
 ·rw[if_neg q,if_neg q];exact Paired.snoc r ⟨rfl,hb,ry⟩
theorem KT.keeps {H H':Hp} {kvs:List (List Key×V)} {xs:List (List Key×Addr×Value)} (r:KT H kvs xs) (ht:∀b ys,H b=some (.tup ys)→H' b=some (.tup ys)):KT H' kvs xs:=
 Paired.mapP r fun _ _ z=>⟨z.1,ht _ _ z.2.1,z.2.2⟩
section
variable {P:Program} {w:World} {H:Hp} {h:Heap} {a:Addr}
theorem zsa {u:HO} (ok:HOk P w H h) (e:Rd H a u):ObjOk P w H h a u:=e.ok ok
theorem zrq {kvs:List (Key×V)} (ok:HOk P w H h) (e:Rd H a (.dK kvs)):kvs.length≤sizeLine∧(a == sysModules)=false∧∃vs,KV kvs vs∧h.DictOf (zdc P w) a vs:=
 zsa ok e
theorem zsO {kvs:List (Key×V)} (ok:HOk P w H h) (e:H a=some (.dK kvs)):kvs.length≤sizeLine∧(a == sysModules)=false∧∃vs,KV kvs vs∧h.DictOf (zdc P w) a vs:=zrq ok (.inl e)
theorem zmS {ks:List Key} (ok:HOk P w H h) (e:H a=some (.tup (ks.map kV))):(tupleKind (zdc P w)).is h ks a:=let ⟨_,_,r,o,h1,h2,n,h3⟩:=(ok a _ e);⟨o,_,n,h1,h2,h3,by simpa using zjC r⟩
theorem zsq {kvs:List (List Key×V)} (ok:HOk P w H h) (e:Rd H a (.dT kvs)):kvs.length≤sizeLine∧(a == sysModules)=false ∧
  ∃xs,KT H kvs xs∧h.DictOfH (tupleKind (zdc P w)) a xs:=by
 obtain⟨z,y,xs,r,o,es,ep,h1,h2,h3,h4,h5⟩:=(zsa ok e)
 refine⟨z,y,_,r,o,_,_,h1,h2,h3,h4,fun x hx=>?_,h5⟩
 have all:∀ {l:List _} {m:List _},KT H l m→∀x∈m,(tupleKind (zdc P w)).is h x.1 x.2.1:=by
  intro l m q
  induction q with
  | nil=>simp
  | @cons p q ps qs hq t ih=>
   intro x hx
   rcases List.mem_cons.mp hx with e|hx
   ·exact zmS ok (by simp_all)
   ·exact ih x hx
 exact all r x hx
theorem zs1 {kvs:List (List Key×V)} (ok:HOk P w H h) (e:H a=some (.dT kvs)):kvs.length≤sizeLine∧(a == sysModules)=false ∧
  ∃xs,KT H kvs xs∧h.DictOfH (tupleKind (zdc P w)) a xs:=zsq ok (.inl e)
end
def DGet (H:Hp) (a:Addr) (y:V) (r:Option V):Prop:=
 (∃kvs k,Rd H a (.dK kvs)∧y=kV k∧r=valV kvs k)∨∃kvs k b,Rd H a (.dT kvs)∧y=.ref b∧H b=some (.tup (k.map kV))∧r=valV kvs k
def DPut (H:Hp) (a:Addr) (y v:V) (H':Hp):Prop:=
 (∃kvs k,H a=some (.dK kvs)∧y=kV k∧kvs.length<sizeLine∧H'=upd H a (.dK (putK kvs k v))) ∨
 ∃kvs k b,H a=some (.dT kvs)∧y=.ref b∧H b=some (.tup (k.map kV))∧kvs.length<sizeLine∧H'=upd H a (.dT (putK kvs k v))
theorem DGet.k {H:Hp} {a:Addr} {kvs:List (Key×V)} {k:Key} (e:H a=some (.dK kvs)):DGet H a (kV k) (valV kvs k):=.inl ⟨_,k,.inl e,rfl,rfl⟩
theorem DPut.k {H:Hp} {a:Addr} {kvs:List (Key×V)} {k:Key} {v:V} (e:H a=some (.dK kvs)) (hl:kvs.length<sizeLine):DPut H a (kV k) v (upd H a (.dK (putK kvs k v))):=.inl ⟨_,k,e,rfl,hl,rfl⟩
section
variable {X:Cx} {pins:List (Addr×Obj)} {σ:St} {H:Hp} {s:Shared} {a:Addr} {y v:V} {u r:Value} {o:Option V} {A:Around} {E:Value→Shared→Prop}
theorem Inv.big (I:Inv X pins σ H s):sysModules<s.heap.objs.size:=Nat.lt_trans (by decide) ((I.mod.glob.keeps I.bk).lt)
theorem zqd {Q:Value→Shared→Prop} (hu:A.units+1<cLine) (I:Inv X pins σ H s) (g:DGet H a y o) (ry:RelV y u) (h:∀s',Inv X pins σ H s'→Q (.bool (!o.isSome)) s') :
  wpAny (model X.prog X.w) A (compareOp .NotIn u (.ref a)) Q E s:=by
 rcases g with ⟨kvs,k,e,ey,l⟩|⟨kvs,k,b,e,ey,eb,l⟩
 ·subst ey
  obtain⟨z,hd,vs,rel,dd⟩:=zrq I.hok e
  refine wpAny_notIn_of (zqr ry) hd dd.mapOf ?_
  rw[← (rel.val k).isSome_eq,← l]
  exact h _ (I.tok _)
 ·subst ey
  cases (ry)
  obtain⟨z,hd,xs,rel,dd⟩:=zsq I.hok e
  refine wpAny_notIn_heap (tupleKind_room_in1 hu) (zmS I.hok eb) hd dd ?_
  have q:=(rel.val k).isSome_eq
  rw[Option.isSome_map] at q
  rw[← q,← l]
  exact h _ (I.tok _)
theorem zno {h':Heap} {t':Nat} {ob:HO} (I:Inv X pins σ H s) (mu:Mut (H a)) (hs:Heap.SameBut a s.heap h') (he:∃q,h'.get? a=some q) (new:ObjOk X.prog X.w (upd H a ob) h' a ob) :
  Inv X pins σ (upd H a ob) { s with heap:=h',toks:=t' }:=
 I.write mu (.inl rfl) (fun b q hb z=>(hs.2 b hb).trans z) he new
theorem zrv {P:Program} {w:World} {H':Hp} {h':Heap} {kvs:List (Key×V)} {vs:List (Key×Value)} (z:kvs.length≤sizeLine) (hd:(a == sysModules)=false) (rel:KV kvs vs) (dd:h'.DictOf (zdc P w) a vs) :
  ObjOk P w H' h' a (.dK kvs):=⟨z,hd,_,rel,dd⟩
theorem znh {H':Hp} {Q:Unit→Shared→Prop} (hu:A.units+1<cLine) (I:Inv X pins σ H s) (g:DPut H a y v H') (ry:RelV y u) (rv:RelV v r) (h:∀s',Inv X pins σ H' s'→Q () s') :
  wpAny (model X.prog X.w) A (setItem (.ref a) u r) Q E s:=by
 rcases g with ⟨kvs,k,e,ey,l,eH⟩|⟨kvs,k,b,e,ey,eb,l,eH⟩
 ·subst ey eH
  obtain⟨z,hd,vs,rel,dd⟩:=zsO I.hok e
  have hz:vs.length≤sizeLine:=by rwa [← rel.length]
  have hl:(putK kvs k v).length≤sizeLine:=by have:=zg8 kvs k v;omega
  refine wpAny_setItem_pairs (zqr ry) dd fun h' dd' hs=>h _ ?_
  have he:∃q,h'.get? a=some q:=let ⟨q,_,_,hq,_⟩:=dd';⟨q,hq⟩
  exact zno I (by rw[e];exact True.intro) hs he (zrv hl hd (rel.put k rv) dd')
 ·subst ey eH
  cases ry
  obtain⟨z,hd,xs,rel,dd⟩:=zs1 I.hok e
  have hz:xs.length≤sizeLine:=by rwa [← Paired.length rel]
  have hl:(putK kvs k v).length≤sizeLine:=by have:=zg8 kvs k v;omega
  refine wpAny_setItem_heap (hsz:=hz) (tupleKind_room_in1 hu) (zmS I.hok eb) dd fun h' dd' hs=>h _ ?_
  obtain⟨q,es,ep,hq,h2,h3,h4,_,h5⟩:=dd'
  refine zno I (by rw[e];exact True.intro) hs ⟨q,hq⟩ ⟨hl,hd,_,(rel.put k eb rv).keeps fun c ys ec=>?_,q,_,_,hq,h2,h3,h4,h5⟩
  rwa [zaz (zsS ec e (fun z=>nomatch z))]
end
def zoz (ty td:TE):TE:=fun σ H Q=>ty σ H fun y H1=>td σ H1 fun x H2=>∃a o,x=.ref a∧DGet H2 a y o∧Q (.bl (!o.isSome)) H2
def zso (td ty tv:TE):TS:=fun D σ H=>tv σ H fun v H1=>td σ H1 fun x H2=>ty σ H2 fun y H3=>∃a H4,x=.ref a∧DPut H3 a y v H4∧D.nx σ H4
section
variable {X:Cx} {o i e value:Expr} {pos pos' tpos:Pos} {td ty tv:TE}
theorem znV (hu:X.A.units+1<cLine) (hi:PE X i ty) (ho:PE X o td):PC X .NotIn i o (zoz ty td):=by
 intro pins s σ H Q I h
 refine thn (hi _ s _ H _ I h) fun iv s1 ⟨y,_,I1,ry,q1⟩=>thn (ho _ _ _ _ _ I1 q1) fun u s2 ⟨x,_,I2,rx,a,_,ex,g,q2⟩=>?_
 subst ex
 obtain rfl:u=Value.ref a:=rx
 exact zqd hu I2 g ry fun s3 I3=>⟨.bl _,_,I3,rfl,q2⟩
theorem zqR (hu:X.A.units+1<cLine) (ho:PE X o td) (hi:PE X i ty) (hv:PE X value tv) (hs:swapsWith value (some (.Subscript o i pos')) pos.line X.env=pure false) :
  PS X (.Assign [.Subscript o i pos'] value pos) (zso td ty tv):=by
 intro pins s σ H D I h
 refine wpAny_Assign_Subscript (thn (hv _ s _ H _ I h) fun r s1 ⟨v,_,I1,rv,q1⟩=>thn (ho _ _ _ _ _ I1 q1) fun u s2 ⟨x,_,I2,rx,q2⟩=>thn (hi _ _ _ _ _ I2 q2) fun iv s3 ⟨y,_,I3,ry,a,_,ex,g,q3⟩=>?_) hs
 subst ex
 obtain rfl:u=Value.ref a:=rx
 exact znh hu I3 g ry rv fun s4 I4=>⟨_,_,I4,q3⟩
end
theorem zo7 {P:Program} {w:World} {H:Hp} (h:Heap) (hb:sysModules<h.objs.size):ObjOk P w H (h.push { cls:=.type "dict",data:=.dict #[] }) h.objs.size (.dK []):=
 ⟨Nat.zero_le _,beq_eq_false_iff_ne.mpr (Ne.symm (Nat.ne_of_lt hb)),_,.nil,Heap.DictOf.new h⟩
def zpI:TE:=fun _ H Q=>∀p,H p=none→Q (.ref p) (upd H p (.dK []))
section
variable {X:Cx} {pos:Pos}
theorem zpB:PE X (.Dict [] [] pos) zpI:=fun pins s σ H Q I h=>
 wpAny_Dict_empty ⟨.ref _,_,I.laid (fun _ _ q=>Heap.get?_push_of_some _ q) (Nat.le_refl _) (zo7 _ I.big),rfl,h _ (I.hok.fresh (Nat.le_refl _))⟩
end
end L2
namespace Att
open PySem PySem.W PySem.Calls PyProof.Rows
theorem zhk {P:Params} {h:Heap}:∀(ns:List Int) (vs:List Value),WellAll P h vs (ns.map WData.int)→IntsAre vs ns:=by
 intro ns
 induction ns with
 | nil=>
  intro vs w
  cases w
  exact .nil
 | cons n ns ih=>
  intro vs w
  cases w with
  | cons a b=>
   cases a
   exact .cons _ _ (ih _ b)
theorem zne {l:OpenLaw} {n:Nat} (hn:l.most=some n) {P:Params} {h:Heap} {args:List WData} {vals:List Value}
  (hpre:l.row.toRowW.claim.pre args=true) (hwl:WellAll P h vals args) :
  ∃a vs ns,vals=[Value.ref a]∧args=[WData.list (ns.map WData.int)]∧h.get? a=some { cls:=.type "list",data:=.seq vs.toArray }∧IntsAre vs ns∧ns.length≤n:=by
 have hc:l.pre.holds [] _=true:=(pre_splitW hpre).2
 obtain⟨d,r,rfl,h1,h2⟩:=hasAllW_cons ((pre_splitW hpre).1)
 obtain rfl:=hasAllW_nil h2
 obtain⟨xs,rfl,h3⟩:=hasW_list h1
 obtain⟨ns,rfl⟩:=items_int h3
 have hlen:ns.length≤n:=by
  have h4:(WTm.not (.lt (.lit (.int n)) (.len (.arg 0)))).holds [] { args:=[.list (ns.map .int)] }=true:=by
   have h4:=(holds_andW hc).1
   simp_all
  have h5:=condW_of h4 rfl
  simp_all
 cases hwl with
 | cons w1 w2=>
  cases w2
  cases w1 with
  | list ho hall=>exact⟨_,_,_,rfl,rfl,ho,zhk _ _ hall,hlen⟩
theorem znP (l:OpenLaw) (args:List WData):l.row.toRowW.claim.post args (.bool true) args=true:=
 postW_of
  rfl
  (w_eq_bool rfl w_lit) rfl
theorem attach_call {l:OpenLaw} {n:Nat} {q:Program} {loose:List Str} {XP:(Str→Option Value)→Heap→Prop} {YP:World→Heap→Prop} {d:DefRec}
  (hn:l.most=some n) (hdf:d.params.defaults=[])
  (call:∀(w:World) (s₀ s₁:Shared) (mg mb:Str→Option Value) (fa:Addr) (o:Obj) (pm cd doc:Value) (a:Addr) (vs:List Value) (ns:List Int),
   Ground q loose [] XP w s₀ mg mb s₁.heap→YP w s₁.heap →
   s₁.heap.get? fa=some o→o.data=.func (docDef d.name d.params d.body d.scope pm cd doc)→s₁.heap.CodeRec cd d.name→mg d.name=some (.ref fa) →
   s₁.heap.get? a=some { cls:=.type "list",data:=.seq vs.toArray }→IntsAre vs ns→ns.length≤n→s₁.gens = #[] →
   codeAny (model l.prog w) callerA (.call (.ref fa) ⟨[.ref a],[]⟩) (fun r s'=>r=.ok (.ret (.bool true))∧OldK s₁.heap s'.heap∧s'.os=s₁.os∧AllBare s'.gens) s₁) :
  WalkO q loose XP YP l.row.toRowW d [] (fun f vs=>PySem.call f vs):=by
 intro w s₀ s₁ mg mb G Y fa o pm cd doc dV kV ho hd hcd hD hmg hg args vals as hpre hlay hrd hwl hlo
 obtain rfl:dV=.none:=Dflts.none hD hdf
 obtain rfl:kV=.none:=Dflts.noKw hD
 obtain⟨a,vs,ns,rfl,rfl,hobj,hints,hlen⟩:=zne hn hpre hwl
 refine enter_call (codeAny_mono (call w _ _ _ _ _ o _ _ _ a _ _ G Y ho (fd_plain hd) hcd hmg hobj hints hlen hg) fun r s' hq=>?_)
 obtain⟨rfl,h2,h3,h4⟩:=hq
 exact⟨.inl ⟨_,_,_,rfl,fun _=>rfl,.bool _,znP l _,fun _=>⟨List.Pairwise.nil,fun _ hm=>(nomatch hm)⟩⟩,h2,h3,h4⟩
end Att
namespace L2
open PySem PySem.Spec PyProof.Rows
theorem zkb:∀ {vs:List Value} {ns:List Int},IntsAre vs ns→Vals (ns.map V.int) vs
 | _,_,.nil=>.nil
 | _,_,.cons n t h=>.cons ⟨t,rfl⟩ (zkb h)
def zcJ (s:Stmt):Arguments:=match s with
 | .FunctionDef _ a _ _ _ _ _ _ _ _=>a
 | _=>{ posonlyargs:=[],args:=[],vararg:=none,kwonlyargs:=[],kw_defaults:=[],kwarg:=none,defaults:=[] }
def zcd (s:Stmt):List Stmt:=match s with
 | .FunctionDef _ _ b _ _ _ _ _ _ _=>b
 | _=>[]
def zap (s:Stmt):Scope:=match s with
 | .FunctionDef _ _ _ _ _ _ sc _ _ _=>sc
 | _=>{ kind:=.function,names:=[],isGenerator:=false,isCoroutine:=false }
abbrev CX0:CXT:=fun _ _ _ _ _ _=>False
abbrev E0:XK:=fun _ _ _=>False
theorem zcW {X:Cx}:zh6 CX0 X E0:=fun _ _ _ _ _ _ _ h=>h.elim
structure Fun (K:PySem.W.Frag) (x qual:Str) (st:Stmt) (f:Addr) (fd:FuncData):Prop where
 ex:∃(oc:Value) (od:Option Addr) (kV doc pm:Value) (an:Option Addr) (cdv ct:Value) (osl:Array (Option Value)),
  fd=PySem.W.fnOf x qual (zcJ st) (zcd st) (zap st) .none kV doc pm an cdv ct∧K.lookup f=some ⟨oc,od,.func fd,osl⟩∧PySem.W.codeIn K cdv qual=true
 kp:PySem.W.keepIn K (.ref f)=true
section
variable {P:Program} {w:World} {K:PySem.W.Frag} {mg:Str→Option Value} {base:Heap}
theorem Fun.ok {x qual:Str} {st:Stmt} {f:Addr} {fd:FuncData} {N ps:List Str} {k:Nat} {sp:Sp} (F:Fun K x qual st f fd) (S:FnScope N ps (zap st)) (len:∀vs H Q E,sp vs H Q E→vs.length=ps.length)
  (hbody:∀(cdv:Value) (A:Around) (outer:List Env) (s:Shared) (H:Hp) (vs:List V) (Q:VK) (E:XK),Room k (A.deeper (envOfC qual (zap st) s.heap.objs.size f cdv))→sp vs H Q E →
   ∃t,PSs (cxOf CX0 P w K mg base N qual (zap st) f cdv A outer s H E).nox (zcd st) t∧t { nx:=fun _ H'=>Q .non H',rt:=Q } (start N vs) H):FnOk P w K mg base CX0 (k+1) f fd ps sp:=by
 obtain⟨oc,od,kV,doc,pm,an,cdv,ct,osl,rfl,lk,hcd⟩:=F.ex
 refine zqj lk hcd S len fun A outer s H vs Q E hr hsp=>?_
 obtain⟨t,h,q⟩:=hbody _ A _ s H _ Q E hr hsp
 exact⟨t,h.nox,q⟩
theorem Fun.binds {x qual:Str} {st:Stmt} {f:Addr} {fd:FuncData} {ps:List Str} (F:Fun K x qual st f fd)
  (h:∀(kV doc pm:Value) (an:Option Addr) (cdv ct:Value) (us:List Value),us.length=ps.length→bindArgs (PySem.W.fnOf x qual (zcJ st) (zcd st) (zap st) .none kV doc pm an cdv ct) ⟨us,[]⟩=pure (ps.zip us)):Binds K fd ps []:=by
 obtain⟨oc,od,kV,doc,pm,an,cdv,ct,osl,rfl,lk,hcd⟩:=F.ex
 exact .all (h _ _ _ _ _ _)
theorem zjt {x qual:Str} {st:Stmt} {f:Addr} {oc:Value} {od an:Option Addr} {osl:Array (Option Value)} {kV doc pm cdv ct:Value} (l:K.lookup f=some ⟨oc,od,.func (PySem.W.fnOf x qual (zcJ st) (zcd st) (zap st) .none kV doc pm an cdv ct),osl⟩)
  (c:PySem.W.codeIn K cdv qual=true) (k:PySem.W.keepIn K (.ref f)=true):Fun K x qual st f (PySem.W.fnOf x qual (zcJ st) (zcd st) (zap st) .none kV doc pm an cdv ct):=⟨⟨_,_,_,_,_,_,_,_,_,rfl,l,c⟩,k⟩
end
theorem zb9 {A:Around} {k:Nat} (hr:Room k A):A.units+1<cLine:=Nat.lt_of_le_of_lt (Nat.add_le_add_left (by decide) _) hr.units
section
variable {X:Cx}
theorem pv (i:Nat) {x:Str} {pos:Pos} (hN:X.N[i]?=some x:=by rfl) (hv:Vis X.env.scope x:=by first|exact Or.inl rfl|exact Or.inr (Or.inl rfl)|exact Or.inr (Or.inr rfl)) (hd:(x == ("__debug__" : Str))=false:=by decide)
  (hcd:(x == ("__classdict__" : Str))=false:=by decide):PE X (.Name x pos) (tVar i):=zr0 hN hv hd hcd
end
def Same (H H':Hp):Prop:=∀b o,H b=some o→H' b=some o
theorem Same.refl (H:Hp):Same H H:=fun _ _ h=>h
theorem Same.trans {H H1 H2:Hp} (a:Same H H1) (b:Same H1 H2):Same H H2:=fun c o h=>b c o (a c o h)
theorem Same.free {H H':Hp} (e:Same H H') {l:Addr} (h:H' l=Option.none):H l=Option.none:=by
 cases q:H l with
 | none=>rfl
 | some o=>
  rw[e l o q] at h
  cases h
theorem Same.seq {K:PySem.W.Frag} {H H':Hp} {a:Addr} {xs:List V} (e:Same H H') (h:SqL K H a xs):SqL K H' a xs:=by
 rcases h with (h|⟨o,h⟩)|h
 ·exact .inl (.inl (e _ _ h))
 ·exact .inl (.inr ⟨o,e _ _ h⟩)
 ·exact .inr h
def Fit (i:Int):Prop:=i.natAbs<2 ^ 8000
theorem log2_lt {n k:Nat} (hk:0<k) (h:n<2 ^ k):n.log2<k:=by
 by_cases h0:n=0
 ·simp_all
 ·exact (Nat.log2_lt h0).mpr h
theorem Fit.log {i:Int} (h:Fit i):i.natAbs.log2<8000:=log2_lt (by decide) h
theorem Fit.bits {i:Int} (h:Fit i):Builtin.Int.intBits i≤2 ^ 20:=by
 have h1:=h.log
 unfold Builtin.Int.intBits
 grind
section
variable {X:Cx}
theorem zgY:OpR X (binaryOp .Mult) (rI (fun i j=>Fit i∧Fit j) fun i j=>.int (i*j)):=opI fun _ _ _ _ _ _ _ hc q=>mul_int q (.of_bits hc.1.bits hc.2.bits)
theorem zdB:OpR X (binaryOp .FloorDiv) (rI (fun _ j=>j≠0∧Fit j) fun i j=>.int (i.fdiv j)):=opI fun _ _ _ _ _ _ _ hc q=>
 floordiv_int hc.1 q (.inl (PyProof.noPylong_of_log2 (Nat.lt_trans hc.2.log (by decide))))
end
def clsV:V→Option Value
 | .ty n=>some (.type n)
 | .ref a=>some (.ref a)
 | _=>none
section
variable {X:Cx}
theorem zlI {c:V} {cv u:Value} (h:clsV c=some cv) (r:RelV c u):u=cv:=by
 cases c with
 | ty n=>cases h;exact r
 | ref a=>cases h;exact r
 | _=>cases h
def rIs (K:PySem.W.Frag):List V→Hp→VK→Prop:=fun xs H Q=>∃x c cv t b,xs=[x,c]∧clsV c=some cv∧TyOf K H x t∧PySem.W.kitOne K t cv=some b∧Q (.bl b) H
theorem ze7:zgQ X (.builtin "isinstance") (rIs X.K):=by
 rintro pins s σ H xs us Q I r ⟨x,c,cv,t,b,rfl,hc,ty,hk,q⟩
 obtain⟨u,v,rfl,rx,ry⟩:=zrO r
 cases zlI hc ry
 exact znF I rx ty hk fun tk=>⟨.bl b,H,I.tok _,rfl,q⟩
end
def Ite (K:PySem.W.Frag) (a:Addr):It:=
 ⟨fun i H=>∃xs x,SqL K H a xs∧xs[i]?=some x,fun i H x H'=>∃p y,x=.ref p∧H p=none∧H'=upd H p (.tup [.int i,y])∧∀xs,SqL K H a xs→xs[i]?=some y,fun i H=>∃xs,SqL K H a xs∧xs.length≤i⟩
theorem zmY {P:Program} {w:World} {K:PySem.W.Frag} {es:List Expr} {k} {pos:Pos} (a e it:Addr) (hne:e≠it) :
  Turn P w K (.Tuple es k pos) (Ite K a) [e,it] e (fun i h=>(∃old,IsEnum h e it i old)∧h.IsListIter it a i) where
 mem:=by simp
 obj:=fun i h st b hb=>by
  obtain⟨⟨old,h1⟩,o,h2,c,d⟩:=st
  rcases List.mem_cons.mp hb with rfl|hb
  ·exact⟨_,h1,fun v z=>by cases (show Data.fields _=Data.cell v from z)⟩
  ·have e':b=it:=by simp_all
   subst e'
   exact⟨o,h2,fun v z=>by rw[d] at z;cases z⟩
 keep:=fun i h h' st k=>let ⟨⟨old,h1⟩,h2⟩:=st;⟨⟨old,k e (by simp) _ h1⟩,h2.at fun o q=>k it (by simp) o q⟩
 item:=by
  intro X hP hw hK hc i pins s σ H E I hf st hg
  subst hP hw hK
  obtain⟨xs,x,hq,hx⟩:=hg
  obtain⟨its,rv,p,hz⟩:=I.list hq
  obtain⟨u,hu,ru⟩:=rv.get hx
  obtain⟨⟨old,he⟩,hit⟩:=st
  obtain⟨f0,f1,f2,f3,f4,f5⟩:=hf e (by simp)
  obtain⟨g0,g1,g2,g3,g4,g5⟩:=hf it (by simp)
  have hT:H s.heap.objs.size=none:=I.hok.fresh (Nat.le_refl _)
  have eT:e≠s.heap.objs.size:=Nat.ne_of_lt (Heap.lt_size he)
  have iT:it≠s.heap.objs.size:=let ⟨_,z,_⟩:=hit;Nat.ne_of_lt (Heap.lt_size z)
  refine wpAny_pyNext_enum_item he hit p.isList (x:=u) (by simpa using hu) hne fun h' ho hit' ht hsz hk=>⟨_,rfl,(wpAny_letOwnedTupleGo_enum ho fun h'' he'' hs''=>?_)⟩
  have hs2:Heap.SameBut e h' h'':=hs''
  have ht2:h''.get? s.heap.objs.size=some { cls:=.type "tuple",data:=.seq #[.int i s.toks,u] }:=(hs2.2 _ eT.symm).trans ht
  have hk2:∀b o,b≠e→b≠it→s.heap.get? b=some o→h''.get? b=some o:=fun b o z1 z2 q=>(hs2.2 b z1).trans (hk b o z1 z2 q)
  have nH:∀b o,H b=some o→b≠e∧b≠it:=fun b o q=>⟨(fun z=>by rw[z,f0] at q;cases q),(fun z=>by rw[z,g0] at q;cases q)⟩
  refine⟨.ref s.heap.objs.size,upd H s.heap.objs.size (.tup [.int i,x]),?_,rfl,⟨_,x,rfl,hT,rfl,fun ys hy=>by rwa [I.list_inj hy hq]⟩,⟨⟨_,by simpa using he''⟩,hit'.at fun o q=>(hs2.2 it hne.symm).trans q⟩,fun b hb=>?_⟩
  ·show Inv X pins σ (upd H s.heap.objs.size (.tup [.int i,x])) { s with heap:=h'',toks:=s.toks+1 }
   refine I.step (h':=h'') (g':=s.gens) (d':=s.drawn) (t':=s.toks+1) (ch:=[e,it]) (fun b hb=>?_) (fun b o _ _ hb q _=>?_) (fun b o _ _ hb q _=>⟨o.slots,?_⟩) (fun b o hb q n=>?_) (fun b o hb q=>⟨o,?_⟩) (fun b ys q=>?_) (fun b o ys q=>?_) (fun b ps q=>⟨#[],?_⟩) (fun m hm=>?_) ?_ I.bare
   ·rcases List.mem_cons.mp hb with rfl|hb
    ·exact⟨f3,f1,f4,f5⟩
    ·have z:b=it:=by simpa using hb
     subst z
     exact⟨g3,g1,g4,g5⟩
   ·exact hk2 b o (fun z=>hb (by simp[z])) (fun z=>hb (by simp[z])) q
   ·exact hk2 b o (fun z=>hb (by simp[z])) (fun z=>hb (by simp[z])) q
   ·rwa [zaz (Nat.ne_of_lt (Heap.lt_size q))]
   ·exact hk2 b o (fun z=>hb (by simp[z])) (fun z=>hb (by simp[z])) q
   ·rwa [zaz (zaW q hT)]
   ·rwa [zaz (zaW q hT)]
   ·rw[zaz (zaW q hT),q];simp
   ·obtain⟨o,es',ep,ho',r⟩:=hm
    exact⟨o,es',ep,hk2 _ o (Ne.symm f1) (Ne.symm g1) ho',r⟩
   ·intro b o q
    by_cases hb:b=s.heap.objs.size
    ·subst hb
     rw[zaB] at q;cases q
     exact⟨by show 2≤sizeLine;decide,[.int i s.toks,u],.cons ⟨_,rfl⟩ (.cons ru .nil),⟨_,ht2,rfl,_,rfl⟩⟩
    ·rw[zaz hb] at q
     refine (I.hok b o q).stay (fun c v hc' q'=>?_) (fun c q'=>by rwa [zaz (zaW q' hT)]) fun c ys q'=>by rwa [zaz (zaW q' hT)]
     rcases hc' with rfl|hc'
     ·exact hk2 _ v (nH _ _ q).1 (nH _ _ q).2 q'
     ·exact hk2 _ v (nH _ _ hc').1 (nH _ _ hc').2 q'
  ·rcases List.mem_cons.mp hb with rfl|hb
   ·rwa [zaz eT]
   ·have z:=by simpa using hb
    subst z
    rwa [zaz iT]
 done:=by
  intro X hP hw hK hc i pins s σ H E I hf st hg
  subst hP hw hK
  obtain⟨xs,hq,hx⟩:=hg
  obtain⟨its,rv,p,hz⟩:=I.list hq
  obtain⟨⟨old,he⟩,hit⟩:=st
  obtain⟨g0,g1,g2,g3,g4,g5⟩:=hf it (by simp)
  have hl:=rv.length
  exact wpAny_pyNext_enum_end (I.ok.hd hc) he hit p.isList (by simp;omega) fun h' eb=>⟨rfl,I.turned (fun b o hb q=>eb b o hb q) g0 g1 g3 g4 g5⟩
 self:=fun _ _ _ _ _ st h=>let ⟨⟨_,he⟩,_⟩:=st;wpAny_pyIter_enum he h
section
variable {X:Cx}
def zre (K:PySem.W.Frag) (ta:TA):TI:=fun σ H R=>ta σ H fun vs H1=>∃a,vs=[.ref a]∧(∃xs,SqL K H1 a xs)∧R (Ite K a) H1
theorem znp {es:List Expr} {k} {tp:Pos} {l:Expr} {ta:TA} {p pos:Pos} (hg:Gl X "enumerate") (hm:X.mg "enumerate"=none) (ha:PA X [l] ta) (hs:starEach [l] X.env=[(false,eval l X.env)]:=by rfl) :
  PI X (.Tuple es k tp) (.Call (.Name "enumerate" p) [l] [] pos) (zre X.K ta):=by
 intro pins s σ H R I h
 refine Call_ (zhW I hg hm boot_enumerate (PyProof.Rows.callWith_type1 (thn (ha _ _ s _ H _ I h) fun us s1 ⟨_,_,I1,r1,q1⟩=>?_) hs rfl))
 obtain⟨a,e,⟨xs,hq⟩,q⟩:=q1
 subst e
 obtain⟨u,rfl,rx⟩:=zhF r1
 cases rx
 obtain⟨its,rv,pl,hz⟩:=I1.list hq
 refine call_enumerate_list pl.isList fun h' he hit hsz hk=>?_
 have I2:Inv X _ _ _ { s1 with heap:=h' }:=I1.kept hk
 have hne:s1.heap.objs.size+1≠s1.heap.objs.size:=by omega
 refine wpAny_pyIter_enum he ⟨_,_,_,_,_,rfl,I2,zmY a _ _ hne,⟨⟨_,he⟩,hit⟩,fun b hb=>?_,q⟩
 have hb':s1.heap.objs.size≤b:=by
  rcases List.mem_cons.mp hb with rfl|hb
  ·omega
  simp_all
 exact I1.fpOk hb' (I1.hok.fresh hb')
end
theorem zgk {env:Env}:∀(names:List (Str×NameKind)) (acc:List (Str×Addr)),(∀y∈names,y.2=.free→∃c,env.cells.lookup y.1=some c) →
  ∃cl,(forIn (m:=Sem) names acc fun (x:Str×NameKind) (cs:List (Str×Addr))=>if (x.2 == NameKind.free)=true then do let c ← cellOf env x.1;pure (ForInStep.yield ((x.1,c)::cs)) else pure (ForInStep.yield cs))=pure cl ∧
   (∀p∈cl,p∈acc∨env.cells.lookup p.1=some p.2)∧(∀p∈acc,p∈cl)∧∀y∈names,y.2=.free→∃c,(y.1,c)∈cl
 | [],acc,_=>⟨_,rfl,fun p hp=>.inl hp,fun p hp=>hp,fun y hy=>by cases hy⟩
 | (n,k)::r,acc,h=>by
  by_cases hk:k=.free
  ·subst hk
   obtain⟨c,hc⟩:=h _ List.mem_cons_self rfl
   obtain⟨cl,e,h1,h2,h3⟩:=zgk r ((n,c)::acc) fun y hy=>h y (List.mem_cons_of_mem _ hy)
   refine⟨_,?_,fun p hp=>?_,fun p hp=>h2 p (List.mem_cons_of_mem _ hp),fun y hy hf=>?_⟩
   ·have hco:cellOf env n=pure c:=by unfold cellOf;rw[hc]
    rw[List.forIn_cons]
    simp only[hco]
    exact e
   ·rcases h1 p hp with z|z
    ·rcases List.mem_cons.mp z with rfl|z
     ·simp_all
     grind
    ·exact .inr z
   ·rcases List.mem_cons.mp hy with rfl|hy
    ·exact⟨c,h2 _ List.mem_cons_self⟩
    ·exact h3 y hy hf
  ·obtain⟨cl,e,h1,h2,h3⟩:=zgk r _ fun y hy=>h y (List.mem_cons_of_mem _ hy)
   refine⟨_,?_,h1,h2,fun y hy hf=>?_⟩
   ·have hb:(k == NameKind.free)=false:=by simpa using hk
    rw[List.forIn_cons]
    simp only[hb,if_false]
    exact e
   ·rcases List.mem_cons.mp hy with rfl|hy
    ·exact absurd hf hk
    ·exact h3 y hy hf
theorem zfQ {f:Str→Option Addr}:∀ {cl:List (Str×Addr)} {x:Str} {c:Addr},(∀p∈cl,f p.1=some p.2)→(x,c)∈cl→cl.lookup x=some c
 | [],_,_,_,h=>by cases h
 | (n,d)::r,x,c,h,hm=>by
  rw[List.lookup_cons]
  cases e:x == n with
  | true=>
   have z2:=h _ hm
   simp_all
  | false=>
   rcases List.mem_cons.mp hm with z|z
   ·cases z;simp at e
   ·exact zfQ (fun p hp=>h p (List.mem_cons_of_mem _ hp)) z
theorem zdy {scope:Scope} {env:Env} (h:∀y∈scope.names,y.2=.free→∃c,env.cells.lookup y.1=some c) :
  ∃cl,closureFor scope env=pure cl∧(∀x c,cl.lookup x=some c→env.cells.lookup x=some c)∧∀y∈scope.names,y.2=.free→cl.lookup y.1=env.cells.lookup y.1:=by
 obtain⟨cl,e,h1,_,h3⟩:=zgk _ [] h
 have all:=fun p hp=>(h1 p hp).elim (fun z=>by cases z) id
 refine⟨_,?_,fun x c z=>all _ (PySem.mem_of_lookup z),fun y hy hf=>?_⟩
 ·simp only[closureFor]
  grind
 ·obtain⟨c,hc⟩:=h3 y hy hf
  rw[all _ hc]
  exact zfQ (f:=fun x=>env.cells.lookup x) all hc
section
variable {prog:Program} {w:World} {A:Around} {R:Result→Shared→Prop} {s:Shared}
theorem zj7 {elt target iter:Expr} {ifs:List Expr} {scope:Scope} {pos:Pos} {it acc:Value} {env:Env} (I:Nat→Shared→Prop)
  (turn:∀n s,I n s→wpAny (model prog w) A (pyNext it) (fun r s₁=>match r with
   | none=>R (.ok .next) s₁
   | some v=>wpAny (model prog w) A (letOwnedTupleGo target it v) (fun _ s₁'=>wpAny (model prog w) A (assign target env v) (fun _ s₂=>
     wpAny (model prog w) A (forIn ifs true fun c r=>if r=true then do let ok ← isTrue c env (eval c env);pure (ForInStep.yield ok) else pure (ForInStep.yield r)) (fun ok s₃=>
      if ok=true then wpAny (model prog w) A (eval elt env) (fun x s₄=>
       wpAny (model prog w) A (call (.builtin "list.append") [acc,x]) (fun _ s₅=>∃m,m<n∧I m s₅) (fun _ _=>False) s₄) (fun _ _=>False) s₃
      else ∃m,m<n∧I m s₃) (fun _ _=>False) s₂) (fun _ _=>False) s₁') (fun _ _=>False) s₁) (fun _ _=>False) s)
  (n:Nat) (h:I n s) :
  codeAny (model prog w) A (.compLoop (.ListComp elt [⟨target,iter,ifs,0⟩] scope pos) 0 it acc env) R s:=by
 refine codeAny_loop rfl I (fun n s hI=>(wpAny_noted ?_)) n h
 rw[compTurn_list]
 refine wpAny_bind (wpAny_standAt (wpAny_bind (wpAny_mono (turn n s hI) (fun r s₁ h₁=>?_) fun _ _ h'=>h'.elim)))
 cases r with
 | none=>exact wpAny_pure h₁
 | some v=>
  refine wpAny_bind (wpAny_mono h₁ (fun _ s₁' h₁'=>(wpAny_bind (wpAny_mono h₁' (fun _ s₂ h₂=>wpAny_bind (wpAny_mono h₂ (fun ok s₃ h₃=>?_) fun _ _ h'=>h'.elim)) fun _ _ h'=>h'.elim))) fun _ _ h'=>h'.elim)
  cases ok with
  | false=>exact wpAny_pure ⟨rfl,h₃⟩
  | true=>
   exact wpAny_bind (wpAny_bind (wpAny_mono h₃ (fun x s₄ h₄=>wpAny_bind (wpAny_mono h₄ (fun _ s₅ h₅=>wpAny_pure (wpAny_pure ⟨rfl,h₅⟩)) fun _ _ h'=>h'.elim)) fun _ _ h'=>h'.elim))
end
def Cx.comp (X:Cx) (scope:Scope) (cl:List (Str×Addr)) (C:Addr) (N':List Str) (s:Shared) (H:Hp) (fp:List Addr) (pins:List (Addr×Obj)):Cx:=
 { X with N:=N',s₀:=s,H₀:=H,env:=compEnvC scope cl C X.env,outer:=X.stack,stack:=X.stack,ex:=fp,fn:=fun x=>scope.names.lookup x == some .cell,pn:=X.pn++pins,xe:=fun _ _=>False }
def zdt (σ:St) (ix:List Nat) (n:Nat):St:=ix.map (fun i=>(σ[i]?).getD none)++List.replicate n none
def zpJ:Option TT→TT
 | none=>fun _ H Q=>Q true H
 | some t=>t
def zqB (D:Addr) (J:It) (g:TG) (tc:Option TT) (te:TE) (Q:VK) (σ0:St) (H0:Hp):Prop:=
 ∃W:Nat→Nat→List V→St→Hp→Prop,(∃m,W 0 m [] σ0 H0)∧∀i m ys σ2 H2,W i m ys σ2 H2→H2 D=some (.lst ys) ∧
  ((J.stop i H2∧Q (.ref D) H2)∨(J.go i H2∧∃ N:List V→St→Hp→Prop,(∀ ys' σ' H',N ys' σ' H'→∃ m',m' < m∧W (i + 1) m' ys' σ' H') ∧
    ∀x H',J.yld i H2 x H'→g x σ2 H' fun σ3 H3=>zpJ tc σ3 H3 fun b H4=>if b=true then te σ3 H4 fun y H5=>H5 D=some (.lst ys)∧ys.length<sizeLine∧N (ys++[y]) σ3 (upd H5 D (.lst (ys++[y]))) else N ys σ3 H4))
def zl2 (wi:TI) (ix:List Nat) (n:Nat) (g:TG) (tc:Option TT) (te:TE):TE:=fun σ H Q=>wi σ H fun J H1=>∀D,H1 D=none→zqB D J g tc te Q (zdt σ ix n) (upd H1 D (.lst []))
structure CompOk (X:Cx) (scope:Scope) (N':List Str) (ix:List Nat) (n:Nat) (tg elt:Expr) (ifs:List Expr) (g:TG) (tc:Option TT) (te:TE):Prop where
 kind:scope.kind=.function
 nocell:∀y∈scope.names,y.2=.free→(y.1,NameKind.cell)∉scope.names
 names:∀y∈scope.names,y.2=.local→scope.names.lookup y.1=some .local
 free:∀y∈scope.names,y.2=.free→X.env.kindOf y.1=some .cell∨X.env.kindOf y.1=some .free
 len:ix.length+n=N'.length
 take:∀(j i:Nat),ix[j]?=some i→∃x,N'[j]?=some x∧X.N[i]?=some x∧scope.names.lookup x=some .free
 tgt:∀(cl:List (Str×Addr)) (C:Addr) (s:Shared) (H:Hp) (fp:List Addr) (pins:List (Addr×Obj)),PG (X.comp scope cl C N' s H fp pins) tg g
 elt:∀(cl:List (Str×Addr)) (C:Addr) (s:Shared) (H:Hp) (fp:List Addr) (pins:List (Addr×Obj)),PE (X.comp scope cl C N' s H fp pins) elt te
 test:(ifs=[]∧tc=none)∨∃c t,ifs=[c]∧tc=some t∧∀(cl:List (Str×Addr)) (C:Addr) (s:Shared) (H:Hp) (fp:List Addr) (pins:List (Addr×Obj)),PT (X.comp scope cl C N' s H fp pins) c t
theorem zdO {env:Env}:∀ {names:List (Str×NameKind)} {x:Str},names.lookup x=some .free →
  (names.map fun (n,k)=>if (k == NameKind.free && env.scope.kind == .function && env.kindOf n == some .cell) then (n,NameKind.cell) else (n,k)).lookup x=some .cell ∨
  (names.map fun (n,k)=>if (k == NameKind.free && env.scope.kind == .function && env.kindOf n == some .cell) then (n,NameKind.cell) else (n,k)).lookup x=some .free
 | [],_,h=>by simp at h
 | (n,k)::r,x,h=>by
  have ih:=@zdO env r x
  show List.lookup x ((if (k == NameKind.free && env.scope.kind == .function && env.kindOf n == some .cell)=true then (n,NameKind.cell) else (n,k))::_)=_∨List.lookup x ((if (k == NameKind.free && env.scope.kind == .function && env.kindOf n == some _)=true then (n,NameKind.cell) else (n,k))::_)=_
  cases hx:x == n with
  | true=>
   simp[List.lookup_cons,hx] at h
   cases h
   by_cases hc:(NameKind.free == NameKind.free && env.scope.kind == .function && env.kindOf n == some .cell)=true
   ·grind
   ·grind
  | false=>
   simp[List.lookup_cons,hx] at h
   by_cases hc:(k == NameKind.free && env.scope.kind == .function && env.kindOf n == some .cell)=true
   ·rw[if_pos hc];simp only[List.lookup_cons,hx];exact ih h
   ·rw[if_neg hc];simp only[List.lookup_cons,hx];exact ih h
theorem zgK {env:Env}:∀ {names:List (Str×NameKind)} {x:Str},
  ((names.map fun (n,k)=>if (k == NameKind.free && env.scope.kind == .function && env.kindOf n == some .cell) then (n,NameKind.cell) else (n,k)).lookup x=some .cell ∨
  (names.map fun (n,k)=>if (k == NameKind.free && env.scope.kind == .function && env.kindOf n == some .cell) then (n,NameKind.cell) else (n,k)).lookup x=some .free)→(x,NameKind.free)∈names∨(names.lookup x=some .cell∧(x,NameKind.cell)∈names)
 | [],_,h=>by simp at h
 | (n,k)::r,x,h=>by
  cases hx:x == n with
  | true=>
   have e:=by simpa using hx
   subst e
   by_cases hc:(k == NameKind.free && env.scope.kind == .function && env.kindOf x == some .cell)=true
   ·have hk:=by
     have:(k == NameKind.free)=true:=by
      simp_all
     simpa using this
    subst hk
    exact .inl List.mem_cons_self
   ·rw[List.map_cons] at h
    have e2:(match (x,k) with|(n,k)=>if (k == NameKind.free && env.scope.kind == .function && env.kindOf n == some _)=true then (n,NameKind.cell) else (n,k))=(x,k):=if_neg hc
    rw[e2] at h
    simp[List.lookup_cons,beq_self_eq_true] at h
    rcases h with h|h
    ·cases h;(simp)
    ·cases h;simp
  | false=>
   refine ((@zgK env r x) ?_).imp (List.mem_cons_of_mem _) fun z=>⟨by simp[List.lookup_cons,hx];exact z.1,List.mem_cons_of_mem _ z.2⟩
   rw[List.map_cons] at h
   by_cases hc:(k == NameKind.free && env.scope.kind == .function && env.kindOf n == some .cell)=true
   ·have e2:(match (n,k) with|(n,k)=>if (k == NameKind.free && env.scope.kind == .function && env.kindOf n == some _)=true then (n,NameKind.cell) else (n,k))=(n,NameKind.cell):=if_pos hc
    rw[e2] at h
    simpa[List.lookup_cons,hx] using h
   ·have e2:(match (n,k) with|(n,k)=>if (k == NameKind.free && env.scope.kind == .function && env.kindOf n == some _)=true then (n,NameKind.cell) else (n,k))=(n,k):=if_neg hc
    rw[e2] at h
    simpa[List.lookup_cons,hx] using h
theorem zdx {x:Str} {c:Addr}:∀(names:List (Str×NameKind)) (n:Nat) (acc:List (Str×Addr)),(x,NameKind.cell)∈names→(cellsFrom n names acc).lookup x=some c→(∀y,acc.lookup x=some y→n≤y∨True)→n≤c
 | [],_,_,h,_,_=>by cases h
 | (y,k)::r,n,acc,h,e,_=>by
  unfold cellsFrom at e
  by_cases hr:(x,NameKind.cell)∈r
  ·split at e
   ·exact Nat.le_of_succ_le (zdx r _ _ hr e fun _ _=>.inr trivial)
   ·exact zdx r n _ hr e fun _ _=>.inr trivial
  ·rcases List.mem_cons.mp h with z|z
   ·have key:∀(r:List _) (n':Nat) (acc:List _),(x,NameKind.cell)∉r→(cellsFrom n' r acc).lookup x=acc.lookup x:=by
     intro r
     induction r with
     | nil=>intro _ _ _;rfl
     | cons p r ih=>
      intro n' acc hp
      obtain⟨y',k'⟩:=p
      unfold cellsFrom
      split
      ·rw[ih _ _ fun z=>hp (List.mem_cons_of_mem _ z),List.lookup_cons,show (x == y')=false by simp_all]
      simp_all
    simp_all
   ·exact absurd z hr
theorem zcq {x:Str}:∀(names:List (Str×NameKind)) (n:Nat) (acc:List (Str×Addr)),(x,NameKind.cell)∉names→(cellsFrom n names acc).lookup x=acc.lookup x
 | [],_,_,_=>rfl
 | (y,k)::r,n,acc,h=>by
  unfold cellsFrom
  split
  ·rw[zcq r _ _ fun z=>h (List.mem_cons_of_mem _ z),List.lookup_cons,show (x == y)=false by simp_all]
  ·exact zcq r _ _ fun z=>h (List.mem_cons_of_mem _ z)
theorem zdA:∀(names:List (Str×NameKind)) (n:Nat) (acc:List (Str×Addr)),(∀x c,acc.lookup x=some c→c<n)→(∀x y c,acc.lookup x=some c→acc.lookup y=some c→x=y) →
  ∀x y c,(cellsFrom n names acc).lookup x=some c→(cellsFrom n names acc).lookup y=some c→x=y
 | [],_,_,_,h=>h
 | (z,k)::r,n,acc,h1,h2=>by
  unfold cellsFrom
  split
  ·have lk:∀x c,((z,n)::acc).lookup x=some c→(x=z∧c=n)∨acc.lookup x=some c:=fun x c h=>by
    rw[List.lookup_cons] at h
    cases hb:x == z with
    | true=>simp_all
    | false=>simp_all
   refine zdA r _ _ (fun x c h=>?_) fun x y c e1 e2=>?_
   ·rcases lk x c h with ⟨_,z⟩|z
    ·rw[z];simp
    ·exact Nat.lt_succ_of_lt (h1 x c z)
   ·rcases lk x c e1 with ⟨a1,a2⟩|a <;> rcases lk y c e2 with ⟨b1,b2⟩|b
    ·grind
    ·have:=h1 y c b;rw[a2] at this;exact absurd this (Nat.lt_irrefl _)
    ·have:=h1 x c a;rw[b2] at this;exact absurd this (Nat.lt_irrefl _)
    ·exact h2 x y c a b
  ·exact zdA r n _ h1 h2
theorem zgU {M:Model} {A:Around} {E:Value→Shared→Prop} {s:Shared} {scope:Scope} {globals:Addr} {cl:List (Str×Addr)} {qual:Str} {env:Env} {Q:Env→Shared→Prop}
  (hQ:Q (newEnv scope s.heap.objs.size globals (cellsFrom (s.heap.objs.size+1) scope.names cl) qual none .none (some env) builtinsNs) { s with heap:=pushCells (s.heap.push { cls:=.type "dict",data:=.dict #[] }) scope.names }) :
  wpAny M A (newFunctionEnv scope globals cl [] qual none .none (some env)) Q E s:=by
 refine wpAny_bind (wpAny_alloc (wpAny_bind (wpAny_layCells _ (fun name kind cells=>rfl) _ _ _ _ ?_)))
 rw[Heap.size_push _]
 exact wpAny_bind (wpAny_pure (wpAny_pure hQ))
section
variable {X:Cx} {scope:Scope} {N':List Str} {ix:List Nat} {n:Nat} {tg elt iter:Expr} {ifs:List Expr} {g:TG} {tc:Option TT} {te:TE} {pos:Pos}
theorem zif {pins:List (Addr×Obj)} {σ:St} {H:Hp} {s:Shared} {fp:List Addr} {cl:List (Str×Addr)} {h1:Heap} {tk:Nat} {m:Str→Option Value} (B:CompOk X scope N' ix n tg elt ifs g tc te) (I:Inv X pins σ H s)
  (hf:∀b∈fp,FpOk X pins H b) (hfo:∀b∈fp,∃o,s.heap.get? b=some o) (hcl:∀x c,cl.lookup x=some c→X.env.cells.lookup x=some c∨(s.heap.objs.size+1<c∧∃v,h1.IsCell c v)) (hcf:∀y∈scope.names,y.2=.free→cl.lookup y.1=X.env.cells.lookup y.1)
  (hinj:∀x y c,cl.lookup x=some c→cl.lookup y=some c→x=y) (hown:∀x,scope.names.lookup x=some .cell→∃c,cl.lookup x=some c) (hnew:∀x c,scope.names.lookup x=some .cell→cl.lookup x=some c→s.heap.objs.size+1<c)
  (hk:∀b o,s.heap.get? b=some o→h1.get? b=some o) (hD:h1.get? s.heap.objs.size=some { cls:=.type "list",data:=.seq #[] 0 }) (hC:h1.Ns (s.heap.objs.size+1) m) :
  Inv (X.comp scope cl (s.heap.objs.size+1) N' s H fp pins) [] (zdt σ ix n) (upd H s.heap.objs.size (.lst [])) { s with heap:=h1,toks:=tk }:=by
 have hn:H s.heap.objs.size=none:=I.hok.fresh (Nat.le_refl _)
 have lt:∀ {b:Addr} {o:Obj},s.heap.get? b=some o→b≠s.heap.objs.size∧b≠s.heap.objs.size+1:=fun e=>⟨Nat.ne_of_lt (Heap.lt_size e),Nat.ne_of_lt (Nat.lt_succ_of_lt (Heap.lt_size e))⟩
 have cellLt:∀x c,X.env.cells.lookup x=some c→c<s.heap.objs.size:=fun x c e=>let ⟨v,o,ho,_⟩:=I.cell x c e;Heap.lt_size ho
 have fpLt:∀b∈fp,b≠s.heap.objs.size+1:=fun b hb=>by
  grind
 ·have keep:Un (frs X.stack) fp H (upd H s.heap.objs.size (.lst [])) s.heap h1:=Un.laid hk (Nat.le_refl _) hn
  refine ⟨⟨I.ok.mod, ?_, I.ok.glob, I.ok.blt, Nat.le_succ _, hinj, fun x hx => ?_, fun x c z e => Nat.le_of_lt (Nat.lt_trans (Nat.lt_succ_self _) (hnew x c (by simpa using (show (scope.names.lookup x == some NameKind.cell) = true from z)) e)), I.ok.hd, I.ok.frames, .inl rfl, fun b hb => ⟨fpLt b hb, fun x c e => (hcl x c e).elim (fun z => (hf b hb).2.2.2.2.1 x c z) fun z w => by
        obtain⟨o,ho⟩:=hfo b hb
        have:=Heap.lt_size ho
        rw[← w] at this;exact Nat.lt_irrefl _ (Nat.lt_trans (Nat.lt_trans (Nat.lt_succ_self _) z.1) this)⟩,
    I.bs,Nat.le_trans I.ok.bsz I.sz,fun b o e hb=>?_,fun b hb z=>?_,I.stack,I.stkFree,I.ok.tb.grown I.base.tbls⟩,
   rfl,I.bare,keep,⟨m,hC,fun i x v e1 e2 e3=>?_⟩,fun x c e=>?_,?_,fun x c e=>?_,fun p hp=>?_,?_,?_⟩
  ·exact B.kind
  ·show ∃c,cl.lookup x=some c
   rcases zgK hx with hx'|hx'
   case inr=>exact hown x hx'.1
   have z:=hcf _ hx' rfl
   rw[z]
   exact I.ok.has x (B.free _ hx' rfl)
  ·obtain⟨_,_,_,f3,_⟩:=hf b hb
   rcases f3 with z|z
   ·exact I.ok.noex b o e z
   ·exact absurd (Nat.lt_of_lt_of_le (Heap.lt_size e) (Nat.le_trans I.ok.bsz z)) (Nat.lt_irrefl _)
  ·rcases List.mem_cons.mp (I.stkSub b z) with e|e
   ·exact (hf b hb).2.1 e
   ·exact (hf b hb).2.2.1 e
  ·have hj:i<ix.length:=by
    unfold zdt at e2
    by_cases hj:i<ix.length
    ·exact hj
    ·rw[List.getElem?_append_right (by simpa using hj),List.getElem?_replicate] at e2
     split at e2 <;> cases e2
   obtain⟨j,hj2⟩:∃j,ix[i]?=some j:=⟨ix[i],by simp⟩
   obtain⟨y,y1,y2,y3⟩:=B.take i j hj2
   have exy:x=y:=by
    have z:N'[i]?=some x:=e1
    rw[y1] at z
    exact (Option.some.inj z).symm
   subst exy
   have ev:σ[j]?=some (some v):=by
    unfold zdt at e2
    rw[List.getElem?_append_left (by simpa using hj),List.getElem?_map,hj2] at e2
    have z:(σ[j]?).getD none=some v:=Option.some.inj e2
    cases q:σ[j]? with
    | none=>rw[q] at z;cases z
    | some w=>rw[q] at z;exact congrArg some z
   obtain⟨m0,hn0,hl⟩:=I.loc
   have hm:(x,NameKind.free)∈scope.names:=PySem.mem_of_lookup y3
   have kx:=B.free _ hm rfl
   have vis:Vis X.env.scope x:=kx.elim (fun z=>.inr (.inl z)) fun z=>.inr (.inr z)
   obtain⟨u,ru,lu⟩:=hl j x v y2 ev vis
   refine⟨u,ru,.inr ⟨?_,?_⟩⟩
   ·exact zdO y3
   ·rcases lu with ⟨z,_⟩|⟨_,c,hc,hcell⟩
    ·rcases kx with w|w <;> (rw[w] at z;cases z)
    ·refine⟨c,?_,?_⟩
     ·show cl.lookup x=some c
      rwa [hcf _ hm rfl]
     ·obtain⟨o,ho,hd⟩:=hcell
      exact⟨o,hk c o ho,hd⟩
  ·rcases hcl x c e with z|⟨_,z⟩
   ·obtain⟨v,o,ho,hd⟩:=I.cell x c z
    exact⟨v,o,hk c o ho,hd⟩
   omega
  ·show upd H _ _ (s.heap.objs.size+1)=none
   rw[zaz (Nat.succ_ne_self _)]
   exact I.hok.fresh (Nat.le_succ _)
  ·rcases hcl x c e with z|⟨z,_⟩
   ·have:=cellLt x c z
    rw[zaz (Nat.ne_of_lt this)]
    exact I.freeC x c z
   ·rw[zaz (Nat.ne_of_gt (Nat.lt_trans (Nat.lt_succ_self _) z))]
    exact I.hok.fresh (Nat.le_of_lt (Nat.lt_trans (Nat.lt_succ_self _) z))
  ·rw[List.append_nil] at hp
   obtain⟨q1,q2,q3,q4,q5⟩:=I.pin p hp
   refine⟨hk _ _ q1,by rwa [zaz (lt q1).1],(lt q1).2,fun z=>?_,q5⟩
   rcases List.mem_cons.mp (I.stkSub _ z) with e|e
   ·exact q3 e
   ·exact q4 e
  ·exact I.hok.laid hk (Nat.le_refl _) ⟨Nat.zero_le _,_,0,.nil,hD⟩
  ·unfold zdt
   rw[List.length_append,List.length_map,List.length_replicate]
   exact B.len
theorem zhf {pins:List (Addr×Obj)} {σ σ':St} {H H':Hp} {s s':Shared} {fp:List Addr} {cl:List (Str×Addr)} {C:Addr} (I:Inv X pins σ H s) (hf:∀b∈fp,FpOk X pins H b)
  (J:Inv (X.comp scope cl C N' s H fp pins) [] σ' H' s'):Inv X pins σ H' s':=by
 obtain⟨hh,g,d,t,os'⟩:=s'
 obtain rfl:os'=s.os:=J.os
 exact I.call J.base J.hok J.bare fun b hb=>⟨(hf b hb).2.2.2.1,(hf b hb).2.1,(hf b hb).2.2.2.2.1,(hf b hb).2.2.2.2.2⟩
theorem zlb {pins:List (Addr×Obj)} {σ:St} {H:Hp} {s:Shared} {Q:VK} {it:Addr} {fp:List Addr} {tn:Nat→Heap→Prop} {J:It} {cl:List (Str×Addr)} {RR:Value→Addr→Result→Shared→Prop} {E:Value→Shared→Prop}
  (B:CompOk X scope N' ix n tg elt ifs g tc te) (hc:X.calm=true) (I:Inv X pins σ H s) (T:Turn X.prog X.w X.K tg J fp it tn) (st:tn 0 s.heap) (hf:∀b∈fp,FpOk X pins H b)
  (hcl:∀x c,cl.lookup x=some c→X.env.cells.lookup x=some c) (hcf:∀y∈scope.names,y.2=.free→cl.lookup y.1=X.env.cells.lookup y.1)
  (body:∀D,H D=none→zqB D J g tc te Q (zdt σ ix n) (upd H D (.lst [])))
  (hRR:∀D C H' s' m,Inv X pins σ H' s'→s'.heap.Ns C m→FpOk X pins H' C→Q (.ref D) H'→RR (.ref D) C (.ok .next) s') :
  wpAny (model X.prog X.w) X.A (newList []) (fun acc s₃=>wpAny (model X.prog X.w) X.A (newFunctionEnv scope X.env.globals cl [] X.env.qual none .none (some X.env)) (fun cenv s₄=>
   codeAny (model X.prog X.w) X.A (.compStart (.ListComp elt [⟨tg,iter,ifs,0⟩] scope pos) 0 (.ref it) acc { cenv with scope:=relabel scope X.env }) (RR acc cenv.locals) s₄) E s₃) E s:=by
 refine wpAny_newObj_type (zgU ?_)
 dsimp only
 generalize hH2:s.heap.push { cls:=.type "list",dict:=none,data:=.seq ([]:List Value).toArray }=H2
 have hC:H2.objs.size=s.heap.objs.size+1:=by rw[← hH2,Heap.size_push]
 obtain⟨cs,ecs⟩:∃cs,cs=cellsFrom (H2.objs.size+1) scope.names cl:=⟨_,rfl⟩
 rw[← ecs]
 obtain⟨h₁,eh⟩:∃h₁,h₁=pushCells (H2.push { cls:=.type "dict",data:=.dict #[] }) scope.names:=⟨_,rfl⟩
 rw[← eh]
 have kp:∀b o,H2.get? b=some o→h₁.get? b=some o:=fun b o e=>by rw[eh];exact pushCells_keeps _ _ b o (Heap.get?_push_of_some _ e)
 have hns₁:h₁.Ns H2.objs.size fun _=>none:=by rw[eh];exact (Heap.Ns.new H2 (.type "dict")).keeps (pushCells_keeps _ _)
 have below:∀b,b<s.heap.objs.size→b≠H2.objs.size:=fun b hb=>by omega
 have old:∀b o,s.heap.get? b=some o→h₁.get? b=some o:=fun b o e=>kp b o (hH2 ▸ Heap.get?_push_of_some _ e)
 have hacc:h₁.get? s.heap.objs.size=some { cls:=.type "list",data:=.seq #[] 0 }:=kp _ _ (hH2 ▸ Heap.get?_push_size _ rfl)
 have clt:∀x c,cl.lookup x=some c→c<s.heap.objs.size:=fun x c e=>let ⟨v,o,ho,_⟩:=I.cell x c (hcl x c e);Heap.lt_size ho
 have own:∀x c,(x,NameKind.cell)∈scope.names→cs.lookup x=some c→s.heap.objs.size+1<c:=fun x c h e=>by
  rw[ecs] at e
  have:=zdx scope.names _ cl h e fun _ _=>.inr trivial
  omega
 have hcl2:∀x c,cs.lookup x=some c→X.env.cells.lookup x=some c∨(s.heap.objs.size+1<c∧∃v,h₁.IsCell c v):=fun x c e=>by
  by_cases hx:(x,NameKind.cell)∈scope.names
  ·refine .inr ⟨own x c hx e,none,?_⟩
   have okc:=cellsFrom_ok scope.names (H2.push { cls:=.type "dict",data:=.dict #[] }) 0 [] ⟨fun _ _ hm=>(nomatch hm),List.Pairwise.nil⟩ (Nat.zero_le _)
   have e2:(cellsFrom (H2.objs.size+1) scope.names []).lookup x=some c:=by
    have gen:∀(names:List (Str×NameKind)) (n:Nat) (acc:List (Str×Addr)),(x,NameKind.cell)∈names→(cellsFrom n names acc).lookup x=(cellsFrom n names []).lookup x:=by
     have gen2:∀(names:List (Str×NameKind)) (n:Nat) (acc acc':List (Str×Addr)),(x,NameKind.cell)∈names∨acc.lookup x=acc'.lookup x→(cellsFrom n names acc).lookup x=(cellsFrom n names acc').lookup x:=by
      intro names
      induction names with
      | nil=>intro n acc acc' h;exact h.elim (fun z=>by cases z) id
      | cons p r ih=>
       intro n acc acc' h
       obtain⟨y,k⟩:=p
       unfold cellsFrom
       split
       ·rename_i hk
        have hk':k=.cell:=by simp_all
        subst hk'
        refine ih _ _ _ ?_
        by_cases exy:x=y
        ·simp_all
        ·rcases h with z|z
         ·simp_all
         ·exact .inr (by simp only[List.lookup_cons,show (x == y)=false by simp_all];exact z)
       ·rename_i hk
        refine ih _ _ _ ?_
        rcases h with z|z
        ·rcases List.mem_cons.mp z with w|w
         ·cases w;exact absurd rfl hk
         ·exact .inl w
        ·exact .inr z
     exact fun names n acc h=>gen2 names n acc [] (.inl h)
    rwa [← gen scope.names _ cl hx,← ecs]
   rw[Heap.size_push] at okc
   rw[eh]
   exact (okc.empty x c (PySem.mem_of_lookup e2)).1
  ·rw[ecs,zcq _ _ _ hx] at e
   exact .inl (hcl x c e)
 have hcf2:∀y∈scope.names,y.2=.free→cs.lookup y.1=X.env.cells.lookup y.1:=fun y hy hf=>by
  rw[ecs,zcq _ _ _ (B.nocell y hy hf)]
  exact hcf y hy hf
 have hinj:∀x y c,cs.lookup x=some c→cs.lookup y=some c→x=y:=by
  rw[ecs]
  exact zdA scope.names _ cl (fun x c e=>Nat.lt_of_lt_of_le (clt x c e) (by rw[hC];omega)) fun x y c e1 e2=>I.ok.inj x y c (hcl x c e1) (hcl y c e2)
 have hown:∀x,scope.names.lookup x=some .cell→∃c,cs.lookup x=some c:=fun x h=>by
  rw[ecs]
  exact Option.isSome_iff_exists.mp (PySem.W.cellsFrom_some scope.names _ cl (.inl h))
 have hnew:∀x c,scope.names.lookup x=some .cell→cs.lookup x=some c→s.heap.objs.size+1<c:=fun x c h e=>own x c (PySem.mem_of_lookup h) e
 have cne:∀b,b<s.heap.objs.size→(∀x c,X.env.cells.lookup x=some c→c≠b)→∀x c,cs.lookup x=some c→c≠b:=fun b hb hold x c e z=>by
  rcases hcl2 x c e with w|⟨w,_⟩
  ·exact hold x c w z
  ·rw[z] at w;exact Nat.lt_irrefl _ (Nat.lt_trans (Nat.lt_trans (Nat.lt_succ_self _) w) hb)
 have hfo:∀b∈fp,∃o,s.heap.get? b=some o:=fun b hb=>let ⟨o,e,_⟩:=T.obj 0 _ st b hb;⟨o,e⟩
 have st1:tn 0 h₁:=T.keep 0 _ _ st fun b _ o e=>old b o e
 have hD0:H s.heap.objs.size=none:=I.hok.fresh (Nat.le_refl _)
 obtain⟨W,⟨m0,w0⟩,turn⟩:=body _ hD0
 have J0:Inv (X.comp scope cs H2.objs.size N' s H fp pins) [] (zdt σ ix n) (upd H s.heap.objs.size (.lst [])) { s with heap:=h₁ }:=by
  rw[hC] at hns₁ ⊢
  exact zif (tk:=s.toks) B I hf hfo hcl2 hcf2 hinj hown hnew old hacc hns₁
 have fpOk:∀ {H':Hp},(∀b∈fp,H' b=none)→∀b∈fp,FpOk (X.comp scope cs H2.objs.size N' s H fp pins) [] H' b:=fun hn b hb=>by
  obtain⟨f0,f1,f2,f3,f4,f5⟩:=hf b hb
  obtain⟨o,e⟩:=hfo b hb
  refine⟨hn b hb,below b (Heap.lt_size e),fun z=>?_,.inl hb,cne b (Heap.lt_size e) f4,fun p hp=>f5 p ?_⟩
  ·rcases List.mem_cons.mp (I.stkSub b z) with q|q
   ·exact f1 q
   ·exact f2 q
  ·rwa [List.append_nil] at hp
 have fp0:∀b∈fp,upd H s.heap.objs.size (.lst []) b=none:=fun b hb=>by
  obtain⟨o,e⟩:=hfo b hb
  rw[zaz (Nat.ne_of_lt (Heap.lt_size e))]
  exact (hf b hb).1
 have loop:∀s₃:Shared,s₃ = { s with heap:=h₁ } →
   codeAny (model X.prog X.w) X.A (.compLoop (.ListComp elt [⟨tg,iter,ifs,0⟩] scope pos) 0 (.ref it) (.ref s.heap.objs.size) (compEnvC scope cs H2.objs.size X.env)) (RR (.ref s.heap.objs.size) H2.objs.size) s₃:=by
  rintro s₃ rfl
  refine zj7 (fun k s'=>∃i ys σ2 H3,Inv (X.comp scope cs H2.objs.size N' s H fp pins) [] σ2 H3 s'∧tn i s'.heap∧(∀b∈fp,H3 b=none)∧W i k ys σ2 H3) ?_ m0 ⟨0,[],_,_,J0,st1,fp0,w0⟩
  rintro k s3 ⟨i,ys,σ3,H3,I3,st3,fr3,w3⟩
  obtain⟨hD3,alt⟩:=turn i k ys σ3 H3 w3
  rcases alt with ⟨stop,q⟩|⟨go,N,hN,step⟩
  ·refine thn (T.done (X.comp scope cs H2.objs.size N' s H fp pins) rfl rfl rfl hc i [] s3 σ3 H3 _ I3 (fpOk fr3) st3 stop) fun r s4 ⟨hr,I4⟩=>?_
   subst hr
   obtain⟨m4,hn4,_⟩:=I4.loc
   refine hRR _ _ H3 s4 m4 (zhf I hf I4) hn4 ⟨I4.free,fun z=>?_,fun z=>?_,.inr (Nat.le_trans I.sz (by omega)),fun x c e z=>?_,fun p hp z=>?_⟩ q
   ·have lt:=I.lt
    rw[← z,hC] at lt
    exact absurd lt (Nat.not_lt.mpr (Nat.le_succ _))
   ·exact I.nofs (show s.heap.objs.size≤H2.objs.size by omega) z
   ·obtain⟨v,o,ho,_⟩:=I.cell x c e
    have lt:=Heap.lt_size ho
    rw[z,hC] at lt
    exact absurd lt (Nat.not_lt.mpr (Nat.le_succ _))
   ·have lt:=Heap.lt_size (I.pin p hp).1
    rw[z,hC] at lt
    exact absurd lt (Nat.not_lt.mpr (Nat.le_succ _))
  ·refine thn (T.item (X.comp scope cs H2.objs.size N' s H fp pins) rfl rfl rfl hc i [] s3 σ3 H3 _ I3 (fpOk fr3) st3 go) fun r s4 ⟨u,hr,h4⟩=>?_
   subst hr
   refine thn h4 fun _ s5 ⟨x,H5,I5,r5,y5,st5,fr5⟩=>?_
   have back:∀ {σ7:St} {H7:Hp} {s7:Shared} {ys':List V},Inv (X.comp scope cs H2.objs.size N' s H fp pins) ([]++zgG fp s5.heap) σ7 H7 s7→N ys' σ7 H7 →
     ∃m,m<k∧∃i ys σ2 H3,Inv (X.comp scope cs H2.objs.size N' s H fp pins) [] σ2 H3 s7∧tn i s7.heap∧(∀b∈fp,H3 b=none)∧W i m ys σ2 H3:=fun {σ7 H7 s7 ys'} I7 n7=>by
    obtain⟨m',hm,w7⟩:=hN ys' σ7 H7 n7
    refine⟨m',hm,i+1,ys',σ7,H7,I7.unpinned,T.keep _ _ _ st5 fun b hb o e=>(I7.pin (b,o) (List.mem_append_right _ (List.mem_append_right _ (zcO hb e)))).1,fun b hb=>?_,w7⟩
    obtain⟨o,e,d⟩:=T.obj _ _ st5 b hb
    exact (I7.pin (b,o) (List.mem_append_right _ (List.mem_append_right _ (zcO hb e)))).2.1
   refine thn (B.tgt cs H2.objs.size s H fp pins _ s5 σ3 H5 x u _ (I5.pinned (fpOk fr5) (T.obj _ _ st5)) r5 (step x H5 y5)) fun _ s6 ⟨σ6,H6,I6,q6⟩=>?_
   have fin:∀(b:Bool) (s7:Shared),TP (X.comp scope cs H2.objs.size N' s H fp pins) ([]++zgG fp s5.heap) σ6
     (fun b H4=>if b=true then te σ6 H4 fun y H5=>H5 s.heap.objs.size=some (.lst ys)∧ys.length<sizeLine∧N (ys++[y]) σ6 (upd H5 s.heap.objs.size (.lst (ys++[y]))) else N ys σ6 H4) b s7 →
     if b=true then wpAny (model X.prog X.w) X.A (eval elt (compEnvC scope cs H2.objs.size X.env)) (fun x s₄=>
       wpAny (model X.prog X.w) X.A (call (.builtin "list.append") [.ref s.heap.objs.size,x]) (fun _ s₅=>∃m,m<k∧∃i ys σ2 H3,Inv (X.comp scope cs H2.objs.size N' s H fp pins) [] σ2 H3 s₅∧tn i s₅.heap∧(∀b∈fp,H3 b=none)∧W i m ys σ2 H3) (fun _ _=>False) s₄) (fun _ _=>False) s7
      else ∃m,m<k∧∃i ys σ2 H3,Inv (X.comp scope cs H2.objs.size N' s H fp pins) [] σ2 H3 s7∧tn i s7.heap∧(∀b∈fp,H3 b=none)∧W i m ys σ2 H3:=by
    rintro b s7 ⟨H7,I7,q7⟩
    cases b with
    | false=>
     rw[if_neg Bool.false_ne_true] at q7 ⊢
     exact back I7 q7
    | true=>
     rw[if_pos rfl] at q7 ⊢
     refine thn (B.elt cs H2.objs.size s H fp pins _ s7 σ6 H7 _ I7 q7) fun y s8 ⟨yv,H8,I8,r8,hD8,hz,n8⟩=>?_
     exact thn (zdM _ s8 σ6 H8 (.ref s.heap.objs.size) [yv] (.ref s.heap.objs.size) [y] (fun _ H9=>N (ys++[yv]) σ6 H9) I8 rfl (.cons r8 .nil) ⟨_,ys,yv,rfl,rfl,hD8,hz,n8⟩) fun _ s9 ⟨_,H9,I9,_,n9⟩=>back I9 n9
   rcases B.test with ⟨e1,e2⟩|⟨c,t,e1,e2,ht⟩
   ·subst e1;subst e2
    exact wpAny_tests_nil (fin true s6 ⟨H6,I6,q6⟩)
   ·subst e1;subst e2
    exact wpAny_tests_one (thn (ht cs H2.objs.size s H fp pins _ s6 σ6 H6 _ I6 q6) fun b s7 z=>fin b s7 z)
 exact codeAny_compStart_list (loop _ rfl) (T.self X.A 0 _ _ _ st1 (loop _ rfl))
theorem zgi {wi:TI} (hc:X.calm=true) (hi:PI X tg iter wi) (B:CompOk X scope N' ix n tg elt ifs g tc te) (hs:∀x,foldedSetIterable iter X.env x=pure x:=by intro _;rfl) :
  PE X (.ListComp elt [⟨tg,iter,ifs,0⟩] scope pos) (zl2 wi ix n g tc te):=by
 intro pins s σ H Q I h
 obtain⟨cl,hclos,hcl,hcf⟩:=zdy fun y hy hf=>I.ok.has _ (B.free y hy hf)
 refine wpAny_comprehension_free rfl hs hclos B.kind B.names (thn (hi _ s _ H _ I h) fun v s1 h1=>thn h1 fun itv s2 h2=>?_)
 obtain⟨it,fp,tn,J,H2,rfl,I2,T,st2,f2,body⟩:=h2
 refine zlb B hc I2 T st2 f2 hcl hcf body fun D C H' s' m I' hn hC q=>⟨m,hn,fun h' hs'=>?_⟩
 obtain⟨f0,f1,f2',f3,f4,f5⟩:=hC
 exact⟨.ref D,_,I'.turned (fun b o hb e=>(hs'.2 b hb).trans e) f0 f1 f3 f4 f5,rfl,q⟩
theorem zoc {wi:TI} {i:Nat} {y:Str} {py spos:Pos} (hN:X.N.Nodup) (hiN:X.N[i]?=some y) (hy:Loc X.env.scope y) (hc:X.calm=true) (hi:PI X tg iter wi) (B:CompOk X scope N' ix n tg elt ifs g tc te)
  (hsw:swapsWith (.ListComp elt [⟨tg,iter,ifs,0⟩] scope pos) (some (.Name y py)) spos.line X.env=pure true) (hf:X.fn y=true∨X.env.scope.names.lookup y=some .local:=by first|exact .inl rfl|exact .inr rfl|assumption)
  (hs:∀x,foldedSetIterable iter X.env x=pure x:=by intro _;rfl) :
  PS X (.Assign [.Name y py] (.ListComp elt [⟨tg,iter,ifs,0⟩] scope pos) spos) (tAsg (zl2 wi ix n g tc te) (zkm i)):=by
 intro pins s σ H D I h
 rw[exec_Assign_Name_used _ _ _ _ hsw]
 refine wpAny_bind (wpAny_standAt (wpAny_bind ?_))
 obtain⟨cl,hclos,hcl,hcf⟩:=zdy fun y hy hf=>I.ok.has _ (B.free y hy hf)
 refine wpAny_bind (wpAny_mono (wpAny_comprehension_free rfl hs hclos B.kind B.names
  (thn (hi _ s _ H _ I h) fun v s1 h1=>thn h1 fun itv s2 h2=>?_)) (fun _ s' hq=>wpAny_pure (wpAny_pure hq)) fun _ _ e=>e)
 obtain⟨it,fp,tn,J,H2,rfl,I2,T,st2,f2,body⟩:=h2
 refine zlb B hc I2 T st2 f2 hcl hcf body fun D' C H' s' m I' hn hC q=>?_
 obtain⟨f0,f1,f2',f3,f4,f5⟩:=hC
 have Ip := I'.pinned (fp := [C]) (fun b hb => by have e : b = C := by simp_all
                                                  subst e;exact⟨f0,f1,f2',f3,f4,f5⟩) (fun b hb=>by
  have e:=by simpa using hb
  subst e
  obtain⟨o,es,ep,ho,hd,_⟩:=hn
  exact⟨o,ho,fun v z=>by rw[hd] at z;cases z⟩)
 refine wpAny_assign_Name (zff Ip hN hiN hy (v:=.ref _) rfl (fun s'' I''=>?_) hf)
 obtain⟨o,es,ep,ho,hd,hr⟩:=hn
 have pinC:=I''.pin _ (List.mem_append_right _ (List.mem_append_right _ (zcO (by simp) ho)))
 exact⟨m,⟨o,_,_,pinC.1,hd,hr⟩,fun h' hs'=>⟨_,_,I''.unpinned.turned (fun b o hb e=>(hs'.2 b hb).trans e) pinC.2.1 f1 f3 f4 f5,q⟩⟩
end
section
variable {X:Cx} {scope:Scope} {tg elt:Expr} {ifs:List Expr} {g:TG} {tc:Option TT} {te:TE}
theorem zf7 (osc:Scope) (oN N':List Str) (ix:List Nat) (n:Nat) (hosc:X.env.scope=osc) (hoN:X.N=oN) (kind:scope.kind=.function) (nocell:(scope.names.all fun y=>y.2 != .free || scope.names.all fun z=>!(z.1 == y.1) || z.2 != .cell)=true) (names:∀y∈scope.names,y.2=.local→scope.names.lookup y.1=some .local)
  (free:(scope.names.all fun y=>y.2 != .free || (osc.names.lookup y.1 == some .cell || osc.names.lookup y.1 == some .free))=true) (len:ix.length+n=N'.length)
  (take:((List.range ix.length).all fun j=>match N'[j]?,oN[ix.getD j 0]? with|some x,some y=>x == y && scope.names.lookup x == some .free|_,_=>false)=true)
  (tgt:∀(cl:List (Str×Addr)) (C:Addr) (s:Shared) (H:Hp) (fp:List Addr) (pins:List (Addr×Obj)),PG (X.comp scope cl C N' s H fp pins) tg g)
  (elt':∀(cl:List (Str×Addr)) (C:Addr) (s:Shared) (H:Hp) (fp:List Addr) (pins:List (Addr×Obj)),PE (X.comp scope cl C N' s H fp pins) elt te)
  (test:(ifs=[]∧tc=none)∨∃c t,ifs=[c]∧tc=some t∧∀(cl:List (Str×Addr)) (C:Addr) (s:Shared) (H:Hp) (fp:List Addr) (pins:List (Addr×Obj)),PT (X.comp scope cl C N' s H fp pins) c t) :
  CompOk X scope N' ix n tg elt ifs g tc te:=
 ⟨kind,fun y hy e hc=>by
  grind,names,fun y hy e=>by
  show X.env.scope.names.lookup _=_∨X.env.scope.names.lookup _=_
  grind,len,fun j i e=>by
  obtain⟨hj,_⟩:=List.getElem?_eq_some_iff.mp e
  have e2:ix.getD j 0=i:=by
   rw[List.getD_eq_getElem?_getD,e]
   rfl
  have z:=List.all_eq_true.mp take j (List.mem_range.mpr hj)
  rw[e2] at z
  cases h1:N'[j]? with
  | none=>grind
  | some x=>
   cases h2:oN[i]? with
   | none=>rw[h1,h2] at z;cases z
   | some y=>
    rw[h1,h2] at z
    have z':=by simpa using z
    obtain⟨rfl,z2⟩:=z'
    exact⟨x,rfl,by rwa [hoN],z2⟩,tgt,elt',test⟩
end
structure Has (P:Program) (w:World) (K:PySem.W.Frag) (mg:Str→Option Value) (base:Heap) (CX:CXT) (k:Nat) (x:Str) (ps:List Str) (sp:Sp):Prop where
 ex:∃(f:Addr) (fd:FuncData),FnOk P w K mg base CX k f fd ps sp∧mg x=some (.ref f)∧PySem.W.keepIn K (.ref f)=true∧Binds K fd ps []
section
variable {X:Cx} {CX:CXT} {k:Nat} {x:Str} {ps:List Str} {sp:Sp} {E:XK} {p pos:Pos} {e:Expr} {es:List Expr} {t:TA}
theorem zsk (G:Has X.prog X.w X.K X.mg X.base CX k x ps sp) (hr:Room k X.A) (hg:Gl X x) (hx:zh6 CX X E)
  (ha:PA X (e::es) t) (hdb:(x == ("__debug__" : Str))=false:=by decide) (he:starEach (e::es) X.env=(false,eval e X.env)::starEach es X.env:=by rfl) (hpl:(backTo pos (starEach es X.env)).any (·.1)=false:=by rfl) :
  PE X (.Call (.Name x p) (e::es) [] pos) (zlT sp [] E t):=let ⟨f,_,F,hm,hk,hb⟩:=G.ex;zqL F hr hg hm hk hb .nil hx ha hdb he hpl
end
structure DefAt (K:PySem.W.Frag) (x:Str) (st:Stmt) (f:Addr) (fd:FuncData):Prop where
 ns:PySem.W.nsIn K mainGlobals x=some (some (.ref f))
 fn:Fun K x x st f fd
theorem defAt_mk {K:PySem.W.Frag} {x:Str} {st:Stmt} {f:Addr} {oc:Value} {od an:Option Addr} {osl:Array (Option Value)} {kV doc pm cdv ct:Value} (a:PySem.W.nsIn K mainGlobals x=some (some (.ref f)))
  (l:K.lookup f=some ⟨oc,od,.func (PySem.W.fnOf x x (zcJ st) (zcd st) (zap st) .none kV doc pm an cdv ct),osl⟩) (c:PySem.W.codeIn K cdv x=true) (k:PySem.W.keepIn K (.ref f)=true):∃f fd,DefAt K x st f fd:=
 ⟨f,_,a,zjt l c k⟩
theorem DefAt.has {P:Program} {w:World} {K:PySem.W.Frag} {mg:Str→Option Value} {base h:Heap} {CX:CXT} {k:Nat} {x:Str} {st:Stmt} {f:Addr} {fd:FuncData} {ps:List Str} {sp:Sp} (D:DefAt K x st f fd) (X:K.In h) (G:h.Ns mainGlobals mg)
  (ok:FnOk P w K mg base CX k f fd ps sp) (b:Binds K fd ps []):Has P w K mg base CX k x ps sp:=⟨f,_,ok,PySem.W.mg_of X G D.ns,D.fn.kp,b⟩
theorem zsr {H:Hp} {a b:Addr} {o u:HO} (hn:H b=none) (h:H a=some o):upd H b u a=some o:=(zaz (zaW h hn)).trans h
theorem Same.upd {H:Hp} {b:Addr} {u:HO} (hn:H b=none):Same H (upd H b u):=fun _ _ h=>zsr hn h
section
variable {X:Cx} {pos:Pos}
def gLst (K:PySem.W.Frag) (n:Nat) (t:TGs):TG:=fun v σ H Q=>∃a xs,v=.ref a∧SqL K H a xs∧xs.length=n∧t xs σ H Q
theorem zmQ {es:List Expr} {k:Nat} {t:TGs} {n:Nat} (hc:X.calm=true) (h:PGs X es t)
  (hn:(assignEach es X.env).length=n:=by rfl) (hst:(assignEach es X.env).findIdx? (·.1)=none:=by rfl):PG X (.Tuple es k pos) (gLst X.K n t):=by
 rintro pins s σ H v u Q I r ⟨a,xs,e1,hq,hl,hw⟩
 subst e1
 cases r
 obtain⟨its,rv,ht,hz⟩:=I.list hq
 have hl2:=rv.length
 refine wpAny_bind (wpAny_standAt ?_)
 unfold unpack
 rw[hn,hst]
 have e:n=its.toArray.size:=by simp_all
 rw[e]
 refine wpAny_bind (wpAny_holding (PySem.W.kun_itemsOf (I.ok.hd hc) ht.isList fun h' hx=>?_))
 have I1:Inv X _ _ H { s with heap:=h' }:=I.kept fun b o e=>hx b o (Nat.ne_of_lt (Heap.lt_size e)) e
 exact h _ _ _ H _ _ Q I1 (by omega) hw
end
theorem kit_no {K:PySem.W.Frag} {S T:String} (h1:((Value.type S) == (Value.type T))=false) (h2:PySem.W.kitMeta T=true) (h3:(PySem.fastBuiltinMro S).map (·.contains (.type T))=some false):PySem.W.kitOne K (.type S) (.type T)=some false:=by
 unfold PySem.W.kitOne
 rw[h1]
 show (if PySem.W.kitMeta T=true then PySem.W.subIn K _ _ else none)=some false
 rwa [if_pos h2]
theorem kit_int_bool {K:PySem.W.Frag}:PySem.W.kitOne K (.type "int") (.type "bool")=some false:=kit_no rfl rfl (by decide +kernel)
structure Tr (h:Heap) (e T:Addr) (cls:Value) (dct:Option Addr) (fl:Value):Prop where
 ex:∃(oe:Obj) (vs:Array Value) (oT:Obj) (ts:Array Value),h.get? e=some oe∧oe.cls=cls∧oe.dict=dct∧oe.data=.fields vs∧vs[1]?=some (.ref T)∧h.get? T=some oT∧oT.data=.fields ts∧ts[3]?=some fl
 ne:T≠e
structure FlyD (B:Heap) (l:List Env) (e:Addr) (cls:Value) (dct:Option Addr) (fl:Value) (h:Heap):Prop where
 stays:B.StaysIn h
 out:B.get? e=none
 fun':h.FunFrames B l
 tr:∃T,B.get? T=none∧Tr h e T cls dct fl
theorem Obj.dict_mapFields (o:Obj) (f):(o.mapFields f).dict=o.dict:=by
 obtain⟨c,d,dt,sl⟩:=o
 cases dt <;> rfl
theorem zbW {h:Heap} {a b:Addr} {o u:Obj} {vs:Array Value} (ha:h.get? a=some o) (hd:o.data=.fields vs) (hb:h.get? b=some u) (hn:∀ws,u.data≠.fields ws):b≠a:=by
 intro z
 simp_all
section
variable {M:Model} {A:Around} {E:Value→Shared→Prop} {s:Shared} {B:Heap} {env:Env} {outer l:List Env} {L e:Addr} {cls:Value} {dct:Option Addr} {Q:Unit→Shared→Prop}
theorem zlu {oe:Obj} {vs:Array Value} {head:Value} {had:Bool} (hfr:A.frames=some (env::outer)) (hl:s.heap.FunFrames B (env::outer)) (hf:env.frame=some L) (he:s.heap.get? e=some oe) (hd:oe.data=.fields vs) (hsz:1<vs.size)
  (hst:B.StaysIn s.heap) (hen:B.get? e=none) (h:∀h',FlyD B (env::outer) e oe.cls oe.dict (rawInt L) h'→s.heap.UpToSlots h'→Q () { s with heap:=h' }) :
  wpAny M A (do let a ← frameOf env;let pl ← entryPlaceOf L had;let b ← EntryCells.newEntry head a .none (rawInt L) .none pl;setField (.ref e) 1 b) Q E s:=by
 have noF:e∉(env::outer).filterMap _:=fun hm=>by
  obtain⟨_,o,ho,hn⟩:=hl.mem hm
  simp_all
 refine wpAny_bind (wpAny_frameOf_fun hfr hl hf fun h₁ hs₁=>wpAny_bind (wpAny_entryPlaceOf fun pl hpl=>?_))
 have e1:=(hs₁.2.1 e noF).trans he
 have st1:B.StaysIn _:=fun b o q=>(hs₁.2.1 b fun hm=>by rw[(hl.mem hm).1] at q;cases q).trans (hst b o q)
 refine wpAny_bind (wpAny_newObj_type ?_ (hpl.sizeOk5 _ _ _ _ _))
 generalize hto:({ cls:=.type _,dict:=none,data:=.fields _ }:Obj)=ot
 have td:∃ts,ot.data=.fields ts∧ts[3]?=some (rawInt L):=by
  subst hto
  simp
 have nfr:=let ⟨_,d,_⟩:=td;Obj.isFreed_of_fields d
 have e2:(h₁.push ot).get? e=some _:=Heap.get?_push_of_some _ e1
 refine wpAny_setField e2 hd hsz (h _ ?_ ?_)
 ·have ne1:=Nat.ne_of_gt (Heap.lt_size e1)
  have kp:∀b o,b≠e→h₁.get? b=some o→((h₁.push ot).update e (Obj.mapFields (·.setIfInBounds 1 (Value.ref h₁.objs.size)))).get? b=some o:=fun b o hb q=>by
   rw[Heap.get?_update_other _ _ (Ne.symm hb)]
   exact Heap.get?_push_of_some _ q
  have d3:=Obj.data_mapFields hd (·.setIfInBounds 1 (Value.ref h₁.objs.size))
  refine⟨fun b o q=>kp b o (fun z=>by simp_all) (st1 b o q),hen,hl.of_keeps fun b o hb hn=>?_,_,st1.fresh,⟨?_,ne1⟩⟩
  ·obtain⟨sl,q⟩:=hs₁.2.2 b o hb
   exact⟨_,kp b _ (zbW he hd hb hn) q,rfl⟩
  ·obtain⟨ts,t1,t2⟩:=td
   refine⟨_,_,_,_,Heap.get?_update_self _ e2 (Obj.isFreed_of_fields d3),Obj.cls_mapFields _ _,Obj.dict_mapFields _ _,d3,by simp_all,?_,t1,t2⟩
   rw[Heap.get?_update_other _ _ (Ne.symm ne1)]
   exact Heap.get?_push_size _ nfr
 ·intro b o hb hn
  obtain⟨sl,q⟩:=hs₁.2.2 b o hb
  refine⟨sl,?_⟩
  rw[Heap.get?_update_other _ _ (Ne.symm (zbW he hd hb hn))]
  exact Heap.get?_push_of_some _ q
theorem zlN {fl:Value} (F:FlyD B l e cls dct fl s.heap) (h:∀h',FlyD B l e cls dct .none h'→s.heap.UpToSlots h'→Q () { s with heap:=h' }):wpAny M A (setFlight (.ref e) none) Q E s:=by
 obtain⟨T,bT,⟨oe,vs,oT,ts,he,hc,hdc,hd,h1,hT,hdT,h3⟩,ne⟩:=F.tr
 have sz:=(Array.getElem?_eq_some_iff.mp h3).1
 have oth:∀b o,b≠T→s.heap.get? b=some o→(s.heap.update T (Obj.mapFields (·.setIfInBounds 3 Value.none))).get? b=some o:=fun b o hb q=>by
  rwa [Heap.get?_update_other _ _ (Ne.symm hb)]
 exact wpAny_bind (wpAny_field he hd h1 (wpAny_setField hT hdT sz (h _ ⟨fun b o q=>oth b o (fun z=>by rw[z,bT] at q;cases q) (F.stays b o q),F.out,F.fun'.of_keeps fun b o hb hn=>⟨o,oth b o (zbW hT hdT hb hn) hb,rfl⟩,T,bT,⟨⟨_,_,_,_,oth e _ (Ne.symm ne) he,hc,hdc,hd,h1,Heap.get?_update_self _ hT (Obj.isFreed_of_fields (Obj.data_mapFields hdT _)),Obj.data_mapFields hdT _,by simp[sz]⟩,ne⟩⟩ fun b o hb hn=>⟨_,oth b o (zbW hT hdT hb hn) hb⟩)))
theorem zoJ {h:Heap} {args:List Value} (hfr:A.frames=some (env::outer)) (hf:env.frame=some L) (hst:B.StaysIn h) (hl:h.FunFrames B (env::outer)) (hx:Heap.MadeExcOf h s.heap e cls args)
  (k:∀h',FlyD B (env::outer) e cls none (rawInt L) h'→s.heap.UpToSlots h'→Q () { s with heap:=h' }):wpAny M A (noteFrame (.ref e) env) Q E s:=by
 obtain⟨t,he,_,_⟩:=hx.there
 have oe:B.get? e=none:=by
  cases q:B.get? e with
  | none=>rfl
  | some o=>have z:=hst e o q;rw[hx.new] at z;cases z
 unfold noteFrame
 simp[hf]
 exact wpAny_bind (wpAny_field he rfl rfl (zlu hfr (hl.of_keeps fun b o hb _=>⟨o,hx.keeps b o hb,rfl⟩) hf he rfl (by simp) (fun b o q=>hx.keeps b o (hst b o q)) oe k))
theorem zpZ (hfr:A.frames=some (env::outer)) (hf:env.frame=some L) (F:FlyD B (env::outer) e cls dct .none s.heap)
  (k:∀h',FlyD B (env::outer) e cls dct (rawInt L) h'→s.heap.UpToSlots h'→Q () { s with heap:=h' }):wpAny M A (noteFrame (.ref e) env) Q E s:=by
 obtain⟨T,bT,⟨oe,vs,oT,ts,he,hc,hdc,hd,h1,hT,hdT,h3⟩,ne⟩:=F.tr
 have sz:=(Array.getElem?_eq_some_iff.mp h3).1
 have oth:∀b o,b≠T→s.heap.get? b=some o→(s.heap.update T (Obj.mapFields (·.setIfInBounds 3 Value.none))).get? b=some o:=fun b o hb q=>by
  rwa [Heap.get?_update_other _ _ (Ne.symm hb)]
 subst hc
 subst hdc
 unfold noteFrame
 simp[hf]
 refine wpAny_bind (wpAny_field he hd h1 (wpAny_bind (wpAny_field hT hdT h3 (wpAny_bind (wpAny_setField hT hdT sz (zlu hfr (F.fun'.of_keeps fun b o hb hn=>⟨o,oth b o (zbW hT hdT hb hn) hb,rfl⟩) hf (oth e _ (Ne.symm ne) he) hd (Array.getElem?_eq_some_iff.mp h1).1 (fun b o q=>oth b o (fun z=>by rw[z,bT] at q;cases q) (F.stays b o q)) F.out fun h' F' up=>?_))))))
 exact k _ F' fun b o hb hn=>up b o (oth b o (zbW hT hdT hb hn) hb) hn
theorem zpv (hf:env.frame=some L) (F:FlyD B l e cls dct (rawInt L) s.heap) (k:Q () s):wpAny M A (noteFrame (.ref e) env) Q E s:=by
 obtain⟨T,bT,⟨oe,vs,oT,ts,he,hc,hdc,hd,h1,hT,hdT,h3⟩,ne⟩:=F.tr
 unfold noteFrame
 simp[hf]
 refine wpAny_bind (wpAny_field he hd h1 (wpAny_bind (wpAny_field hT hdT h3 ?_)))
 rw[if_pos rfl]
 exact wpAny_pure k
theorem FlyD.pop {h:Heap} {fl:Value} (F:FlyD B (env::outer) e cls dct fl h):FlyD B outer e cls dct fl h:=⟨F.stays,F.out,F.fun'.2.2,F.tr⟩
end
structure Fly (P:Program) (w:World) (outer:List Env) (H:Hp) (s:Shared) (e:Addr) (cls:Value) (dct:Option Addr) (H':Hp) (s':Shared):Prop where
 os:s'.os=s.os
 bare:AllBare s'.gens
 un:Un (frs outer) [] H H' s.heap s'.heap
 lay:∃B,FlyD B outer e cls dct .none s'.heap∧HOk P w H' B∧∀b o,s.heap.get? b=some o→b∉frs outer→∃o',B.get? b=some o'∧(H b=none→o'=o)
def CX1 (P:Program) (w:World):CXT:=fun outer H s E e s'=>∃(ea C:Addr) (dct:Option Addr) (H':Hp),e=.ref ea∧Fly P w outer H s ea (.ref C) dct H' s'∧E (.ref C) dct H'
theorem HOk.fly {P:Program} {w:World} {H:Hp} {B h:Heap} (x:HOk P w H B) (st:B.StaysIn h):HOk P w H h:=x.kept fun b u q=>st b u q
theorem HOk.none_of {P:Program} {w:World} {H:Hp} {B:Heap} {a:Addr} (x:HOk P w H B) (n:B.get? a=none):H a=none:=by
 cases q:H a with
 | none=>rfl
 | some o=>
  have z2:=(x a o q)
  cases o with
  | lst xs=>obtain⟨_,_,_,_,e⟩:=z2;simp_all
  | tup xs=>obtain⟨_,_,_,o,e,_⟩:=z2;simp_all
  | dK kvs=>obtain⟨_,_,_,_,o,_,_,e,_⟩:=z2;simp_all
  | dT kvs=>obtain⟨_,_,_,_,o,_,_,e,_⟩:=z2;simp_all
  | set S n'=>obtain⟨o,_,_,_,e,_⟩:=z2;simp_all
  | ins C dx fs=>obtain⟨_,_,_,e,_⟩:=z2;simp_all
  | own y=>obtain⟨_,e⟩:=z2;simp_all
  | xd fs=>obtain⟨_,⟨_,_,_,e,_⟩,_⟩:=z2;simp_all
  | rng lo hi=>obtain⟨_,_,_,e⟩:=z2;simp_all
  | frz ob u=>obtain⟨e,_⟩:=z2;simp_all
  | tbl ps=>obtain⟨_,_,_,_,_,_,_,e,_⟩:=z2;simp_all
  | met f y=>have e:B.get? a=some _:=z2;simp_all
  | ext φ=>obtain⟨_,⟨_,e⟩,_⟩:=z2;simp_all
theorem zjy {fs fr:List Addr} {H0 H1 H2:Hp} {h0 h1 h2 h3 B:Heap} {L:Addr} (U:Un fs [] H0 H1 h0 h1) (V:Un fr [] H1 H2 h1 h2) (hL:h0.objs.size≤L) (sub:∀b∈fr,b∈L::fs) (sup:∀b∈fs,b∈fr) (frf:∀b∈fs,H0 b=none)
  (ndat:∀b∈fs,∀o,h2.get? b=some o→∀vs,o.data≠.fields vs) (up:h2.UpToSlots h3) (st:B.StaysIn h3) (all:∀b o,h1.get? b=some o→b∉fr→∃o',B.get? b=some o'∧(H1 b=none→o'=o)) :
  Un fs [] H0 H2 h0 h3∧∀b o,h0.get? b=some o→b∉fs→∃o',B.get? b=some o'∧(H0 b=none→o'=o):=by
 have nfr:∀b o,h0.get? b=some o→b∉fs→b∉fr:=fun b o e hb hm=>by
  rcases List.mem_cons.mp (sub b hm) with z|z
  ·exact absurd (Nat.lt_of_lt_of_le (Heap.lt_size e) hL) (by simp_all)
  ·grind
 have third:∀b o,h0.get? b=some o→b∉fs→∃o',B.get? b=some o'∧(H0 b=none→o'=o):=fun b o e hb=>by
  obtain⟨o1,e1⟩:=U.there b o e (by simp)
  obtain⟨o2,e2,z⟩:=all b _ e1 (nfr b o e hb)
  refine⟨_,e2,fun n=>?_⟩
  have e1':=U.keep b o e n hb (by simp)
  rw[e1] at e1'
  cases e1'
  exact z (U.free b o e n (by simp))
 have slots:∀b o,h0.get? b=some o→b∈fs→∃sl,h3.get? b=some { o with slots:=sl }:=fun b o e hb=>by
  have n:=frf b hb
  obtain⟨s1,e1⟩:=U.slot b o e n hb (by simp)
  obtain⟨s2,e2⟩:=V.slot b _ e1 (U.free b o e n (by simp)) (sup b hb) (by simp)
  obtain⟨s3,e3⟩:=up b _ e2 (ndat b hb _ e2)
  exact⟨_,e3⟩
 refine⟨⟨fun b o e n hb _=>?_,fun b o e n hb _=>slots b o e hb,fun b o e n _=>?_,fun b o e _=>?_,fun b xs e=>V.tups b _ (U.tups b _ e),fun b o u e=>V.frzs b o u (U.frzs b o u e),fun b ps e=>?_⟩,third⟩
 ·obtain⟨o',e',z⟩:=third b o e hb
  rw[z n] at e'
  exact st b o e'
 ·obtain⟨o1,e1⟩:=U.there b o e (by simp)
  exact V.free b _ e1 (U.free b o e n (by simp)) (by simp)
 ·by_cases hb:b∈fs
  ·obtain⟨sl,q⟩:=slots b o e hb
   exact⟨_,q⟩
  ·obtain⟨o',e',_⟩:=third b o e hb
   exact⟨_,st b _ e'⟩
 ·obtain⟨m1,e1⟩:=U.tbls b _ e
  obtain⟨m2,e2⟩:=V.tbls b _ e1
  exact⟨_,by rw[e2,Array.append_assoc]⟩
section
variable {P:Program} {w:World} {K:PySem.W.Frag} {mg:Str→Option Value} {base:Heap} {N:List Str} {qual:Str} {scope:Scope} {f:Addr} {cd:Value} {A:Around} {outer:List Env} {s0:Shared} {H0:Hp} {E:XK}
abbrev cx1 (P:Program) (w:World) (K:PySem.W.Frag) (mg:Str→Option Value) (base:Heap) (N:List Str) (qual:Str) (scope:Scope) (f:Addr) (cd:Value) (A:Around) (outer:List Env) (s0:Shared) (H0:Hp) (E:XK):Cx:=cxOf (CX1 P w) P w K mg base N qual scope f cd A outer s0 H0 E
theorem zps {pins:List (Addr×Obj)} {σ:St} {H:Hp} {s s':Shared} {ea C:Addr} {args:List Value} (I:Inv (cx1 P w K mg base N qual scope f cd A outer s0 H0 E) pins σ H s) (hm:Heap.MadeExcOf s.heap s'.heap ea (.ref C) args)
  (os:s'.os=s.os) (bare:AllBare s'.gens) (q:E (.ref C) none H):(cx1 P w K mg base N qual scope f cd A outer s0 H0 E).xe (.ref ea) s':=by
 have hin:∀env∈(cx1 P w K mg base N qual scope f cd A outer s0 H0 E).stack,∀a,env.frame=some a→a∈frs _:=fun env he a ha=>List.mem_filterMap.mpr ⟨_,he,ha⟩
 have hstk:=I.stack
 refine wpAny_bind (zoJ I.ok.frames rfl (fun b o e=>PySem.W.of_hideAll _ e) (PySem.W.funFrames_hide hstk hin) hm fun h1 F1 up1=>(zlN F1 fun h2 F2 up2=>?_))
 have keepS:∀b o,s.heap.get? b=some o→b∉frs (cx1 P w K mg base N qual scope f cd A outer s0 H0 E).stack→(PySem.W.hideAll _ _).get? b=some o:=fun b o e hb=>PySem.W.hideAll_get _ e hb
 obtain⟨u,third⟩:=zjy I.base Un.refl I.ok.above I.stkSub
  (fun b hb=>List.mem_cons_of_mem _ hb) I.ok.frf (fun b hb o e=>by
   obtain⟨_,o',ho',hn⟩:=hstk.mem (List.mem_cons_of_mem _ hb)
   simp_all) ((Heap.UpToSlots.of_keeps hm.keeps).trans (up1.trans up2)) F2.stays (fun b o e hb=>⟨o,keepS b o e hb,fun _=>rfl⟩)
 refine⟨_,C,_,H,rfl,⟨os.trans I.os,bare,u,_,F2.pop,?_,third⟩,q⟩
 intro a o e
 refine (I.hok a o e).stay (fun b v hb q=>keepS b v q fun z=>?_) (fun _ q=>q) fun _ _ q=>q
 have n:=I.stkFree b z
 simp_all
theorem zoU {pins:List (Addr×Obj)} {σ:St} {H:Hp} {s s':Shared} {e:Value} (I:Inv (cx1 P w K mg base N qual scope f cd A outer s0 H0 E) pins σ H s) (h:CX1 P w (cx1 P w K mg base N qual scope f cd A outer s0 H0 E).stack H s E e s') :
  (cx1 P w K mg base N qual scope f cd A outer s0 H0 E).xe e s':=by
 obtain⟨ea,C,dct,H',rfl,F,q⟩:=h
 obtain⟨B,fl,hok,third⟩:=F.lay
 refine wpAny_bind (zpZ I.ok.frames rfl fl fun h1 F1 up1=>(zlN F1 fun h2 F2 up2=>?_))
 obtain⟨u,third'⟩:=zjy I.base F.un I.ok.above I.stkSub (fun b hb=>List.mem_cons_of_mem _ hb) I.ok.frf (fun b hb o e=>by
   obtain⟨_,o',ho',hn⟩:=fl.fun'.mem (List.mem_cons_of_mem _ hb)
   simp_all) (up1.trans up2) F2.stays third
 exact⟨_,C,_,_,rfl,⟨F.os.trans I.os,F.bare,u,B,F2.pop,hok,third'⟩,q⟩
end
theorem zm6 {K:PySem.W.Frag} {h:Heap} {C:Addr} {bmB:List Value} {newId:String} (X:K.In h) (q:PySem.W.excIn K C bmB newId=true) :
  ∃bm N nm qn bs hdct sn sub ab col dd k0 k1 k2 k3 k5 mN,h.get? C=some (excClassObj nm qn C N bs bm hdct sn sub ab col dd k0 k1 k2 k3 k5 newId)∧h.Ns N mN∧mN "__init__"=none∧OwnTail h bmB bm:=by
 unfold PySem.W.excIn at q
 split at q
 ·rename_i dd cd sl ho
  split at q
  ·rename_i C' bm k0 k1 k2 k3 n k5 hm hs
   simp[beq_iff_eq] at q
   obtain⟨⟨⟨⟨⟨rfl,rfl⟩,hdel⟩,ht⟩,hok⟩,hni⟩:=q
   obtain⟨nm,bs,mro,ns,qn,hd,sn,sub,ab,col,del⟩:=cd
   subst hm hdel
   obtain⟨sll⟩:=sl
   subst hs
   exact⟨_,_,_,_,_,_,_,_,_,_,_,_,_,_,_,_,_,X _ _ ho,.of_isNs (PySem.W.isNs_of_in X hok),PySem.W.nsMap_none_of_in X hok hni,PySem.W.tail_of_in X ht⟩
  simp_all
 simp_all
def Made (X:Cx) (E:St→XK):Prop:=∀(pins:List (Addr×Obj)) (σ:St) (H:Hp) (s s':Shared) (ea C:Addr) (args:List Value),Inv X pins σ H s→Heap.MadeExcOf s.heap s'.heap ea (.ref C) args→s'.os=s.os→AllBare s'.gens→E σ (.ref C) none H→X.xe (.ref ea) s'
def zgu (CX:CXT) (X:Cx) (E:St→XK):Prop:=∀(pins:List (Addr×Obj)) (σ:St) (H:Hp) (s:Shared) (e:Value) (s':Shared),Inv X pins σ H s→CX X.stack H s (E σ) e s'→X.xe e s'
def zp4 (C:Addr) (E:St→XK) (t:TA):TS:=fun _ σ H=>t σ H fun vs H1=>vs.length≤sizeLine∧E σ (.ref C) none H1
section
variable {X:Cx} {x:Str} {np cpos pos:Pos} {e₀:Expr} {rest:List Expr} {C:Addr} {bmB bmN:List Value} {newId Bn B nid inN initId:String} {E:St→XK} {t:TA}
theorem zis (hc:X.calm=true) (hg:Gl X x) (hmx:X.mg x=some (.ref C)) (hk:PySem.W.excIn X.K C bmB newId=true) (Fn:ExcBaseFacts Bn newId inN bmN) (hBn:bmB.contains (.type Bn)=true) (FB:ExcBaseFacts B nid initId bmB) (hE:Made X E)
  (ha:PA X (e₀::rest) t) (he:starEach (e₀::rest) X.env=(false,eval e₀ X.env)::starEach rest X.env:=by rfl) (hplain:(backTo cpos (starEach rest X.env)).any (·.1)=false:=by rfl) (hdb:(x == ("__debug__" : Str))=false:=by decide) :
  PS X (.Raise (some (.Call (.Name x np) (e₀::rest) [] cpos)) none pos) (zp4 C E t):=by
 intro pins s σ H D I h
 obtain⟨tl,N,nm,qn,bs,hdct,sn,sub,ab,col,dd,k0,k1,k2,k3,k5,mN,hC,hN,hni,T⟩:=zm6 I.ok.mod.kin hk
 refine wpAny_Raise_call_subU (nm:=nm) (q:=qn) (N:=N) (bs:=bs) (hdct:=hdct) (sn:=sn) (sub:=sub) (ab:=ab) (col:=col) (dd:=dd) (k0:=k0) (k1:=k1) (k2:=k2) (k3:=k3) (k5:=k5)
  Fn hBn FB (T.hasType FB.hasBase) (I.ok.hd hc) (by rw[he];show (false || (backTo _ _).any _)=false;simp_all) hni (zfM I hg hmx ⟨rfl,?_⟩ hdb)
 have hA:=ha cpos _ s _ H _ I h
 rw[he] at hA ⊢
 refine Calls.evalArgs_plain (thn hA fun us s1 ⟨_,_,I1,r1,z,q⟩=>?_)
 have bk:=I1.bk
 exact⟨rfl,by rwa [← r1.length],bk _ _ hC,hN.keeps bk,T.keeps bk,fun h' ea hm=>hE _ _ _ _ _ _ C _ I1 hm rfl I1.bare q⟩
end
def zi9 (sp:Sp) (E:St→XK) (t:TA):TE:=fun σ H Q=>t σ H fun vs H1=>sp vs H1 Q (E σ)
section
variable {X:Cx} {CX:CXT} {k:Nat} {x:Str} {ps:List Str} {sp:Sp} {E:St→XK} {p pos:Pos} {e:Expr} {es:List Expr} {t:TA}
theorem zqQ (G:Has X.prog X.w X.K X.mg X.base CX k x ps sp) (hr:Room k X.A) (hg:Gl X x) (hx:zgu CX X E)
  (ha:PA X (e::es) t) (hdb:(x == ("__debug__" : Str))=false:=by decide) (he:starEach (e::es) X.env=(false,eval e X.env)::starEach es X.env:=by rfl) (hpl:(backTo pos (starEach es X.env)).any (·.1)=false:=by rfl) :
  PE X (.Call (.Name x p) (e::es) [] pos) (zi9 sp E t):=by
 obtain⟨f,fd,F,hm,hk,hb⟩:=G.ex
 intro pins s σ H Q I h
 refine wpAny_Call_Name_kw (zfM I hg hm (PySem.W.callWith_K I.ok.mod.kin hk (thn (ha _ _ s _ H _ I h) fun us s1 ⟨_,H1,I1,r,q⟩=>⟨I1.kIn,?_⟩) he hpl) hdb)
 have hl:us.length=ps.length:=by rw[← r.length];exact F.len _ _ _ _ q
 have bd:BindsTo s1 fd ⟨us,[]⟩ (ps.zip us):=by
  have z:=hb _ us I1.kIn (by simp_all)
  simp_all
 refine wpAny_call (codeAny_mono (F.run X.A _ s1 _ _ _ _ Q _ hr I1.env0 bd r q) fun rs s' hq=>?_)
 cases rs with
 | error e'=>exact hx _ σ _ _ _ _ I1 hq
 | ok fl=>
  cases fl with
  | ret u=>exact I1.after hq
  | next=>exact False.elim hq
  | brk=>exact False.elim hq
  | cont=>exact False.elim hq
end
theorem zop {K:PySem.W.Frag} {M:Model} {A:Around} {E:Value→Shared→Prop} {s:Shared} {Q:Bool→Shared→Prop} {e C D:Addr} {oe:Obj} (X:K.In s.heap) (he:s.heap.get? e=some oe) (hc:oe.cls=.ref C)
  (h1:PySem.W.kitCls K (.ref C) (.ref D)=some true) (h2:PySem.W.mroIn K D (.type "BaseException")=some true) (q:Q true s):wpAny M A (excMatches (.ref e) (.ref D)) Q E s:=by
 obtain⟨hp,g,d,tk,os⟩:=s
 obtain⟨l1,l2,l3⟩:=PySem.W.kit_cls (M:=M) X h1
 have l4:=PySem.W.looks_mroIn (M:=M) X h2
 have l5:PySem.W.Looks M hp (isInstance (.ref D) (.type "tuple")) false:=l1.andThen (PySem.W.Looks.of_pure tc_notTuple)
 have l6:PySem.W.Looks M hp (typeOf (.ref e)) (.ref C):=by
  rw[← hc]
  exact (PySem.W.Looks.ld he).andThen .now
 have l7:PySem.W.Looks M hp (isExcClass _) true:=l2.andThen (by simp_all)
 repeat (first|with_reducible refine PySem.W.Looks.at l5 ?_|with_reducible refine PySem.W.Looks.at l6 ?_|with_reducible refine PySem.W.Looks.at l7 ?_|with_reducible refine PySem.W.Looks.at l3 ?_|wp_step)
 exact q
def excO (C:Addr) (dct:Option Addr) (ea:Addr):HO:=.ext fun h=>∃ob,h.get? ea=some ob∧ob.cls=.ref C∧ob.dict=dct∧∃vs,ob.data=.fields vs
theorem Inv.track {X:Cx} {pins:List (Addr×Obj)} {σ:St} {H:Hp} {s:Shared} {ea:Addr} {o:HO} (I:Inv X pins σ H s) (hn:H ea=none) (h0:X.s₀.heap.get? ea=none) (hL:ea≠X.env.locals) (hc:∀x c,X.env.cells.lookup x=some c→c≠ea)
  (hp:∀p∈X.pn++pins,p.1≠ea) (hnew:ObjOk X.prog X.w (upd H ea o) s.heap ea o):Inv X pins σ (upd H ea o) s:=by
 have ne:∀ {b:Addr} {u:HO},H b=some u→b≠ea:=fun q z=>by simp_all
 refine⟨I.ok,I.os,I.bare,⟨I.base.keep,I.base.slot,fun b ob q n hx=>?_,I.base.there,fun b xs q=>?_,fun b ob u q=>?_,fun b ps q=>?_⟩,I.loc,I.cell,?_,fun x c q=>?_,fun p q=>?_,fun b u q=>?_,I.len⟩
 ·rw[zaz (fun z=>by rw[z,h0] at q;cases q)]
  exact I.base.free b _ q n hx
 ·have z:=I.base.tups b _ q
  rwa [zaz (ne z)]
 ·have z:=I.base.frzs b _ u q
  rwa [zaz (ne z)]
 ·obtain⟨m,z⟩:=I.base.tbls b _ q
  exact⟨m,by rwa [zaz (ne z)]⟩
 ·rw[zaz (Ne.symm hL)];exact I.free
 ·rw[zaz (hc x c q)];exact I.freeC x c q
 ·obtain⟨a1,a2,a3,a4,a5⟩:=I.pin p q
  exact⟨a1,by rwa [zaz (hp p q)],a3,a4,a5⟩
 ·by_cases hb:b=ea
  ·subst hb
   rw[zaB] at q
   grind
  ·rw[zaz hb] at q
   exact (I.hok b u q).stay (fun c v _ z=>z) (fun c z=>by rwa [zaz (ne z)]) fun c xs z=>by rwa [zaz (ne z)]
def Cx.suite (X:Cx) (ea:Addr):Cx:={ X with A:=X.A.mark (some (.ref ea)),calm:=false,xe:=fun _ _=>False }
theorem Inv.suite {X:Cx} {pins:List (Addr×Obj)} {σ:St} {H:Hp} {s:Shared} (I:Inv X pins σ H s) (ea:Addr):Inv (X.suite ea) pins σ H s:=
 ⟨⟨I.ok.mod,I.ok.kind,I.ok.glob,I.ok.blt,I.ok.above,I.ok.inj,I.ok.has,I.ok.cab,fun z=>(by cases z),I.ok.frames,I.ok.stk,I.ok.exf,I.ok.bs,I.ok.bsz,I.ok.noex,I.ok.exfs,I.ok.funs,I.ok.frf,I.ok.tb⟩,I.os,I.bare,I.base,I.loc,I.cell,I.free,I.freeC,I.pin,I.hok,I.len⟩
theorem Inv.unsuite {X:Cx} {pins:List (Addr×Obj)} {σ:St} {H:Hp} {s:Shared} {ea:Addr} (ok:X.Ok) (I:Inv (X.suite ea) pins σ H s):Inv X pins σ H s:=
 ⟨ok,I.os,I.bare,I.base,I.loc,I.cell,I.free,I.freeC,I.pin,I.hok,I.len⟩
def tTry (K:PySem.W.Frag) (D':Addr) (tb:(St→XK)→TS) (i:Nat) (th:TS):TS:=fun D σ H=>
 tb (fun σ' cls dct H'=>∃C,cls=.ref C∧PySem.W.kitCls K (.ref C) (.ref D')=some true∧∀ea,H' ea=none→th { nx:=fun σ2 H2=>D.nx (σ2.set i none) H2,rt:=D.rt,bk:=fun σ2 H2=>D.bk (σ2.set i none) H2,ct:=fun σ2 H2=>D.ct (σ2.set i none) H2 } (σ'.set i (some (.ref ea))) (upd H' ea (excO C dct ea))) D σ H
section
variable {P:Program} {w:World} {X:Cx} {x n:Str} {np hpos pos:Pos} {body:List Stmt} {b₀:Stmt} {suite:List Stmt} {D':Addr} {tb:(St→XK)→TS} {th:TS} {i:Nat}
theorem zge {pins:List (Addr×Obj)} {σ:St} {H:Hp} {s:Shared} {Q:Unit→Shared→Prop} (I:Inv X pins σ H s) (hN:X.N.Nodup) (hi:X.N[i]?=some n) (hn:X.env.kindOf n=some .local)
  (k:∀s',Inv X pins (σ.set i none) H s'→Q () s'):wpAny (model X.prog X.w) X.A (do bindName X.env n .none;unbindBehindTheSuite X.env n hpos) Q X.xe s:=by
 have hk:=hn
 refine wpAny_bind (wpAny_bindName (zff I hN hi (.inl hk) (v:=.non) rfl (fun s1 I1=>?_) (.inr hk)))
 obtain⟨m,hm,hl⟩:=I1.loc
 have li:i<σ.length:=by
  rw[I.len]
  grind
 obtain⟨u,ru,lu⟩:=hl i n .non hi (by simp_all) (.inl hk)
 have hv:m n=some u:=by
  rcases lu with ⟨_,z⟩|⟨z,_⟩
  ·exact z
  ·rcases z with z|z <;> (rw[hn] at z;cases z)
 refine wpAny_onRaise (wpAny_unbindName_local hn hm hv (by rw[I.ok.kind];rfl) fun h' u' hm' hs'=>k _ ?_)
 have I2:Inv X _ (σ.set i none) H _:=I1.weak (by simp) fun j v e=>by
  by_cases hj:j=i
  ·subst hj
   rw[List.getElem?_set_self li] at e
   cases e
  ·rwa [List.getElem?_set_ne (Ne.symm hj)] at e ⊢
 have kp:∀b o,b≠X.env.locals→s1.heap.get? b=some o→h'.get? b=some o:=fun b o hb e=>(hs'.2 b hb).trans e
 have e0:∀b o,X.s₀.heap.get? b=some o→b≠X.env.locals:=fun b o e=>Nat.ne_of_lt (Nat.lt_of_lt_of_le (Heap.lt_size e) I.ok.above)
 refine⟨I2.ok,I2.os,I2.bare,⟨fun b o e n' hb hx=>kp b o (e0 b o e) (I2.base.keep b o e n' hb hx),fun b o e n' hb hx=>?_,I2.base.free,fun b o e hx=>?_,I2.base.tups,I2.base.frzs,I2.base.tbls⟩,⟨_,hm',fun j y v e1 e2 e3=>?_⟩,fun y c e=>?_,I2.free,I2.freeC,fun p hp=>?_,?_,I2.len⟩
 ·obtain⟨sl,q⟩:=I2.base.slot b o e n' hb hx
  exact⟨_,kp b _ (e0 b o e) q⟩
 ·obtain⟨o',q⟩:=I2.base.there b o e hx
  exact⟨_,kp b _ (e0 b o e) q⟩
 ·by_cases hj:j=i
  ·subst hj
   rw[List.getElem?_set_self li] at e2
   cases e2
  ·rw[List.getElem?_set_ne (Ne.symm hj)] at e2
   have ny:y≠n:=fun z=>by
    subst z
    exact hj (ziK hN e1 hi)
   obtain⟨u2,r2,l2⟩:=hl j y v e1 (by rwa [List.getElem?_set_ne (Ne.symm hj)]) e3
   refine⟨_,r2,?_⟩
   rcases l2 with ⟨k1,k2⟩|⟨k1,c,k2,ob,k3,k4⟩
   ·exact .inl ⟨k1,by show (if y=n then u' else m y)=_;rwa [if_neg ny]⟩
   ·exact .inr ⟨k1,c,k2,_,kp c _ (I1.cne y c k2) k3,k4⟩
 ·obtain⟨v,ob,k3,k4⟩:=I2.cell y c e
  exact⟨v,_,kp c _ (I2.cne y c e) k3,k4⟩
 ·obtain⟨a1,a2,a3,a4,a5⟩:=I2.pin p hp
  exact⟨kp _ _ a3 a1,a2,a3,a4,a5⟩
 ·intro a o e
  refine (I2.hok a o e).stay (fun b v hb q=>kp b v (fun z=>?_) q) (fun _ q=>q) fun _ _ q=>q
  have fr:=I2.free
  rcases hb with rfl|hb
  ·rw[z,fr] at e;cases e
  ·rw[z,fr] at hb;cases hb
def Cx.guard (X:Cx) (pl:List (Addr×Obj)) (xe:Value→Shared→Prop):Cx:={ X with pn:=pl,xe:=xe }
theorem Inv.guard {pins:List (Addr×Obj)} {σ:St} {H:Hp} {s:Shared} (I:Inv X pins σ H s) (xe:Value→Shared→Prop):Inv (X.guard (X.pn++pins) xe) [] σ H s:=
 ⟨⟨I.ok.mod,I.ok.kind,I.ok.glob,I.ok.blt,I.ok.above,I.ok.inj,I.ok.has,I.ok.cab,I.ok.hd,I.ok.frames,I.ok.stk,I.ok.exf,I.ok.bs,I.ok.bsz,I.ok.noex,I.ok.exfs,I.ok.funs,I.ok.frf,I.ok.tb⟩,I.os,I.bare,I.base,I.loc,I.cell,I.free,I.freeC,
  fun p hp=>I.pin p (by rwa [List.append_nil] at hp),I.hok,I.len⟩
theorem Inv.unguard {pins pins':List (Addr×Obj)} {σ:St} {H:Hp} {s:Shared} {xe:Value→Shared→Prop} (ok:X.Ok) (I:Inv (X.guard (X.pn++pins) xe) pins' σ H s):Inv X pins σ H s:=
 ⟨ok,I.os,I.bare,I.base,I.loc,I.cell,I.free,I.freeC,fun p hp=>I.pin p (List.mem_append_left _ hp),I.hok,I.len⟩
theorem zsy (hex:X.ex=[]) (hst:X.stack=X.env::X.outer) (hfr:X.env.frame=some X.env.locals) (hN:X.N.Nodup) (hi:X.N[i]?=some n) (hn:X.env.kindOf n=some .local) (hg:Gl X x) (hmx:X.mg x=some (.ref D')) (hD:PySem.W.mroIn X.K D' (.type "BaseException")=some true)
  (hb:∀(E:St→XK) (pl:List (Addr×Obj)) (xe:Value→Shared→Prop),zgu (CX1 X.prog X.w) (X.guard pl xe) E→PSs (X.guard pl xe) body (tb E)) (hh:∀ea,PSs (X.suite ea) (b₀::suite) th) (hdb:(x == ("__debug__" : Str))=false:=by decide) :
  PS X (.Try body [.ExceptHandler (some (.Name x np)) (some n) (b₀::suite) hpos] [] [] pos) (tTry X.K D' tb i th):=by
 intro pins s σ H D I h
 have ok:=I.ok
 refine wpAny_Try_except (wpAny_mono (hb _ (X.pn++pins) (fun e s₁=>wpAny (model X.prog X.w) X.A (noteFrame e X.env) (fun _ s₂=>wpAny (model X.prog X.w) X.A (setFlight e none) (fun _ s₃=>wpAny (model X.prog X.w) X.A (handleBy e X.env [.ExceptHandler (some (.Name x np)) (some n) (b₀::suite) hpos]) (SP X pins D) X.xe s₃) X.xe s₂) X.xe s₁) ?_ [] s σ H D (I.guard _) h) (fun f s1 q=>?_) fun _ _ q=>q)
 ·-- an exception of the body
  rintro pins' σ' H1 s1 e s2 I1 ⟨ea,C,dct,H',rfl,F,C',hC',hm,hth⟩
  cases hC'
  have J1:Inv X pins σ' H1 s1:=I1.unguard ok
  have F':Fly X.prog X.w (X.env::X.outer) H1 s1 ea (.ref C) dct H' s2:=by
   rwa [← hst]
  obtain⟨Fos,Fbare,Fun,B,fl,hok,third⟩:=F'
  have fr2:X.A.frames=some (X.env::X.outer):=by rw[← hst];exact ok.frames
  -- whatever the heap behind
  have land:∀h' ,FlyD B (X.env::X.outer) ea (.ref C) dct .none h'→s2.heap.UpToSlots h'→Inv X pins σ' H' { s2 with heap:=h' }:=fun h' F' up=>by
   obtain⟨u,_⟩:=zjy (fs:=frs (X.env::X.outer)) (fr:=frs (X.env::X.outer)) (h0:=s1.heap) (h1:=s1.heap) (h3:=h') (B:=B) (L:=s1.heap.objs.size) Un.refl Fun (Nat.le_refl _) (fun b hb=>List.mem_cons_of_mem _ hb) (fun b hb=>hb)
    (fun b hb=>J1.stkFree b (by simp_all)) (fun b hb o e=>by
     obtain⟨_,o',ho',hn'⟩:=fl.fun'.mem hb
     simp_all) up F'.stays third
   obtain⟨hh2,g2,d2,t2,os2⟩:=s2
   obtain rfl:os2=s1.os:=Fos
   show Inv X pins σ' H' { s1 with heap:=h',gens:=g2,drawn:=d2,toks:=t2 }
   exact J1.call (h':=h') (g':=g2) (d':=d2) (t':=t2) (ch:=[]) (by simp_all) (hok.fly F'.stays) Fbare fun b z=>absurd z (by simp)
  refine zpZ fr2 hfr fl fun h1 F1 up1=>(zlN F1 fun h2 F2 up2=>?_)
  have J2:=land h2 F2 (up1.trans up2)
  obtain⟨T,_,⟨oe,vs,_,_,he,hc,hdc,hd,_⟩,_⟩:=F2.tr
  refine wpAny_handleBy_cons (codeAny_handlers_test (zfM (X:=X.suite ea) (J2.suite ea) hg hmx (zop (K:=X.K) J2.kIn he hc hm hD ?_) hdb)) (by intro z;cases z)
  refine codeAny_handlers_suite_as (zlN F2 fun h3 F3 up3=>?_)
  have J3:=land h3 F3 ((up1.trans up2).trans up3)
  obtain⟨T3,_,⟨oe3,vs3,_,_,he3,hc3,hdc3,hd3,_⟩,_⟩:=F3.tr
  have nH:H' ea=none:=hok.none_of F3.out
  have nfr:ea∉frs X.stack:=fun z=>by
   rw[hst] at z
   obtain⟨_,o',ho',hn'⟩:=F3.fun'.mem z
   exact zbW he3 hd3 ho' hn' rfl
  have nB:∀b o,s1.heap.get? b=some o→b∉frs X.stack→b≠ea:=fun b o e hb z=>by
   obtain⟨o',e',_⟩:=third b o e (by simp_all)
   rw[z,F3.out] at e'
   cases e'
  have nL:ea≠X.env.locals:=fun z=>nfr (by
   rw[hst,z]
   exact List.mem_filterMap.mpr ⟨X.env,List.mem_cons_self,hfr⟩)
  have J4:Inv (X.suite ea) pins σ' (upd H' ea (excO C dct ea)) { s2 with heap:=h3 }:=(J3.suite ea).track nH (by
    cases z:X.s₀.heap.get? ea with
    | none=>exact z
    | some o=>
     obtain⟨o1,e1⟩:=J1.base.there ea o z (by rw[hex];simp)
     exact absurd rfl (nB ea o1 e1 nfr)) nL (fun y c e z=>by
    obtain⟨v,ob,k3,k4⟩:=J3.cell y c e
    rw[z] at k3
    have k3':h3.get? ea=some ob:=k3
    rw[he3] at k3'
    cases k3'
    rw[hd3] at k4
    cases k4) (fun p hp=>let ⟨a1,_,a3,a4,_⟩:=J1.pin p hp;nB p.1 p.2 a1 fun z=>(List.mem_cons.mp (J1.stkSub p.1 z)).elim a3 a4)
   ⟨⟨oe3,he3,hc3,hdc3,vs3,hd3⟩,⟨oe3,he3⟩,fun g1 g2 z k=>let ⟨ob,z1,z2⟩:=z;⟨ob,k ob z1,z2⟩⟩
  refine zff (X:=X.suite ea) J4 hN hi (.inl hn) (v:=.ref ea) rfl (fun s5 I5=>(wpAny_mono (hh ea pins s5 _ _ _ I5 (hth ea nH)) (fun f s6 q6=>?_) fun _ _ z=>z.elim)) (.inr hn)
  cases f with
  | next=>
   obtain⟨σ6,H6,I6,q6⟩:=q6
   exact zge (I6.unsuite ok) hN hi hn fun s7 I7=>⟨_,_,I7,q6⟩
  | brk=>
   obtain⟨σ6,H6,I6,q6⟩:=q6
   exact zge (I6.unsuite ok) hN hi hn fun s7 I7=>⟨_,_,I7,q6⟩
  | cont=>
   obtain⟨σ6,H6,I6,q6⟩:=q6
   exact zge (I6.unsuite ok) hN hi hn fun s7 I7=>⟨_,_,I7,q6⟩
  | ret v=>
   obtain⟨v6,σ6,H6,I6,r6,q6⟩:=q6
   exact zge (I6.unsuite ok) hN hi hn fun s7 I7=>⟨v6,_,_,I7,r6,q6⟩
 ·cases f with
  | next=>
   obtain⟨σ6,H6,I6,q6⟩:=q
   exact wpAny_execs_nil ⟨σ6,H6,I6.unguard ok,q6⟩
  | brk=>
   obtain⟨σ6,H6,I6,q6⟩:=q
   exact⟨σ6,H6,I6.unguard ok,q6⟩
  | cont=>
   obtain⟨σ6,H6,I6,q6⟩:=q
   exact⟨σ6,H6,I6.unguard ok,q6⟩
  | ret v=>
   obtain⟨v6,σ6,H6,I6,r6,q6⟩:=q
   exact⟨v6,σ6,H6,I6.unguard ok,r6,q6⟩
end
structure ExcCls (K:PySem.W.Frag) (C:Addr):Prop where
 ga:PySem.W.findIn K (.ref C) "__getattribute__"=some (some (.builtin "BaseException.__getattribute__"))
 gn:PySem.W.findIn K (.ref C) "__getattr__"=some none
 hd:PySem.W.hasDictIn K C=true
 ha:PySem.W.findIn K (.ref C) "__class__"=some (some (.builtin "object.__class__"))
 hn:PySem.W.specialIn K (.builtin "object.__class__") "__get__"=some (some (.builtin "getset_descriptor.__get__"))
 htk:PySem.W.takesIn K (.builtin "object.__class__")=some true
 hm:PySem.W.mroIn K C (.type "object")=some true
 hb:PySem.W.mroIn K C (.type "BaseException")=some true
theorem zkq {K:PySem.W.Frag} {C:Addr} {od:Option Obj} {name:Str} {a g:Value} (hc:(PySem.W.clsIn K C).isSome=true) (ha:PySem.W.findIn K (.ref C) name=some (some a)) (hg:PySem.W.specialIn K a "__get__"=some (some g)) (ht:PySem.W.takesIn K a=some true) :
  PySem.W.findObj K C od name=some (.bind g a):=by
 obtain⟨cd,hc⟩:=Option.isSome_iff_exists.mp hc
 unfold PySem.W.findObj
 rw[hc,Option.bind_some,ha,Option.bind_some]
 simp_all
set_option maxHeartbeats 4000000 in
theorem zmO {K:PySem.W.Frag} {x C:Addr} {ox:Obj} {od:Option Obj} {prog:Program} {w:World} {A:Around} {E:Value→Shared→Prop} {Q:Option Value→Shared→Prop} {s:Shared} (Z:ExcCls K C) (X:K.In s.heap) (I:PySem.W.InstAt s.heap x ox C od)
  (k:Q (some (.ref C)) { s with toks:=s.toks+1 }):wpAny (model prog w) A (getAttr? (.ref x) "__class__") Q E s:=by
 have hf:PySem.W.findObj K C od "__class__"=some (.bind (.builtin "getset_descriptor.__get__") (.builtin "object.__class__")):=zkq (by obtain⟨cd,hc,_⟩:=PySem.W.any_some Z.hd;simp_all) Z.ha Z.hn Z.htk
 have X':=X
 have I':=I
 have Z':=Z
 obtain⟨hh,g,d,t,os⟩:=s
 have L0:=I.type (M:=model prog w)
 have L1:=PySem.W.looks_findIn (M:=model prog w) X Z.ga
 have L4:PySem.W.Looks (model prog w) hh (isInstance (.ref x) (.type "BaseException")) true:=L0.andThen (PySem.W.looks_mroIn X Z.hb)
 have f3:=F.attr_ValueError.ga.bind (.ref x)
 have hx0:((false:Bool) && onTheHeap (Value.builtin "BaseException.__getattribute__"))=false:=rfl
 have hx2:(Value.builtin "BaseException.__getattribute__" == Value.builtin "object.__getattribute__")=false:=by decide +kernel
 have hx1:(onTheHeap (Value.ref C) && Value.builtin "BaseException.__getattribute__" == Value.builtin "object.__getattribute__")=false:=by rw[hx2];rfl
 unfold getAttr? getAttrBy?
 refine wpAny_bind (wpAny_mkText (wpAny_bind (wpAny_attempt ?_)))
 repeat (any_goals (first|assumption|with_reducible refine PySem.W.Looks.at L0 ?_|with_reducible refine PySem.W.Looks.at L1 ?_|with_reducible refine PySem.W.Looks.at (PySem.W.looks_findIn (M:=model prog w) X Z.gn) ?_|wp_step))
 have hk:builtinKind "BaseException.__getattribute__"=some .slot:=by decide +kernel
 have hsplit:splitId "BaseException.__getattribute__"=some ("BaseException","__getattribute__"):=by decide +kernel
 have har:=F.args_bexc_ga (.ref x) (.str "__class__" t)
 refine codeAny_call_builtin F.attr_ValueError.ga.plain F.entry_bexc_ga ?_
 simp only[checkBuiltinCall,hk,hsplit]
 repeat (any_goals (first|assumption|with_reducible refine PySem.W.Looks.at L4 ?_|with_reducible refine PySem.W.Looks.at L0 ?_|with_reducible refine PySem.W.Looks.at (PySem.W.looks_find (M:=model prog w) X I hf) ?_|wp_step))
 exact PySem.W.class_get (s:=⟨hh,g,d,t+1,os⟩) (ox:=ox) (od:=od) X I Z.hm (wpAny_pure (PySem.W.handed_on rfl (wpAny_pure k)))
theorem zlr {K:PySem.W.Frag} {x C:Addr} (Z:ExcCls K C):PySem.W.KitX K (.ref x) (.ref C) (fun h=>∃ox od,PySem.W.InstAt h x ox C od) where
 ty:=fun _ _ _ I=>let ⟨_,_,I⟩:=I;I.type
 it:=fun _ _ X _=>by
  obtain⟨cd,hc,_⟩:=PySem.W.any_some Z.hd
  unfold PySem.W.clsIn at hc
  split at hc
  ·rename_i ho
   intro A' Q' E' s' k q
   exact wpAny_bind (wpAny_loadPart (k _ _ (X _ _ ho)) (wpAny_pure q))
  simp_all
 ne:=fun h tp dd its n sl X htp=>by
  obtain⟨cd,hc,_⟩:=PySem.W.any_some Z.hd
  refine Bool.eq_false_iff.mpr fun q=>?_
  have e:=Value.ref.inj (beq_iff_eq.mp q)
  subst e
  unfold PySem.W.clsIn at hc
  split at hc
  ·rename_i ho
   cases ((X _ _ ho).symm.trans htp)
  simp_all
 ca:=fun {prog w A E Q s} X I k=>let ⟨_,_,I⟩:=I;zmO Z X I k
theorem zhj {K:PySem.W.Frag} {C D:Addr} {b:Bool} (h1:PySem.W.hasDictIn K D=true) (h2:PySem.W.typeIn K (.ref D)=some (.type "type")) (h3:PySem.W.mroIn K C (.ref D)=some b):PySem.W.kitCls K (.ref C) (.ref D)=some b:=by
 obtain⟨cd,hc,_⟩:=PySem.W.any_some h1
 show (if ((PySem.W.clsIn K D).isSome && PySem.W.typeIn K _ == some _)=true then PySem.W.subIn K _ _ else none)=some b
 rwa [hc,h2]
theorem zbE {K:PySem.W.Frag} {C D:Addr} {b:Bool} (h1:PySem.W.hasDictIn K D=true) (h2:PySem.W.typeIn K (.ref D)=some (.type "type")) (h3:PySem.W.mroIn K C (.ref D)=some b) (h4:PySem.W.mroIn K C (.ref C)=some true):PySem.W.kitOne K (.ref C) (.ref D)=some b:=by
 unfold PySem.W.kitOne
 by_cases e:C=D
 ·simp_all
 ·rw[if_neg (by simp_all)]
  exact zhj h1 h2 h3
theorem zgR {K:PySem.W.Frag} {C:Addr} {S:String} {b:Bool} (h1:PySem.W.kitMeta S=true) (h2:PySem.W.mroIn K C (.type S)=some b):PySem.W.kitOne K (.ref C) (.type S)=some b:=by
 show (if PySem.W.kitMeta S=true then PySem.W.subIn K _ _ else none)=some b
 rwa [if_pos h1]
theorem zcS:PySem.W.kitMeta "ValueError"=true:=rfl
section
variable {X:Cx}
def rIsX (K:PySem.W.Frag):List V→Hp→VK→Prop:=fun xs H Q=>∃a C dct c cv b,xs=[.ref a,c]∧clsV c=some cv∧H a=some (excO C dct a)∧(∀dx,dct=some dx→∃fs,H dx=some (.xd fs))∧ExcCls K C∧PySem.W.kitOne K (.ref C) cv=some b∧Q (.bl b) H
theorem zbC:zgQ X (.builtin "isinstance") (rIsX X.K):=by
 rintro pins s σ H xs us Q I r ⟨a,C,dct,c,cv,b,rfl,hc,hH,hdx,Z,hk,q⟩
 obtain⟨u,v,rfl,rx,ry⟩:=zrO r
 cases zlI hc ry
 cases (rx)
 obtain⟨⟨ob,h1,h2,h3,vs,h4⟩,_⟩:=I.hok a _ hH
 cases dct with
 | none=>exact PySem.W.kia_one (zlr Z) I.kIn ⟨_,none,h1,h2,by unfold PySem.W.notCls;rw[h4],by rw[h3];trivial⟩ hk (fun z=>nomatch z) fun tk=>⟨.bl b,H,I.tok _,rfl,q⟩
 | some dx=>
  obtain⟨fs,efs⟩:=hdx _ rfl
  obtain⟨_,⟨od,_,_,hod,_⟩,_⟩:=(I.hok dx _ efs)
  exact PySem.W.kia_one (zlr Z) I.kIn ⟨_,some od,h1,h2,by unfold PySem.W.notCls;rw[h4],by simp_all⟩ hk (fun z=>nomatch z) fun tk=>⟨.bl b,H,I.tok _,rfl,q⟩
end
section
variable {P:Program} {w:World} {K:PySem.W.Frag} {mg:Str→Option Value} {base:Heap} {N:List Str} {qual:Str} {scope:Scope} {f:Addr} {cd:Value} {A:Around} {outer:List Env} {s0:Shared} {H0:Hp} {E:XK}
theorem zq9:Made (cx1 P w K mg base N qual scope f cd A outer s0 H0 E) (fun _=>E):=fun _ _ _ _ _ _ _ _ I hm os bare q=>zps I hm os bare q
theorem zbk:zgu (CX1 P w) (cx1 P w K mg base N qual scope f cd A outer s0 H0 E) (fun _=>E):=fun _ _ _ _ _ _ I h=>zoU I h
theorem Fun.ok1 {x qual:Str} {st:Stmt} {f:Addr} {fd:FuncData} {N ps:List Str} {k:Nat} {sp:Sp} (F:Fun K x qual st f fd) (S:FnScope N ps (zap st)) (len:∀vs H Q E,sp vs H Q E→vs.length=ps.length)
  (hbody:∀(cdv:Value) (A:Around) (outer:List Env) (s:Shared) (H:Hp) (vs:List V) (Q:VK) (E:XK),Room k (A.deeper (envOfC qual (zap st) s.heap.objs.size f cdv))→sp vs H Q E →
   ∃t,PSs (cx1 P w K mg base N qual (zap st) f cdv A outer s H E) (zcd st) t∧t { nx:=fun _ H'=>Q .non H',rt:=Q } (start N vs) H):FnOk P w K mg base (CX1 P w) (k+1) f fd ps sp:=by
 obtain⟨oc,od,kV,doc,pm,an,cdv,ct,osl,rfl,lk,hcd⟩:=F.ex
 exact zqj lk hcd S len fun A outer s H vs Q E hr hsp=>hbody _ A _ s H _ Q E hr hsp
end
end L2
namespace PM
open PySem L2
inductive D where
 | non|bl (b:Bool)|int (i:Int)|str (x:Str)|tup (l:List D)|lst (l:List D)|dct (ks:List Key) (l:List D)|scr (l:List Int)|exc (c:Nat)|fd (ks:List Key) (l:List D)|obj (c:Nat) (ks:List Str) (l:List D)
structure Kx where
 f:W.Frag
 ca:Nat→Addr
 an:Nat→Str
def XA (K:Kx) (F:Hp) (c:Nat) (dct:Option Addr):Prop:=if c<16 then dct=none else ∃dx,dct=some dx∧F dx=some (.xd [(K.an c,.int (((c/16:Nat):Int) - 1))])
section
variable (K:Kx)
mutual
def Rep (F:Hp):D→V→Prop
 | .non,v=>v=.non
 | .bl b,v=>v=.bl b
 | .int i,v=>v=.int i
 | .str x,v=>v=.str x
 | .scr l,v=>∃a,v=.ref a∧SqL K.f F a (l.map V.int)
 | .exc c,v=>∃a dct,v=.ref a∧F a=some (excO (K.ca c) dct a)∧XA K F c dct
 | .tup l,v=>∃a vs,v=.ref a∧F a=some (.tup vs)∧RepL F l vs
 | .fd ks l,v=>∃a o kvs,v=.ref a∧F a=some (.frz o (.dK kvs))∧kvs.map (·.1)=ks∧RepL F l (kvs.map (·.2))
 | .obj c ks l,v=>∃a dx fs,v=.ref a∧F a=some (.ins (K.ca c) dx fs)∧fs.map (·.1)=ks∧RepL F l (fs.map (·.2))
 | .lst l,v=>∃a vs,v=.ref a∧F a=some (.lst vs)∧RepL F l vs
 | .dct ks l,v=>∃a kvs,v=.ref a∧F a=some (.dK kvs)∧kvs.map (·.1)=ks∧RepL F l (kvs.map (·.2))
def RepL (F:Hp):List D→List V→Prop
 | [],vs=>vs=[]
 | d::l,vs=>∃v r,vs=v::r∧Rep F d v∧RepL F l r
end
end
def ifC {α:Type} (p:Prop) (a b:α):α:=@ite α p (Classical.propDecidable p) a b
@[simp] theorem za3 {α:Type} {p:Prop} {a b:α} (h:p):ifC p a b=a:=if_pos h
theorem znO {α:Type} {p:Prop} {a b:α} (h:¬ p):ifC p a b=b:=if_neg h
structure Xc where
 c:Nat
inductive R (α:Type) where
 | no|ok (a:α)|ex (x:Xc)
namespace R
def bind {α β:Type}:R α→(α→R β)→R β
 | .no,_=>.no
 | .ok a,f=>f a
 | .ex x,_=>.ex x
@[simp] theorem bind_ok {α β:Type} (a:α) (f:α→R β):(R.ok a).bind f=f a:=rfl
@[simp] theorem zs3 {α β:Type} (f:α→R β):(R.no:R α).bind f=.no:=rfl
@[simp] theorem zsN {α β:Type} (x:Xc) (f:α→R β):(R.ex x:R α).bind f=.ex x:=rfl
end R
inductive Tr where
 | d (x:D)|l (ts:List Tr)|t (ts:List Tr)
mutual
def trD:Tr→D
 | .d x=>x
 | .l ts=>.lst (trDL ts)
 | .t ts=>.tup (trDL ts)
def trDL:List Tr→List D
 | []=>[]
 | t::ts=>trD t::trDL ts
end
inductive Sl where
 | no|v (d:D)|o (d:D)|l (d:D)|p (T:Tr)
abbrev En:=List Sl
inductive O where
 | no|nx (δ:En)|rt (d:D)|ro (d:D)|bk (δ:En)|ct (δ:En)|ex (δ:En) (x:Xc)
structure Ext (F H F' H':Hp):Prop where
 ff:Same F F'
 hh:Same H H'
 fh:Same F' H'
 nw:∀p o,F p=none→H p=some o→F' p=none
theorem Ext.refl {F H:Hp} (s:Same F H):Ext F H F H:=⟨.refl _,.refl _,s,fun _ _ h _=>h⟩
theorem Ext.trans {F H F1 H1 F2 H2:Hp} (a:Ext F H F1 H1) (b:Ext F1 H1 F2 H2):Ext F H F2 H2:=
 ⟨a.ff.trans b.ff,a.hh.trans b.hh,b.fh,fun p o h1 h2=>b.nw p o (a.nw p o h1 h2) (a.hh p o h2)⟩
theorem Ext.new {F H:Hp} {p:Addr} {o:HO} (s:Same F H) (h:H p=none):Ext F H (upd F p o) (upd H p o):=by
 refine⟨Same.upd (s.free h),Same.upd h,fun b u q=>?_,fun q u h1 h2=>?_⟩
 ·by_cases e:b=p
  ·subst e;rwa [zaB] at q ⊢
  ·rw[zaz e] at q ⊢;exact s _ _ q
 ·rwa [zaz (zaW h2 h)]
theorem Ext.newO {F H:Hp} {p:Addr} {o:HO} (s:Same F H) (h:H p=none):Ext F H F (upd H p o):=by
 refine⟨.refl _,Same.upd h,s.trans (Same.upd h),fun q u h1 h2=>h1⟩
theorem Same.rd {H H':Hp} {a:Addr} {u:HO} (e:Same H H') (h:Rd H a u):Rd H' a u:=h.elim (fun h=>.inl (e _ _ h)) fun ⟨o,h⟩=>.inr ⟨o,e _ _ h⟩
theorem Same.rdp {H H':Hp} {a:Addr} {u:HO} (e:Same H H') (h:H a=some u):Rd H' a u:=.inl (e _ _ h)
section
variable {K:Kx} {F F' H H':Hp}
theorem XA.mono {c:Nat} {dct:Option Addr} (h:XA K F c dct) (e:Same F F'):XA K F' c dct:=by
 unfold XA at h ⊢
 split
 ·simp_all
 ·rename_i hc
  rw[if_neg hc] at h
  obtain⟨dx,h1,h2⟩:=h
  exact⟨_,h1,e _ _ h2⟩
mutual
theorem Rep.mono (e:Same F F'):∀(d:D) {v:V},Rep K F d v→Rep K F' d v
 | .non,v,h=>by simpa[Rep] using h
 | .bl b,v,h=>by simpa[Rep] using h
 | .int b,v,h=>by simpa[Rep] using h
 | .str b,v,h=>by simpa[Rep] using h
 | .exc c,v,h=>let ⟨a,_,h1,h2,h3⟩:=h;⟨a,_,h1,e _ _ h2,h3.mono e⟩
 | .fd _ l,v,h=>let ⟨a,o,_,h1,h2,h0,h3⟩:=h;⟨a,o,_,h1,e _ _ h2,h0,RepL.mono e l h3⟩
 | .obj c _ l,v,h=>let ⟨a,o,_,h1,h2,h0,h3⟩:=h;⟨a,o,_,h1,e _ _ h2,h0,RepL.mono e l h3⟩
 | .scr l,v,h=>let ⟨a,h1,h2⟩:=h;⟨a,h1,e.seq h2⟩
 | .tup l,v,h=>let ⟨a,_,h1,h2,h3⟩:=h;⟨a,_,h1,e _ _ h2,RepL.mono e l h3⟩
 | .lst l,v,h=>let ⟨a,_,h1,h2,h3⟩:=h;⟨a,_,h1,e _ _ h2,RepL.mono e l h3⟩
 | .dct _ l,v,h=>let ⟨a,_,h1,h2,h0,h3⟩:=h;⟨a,_,h1,e _ _ h2,h0,RepL.mono e l h3⟩
theorem RepL.mono (e:Same F F'):∀(l:List D) {vs:List V},RepL K F l vs→RepL K F' l vs
 | [],vs,h=>by simpa only[RepL] using h
 | d::l,vs,h=>by
  simp only[RepL] at h ⊢
  obtain⟨v,r,h1,h2,h3⟩:=h
  exact⟨v,r,h1,Rep.mono e d h2,RepL.mono e l h3⟩
end
theorem RepL.length:∀ {l:List D} {vs:List V},RepL K F l vs→vs.length=l.length
 | [],vs,h=>by simp[RepL] at h;simp_all
 | d::l,vs,h=>by
  obtain⟨v,r,rfl,_,h3⟩:=h
  simp[RepL.length h3]
theorem RepL.get:∀ {l:List D} {vs:List V} {i:Nat} {d:D},RepL K F l vs→l[i]?=some d→∃v,vs[i]?=some v∧Rep K F d v
 | [],vs,i,d,h,e=>by simp at e
 | x::l,vs,0,d,h,e=>by
  obtain⟨v,r,rfl,h2,h3⟩:=h
  simp_all
 | x::l,vs,i+1,d,h,e=>by
  obtain⟨v,r,rfl,h2,h3⟩:=h
  obtain⟨u,h4,h5⟩:=RepL.get h3 (i:=i) (d:=d) (by simp_all)
  simp_all
theorem RepL.nil:RepL K F [] []:=rfl
theorem RepL.cons {d:D} {l:List D} {v:V} {vs:List V} (h1:Rep K F d v) (h2:RepL K F l vs):RepL K F (d::l) (v::vs):=by
 simp[RepL];grind
theorem RepL.append:∀ {l:List D} {vs:List V} {l':List D} {vs':List V},RepL K F l vs→RepL K F l' vs'→RepL K F (l++l') (vs++vs')
 | [],vs,l',vs',h,h'=>by simp[RepL] at h;simp_all
 | d::l,vs,l',vs',h,h'=>by
  obtain⟨v,r,rfl,h2,h3⟩:=h
  exact .cons h2 (RepL.append h3 h')
theorem RepL.drop:∀ {l:List D} {vs:List V} (n:Nat),RepL K F l vs→RepL K F (l.drop n) (vs.drop n)
 | l,vs,0,h=>h
 | [],vs,n+1,h=>by subst h;rfl
 | d::l,vs,n+1,h=>by
  obtain⟨v,r,rfl,h2,h3⟩:=h
  exact RepL.drop n h3
theorem RepL.take:∀ {l:List D} {vs:List V} (n:Nat),RepL K F l vs→RepL K F (l.take n) (vs.take n)
 | l,vs,0,h=>rfl
 | [],vs,n+1,h=>by subst h;rfl
 | d::l,vs,n+1,h=>by
  obtain⟨v,r,rfl,h2,h3⟩:=h
  exact .cons h2 (RepL.take n h3)
theorem RepL.set:∀ {l:List D} {vs:List V} {d:D} {v:V} (i:Nat),RepL K F l vs→Rep K F d v→RepL K F (l.set i d) (vs.set i v)
 | [],vs,d,v,i,h,_=>by subst h;rfl
 | x::l,vs,d,v,0,h,h'=>by
  obtain⟨u,r,rfl,h2,h3⟩:=h
  exact .cons h' h3
 | x::l,vs,d,v,i+1,h,h'=>by
  obtain⟨u,r,rfl,h2,h3⟩:=h
  exact .cons h2 (RepL.set i h3 h')
theorem RepL.ints {ns:List Int}:RepL K F (ns.map .int) (ns.map .int):=by
 induction ns with
 | nil=>rfl
 | cons a l ih=>exact .cons rfl ih
end
section
variable (K:Kx)
def Top (F H:Hp):D→V→Prop
 | .lst l,v=>∃a vs,v=.ref a∧Rd H a (.lst vs)∧RepL K F l vs
 | .dct ks l,v=>∃a kvs,v=.ref a∧H a=some (.dK kvs)∧kvs.map (·.1)=ks∧RepL K F l (kvs.map (·.2))
 | .obj c ks l,v=>∃a dx fs,v=.ref a∧H a=some (.ins (K.ca c) dx fs)∧fs.map (·.1)=ks∧RepL K F l (fs.map (·.2))
 | d,v=>Rep K F d v
def Own (F H:Hp):D→Addr→Prop
 | .lst l,a=>∃vs,H a=some (.lst vs)∧RepL K F l vs
 | .dct ks l,a=>∃kvs,H a=some (.dK kvs)∧kvs.map (·.1)=ks∧RepL K F l (kvs.map (·.2))
 | .obj c ks l,a=>∃dx fs,H a=some (.ins (K.ca c) dx fs)∧fs.map (·.1)=ks∧RepL K F l (fs.map (·.2))
 | _,_=>False
mutual
def TrOk (F H:Hp):Tr→V→List Addr→Prop
 | .d x,v,fp=>fp=[]∧Rep K F x v
 | .l ts,v,fp=>∃a vs fs,v=.ref a∧fp=a::fs∧H a=some (.lst vs)∧TrOkL F H ts vs fs
 | .t ts,v,fp=>∃a vs,v=.ref a∧F a=some (.tup vs)∧TrOkL F H ts vs fp
def TrOkL (F H:Hp):List Tr→List V→List Addr→Prop
 | [],vs,fp=>vs=[]∧fp=[]
 | t::ts,vs,fp=>∃v r f1 f2,vs=v::r∧fp=f1++f2∧TrOk F H t v f1∧TrOkL F H ts r f2
end
structure Tab (F H:Hp) (a:Addr) (bs:List Addr) (T:Tr):Prop where
 ok:TrOk K F H T (.ref a) (a::bs)
 nd:(a::bs).Nodup
def SlOk (H0 F H:Hp):Option Sl→Option (Option V)→Prop
 | some (.v d),s=>∃u,s=some (some u)∧Rep K F d u
 | some (.o d),s=>∃a,s=some (some (.ref a))∧H0 a=none∧F a=none∧Own K F H d a
 | some (.l d),s=>∃a,s=some (some (.ref a))∧H0 a=none∧F a=none∧Own K F H d a
 | some (.p T),s=>∃a bs,s=some (some (.ref a))∧Tab K F H a bs T∧∀b∈a::bs,H0 b=none∧F b=none
 | _,_=>True
end
def Sl.own:Option Sl→Bool
 | some (.o _)=>true
 | some (.l _)=>true
 | some (.p _)=>true
 | _=>false
structure EnvOk (K:Kx) (Λ:List (Nat×Addr×HO)) (F0 H0 F H:Hp) (σ:St) (δ:En):Prop where
 ext:Ext F0 H0 F H
 len:σ.length=δ.length
 slot:∀i:Nat,SlOk K H0 F H δ[i]? σ[i]?
 dist:∀(i j:Nat) (a:Addr),i≠j→Sl.own δ[i]?=true→Sl.own δ[j]?=true→σ[i]?=some (some (.ref a))→σ[j]?=some (some (.ref a))→False
 lent:∀x∈Λ,(∃d,δ[x.1]?=some (.l d))∧σ[x.1]?=some (some (.ref x.2.1))∧H x.2.1=some x.2.2
 tabs:∀(i:Nat) (T:Tr),δ[i]?=some (.p T)→∃a bs,σ[i]?=some (some (.ref a))∧Tab K F H a bs T∧(∀b∈a::bs,H0 b=none∧F b=none)∧(∀(j:Nat) (b:Addr),j≠i→Sl.own δ[j]?=true→σ[j]?=some (some (.ref b))→b∉a::bs)∧∀(j:Nat) (T':Tr),j≠i→δ[j]?=some (.p T')→∃a' bs',σ[j]?=some (some (.ref a'))∧Tab K F H a' bs' T'∧∀b∈a'::bs',b∉a::bs
section
variable {K:Kx} {Λ:List (Nat×Addr×HO)} {F0 H0 F H F' H' F1 H1:Hp} {σ:St} {δ:En}
theorem Own.mono (e1:Same F F') (e2:Same H H'):∀ {d:D} {a:Addr},Own K F H d a→Own K F' H' d a
 | .lst l,a,h=>let ⟨_,h1,h2⟩:=h;⟨_,e2 _ _ h1,h2.mono e1⟩
 | .dct _ l,a,h=>let ⟨_,h1,h0,h2⟩:=h;⟨_,e2 _ _ h1,h0,h2.mono e1⟩
 | .non,_,h=>h.elim
 | .bl _,_,h=>h.elim
 | .int _,_,h=>h.elim
 | .str _,_,h=>h.elim
 | .tup _,_,h=>h.elim
 | .scr _,_,h=>h.elim
 | .exc _,_,h=>h.elim
 | .fd _ _,_,h=>h.elim
 | .obj c _ l,a,h=>let ⟨_,_,h1,h0,h2⟩:=h;⟨_,_,e2 _ _ h1,h0,h2.mono e1⟩
theorem Own.obj:∀ {d:D} {a:Addr},Own K F H d a→∃o,H a=some o
 | .lst l,a,h=>let ⟨_,h1,_⟩:=h;⟨_,h1⟩
 | .dct _ l,a,h=>let ⟨_,h1,_⟩:=h;⟨_,h1⟩
 | .non,_,h=>h.elim
 | .bl _,_,h=>h.elim
 | .int _,_,h=>h.elim
 | .str _,_,h=>h.elim
 | .tup _,_,h=>h.elim
 | .scr _,_,h=>h.elim
 | .exc _,_,h=>h.elim
 | .fd _ _,_,h=>h.elim
 | .obj c _ l,a,h=>let ⟨_,_,h1,_⟩:=h;⟨_,h1⟩
theorem Own.at (e:H' a=H a):∀ {d:D},Own K F H d a→Own K F H' d a
 | .lst l,h=>let ⟨_,h1,h2⟩:=h;⟨_,e.trans h1,h2⟩
 | .dct _ l,h=>let ⟨_,h1,h0,h2⟩:=h;⟨_,e.trans h1,h0,h2⟩
 | .non,h=>h.elim
 | .bl _,h=>h.elim
 | .int _,h=>h.elim
 | .str _,h=>h.elim
 | .tup _,h=>h.elim
 | .scr _,h=>h.elim
 | .exc _,h=>h.elim
 | .fd _ _,h=>h.elim
 | .obj c _ l,h=>let ⟨_,_,h1,h0,h2⟩:=h;⟨_,_,e.trans h1,h0,h2⟩
theorem Rep.top (s:Same F H):∀ {d:D} {v:V},Rep K F d v→Top K F H d v
 | .lst l,v,h=>let ⟨a,_,h1,h2,h3⟩:=h;⟨a,_,h1,PM.Same.rdp s h2,h3⟩
 | .dct _ l,v,h=>let ⟨a,_,h1,h2,h3⟩:=h;⟨a,_,h1,s _ _ h2,h3⟩
 | .non,_,h=>h
 | .bl _,_,h=>h
 | .int _,_,h=>h
 | .str _,_,h=>h
 | .tup _,_,h=>h
 | .scr _,_,h=>h
 | .exc _,_,h=>h
 | .fd _ _,_,h=>h
 | .obj c _ l,v,h=>let ⟨a,_,_,h1,h2,h3⟩:=h;⟨a,_,_,h1,s _ _ h2,h3⟩
theorem Own.top:∀ {d:D} {a:Addr},Own K F H d a→Top K F H d (.ref a)
 | .lst l,a,h=>let ⟨_,h1,h2⟩:=h;⟨a,_,rfl,.inl h1,h2⟩
 | .dct _ l,a,h=>let ⟨_,h1,h2⟩:=h;⟨a,_,rfl,h1,h2⟩
 | .non,_,h=>h.elim
 | .bl _,_,h=>h.elim
 | .int _,_,h=>h.elim
 | .str _,_,h=>h.elim
 | .tup _,_,h=>h.elim
 | .scr _,_,h=>h.elim
 | .exc _,_,h=>h.elim
 | .fd _ _,_,h=>h.elim
 | .obj c _ l,a,h=>let ⟨_,_,h1,h2⟩:=h;⟨a,_,_,rfl,h1,h2⟩
theorem Top.mono (e1:Same F F') (e2:Same H H'):∀ {d:D} {v:V},Top K F H d v→Top K F' H' d v
 | .lst l,v,h=>let ⟨a,_,h1,h2,h3⟩:=h;⟨a,_,h1,PM.Same.rd e2 h2,h3.mono e1⟩
 | .dct _ l,v,h=>let ⟨a,_,h1,h2,h0,h3⟩:=h;⟨a,_,h1,e2 _ _ h2,h0,h3.mono e1⟩
 | .non,_,h=>h
 | .bl _,_,h=>h
 | .int _,_,h=>h
 | .str _,_,h=>h
 | .tup l,v,h=>Rep.mono e1 _ h
 | .scr l,v,h=>Rep.mono e1 _ h
 | .exc l,v,h=>Rep.mono e1 _ h
 | .fd _ l,v,h=>Rep.mono e1 _ h
 | .obj c _ l,v,h=>let ⟨a,_,_,h1,h2,h0,h3⟩:=h;⟨a,_,_,h1,e2 _ _ h2,h0,h3.mono e1⟩
theorem Own.freeze {p:Addr} {d:D} (x:Ext F H F' H') (h0:F' p=none) (h1:H p=none) (o:Own K F' H' d p):∃F'',Ext F H F'' H'∧Same F' F''∧Rep K F'' d (.ref p):=by
 obtain⟨u,hu⟩:=o.obj
 have hs:Same _ (upd _ p u):=Same.upd h0
 refine⟨_,⟨x.ff.trans hs,x.hh,fun b w q=>?_,fun q w h2 h3=>?_⟩,hs,?_⟩
 ·by_cases e:b=p
  ·subst e;rw[zaB] at q;simp_all
  ·rw[zaz e] at q;exact x.fh _ _ q
 ·rw[zaz (zaW h3 h1)];exact x.nw q w h2 h3
 ·cases d with
  | lst l=>
   obtain⟨vs,h2,h3⟩:=o
   rw[hu] at h2;cases h2
   exact⟨p,_,rfl,zaB,h3.mono hs⟩
  | dct ks l=>
   obtain⟨vs,h2,h3,h4⟩:=o
   rw[hu] at h2;cases h2
   exact⟨p,_,rfl,zaB,h3,h4.mono hs⟩
  | obj c ks l=>
   obtain⟨dx,vs,h2,h3,h4⟩:=o
   rw[hu] at h2;cases h2
   exact⟨p,_,_,rfl,zaB,h3,h4.mono hs⟩
  | _=>exact o.elim
mutual
theorem TrOk.mono (e:Same F F') (e2:Same H H'):∀(T:Tr) {v:V} {fp:List Addr},TrOk K F H T v fp→TrOk K F' H' T v fp
 | .d x,v,fp,h=>⟨h.1,Rep.mono e x h.2⟩
 | .l _,v,fp,h=>let ⟨a,_,_,h1,h2,h3,h4⟩:=h;⟨a,_,_,h1,h2,e2 _ _ h3,TrOkL.mono e e2 _ h4⟩
 | .t _,v,fp,h=>let ⟨a,_,h1,h3,h4⟩:=h;⟨a,_,h1,e _ _ h3,TrOkL.mono e e2 _ h4⟩
theorem TrOkL.mono (e:Same F F') (e2:Same H H'):∀(ts:List Tr) {vs:List V} {fp:List Addr},TrOkL K F H ts vs fp→TrOkL K F' H' ts vs fp
 | [],vs,fp,h=>by simpa only[TrOkL] using h
 | t::ts,vs,fp,h=>by
  simp only[TrOkL] at h ⊢
  obtain⟨v,r,f1,f2,h1,h2,h3,h4⟩:=h
  exact⟨v,r,f1,f2,h1,h2,TrOk.mono e e2 t h3,TrOkL.mono e e2 ts h4⟩
end
mutual
theorem TrOk.obj:∀(T:Tr) {v:V} {fp:List Addr},TrOk K F H T v fp→∀b∈fp,∃o,H b=some o
 | .d x,v,fp,h,b,hb=>by
  simp[TrOk] at h
  simp_all
 | .l _,v,fp,h,b,hb=>by
  obtain⟨a,vs,fs,h1,h2,h3,h4⟩:=h
  rw[h2] at hb
  rcases List.mem_cons.mp hb with e|hb
  ·simp_all
  ·exact TrOkL.obj _ h4 b hb
 | .t _,v,fp,h,b,hb=>let ⟨a,_,_,_,h4⟩:=h;TrOkL.obj _ h4 b hb
theorem TrOkL.obj:∀(ts:List Tr) {vs:List V} {fp:List Addr},TrOkL K F H ts vs fp→∀b∈fp,∃o,H b=some o
 | [],vs,fp,h,b,hb=>by
  simp only[TrOkL] at h
  rw[h.2] at hb;cases hb
 | t::ts,vs,fp,h,b,hb=>by
  simp only[TrOkL] at h
  obtain⟨v,r,f1,f2,h1,h2,h3,h4⟩:=h
  rw[h2] at hb
  rcases List.mem_append.mp hb with hb|hb
  ·exact TrOk.obj t h3 b hb
  ·exact TrOkL.obj ts h4 b hb
end
mutual
theorem TrOk.at':∀(T:Tr) {v:V} {fp:List Addr},TrOk K F H T v fp→(∀b∈fp,H' b=H b)→TrOk K F H' T v fp
 | .d x,v,fp,h,_=>by simpa[TrOk] using h
 | .l _,v,fp,h,e=>by
  obtain⟨a,vs,fs,h1,h2,h3,h4⟩:=h
  subst h2
  exact⟨a,_,_,h1,rfl,(e a (by simp)).trans h3,TrOkL.at' _ h4 fun b hb=>e b (List.mem_cons_of_mem _ hb)⟩
 | .t _,v,fp,h,e=>let ⟨a,_,h1,h3,h4⟩:=h;⟨a,_,h1,h3,TrOkL.at' _ h4 e⟩
theorem TrOkL.at':∀(ts:List Tr) {vs:List V} {fp:List Addr},TrOkL K F H ts vs fp→(∀b∈fp,H' b=H b)→TrOkL K F H' ts vs fp
 | [],vs,fp,h,_=>by simpa only[TrOkL] using h
 | t::ts,vs,fp,h,e=>by
  simp only[TrOkL] at h ⊢
  obtain⟨v,r,f1,f2,h1,h2,h3,h4⟩:=h
  subst h2
  exact⟨v,r,f1,f2,h1,rfl,TrOk.at' t h3 fun b hb=>e b (List.mem_append_left _ hb),TrOkL.at' ts h4 fun b hb=>e b (List.mem_append_right _ hb)⟩
end
theorem Tab.mono {a:Addr} {bs:List Addr} {T:Tr} (e1:Same F F') (e:Same H H') (t:Tab K F H a bs T):Tab K F' H' a bs T:=⟨TrOk.mono e1 e T t.ok,t.nd⟩
theorem Tab.obj {a:Addr} {bs:List Addr} {T:Tr} (t:Tab K F H a bs T):∀b∈a::bs,∃o,H b=some o:=TrOk.obj T t.ok
theorem Tab.at' {a:Addr} {bs:List Addr} {T:Tr} (t:Tab K F H a bs T) (e:∀b∈a::bs,H' b=H b):Tab K F H' a bs T:=⟨TrOk.at' T t.ok e,t.nd⟩
theorem SlOk.mono (e:Ext F H F' H'):∀ {x:Option Sl} {s:Option (Option V)},SlOk K H0 F H x s→SlOk K H0 F' H' x s
 | some (.v d),s,h=>let ⟨u,h1,h2⟩:=h;⟨u,h1,Rep.mono e.ff d h2⟩
 | some (.o d),s,h=>let ⟨a,h1,h2,h3,h4⟩:=h;let ⟨o,ho⟩:=h4.obj;⟨a,h1,h2,e.nw a o h3 ho,h4.mono e.ff e.hh⟩
 | some (.l d),s,h=>let ⟨a,h1,h2,h3,h4⟩:=h;let ⟨o,ho⟩:=h4.obj;⟨a,h1,h2,e.nw a o h3 ho,h4.mono e.ff e.hh⟩
 | some (.p T),s,h=>let ⟨a,_,h1,h2,h3⟩:=h;⟨a,_,h1,h2.mono e.ff e.hh,fun b hb=>let ⟨o,ho⟩:=h2.obj b hb;⟨(h3 b hb).1,e.nw b o (h3 b hb).2 ho⟩⟩
 | some .no,_,_=>trivial
 | none,_,_=>trivial
mutual
theorem zrB:∀(T:Tr) {v:V} {f f':List Addr},TrOk K F H T v f→TrOk K F H T v f'→f=f'
 | .d x,v,f,f',h1,h2=>by
  simp[TrOk] at h1 h2
  simp_all
 | .l _,v,f,f',h1,h2=>by
  obtain⟨a,vs,fs,rfl,rfl,e1,o1⟩:=h1
  obtain⟨a',vs',fs',e,rfl,e2,o2⟩:=h2
  cases e
  rw[e1] at e2
  cases e2
  rw[zn5 _ o1 o2]
 | .t _,v,f,f',h1,h2=>by
  obtain⟨a,vs,rfl,e1,o1⟩:=h1
  obtain⟨a',vs',e,e2,o2⟩:=h2
  cases e
  rw[e1] at e2
  cases e2
  exact zn5 _ o1 o2
theorem zn5:∀(ts:List Tr) {vs:List V} {f f':List Addr},TrOkL K F H ts vs f→TrOkL K F H ts vs f'→f=f'
 | [],vs,f,f',h1,h2=>by
  simp only[TrOkL] at h1 h2
  rw[h1.2,h2.2]
 | t::ts,vs,f,f',h1,h2=>by
  simp only[TrOkL] at h1 h2
  obtain⟨v,r,f1,f2,rfl,rfl,o1,o2⟩:=h1
  obtain⟨v',r',g1,g2,e,rfl,p1,p2⟩:=h2
  cases e
  rw[zrB t o1 p1,zn5 ts o2 p2]
end
theorem zrn {a:Addr} {bs bs':List Addr} {T:Tr} (t:Tab K F H a bs T) (t':Tab K F H a bs' T):bs=bs':=(List.cons.inj (zrB T t.ok t'.ok)).2
theorem EnvOk.tab (I:EnvOk K Λ F0 H0 F H σ δ) {i:Nat} {T:Tr} (hx:δ[i]?=some (.p T)):∃a bs,σ[i]?=some (some (.ref a))∧Tab K F H a bs T∧(∀b∈a::bs,H0 b=none∧F b=none)∧(∀(j:Nat) (b:Addr),j≠i→Sl.own δ[j]?=true→σ[j]?=some (some (.ref b))→b∉a::bs)∧∀(j:Nat) (T':Tr),j≠i→δ[j]?=some (.p T')→∃a' bs',σ[j]?=some (some (.ref a'))∧Tab K F H a' bs' T'∧∀b∈a'::bs',b∉a::bs:=I.tabs i T hx
theorem EnvOk.tabsOf {δ':En} {σ':St} (I:EnvOk K Λ F0 H0 F H σ δ) (h1:∀(i:Nat) (T:Tr),δ'[i]?=some (.p T)→δ[i]?=some (.p T)∧σ'[i]?=σ[i]?)
  (h2:∀(i:Nat) (a:Addr) (bs:List Addr) (T:Tr),δ[i]?=some (.p T)→σ[i]?=some (some (.ref a))→Tab K F H a bs T→(∀b∈a::bs,H0 b=none∧F b=none)→(∀(j:Nat) (b:Addr),j≠i→Sl.own δ[j]?=true→σ[j]?=some (some (.ref b))→b∉a::bs)→Tab K F' H' a bs T∧∀b∈a::bs,F' b=none)
  (h3:∀(i j:Nat) (T:Tr) (a b:Addr) (bs:List Addr),δ[i]?=some (.p T)→σ[i]?=some (some (.ref a))→Tab K F H a bs T→j≠i→Sl.own δ'[j]?=true→σ'[j]?=some (some (.ref b))→(Sl.own δ[j]?=true∧σ[j]?=some (some (.ref b)))∨b∉a::bs) :
  ∀(i:Nat) (T:Tr),δ'[i]?=some (.p T)→∃a bs,σ'[i]?=some (some (.ref a))∧Tab K F' H' a bs T∧(∀b∈a::bs,H0 b=none∧F' b=none)∧(∀(j:Nat) (b:Addr),j≠i→Sl.own δ'[j]?=true→σ'[j]?=some (some (.ref b))→b∉a::bs)∧∀(j:Nat) (T':Tr),j≠i→δ'[j]?=some (.p T')→∃a' bs',σ'[j]?=some (some (.ref a'))∧Tab K F' H' a' bs' T'∧∀b∈a'::bs',b∉a::bs:=by
 intro i T g1
 obtain⟨d1,d2⟩:=h1 i T g1
 obtain⟨a,bs,t1,t2,t3,t4,t5⟩:=I.tab d1
 obtain⟨u1,u2⟩:=h2 i a _ T d1 t1 t2 t3 t4
 refine⟨a,_,d2.trans t1,u1,fun b hb=>⟨(t3 b hb).1,u2 b hb⟩,fun j b hj ho hs hb=>?_,fun j T' hj hT=>?_⟩
 ·rcases h3 i j T a b _ d1 t1 t2 hj ho hs with ⟨o1,o2⟩|o
  ·exact t4 j b hj o1 o2 hb
  ·exact o hb
 ·obtain⟨e1,e2⟩:=h1 j _ hT
  obtain⟨a',bs',s1,s2,s3⟩:=t5 j _ hj e1
  obtain⟨a2,bs2,u1,u2,u3,u4,_⟩:=I.tab e1
  rw[s1] at u1
  cases u1
  have eb:=zrn u2 s2
  subst eb
  exact⟨_,_,e2.trans s1,(h2 j _ _ _ e1 s1 s2 u3 u4).1,s3⟩
theorem zlh (e:Ext F H F' H') {a:Addr} {bs:List Addr} {T:Tr} (t:Tab K F H a bs T) (f:∀b∈a::bs,H0 b=none∧F b=none):Tab K F' H' a bs T∧∀b∈a::bs,F' b=none:=
 ⟨t.mono e.ff e.hh,fun b hb=>let ⟨o,ho⟩:=t.obj b hb;e.nw b o (f b hb).2 ho⟩
theorem EnvOk.grow (I:EnvOk K Λ F0 H0 F H σ δ) (e:Ext F H F' H'):EnvOk K Λ F0 H0 F' H' σ δ:=
 ⟨I.ext.trans e,I.len,fun i=>(I.slot i).mono e,I.dist,fun x hx=>let ⟨h1,h2,h3⟩:=I.lent x hx;⟨h1,h2,e.hh _ _ h3⟩,I.tabsOf (fun i T h=>⟨h,rfl⟩) (fun i a bs T _ _ t f _=>zlh e t f) fun i j T a b bs _ _ _ _ ho hs=>.inl ⟨ho,hs⟩⟩
theorem EnvOk.same (I:EnvOk K Λ F0 H0 F H σ δ):Same F H:=I.ext.fh
theorem Ext.base (a:Ext F0 H0 F1 H1) (b:Ext F1 H0 F' H'):Ext F0 H0 F' H':=
 ⟨a.ff.trans b.ff,b.hh,b.fh,fun p o h1 h2=>b.nw p o (a.nw p o h1 h2) h2⟩
theorem EnvOk.up (I:EnvOk K Λ F0 H0 F H σ δ):EnvOk K Λ F H0 F H σ δ:=
 ⟨⟨.refl _,I.ext.hh,I.ext.fh,fun p o h1 h2=>h1⟩,I.len,I.slot,I.dist,I.lent,I.tabs⟩
theorem EnvOk.down (a:Ext F0 H0 F1 H1) (I:EnvOk K Λ F1 H0 F H σ δ):EnvOk K Λ F0 H0 F H σ δ:=
 ⟨a.base I.ext,I.len,I.slot,I.dist,I.lent,I.tabs⟩
theorem EnvOk.put {i:Nat} {d:D} {v:V} (I:EnvOk K Λ F0 H0 F H σ δ) (hl:∃x,δ[i]?=some x∧∀d,x≠.l d) (r:Rep K F d v):EnvOk K Λ F0 H0 F H (σ.set i (some v)) (δ.set i (.v d)):=by
 obtain⟨x,hx,hn⟩:=hl
 have hi:=(List.getElem?_eq_some_iff.mp hx).1
 have hi':i<σ.length:=by rwa [I.len]
 refine⟨I.ext,by simp[I.len],fun j=>?_,fun j k a hjk h1 h2 h3 h4=>?_,fun y hy=>?_,I.tabsOf (fun k ll h=>by
   by_cases e:i=k
   ·simp_all
   ·rw[List.getElem?_set_ne e] at h;exact⟨h,List.getElem?_set_ne e⟩) (fun _ _ _ _ _ _ t f _=>⟨t,fun b hb=>(f b hb).2⟩) fun k j ll a b bs _ _ _ _ ho hs=>.inl (by
   by_cases e:i=j
   ·subst e;rw[List.getElem?_set_self hi] at ho;cases ho
   ·simp_all)⟩
 ·by_cases e:i=j
  ·subst e
   rw[List.getElem?_set_self hi,List.getElem?_set_self hi']
   exact⟨v,rfl,r⟩
  ·rw[List.getElem?_set_ne e,List.getElem?_set_ne e]
   exact I.slot j
 ·have ne:∀k ,Sl.own (δ.set i (.v d))[k]?=true→i≠k:=by
   rintro k h rfl
   rw[List.getElem?_set_self hi] at h
   cases h
  have n1:=ne j h1
  have n2:=ne k h2
  rw[List.getElem?_set_ne n1] at h1 h3
  rw[List.getElem?_set_ne n2] at h2 h4
  exact I.dist j k a hjk h1 h2 h3 h4
 ·obtain⟨⟨d',h1⟩,h2,h3⟩:=I.lent y hy
  have n:i≠y.1:=by
   intro e
   rw[← e,hx] at h1
   exact hn _ (Option.some.inj h1)
  exact⟨⟨d',by simp_all⟩,by rwa [List.getElem?_set_ne n],h3⟩
theorem EnvOk.putO {i:Nat} {d:D} {p:Addr} (I:EnvOk K Λ F0 H0 F H σ δ) (hl:∃x,δ[i]?=some x∧∀d,x≠.l d) (e:Ext F H F' H') (h0:F' p=none) (h1:H p=none) (o:Own K F' H' d p) :
  EnvOk K Λ F0 H0 F' H' (σ.set i (some (.ref p))) (δ.set i (.o d)):=by
 obtain⟨x,hx,hn⟩:=hl
 have hi:=(List.getElem?_eq_some_iff.mp hx).1
 have hi':i<σ.length:=by rwa [I.len]
 have fresh:∀k ,Sl.own δ[k]?=true→σ[k]?≠some (some (V.ref p)):=fun k hk e=>by
  have z:=I.slot k
  cases q:δ[k]? with
  | none=>rw[q] at hk;cases hk
  | some y=>
   rw[q] at hk z
   cases y with
   | no=>cases hk
   | v d=>cases hk
   | o d=>
    obtain⟨a,z1,_,_,z4⟩:=z
    rw[e] at z1;obtain⟨u,hu⟩:=z4.obj
    simp_all
   | l d=>
    obtain⟨a,z1,_,_,z4⟩:=z
    obtain⟨u,hu⟩:=z4.obj
    simp_all
   | p ll=>
    obtain⟨a,bs,z1,z2,_⟩:=z
    rw[e] at z1;cases z1
    obtain⟨u,hu⟩:=z2.obj p (by simp)
    simp_all
 have J:=I.grow e
 refine⟨J.ext,by simp[I.len],fun j=>?_,fun j k a hjk g1 g2 g3 g4=>?_,fun y hy=>?_,I.tabsOf (fun k ll h=>by
   by_cases e:i=k
   ·simp_all
   ·simp_all) (fun k a bs T _ _ t f _=>zlh e t f) fun k j ll a b bs _ _ t _ ho hs=>by
   by_cases e:i=j
   ·subst e
    rw[List.getElem?_set_self hi'] at hs
    cases hs
    refine .inr fun hb=>?_
    obtain⟨u,hu⟩:=t.obj p hb
    rw[h1] at hu;cases hu
   ·rw[List.getElem?_set_ne e] at ho hs;exact .inl ⟨ho,hs⟩⟩
 ·by_cases e:i=j
  ·subst e
   rw[List.getElem?_set_self hi,List.getElem?_set_self hi']
   exact⟨p,rfl,I.ext.hh.free h1,h0,o⟩
  ·rw[List.getElem?_set_ne e,List.getElem?_set_ne e]
   exact J.slot j
 ·by_cases e1:i=j
  ·subst e1
   rw[List.getElem?_set_self hi'] at g3
   cases g3
   rw[List.getElem?_set_ne hjk] at g2 g4
   exact fresh k g2 g4
  ·by_cases e2:i=k
   ·subst e2
    rw[List.getElem?_set_self hi'] at g4
    cases g4
    rw[List.getElem?_set_ne e1] at g1 g3
    exact fresh j g1 g3
   ·rw[List.getElem?_set_ne e1] at g1 g3
    rw[List.getElem?_set_ne e2] at g2 g4
    exact I.dist j k a hjk g1 g2 g3 g4
 ·obtain⟨⟨d',g1⟩,g2,g3⟩:=J.lent y hy
  have n:i≠y.1:=by
   intro e
   rw[← e,hx] at g1
   exact hn _ (Option.some.inj g1)
  exact⟨⟨_,by rwa [List.getElem?_set_ne n]⟩,by rwa [List.getElem?_set_ne n],g3⟩
theorem EnvOk.chg {i:Nat} {d d':D} {a:Addr} {u:HO} (I:EnvOk K Λ F0 H0 F H σ δ) (hx:δ[i]?=some (.o d)) (ha:σ[i]?=some (some (.ref a))) (o:Own K F (upd H a u) d' a) :
  EnvOk K Λ F0 H0 F (upd H a u) σ (δ.set i (.o d')):=by
 have hi:=(List.getElem?_eq_some_iff.mp hx).1
 have z:=I.slot i
 rw[hx] at z
 obtain⟨a',z1,z2,z3,z4⟩:=z
 rw[ha] at z1;cases z1
 have oth:∀(k:Nat) (b:Addr),i≠k→Sl.own _=true→σ[k]?=some (some _)→b≠a:=fun k b hk h1 h2 e=>by
  subst e
  exact I.dist i k b hk (by rw[hx];rfl) h1 ha h2
 refine⟨⟨I.ext.ff,fun b w q=>?_,fun b w q=>?_,I.ext.nw⟩,by simp[I.len],fun j=>?_,fun j k b hjk g1 g2 g3 g4=>?_,fun y hy=>?_,I.tabsOf (fun k ll h=>by
   by_cases e:i=k
   ·subst e;rw[List.getElem?_set_self hi] at h;cases h
   ·rw[List.getElem?_set_ne e] at h;grind) (fun k r bs T g1 g2 t f dj=>by
   have e:i≠k:=fun e=>by simp_all
   exact⟨t.at' fun b hb=>zaz fun e'=>dj i a e (by rw[hx];rfl) ha (e' ▸ hb),fun b hb=>(f b hb).2⟩) fun k j ll r b bs _ _ _ _ ho hs=>.inl (by
   by_cases e:i=j
   ·subst e;exact⟨by rw[hx];rfl,hs⟩
   ·rw[List.getElem?_set_ne e] at ho;exact⟨ho,hs⟩)⟩
 ·rw[zaz (zaW q z2)];exact I.ext.hh b w q
 ·rw[zaz (zaW q z3)];exact I.ext.fh b w q
 ·by_cases e:i=j
  ·subst e
   rw[List.getElem?_set_self hi]
   exact⟨a,ha,z2,z3,o⟩
  ·rw[List.getElem?_set_ne e]
   have w:=I.slot j
   cases q:δ[j]? with
   | none=>trivial
   | some y=>
    rw[q] at w
    cases y with
    | no=>trivial
    | v d=>exact w
    | o d=>
     obtain⟨b,w1,w2,w3,w4⟩:=w
     exact⟨b,w1,w2,w3,w4.at (zaz (oth j b e (by rw[q];rfl) w1))⟩
    | l d=>
     obtain⟨b,w1,w2,w3,w4⟩:=w
     exact⟨b,w1,w2,w3,w4.at (zaz (oth j b e (by rw[q];rfl) w1))⟩
    | p ll=>
     obtain⟨r,bs,t1,t2,t3,t4,t5⟩:=I.tab q
     exact⟨r,_,t1,t2.at' fun b hb=>zaz fun e'=>t4 i a e (by rw[hx];rfl) ha (e' ▸ hb),t3⟩
 ·have ow:∀k:Nat,Sl.own (δ.set i (.o d'))[k]?=true→Sl.own δ[k]?=true:=by
   intro k h
   by_cases e:i=k
   ·subst e;rw[hx];rfl
   ·rwa [List.getElem?_set_ne e] at h
  exact I.dist j k b hjk (ow j g1) (ow k g2) g3 g4
 ·obtain⟨⟨d2,g1⟩,g2,g3⟩:=I.lent y hy
  have n:i≠y.1:=by
   intro e
   rw[← e,hx] at g1
   cases g1
  exact⟨⟨_,by rwa [List.getElem?_set_ne n]⟩,g2,by rwa [zaz (oth _ _ n (by rw[g1];rfl) g2)]⟩
theorem EnvOk.frz {i:Nat} {d:D} (I:EnvOk K Λ F0 H0 F H σ δ) (hx:δ[i]?=some (.o d)):∃F',Same F F'∧EnvOk K Λ F0 H0 F' H σ (δ.set i (.v d)):=by
 have hi:i<δ.length:=(List.getElem?_eq_some_iff.mp hx).1
 have z:=I.slot i
 rw[hx] at z
 obtain⟨a,z1,z2,z3,z4⟩:=z
 obtain⟨u,hu⟩:=z4.obj
 have hs:Same F (upd F a u):=Same.upd z3
 have sl:∀j:Nat,i≠j→Sl.own δ[j]?=true→σ[j]?≠some (some (V.ref a)):=fun j hj h e=>I.dist i j a hj (by rw[hx];rfl) h z1 e
 refine⟨upd F a u,hs,⟨I.ext.ff.trans hs,I.ext.hh,fun b w q=>?_,fun p o h1 h2=>?_⟩,by simp[I.len],fun j=>?_,fun j k b hjk g1 g2 g3 g4=>?_,fun y hy=>?_,I.tabsOf (fun k ll h=>by
   by_cases e:i=k
   ·subst e;rw[List.getElem?_set_self hi] at h;cases h
   ·simp_all) (fun k r bs T g1 g2 t f dj=>by
   have e:i≠k:=fun e=>by simp_all
   exact⟨t.mono hs (.refl _),fun b hb=>by rw[zaz (show b≠a from fun e'=>dj i a e (by rw[hx];rfl) z1 (e' ▸ hb))];exact (f b hb).2⟩) fun k j ll r b bs _ _ _ _ ho hs=>.inl (by
   by_cases e:i=j
   ·subst e;rw[List.getElem?_set_self hi] at ho;cases ho
   ·simp_all)⟩
 ·by_cases e:b=a
  ·subst e;rw[zaB] at q;cases q;exact hu
  ·rw[zaz e] at q;exact I.ext.fh _ _ q
 ·rw[zaz (zaW h2 z2)];exact I.ext.nw p o h1 h2
 ·by_cases e:i=j
  ·subst e
   rw[List.getElem?_set_self hi]
   refine⟨.ref a,z1,?_⟩
   cases d with
   | lst l=>
    obtain⟨vs,h2,h3⟩:=z4
    rw[hu] at h2;cases h2
    exact⟨a,vs,rfl,zaB,h3.mono hs⟩
   | dct ks l=>
    obtain⟨vs,h2,h3,h4⟩:=z4
    rw[hu] at h2;cases h2
    exact⟨a,vs,rfl,zaB,h3,h4.mono hs⟩
   | obj c ks l=>
    obtain⟨dx,vs,h2,h3,h4⟩:=z4
    rw[hu] at h2;cases h2
    exact⟨a,dx,vs,rfl,zaB,h3,h4.mono hs⟩
   | _=>exact z4.elim
  ·rw[List.getElem?_set_ne e]
   have w:=I.slot j
   cases q:δ[j]? with
   | none=>trivial
   | some y=>
    rw[q] at w
    cases y with
    | no=>trivial
    | v d=>obtain⟨v,w1,w2⟩:=w;exact⟨v,w1,Rep.mono hs d w2⟩
    | o d=>
     obtain⟨b,w1,w2,w3,w4⟩:=w
     exact⟨b,w1,w2,by rwa [zaz (show b≠a from fun e'=>sl j e (by rw[q];rfl) (by grind))],w4.mono hs (.refl _)⟩
    | p ll=>
     obtain⟨r,bs,t1,t2,t3,t4,t5⟩:=I.tab q
     exact⟨r,_,t1,t2.mono hs (.refl _),fun b hb=>⟨(t3 b hb).1,by rw[zaz (show b≠a from fun e'=>t4 i a e (by rw[hx];rfl) z1 (e' ▸ hb))];exact (t3 b hb).2⟩⟩
    | l d=>
     obtain⟨b,w1,w2,w3,w4⟩:=w
     exact⟨b,w1,w2,by rwa [zaz (fun e'=>sl j e (by rw[q];rfl) (by rw[w1,e']))],w4.mono hs (.refl _)⟩
 ·have ow:∀k:Nat,Sl.own (δ.set i (.v d))[k]?=true→Sl.own δ[k]?=true:=by
   intro k h
   by_cases e:i=k
   ·subst e;rw[List.getElem?_set_self hi] at h;cases h
   ·rwa [List.getElem?_set_ne e] at h
  exact I.dist j k b hjk (ow j g1) (ow k g2) g3 g4
 ·obtain⟨⟨d2,g1⟩,g2,g3⟩:=I.lent y hy
  have n:i≠y.1:=by
   intro e
   rw[← e,hx] at g1
   cases g1
  exact⟨⟨_,by rwa [List.getElem?_set_ne n]⟩,g2,g3⟩
end
abbrev XOT:=Xc→Hp→Hp→Value→Option Addr→Prop
def Aft {α:Type} (E:St→XK) (XO:XOT) (σ:St) (F H:Hp) (P:α→Hp→Hp→Prop):R α→Prop
 | .no=>False
 | .ok a=>∀F' H',Ext F H F' H'→P a F' H'
 | .ex x=>∀C dct F' H',Ext F H F' H'→XO x F' H' C dct→E σ C dct H'
section
variable {E:St→XK} {XO:XOT} {σ:St} {F H F1 H1:Hp} {α β:Type} {P P':α→Hp→Hp→Prop}
theorem Aft.mono (e:Ext F H F1 H1):∀ {r:R α},Aft E XO σ F H P r→Aft E XO σ F1 H1 P r
 | .no,h=>h
 | .ok _,h=>fun F' H' e'=>h _ _ (e.trans e')
 | .ex _,h=>fun C dct F' H' e' x=>h C _ _ _ (e.trans e') x
theorem Aft.imp (i:∀a F1 H1,Ext F H F1 H1→P a F1 H1→P' a F1 H1):∀ {r:R α},Aft E XO σ F H P r→Aft E XO σ F H P' r
 | .no,h=>h
 | .ok _,h=>fun F' H' e'=>i _ _ _ e' (h _ _ e')
 | .ex _,h=>h
theorem Aft.bind {P:β→Hp→Hp→Prop} {f:α→R β}:∀ {r:R α},Aft E XO σ F H P (r.bind f)→Aft E XO σ F H (fun a F1 H1=>Aft E XO σ F1 H1 P (f a)) r
 | .no,h=>h
 | .ok _,h=>fun F' H' e'=>Aft.mono e' h
 | .ex _,h=>h
end
inductive Prd (T:D→V→Prop):List D→List V→Prop where
 | nil:Prd T [] []
 | cons {d:D} {v:V} {ds:List D} {vs:List V}:T d v→Prd T ds vs→Prd T (d::ds) (v::vs)
section
variable (K:Kx) (XO:XOT) (E:St→XK)
def SE (t:TE) (m:En→R D):Prop:=∀Λ F0 H0 F H σ δ Q,EnvOk K Λ F0 H0 F H σ δ→Aft E XO σ F H (fun d F' H'=>∀v,Rep K F' d v→Q v H') (m δ)→t σ H Q
def SEr (t:TE) (m:En→R D):Prop:=∀Λ F0 H0 F H σ δ Q,EnvOk K Λ F0 H0 F H σ δ→Aft E XO σ F H (fun d F' H'=>∀v,Top K F' H' d v→Q v H') (m δ)→t σ H Q
def SEo (t:TE) (m:En→R D):Prop:=∀Λ F0 H0 F H σ δ Q,EnvOk K Λ F0 H0 F H σ δ→Aft E XO σ F H (fun d F' H'=>∀p,F' p=none→H p=none→Own K F' H' d p→Q (.ref p) H') (m δ)→t σ H Q
def ST (t:TT) (m:En→R Bool):Prop:=∀Λ F0 H0 F H σ δ Q,EnvOk K Λ F0 H0 F H σ δ→Aft E XO σ F H (fun b _ H'=>Q b H') (m δ)→t σ H Q
def SA (t:TA) (m:En→R (List D)):Prop:=∀Λ F0 H0 F H σ δ Q,EnvOk K Λ F0 H0 F H σ δ→Aft E XO σ F H (fun ds F' H'=>∀vs,RepL K F' ds vs→Q vs H') (m δ)→t σ H Q
def SAr (t:TA) (m:En→R (List D)):Prop:=∀Λ F0 H0 F H σ δ Q,EnvOk K Λ F0 H0 F H σ δ→Aft E XO σ F H (fun ds F' H'=>∀vs,Prd (Top K F' H') ds vs→Q vs H') (m δ)→t σ H Q
end
section
variable {K:Kx} {XO:XOT} {E:St→XK} {t ta tb te:TE} {m ma mb me:En→R D}
theorem SE.r (h:SE K XO E t m):SEr K XO E t m:=fun Λ F0 H0 F H σ δ Q I a=>h _ _ _ F H _ _ Q I (a.imp fun d F1 H1 e p v r=>p v (r.top e.fh))
theorem SEo.e (h:SEo K XO E t m):SE K XO E t m:=fun Λ F0 H0 F H σ δ Q I a=>h _ _ _ F H _ _ Q I (by
 cases q:m _ with
 | no=>rwa [q] at a
 | ex x=>rwa [q] at a
 | ok d=>
  rw[q] at a
  intro F1 H1 e p h0 h1 o
  obtain⟨F2,e2,s2,r⟩:=o.freeze e h0 h1
  exact a _ _ e2 _ r)
def mVar (i:Nat) (δ:En):R D:=match δ[i]? with|some (.v d)=>.ok d|_=>.no
def mRd (i:Nat) (δ:En):R D:=match δ[i]? with|some (.v d)=>.ok d|some (.o d)=>.ok d|some (.l d)=>.ok d|_=>.no
theorem zal {i:Nat}:SE K XO E (tVar i) (mVar i):=by
 intro Λ F0 H0 F H σ δ Q I a
 unfold mVar at a
 have z:=I.slot i
 split at a
 ·rename_i d q
  rw[q] at z
  obtain⟨u,h1,h2⟩:=z
  exact⟨u,h1,a F H (.refl I.same) u h2⟩
 ·exact a.elim
theorem zad {i:Nat}:SEr K XO E (tVar i) (mRd i):=by
 intro Λ F0 H0 F H σ δ Q I a
 unfold mRd at a
 have z:=I.slot i
 split at a
 ·rename_i d q
  rw[q] at z
  obtain⟨u,h1,h2⟩:=z
  exact⟨u,h1,a F H (.refl I.same) u (h2.top I.same)⟩
 ·rename_i d q
  rw[q] at z
  obtain⟨u,h1,_,_,h2⟩:=z
  exact⟨_,h1,a F H (.refl I.same) _ h2.top⟩
 ·rename_i d q
  rw[q] at z
  obtain⟨u,h1,_,_,h2⟩:=z
  exact⟨_,h1,a F H (.refl I.same) _ h2.top⟩
 ·exact a.elim
def mC (d:D) (_:En):R D:=.ok d
theorem zag {i:Int}:SE K XO E (tC (.int i)) (mC (.int i)):=fun Λ F0 H0 F H σ δ Q I a=>a F H (.refl I.same) _ rfl
theorem zil {i:Bool}:SE K XO E (tC (.bl i)) (mC (.bl i)):=fun Λ F0 H0 F H σ δ Q I a=>a F H (.refl I.same) _ rfl
theorem zmZ:SE K XO E (tC .non) (mC .non):=fun Λ F0 H0 F H σ δ Q I a=>a F H (.refl I.same) _ rfl
theorem zaH {i:Str}:SE K XO E (tC (.str i)) (mC (.str i)):=fun Λ F0 H0 F H σ δ Q I a=>a F H (.refl I.same) _ rfl
def R.of {α:Type}:Option α→R α
 | some a=>.ok a
 | none=>.no
@[simp] theorem R.of_some {α:Type} (a:α):R.of (some a)=.ok a:=rfl
@[simp] theorem R.of_none {α:Type}:R.of (none:Option α)=.no:=rfl
def m2 (f:D→D→Option D) (ma mb:En→R D) (δ:En):R D:=(ma δ).bind fun x=>(mb δ).bind fun y=>R.of (f x y)
def m1 (f:D→Option D) (ma:En→R D) (δ:En):R D:=(ma δ).bind fun x=>R.of (f x)
@[simp] theorem zcA {f:D→D→Option D} {ma mb:En→R D} {δ:En}:m2 f ma mb δ=(ma δ).bind fun x=>(mb δ).bind fun y=>R.of (f x y):=rfl
@[simp] theorem zoj {f:D→Option D} {ma:En→R D} {δ:En}:m1 f ma δ=(ma δ).bind fun x=>R.of (f x):=rfl
variable (K) in
def SR (r:R2) (f:D→D→Option D):Prop:=∀F H x y dx dy d Q,Same F H→Top K F H dx x→Top K F H dy y→f dx dy=some d→(∀v F' H',Ext F H F' H'→Rep K F' d v→Q v H')→r x y H Q
variable (K) in
def SRo (r:R2) (f:D→D→Option D):Prop:=∀F H x y dx dy d Q,Same F H→Top K F H dx x→Top K F H dy y→f dx dy=some d→(∀p F' H',Ext F H F' H'→F' p=none→H p=none→Own K F' H' d p→Q (.ref p) H')→r x y H Q
theorem zao {r:R2} {f:D→D→Option D} (hr:SR K r f) (ha:SEr K XO E ta ma) (hb:SEr K XO E tb mb):SE K XO E (tOp r ta tb) (m2 f ma mb):=by
 intro Λ F0 H0 F H σ δ Q I a
 refine ha _ _ _ F H _ _ _ I (a.bind.imp fun dx F1 H1 e1 a1 x rx=>(hb _ _ _ _ _ _ _ _ (I.grow e1) (a1.bind.imp fun dy F2 H2 e2 a2 y ry=>?_)))
 cases q:f _ _ with
 | none=>rw[q] at a2;exact a2.elim
 | some d=>
  rw[q] at a2
  exact hr _ _ x y _ _ d Q e2.fh (rx.mono e2.ff e2.hh) ry q fun v F' H' e r=>a2 _ _ e v r
theorem zeK {r:R2} {f:D→D→Option D} (hr:SRo K r f) (ha:SEr K XO E ta ma) (hb:SEr K XO E tb mb):SEo K XO E (tOp r ta tb) (m2 f ma mb):=by
 intro Λ F0 H0 F H σ δ Q I a
 refine ha _ _ _ F H _ _ _ I (a.bind.imp fun dx F1 H1 e1 a1 x rx=>(hb _ _ _ _ _ _ _ _ (I.grow e1) (a1.bind.imp fun dy F2 H2 e2 a2 y ry=>?_)))
 cases q:f _ _ with
 | none=>rw[q] at a2;exact a2.elim
 | some d=>
  rw[q] at a2
  exact hr _ _ x y _ _ d Q e2.fh (rx.mono e2.ff e2.hh) ry q fun p F' H' e h0 h1 o=>a2 _ _ e p h0 (e1.hh.free (e2.hh.free h1)) o
variable (K) in
def SU (r:V→Hp→VK→Prop) (f:D→Option D):Prop:=∀F H x dx d Q,Same F H→Top K F H dx x→f dx=some d→(∀v F' H',Ext F H F' H'→Rep K F' d v→Q v H')→r x H Q
theorem zlY {r:V→Hp→VK→Prop} {f:D→Option D} (hr:SU K r f) (ha:SEr K XO E ta ma):SE K XO E (tUn r ta) (m1 f ma):=by
 intro Λ F0 H0 F H σ δ Q I a
 refine ha _ _ _ F H _ _ _ I (a.bind.imp fun dx F1 H1 e1 a1 x rx=>?_)
 cases q:f _ with
 | none=>rw[q] at a1;exact a1.elim
 | some d=>
  rw[q] at a1
  exact hr _ _ x _ d Q e1.fh rx q fun v F' H' e r=>a1 _ _ e v r
def mNil (_:En):R (List D):=.ok []
def zab (ma:En→R D) (mr:En→R (List D)) (δ:En):R (List D):=(ma δ).bind fun x=>(mr δ).bind fun l=>.ok (x::l)
theorem zak:SA K XO E tNil mNil:=fun Λ F0 H0 F H σ δ Q I a=>a F H (.refl I.same) _ .nil
theorem zac {tr:TA} {mr:En→R (List D)} (ha:SE K XO E ta ma) (hr:SA K XO E tr mr):SA K XO E (ze3 ta tr) (zab ma mr):=by
 intro Λ F0 H0 F H σ δ Q I a
 refine ha _ _ _ F H _ _ _ I (a.bind.imp fun dx F1 H1 e1 a1 x rx=>(hr _ _ _ _ _ _ _ _ (I.grow e1) (a1.bind.imp fun dy F2 H2 e2 a2 y ry=>?_)))
 exact a2 _ _ (.refl e2.fh) _ (.cons (Rep.mono e2.ff _ rx) ry)
theorem zbd:SAr K XO E tNil mNil:=fun Λ F0 H0 F H σ δ Q I a=>a F H (.refl I.same) _ .nil
theorem zaQ {tr:TA} {mr:En→R (List D)} (ha:SEr K XO E ta ma) (hr:SAr K XO E tr mr):SAr K XO E (ze3 ta tr) (zab ma mr):=by
 intro Λ F0 H0 F H σ δ Q I a
 refine ha _ _ _ F H _ _ _ I (a.bind.imp fun dx F1 H1 e1 a1 x rx=>(hr _ _ _ _ _ _ _ _ (I.grow e1) (a1.bind.imp fun dy F2 H2 e2 a2 y ry=>?_)))
 exact a2 _ _ (.refl e2.fh) _ (.cons (rx.mono e2.ff e2.hh) ry)
def mTup (ml:En→R (List D)) (δ:En):R D:=(ml δ).bind fun l=>ifC (l.length≤sizeLine) (.ok (.tup l)) .no
def mLst (ml:En→R (List D)) (δ:En):R D:=(ml δ).bind fun l=>ifC (l.length≤sizeLine) (.ok (.lst l)) .no
theorem zcj {tl:TA} {ml:En→R (List D)} (h:SA K XO E tl ml):SE K XO E (tTup tl) (mTup ml):=by
 intro Λ F0 H0 F H σ δ Q I a
 refine h _ _ _ F H _ _ _ I (a.bind.imp fun ds F1 H1 e1 a1 vs r=>?_)
 unfold ifC at a1
 split at a1
 ·exact⟨by rwa [r.length],fun p hp=>a1 _ _ (.new e1.fh hp) _ ⟨p,_,rfl,zaB,r.mono (Same.upd (e1.fh.free hp))⟩⟩
 ·exact a1.elim
theorem zbl {tl:TA} {ml:En→R (List D)} (h:SA K XO E tl ml):SEo K XO E (tLst tl) (mLst ml):=by
 intro Λ F0 H0 F H σ δ Q I a
 refine h _ _ _ F H _ _ _ I (a.bind.imp fun ds F1 H1 e1 a1 vs r=>?_)
 unfold ifC at a1
 split at a1
 ·refine⟨by rwa [r.length],fun p hp=>a1 _ _ (.newO e1.fh hp) _ (e1.fh.free hp) (e1.hh.free hp) ⟨_,zaB,r⟩⟩
 ·exact a1.elim
theorem zoO:SEo K XO E zpI (mC (.dct [] [])):=fun Λ F0 H0 F H σ δ Q I a p hp=>a F _ (.newO I.same hp) p (I.same.free hp) hp ⟨_,zaB,rfl,rfl⟩
def asB:D→Option Bool
 | .bl b=>some b
 | _=>none
def zaw (me:En→R D) (δ:En):R Bool:=(me δ).bind fun d=>R.of (asB d)
theorem zaV (h:SE K XO E te me):ST K XO E (zr6 te) (zaw me):=by
 intro Λ F0 H0 F H σ δ Q I a
 refine h _ _ _ F H _ _ _ I (a.bind.imp fun d F1 H1 e1 a1 v r=>?_)
 cases d with
 | bl b=>exact⟨b,r,a1 _ _ (.refl e1.fh)⟩
 | _=>exact a1.elim
theorem st_b (h:SE K XO E te me):ST K XO E (tB te) (zaw me):=zaV h
variable {tA tB':TT} {nA nB:En→R Bool}
def mAnd (nA nB:En→R Bool) (δ:En):R Bool:=(nA δ).bind fun b=>if b=true then nB δ else .ok false
def mOr (nA nB:En→R Bool) (δ:En):R Bool:=(nA δ).bind fun b=>if b=true then .ok true else nB δ
def mNot (nA:En→R Bool) (δ:En):R Bool:=(nA δ).bind fun b=>.ok (!b)
theorem zmD (h:ST K XO E tA nA) (h':ST K XO E tB' nB):ST K XO E (tAnd tA tB') (mAnd nA nB):=by
 intro Λ F0 H0 F H σ δ Q I a
 refine h _ _ _ F H _ _ _ I (a.bind.imp fun b F1 H1 e1 a1=>?_)
 cases b with
 | true=>exact h' _ _ _ _ _ _ _ _ (I.grow e1) a1
 | false=>exact a1 _ _ (.refl e1.fh)
theorem zkU (h:ST K XO E tA nA) (h':ST K XO E tB' nB):ST K XO E (tOr tA tB') (mOr nA nB):=by
 intro Λ F0 H0 F H σ δ Q I a
 refine h _ _ _ F H _ _ _ I (a.bind.imp fun b F1 H1 e1 a1=>?_)
 cases b with
 | false=>exact h' _ _ _ _ _ _ _ _ (I.grow e1) a1
 | true=>exact a1 _ _ (.refl e1.fh)
theorem znZ (h:ST K XO E tA nA):ST K XO E (tNot tA) (mNot nA):=fun Λ F0 H0 F H σ δ Q I a=>h _ _ _ F H _ _ _ I (a.bind.imp fun b F1 H1 e1 a1=>a1 _ _ (.refl e1.fh))
def zoK (ma mb:En→R D) (δ:En):R D:=(ma δ).bind fun d=>(R.of (asB d)).bind fun b=>if b=true then mb δ else .ok (.bl false)
def mOrV (ma mb:En→R D) (δ:En):R D:=(ma δ).bind fun d=>(R.of (asB d)).bind fun b=>if b=true then .ok (.bl true) else mb δ
def zgn (ma:En→R D) (δ:En):R D:=(ma δ).bind fun d=>(R.of (asB d)).bind fun b=>.ok (.bl (!b))
theorem zp7 (h:SE K XO E ta ma) (h':SE K XO E tb mb):SE K XO E (zrp ta tb) (zoK ma mb):=by
 intro Λ F0 H0 F H σ δ Q I a
 refine h _ _ _ F H _ _ _ I (a.bind.imp fun d F1 H1 e1 a1 v r=>?_)
 cases d with
 | bl b=>
  refine⟨b,r,?_⟩
  cases b with
  | true=>exact h' _ _ _ _ _ _ _ _ (I.grow e1) a1
  | false=>exact a1 _ _ (.refl e1.fh) _ rfl
 | _=>exact a1.elim
theorem zmT (h:SE K XO E ta ma) (h':SE K XO E tb mb):SE K XO E (tOrV ta tb) (mOrV ma mb):=by
 intro Λ F0 H0 F H σ δ Q I a
 refine h _ _ _ F H _ _ _ I (a.bind.imp fun d F1 H1 e1 a1 v r=>?_)
 cases d with
 | bl b=>
  refine⟨b,r,?_⟩
  cases b with
  | false=>exact h' _ _ _ _ _ _ _ _ (I.grow e1) a1
  | true=>exact a1 _ _ (.refl e1.fh) _ rfl
 | _=>exact a1.elim
theorem zoq (h:SE K XO E ta ma):SE K XO E (zr3 ta) (zgn ma):=by
 intro Λ F0 H0 F H σ δ Q I a
 refine h _ _ _ F H _ _ _ I (a.bind.imp fun d F1 H1 e1 a1 v r=>?_)
 cases d with
 | bl b=>
  exact⟨b,r,a1 _ _ (.refl e1.fh) _ rfl⟩
 | _=>exact a1.elim
def spM (K:Kx) (XO:XOT) (f:List D→R D):Sp:=fun vs H Q E=>∃F ds,Same F H∧RepL K F ds vs∧Aft (fun _=>E) XO [] F H (fun d F' H'=>∀v,Rep K F' d v→Q v H') (f ds)
def zaj (f:List D→R D) (ml:En→R (List D)) (δ:En):R D:=(ml δ).bind f
def R.nev {α:Type}:R α→R α
 | .ex _=>.no
 | r=>r
@[simp] theorem R.nev_ok {α:Type} (a:α):(R.ok a).nev=.ok a:=rfl
def zar (f:List D→R D) (ml:En→R (List D)) (δ:En):R D:=(ml δ).bind fun l=>(f l).nev
theorem Aft.any {α:Type} {E E':St→XK} {σ σ':St} {F H:Hp} {P:α→Hp→Hp→Prop} {r:R α} (h:Aft E XO σ F H P r.nev):Aft E' XO σ' F H P r:=by
 cases r with
 | no=>exact h
 | ok a=>exact h
 | ex x=>exact h.elim
theorem zat {f:List D→R D} {tl:TA} {ml:En→R (List D)} (h:SA K XO E tl ml):SE K XO E (zi9 (spM K XO f) E tl) (zaj f ml):=by
 intro Λ F0 H0 F H σ δ Q I a
 refine h _ _ _ F H _ _ _ I (a.bind.imp fun ds F1 H1 e1 a1 vs r=>⟨_,_,e1.fh,r,?_⟩)
 cases q:f _ with
 | no=>rwa [q] at a1
 | ok d=>rwa [q] at a1
 | ex x=>rwa [q] at a1
theorem zby {f:List D→R D} {tl:TA} {ml:En→R (List D)} {E':XK} (h:SA K XO E tl ml):SE K XO E (zlT (spM K XO f) [] E' tl) (zar f ml):=by
 intro Λ F0 H0 F H σ δ Q I a
 refine h _ _ _ F H _ _ _ I (a.bind.imp fun ds F1 H1 e1 a1 vs r=>⟨_,_,e1.fh,by simp_all,a1.any⟩)
variable (K) in
def SG (g:TG) (b:D→En→Option En):Prop:=∀Λ F0 H0 F H σ δ d v δ' Q,EnvOk K Λ F0 H0 F H σ δ→Rep K F d v→b d δ=some δ'→(∀σ',EnvOk K Λ F0 H0 F H σ' δ'→Q σ' H)→g v σ H Q
variable (K) in
def SGs (g:TGs) (b:List D→En→Option En):Prop:=∀Λ F0 H0 F H σ δ d v δ' Q,EnvOk K Λ F0 H0 F H σ δ→RepL K F d v→b d δ=some δ'→(∀σ',EnvOk K Λ F0 H0 F H σ' δ'→Q σ' H)→g v σ H Q
def zax (i:Nat) (d:D) (δ:En):Option En:=match δ[i]? with|none=>none|some (.l _)=>none|some _=>some (δ.set i (.v d))
def zbh (i:Nat) (d:D) (δ:En):Option En:=match δ[i]? with|some .no=>some (δ.set i (.v d))|_=>none
def bNil (l:List D) (δ:En):Option En:=match l with|[]=>some δ|_=>none
def zd4 (b:D→En→Option En) (c:List D→En→Option En) (l:List D) (δ:En):Option En:=match l with|d::r=>(b d δ).bind (c r)|[]=>none
def bTup (n:Nat) (c:List D→En→Option En) (d:D) (δ:En):Option En:=match d with|.tup l=>if l.length=n then c l δ else none|_=>none
def bLst (n:Nat) (c:List D→En→Option En) (d:D) (δ:En):Option En:=match d with|.lst l=>if l.length=n then c l δ else none|_=>none
theorem zau {i:Nat}:SG K (zkm i) (zax i):=by
 intro Λ F0 H0 F H σ δ d v δ' Q I r e q
 unfold zax at e
 split at e
 ·cases e
 ·cases e
 ·rename_i x h2 h1
  cases e
  exact q _ (I.put ⟨x,h1,fun d' z=>h2 _ (by rw[z])⟩ r)
theorem zca {i:Nat}:SG K (zkm i) (zbh i):=by
 intro Λ F0 H0 F H σ δ d v δ' Q I r e q
 unfold zbh at e
 split at e
 ·rename_i h1
  cases e
  exact q _ (I.put ⟨_,h1,fun d' z=>by cases z⟩ r)
 simp_all
theorem zgt:SGs K gNil bNil:=by
 intro Λ F0 H0 F H σ δ d v δ' Q I r e q
 cases d with
 | nil=>cases e;exact⟨r,q _ I⟩
 | cons x l=>cases e
theorem zcE {g:TG} {h:TGs} {b:D→En→Option En} {c:List D→En→Option En} (hg:SG K g b) (hh:SGs K h c):SGs K (zrS g h) (zd4 b c):=by
 intro Λ F0 H0 F H σ δ d v δ' Q I r e q
 cases d with
 | nil=>cases e
 | cons x l=>
  obtain⟨u,w,rfl,r1,r2⟩:=r
  change (b x _).bind _=some _ at e
  cases z:b x δ with
  | none=>simp_all
  | some δ1=>
   rw[z] at e
   exact⟨u,w,rfl,hg _ _ _ F H _ _ x u _ _ I r1 z fun σ1 I1=>hh _ _ _ F H _ _ l w _ Q I1 r2 e q⟩
theorem zjS {n:Nat} {h:TGs} {c:List D→En→Option En} (hh:SGs K h c):SG K (gTup K.f n h) (bTup n c):=by
 intro Λ F0 H0 F H σ δ d v δ' Q I r e q
 cases d with
 | tup l=>
  obtain⟨a,vs,rfl,h1,h2⟩:=r
  simp only[bTup] at e
  split at e
  ·exact⟨a,_,rfl,.inl (.inl (I.same _ _ h1)),by rwa [h2.length],hh _ _ _ F H _ _ l _ _ Q I h2 e q⟩
  simp_all
 | _=>cases e
theorem zrh {n:Nat} {h:TGs} {c:List D→En→Option En} (hh:SGs K h c):SG K (gLst K.f n h) (bLst n c):=by
 intro Λ F0 H0 F H σ δ d v δ' Q I r e q
 cases d with
 | lst l=>
  obtain⟨a,vs,rfl,h1,h2⟩:=r
  simp only[bLst] at e
  split at e
  ·exact⟨a,_,rfl,.inl (PM.Same.rdp I.same h1),by rwa [h2.length],hh _ _ _ F H _ _ l _ _ Q I h2 e q⟩
  simp_all
 | _=>cases e
def Weak (δ δ':En):Prop:=δ.length=δ'.length∧∀i:Nat,δ[i]?=some .no∨δ[i]?=δ'[i]?
theorem Weak.refl (δ:En):Weak δ δ:=⟨rfl,fun _=>.inr rfl⟩
theorem Weak.trans {a b c:En} (h:Weak a b) (h':Weak b c):Weak a c:=⟨h.1.trans h'.1,fun i=>by
 rcases h.2 i with z|z
 ·simp_all
 ·rcases h'.2 i with y|y
  ·grind
  grind⟩
def BW (b:D→En→Option En):Prop:=∀d δ δ',b d δ=some δ'→Weak δ δ'
def BWs (b:List D→En→Option En):Prop:=∀d δ δ',b d δ=some δ'→Weak δ δ'
theorem zcL {i:Nat}:BW (zbh i):=by
 intro d δ δ' e
 unfold zbh at e
 split at e
 ·cases e
  refine⟨by simp,fun j=>?_⟩
  by_cases h:i=j
  ·simp_all
  simp_all
 simp_all
theorem zkH:BWs bNil:=by
 intro d δ δ' e
 cases d with
 | nil=>cases e;exact .refl _
 | cons x l=>cases e
theorem zfg {b:D→En→Option En} {c:List D→En→Option En} (h:BW b) (h':BWs c):BWs (zd4 b c):=by
 intro d δ δ' e
 cases d with
 | nil=>cases e
 | cons x l=>
  change (b x _).bind _=some _ at e
  cases z:b x δ with
  | none=>simp_all
  | some δ1=>rw[z] at e;exact (h _ _ _ z).trans (h' _ _ _ e)
theorem zm7 {n:Nat} {c:List D→En→Option En} (h:BWs c):BW (bTup n c):=by
 intro d δ δ' e
 cases d with
 | tup l=>
  simp only[bTup] at e
  split at e
  ·exact h _ _ _ e
  simp_all
 | _=>cases e
variable (K) in
def IsIt (J:It) (P:Hp→Hp→Prop) (ds:List D):Prop:=∀F2 H2,P F2 H2→∀i:Nat,(∀d,ds[i]?=some d→J.go i H2∧∀x H',J.yld i H2 x H'→∃F3,Ext F2 H2 F3 H'∧Rep K F3 d x)∧(ds[i]?=none→J.stop i H2)
variable (K XO E) in
def SI (wi:TI) (m:En→R (List D)):Prop:=∀Λ F0 H0 F H σ δ R,EnvOk K Λ F0 H0 F H σ δ→Aft E XO σ F H (fun ds F1 H1=>∀J,IsIt K J (fun F2 H2=>Same F1 F2∧Same F2 H2) ds→R J H1) (m δ)→wi σ H R
variable (K XO E) in
def SIc (wi:TI) (m:En→R (List D)):Prop:=∀Λ F0 H0 F H σ δ R,EnvOk K Λ F0 H0 F H σ δ→Aft E XO σ F H (fun ds F1 H1=>∀J,IsIt K J (fun F2 H2=>Ext F1 H1 F2 H2) ds→R J H1) (m δ)→wi σ H R
theorem SI.c {wi:TI} {m:En→R (List D)} (h:SI K XO E wi m):SIc K XO E wi m:=fun Λ F0 H0 F H σ δ R I a=>h _ _ _ F H _ _ R I (a.imp fun ds F1 H1 e p J hJ=>p J fun F2 H2 x=>hJ _ _ ⟨x.ff,x.fh⟩)
def asL:D→Option (List D)
 | .lst l=>some l
 | .scr l=>some (l.map .int)
 | _=>none
def mItL (ml:En→R D) (δ:En):R (List D):=(ml δ).bind fun d=>R.of (asL d)
theorem zfV {a:Addr} {ds:List D} {vs:List V} {F1:Hp} {P:Hp→Hp→Prop} (r:RepL K F1 ds vs) (h:∀F2 H2,P F2 H2→Same F1 F2∧Same F2 H2∧SqL K.f H2 a vs):IsIt K (Itl K.f a) P ds:=by
 intro F2 H2 p i
 obtain⟨s1,s2,q⟩:=h _ _ p
 refine⟨fun d hd=>?_,fun hn=>?_⟩
 ·obtain⟨v,hv,rv⟩:=r.get hd
  refine⟨⟨_,v,q,hv⟩,fun x H' y=>?_⟩
  obtain⟨rfl,y⟩:=y
  have z:=y _ q
  rw[hv] at z;cases z
  exact⟨_,.refl s2,Rep.mono s1 _ rv⟩
 ·exact⟨_,q,by rw[r.length];simp_all⟩
theorem zhl (h:SE K XO E te me):SI K XO E (zqi K.f te) (mItL me):=by
 intro Λ F0 H0 F H σ δ R I a
 refine h _ _ _ F H _ _ _ I (a.bind.imp fun d F1 H1 e1 a1 v r=>?_)
 cases d with
 | lst l=>
  obtain⟨a,vs,rfl,h1,h2⟩:=r
  exact⟨a,rfl,⟨_,.inl (PM.Same.rdp e1.fh h1)⟩,a1 _ _ (.refl e1.fh) _ (zfV h2 fun F2 H2 x=>⟨x.1,x.2,.inl (PM.Same.rd x.2 (PM.Same.rdp x.1 h1))⟩)⟩
 | scr l=>
  obtain⟨a,rfl,h1⟩:=r
  exact⟨a,rfl,⟨_,e1.fh.seq h1⟩,a1 _ _ (.refl e1.fh) _ (zfV .ints fun F2 H2 x=>⟨x.1,x.2,x.2.seq (x.1.seq h1)⟩)⟩
 | _=>exact a1.elim
theorem zcR (h:SEr K XO E te me):SIc K XO E (zqi K.f te) (mItL me):=by
 intro Λ F0 H0 F H σ δ R I a
 refine h _ _ _ F H _ _ _ I (a.bind.imp fun d F1 H1 e1 a1 v r=>?_)
 cases d with
 | lst l=>
  obtain⟨a,vs,rfl,h1,h2⟩:=r
  exact⟨a,rfl,⟨_,.inl h1⟩,a1 _ _ (.refl e1.fh) _ (zfV h2 fun F2 H2 x=>⟨x.ff,x.fh,.inl (PM.Same.rd x.hh h1)⟩)⟩
 | scr l=>
  obtain⟨a,rfl,h1⟩:=r
  exact⟨a,rfl,⟨_,e1.fh.seq h1⟩,a1 _ _ (.refl e1.fh) _ (zfV .ints fun F2 H2 x=>⟨x.ff,x.fh,x.fh.seq (x.ff.seq h1)⟩)⟩
 | _=>exact a1.elim
def zfT (lo:Int) (n:Nat):List D:=(List.range n).map fun (k:Nat)=>D.int (lo+(k:Int))
theorem zie {lo:Int} {n:Nat} {P:Hp→Hp→Prop} (h:∀F2 H2,P F2 H2→Same F2 H2):IsIt K (Itr lo n) P (zfT lo n):=by
 intro F2 H2 p i
 unfold zfT
 rw[List.getElem?_map]
 have er:(List.range n)[i]?=if i<n then some i else none:=by
  grind
 rw[er]
 refine⟨fun d hd=>?_,fun hn=>?_⟩
 ·by_cases hi:i<n
  ·rw[if_pos hi] at hd
   cases hd
   refine⟨hi,fun x H' y=>?_⟩
   obtain⟨rfl,rfl⟩:=y
   exact⟨_,.refl (h _ _ p),rfl⟩
  grind
 ·by_cases hi:i<n
  ·rw[if_pos hi] at hn;cases hn
  ·exact Nat.le_of_not_lt hi
def rng (l:List D):Option (List D):=match l with
 | [.int j]=>ifC (-(2 ^ 62)≤j∧j<2 ^ 62) (some (zfT 0 j.toNat)) none
 | [.int i,.int j]=>ifC (-(2 ^ 62)≤i∧i<2 ^ 62∧-(2 ^ 62)≤j∧j<2 ^ 62) (some (zfT i (j - i).toNat)) none
 | _=>none
def mRng (ml:En→R (List D)) (δ:En):R (List D):=(ml δ).bind fun l=>R.of (rng l)
theorem RepL.one {F:Hp} {d:D} {vs:List V} (r:RepL K F [d] vs):∃v,vs=[v]∧Rep K F d v:=by
 simp[RepL] at r
 simp_all
theorem RepL.two {F:Hp} {d e:D} {vs:List V} (r:RepL K F [d,e] vs):∃v u,vs=[v,u]∧Rep K F d v∧Rep K F e u:=by
 simp[RepL] at r
 grind
theorem zdR {tl:TA} {ml:En→R (List D)} (hn:∀δ l,ml δ=.ok l→l.length=1) (h:SA K XO E tl ml):SI K XO E (zsf tl) (mRng ml):=by
 intro Λ F0 H0 F H σ δ R I a
 unfold mRng at a
 cases hm:ml _ with
 | no=>rw[hm] at a;exact a.elim
 | ex x=>refine h _ _ _ F H _ _ _ I ?_;rwa [hm] at a ⊢
 | ok l=>
  refine h _ _ _ F H _ _ _ I ?_
  rw[hm] at a ⊢
  intro F1 H1 e1 vs r
  match l,(hn _ l hm) with
  | [d],_=>
   obtain⟨v,rfl,rv⟩:=r.one
   have a1:=Aft.mono e1 a
   cases d with
   | int j=>
    subst rv
    change Aft E _ _ _ _ _ (PM.R.of (ifC _ _ _)) at a1
    by_cases hj : -(2 ^ 62)≤j∧j<2 ^ 62
    ·rw[za3 hj] at a1
     exact⟨j,rfl,hj.1,hj.2,a1 _ _ (.refl e1.fh) _ (zie fun F2 H2 x=>x.2)⟩
    ·rw[znO hj] at a1;exact a1.elim
   | _=>exact a1.elim
theorem zfW {tl:TA} {ml:En→R (List D)} (hn:∀δ l,ml δ=.ok l→l.length=2) (h:SA K XO E tl ml):SI K XO E (zsE tl) (mRng ml):=by
 intro Λ F0 H0 F H σ δ R I a
 unfold mRng at a
 cases hm:ml _ with
 | no=>rw[hm] at a;exact a.elim
 | ex x=>refine h _ _ _ F H _ _ _ I ?_;rwa [hm] at a ⊢
 | ok l=>
  refine h _ _ _ F H _ _ _ I ?_
  rw[hm] at a ⊢
  intro F1 H1 e1 vs r
  match l,(hn _ l hm) with
  | [d,d'],_=>
   obtain⟨v,u,rfl,rv,ru⟩:=r.two
   have a1:=Aft.mono e1 a
   cases d with
   | int i=>
    cases d' with
    | int j=>
     subst rv ru
     change Aft E _ _ _ _ _ (PM.R.of (ifC _ _ _)) at a1
     by_cases hj : -(2 ^ 62)≤i∧i<2 ^ 62∧-(2 ^ 62)≤j∧j<2 ^ 62
     ·rw[za3 hj] at a1
      exact⟨i,j,rfl,hj,a1 _ _ (.refl e1.fh) _ (zie fun F2 H2 x=>x.2)⟩
     ·rw[znO hj] at a1;exact a1.elim
    | _=>exact a1.elim
   | _=>exact a1.elim
theorem len1 {ma:En→R D}:∀δ l,zab ma mNil δ=.ok l→l.length=1:=by
 intro δ l h
 unfold zab mNil at h
 cases e:ma _ with
 | ok d=>rw[e] at h;cases h;rfl
 | no=>simp_all
 | ex x=>simp_all
theorem len2 {ma mb:En→R D}:∀δ l,zab ma (zab mb mNil) δ=.ok l→l.length=2:=by
 intro δ l h
 unfold zab mNil at h
 cases e:ma _ with
 | ok d=>
  rw[e] at h
  cases e2:mb _ with
  | ok d=>rw[e2] at h;cases h;rfl
  | no=>simp_all
  | ex x=>rw[e2] at h;cases h
 | no=>simp_all
 | ex x=>simp_all
def zhS (l:List D):List D:=l.mapIdx fun i d=>.tup [.int i,d]
theorem zox {a:Addr} {ds:List D} {vs:List V} {F1:Hp} {P:Hp→Hp→Prop} (r:RepL K F1 ds vs) (h:∀F2 H2,P F2 H2→Same F1 F2∧Same F2 H2∧SqL K.f H2 a vs):IsIt K (Ite K.f a) P (zhS ds):=by
 intro F2 H2 p i
 obtain⟨s1,s2,q⟩:=h _ _ p
 unfold zhS
 rw[List.getElem?_mapIdx]
 refine⟨fun d hd=>?_,fun hn=>?_⟩
 ·cases e:ds[i]? with
  | none=>simp_all
  | some x=>
   rw[e] at hd
   cases hd
   obtain⟨v,hv,rv⟩:=r.get e
   refine⟨⟨_,v,q,hv⟩,fun x' H' y=>?_⟩
   obtain⟨p',y',rfl,hp,rfl,y⟩:=y
   have z:=y _ q
   rw[hv] at z;cases z
   exact⟨_,.new s2 hp,⟨_,_,rfl,zaB,.cons rfl (.cons (Rep.mono (s1.trans (Same.upd (s2.free hp))) _ rv) .nil)⟩⟩
 ·cases e:ds[i]? with
  | none=>exact⟨_,q,by rw[r.length];simp_all⟩
  | some x=>simp_all
def asL':D→Option (List D)
 | .lst l=>some l
 | _=>none
def zoW:List D→Option (List D)
 | [d]=>(asL' d).map zhS
 | _=>none
def zku (ml:En→R (List D)) (δ:En):R (List D):=(ml δ).bind fun l=>R.of (zoW l)
theorem zmr {l r:List D} (h:zoW l=some r):∃x,l=[.lst x]∧r=zhS x:=by
 cases l with
 | nil=>cases h
 | cons d t=>
  cases t with
  | cons _ _=>cases h
  | nil=>
   cases d with
   | lst x=>cases h;simp
   | _=>cases h
theorem zni {tl:TA} {ml:En→R (List D)} (h:SA K XO E tl ml):SI K XO E (zre K.f tl) (zku ml):=by
 intro Λ F0 H0 F H σ δ R I a
 refine h _ _ _ F H _ _ _ I (a.bind.imp fun ds F1 H1 e1 a1 vs r=>?_)
 cases q:zoW _ with
 | none=>rw[q] at a1;exact a1.elim
 | some z=>
  obtain⟨l,rfl,rfl⟩:=zmr q
  obtain⟨v,rfl,r'⟩:=RepL.one r
  obtain⟨a,vs,rfl,h1,h2⟩:=r'
  exact⟨a,rfl,⟨_,.inl (PM.Same.rdp e1.fh h1)⟩,a1 _ _ (.refl e1.fh) _ (zox h2 fun F2 H2 x=>⟨x.1,x.2,.inl (PM.Same.rd x.2 (PM.Same.rdp x.1 h1))⟩)⟩
end
section
variable (K:Kx) (XO:XOT) (E:St→XK)
def AftS (Λ:List (Nat×Addr×HO)) (F0 H0:Hp) (Dn:Ends):O→Prop
 | .no=>False
 | .nx δ=>∀σ F H,EnvOk K Λ F0 H0 F H σ δ→Dn.nx σ H
 | .bk δ=>∀σ F H,EnvOk K Λ F0 H0 F H σ δ→Dn.bk σ H
 | .ct δ=>∀σ F H,EnvOk K Λ F0 H0 F H σ δ→Dn.ct σ H
 | .rt d=>∀v F H,Ext F0 H0 F H→Rep K F d v→Dn.rt v H
 | .ro d=>∀p F H,Ext F0 H0 F H→F p=none→H0 p=none→Own K F H d p→Dn.rt (.ref p) H
 | .ex δ x=>∀σ F H C dct,EnvOk K Λ F0 H0 F H σ δ→XO x F H C dct→E σ C dct H
def SS (t:TS) (m:En→O):Prop:=∀Λ F0 H0 F H σ δ Dn,EnvOk K Λ F0 H0 F H σ δ→AftS K XO E Λ F0 H0 Dn (m δ)→t Dn σ H
end
def R.toO {α:Type} (r:R α) (δ:En) (f:α→O):O:=match r with|.no=>.no|.ok a=>f a|.ex x=>.ex δ x
@[simp] theorem R.toO_ok {α:Type} (a:α) (δ:En) (f:α→O):(R.ok a).toO δ f=f a:=rfl
@[simp] theorem R.toO_no {α:Type} (δ:En) (f:α→O):(R.no:R α).toO δ f=.no:=rfl
@[simp] theorem R.toO_ex {α:Type} (x:Xc) (δ:En) (f:α→O):(R.ex x:R α).toO δ f=.ex δ x:=rfl
section
variable {K:Kx} {XO:XOT} {E:St→XK} {ta tb te:TE} {ma mb me:En→R D} {t u:TS} {m n:En→O} {Λ:List (Nat×Addr×HO)} {F0 H0 F H F1 H1:Hp} {σ:St} {δ:En} {Dn:Ends}
theorem AftS.of {α:Type} {r:R α} {f:α→O} (I:EnvOk K Λ F0 H0 F H σ δ) (a:AftS K XO E Λ F0 H0 Dn (r.toO δ f)):Aft E XO σ F H (fun a _ _=>AftS K XO E Λ F0 H0 Dn (f a)) r:=by
 cases r with
 | no=>exact a
 | ok b=>exact fun _ _ _=>a
 | ex x=>exact fun C dct F' H' e h=>a _ _ _ C _ (I.grow e) h
theorem AftS.up (e:Ext F0 H0 F1 H1):∀ {o:O},AftS K XO E Λ F0 H0 Dn o→AftS K XO E Λ F1 H0 Dn o
 | .no,h=>h
 | .nx _,h=>fun σ F H I=>h _ F H (I.down e)
 | .bk _,h=>fun σ F H I=>h _ F H (I.down e)
 | .ct _,h=>fun σ F H I=>h _ F H (I.down e)
 | .rt _,h=>fun v F H x=>h v F H (e.base x)
 | .ro _,h=>fun p F H x=>h p F H (e.base x)
 | .ex _ _,h=>fun σ F H C d I=>h _ F H C d (I.down e)
def zbi (δ:En):O:=.nx δ
def mSeq (m n:En→O) (δ:En):O:=match m δ with|.nx δ'=>n δ'|r=>r
theorem za1:SS K XO E zrQ zbi:=fun Λ F0 H0 F H σ δ Dn I a=>a _ F H I
theorem zam (h:SS K XO E t m) (h':SS K XO E u n):SS K XO E (tSeq t u) (mSeq m n):=by
 intro Λ F0 H0 F H σ δ Dn I a
 refine h _ _ _ F H _ _ _ I ?_
 unfold mSeq at a
 cases q:m _ with
 | no=>rwa [q] at a
 | nx δ'=>rw[q] at a;exact fun σ' F' H' I'=>h' _ _ _ _ _ _ _ _ I' a
 | rt d=>rwa [q] at a
 | ro d=>rwa [q] at a
 | bk δ'=>rwa [q] at a
 | ct δ'=>rwa [q] at a
 | ex δ' x=>rwa [q] at a
theorem zlA:SS K XO E zpS (fun _=>.no):=fun Λ F0 H0 F H σ δ Dn I a=>a
def mRet (me:En→R D) (δ:En):O:=(me δ).toO δ .rt
theorem za9 (h:SE K XO E te me):SS K XO E (tRet te) (mRet me):=fun Λ F0 H0 F H σ δ Dn I a=>h _ _ _ F H _ _ _ I ((AftS.of I a).imp fun d F1 H1 e p v r=>p v _ _ (I.ext.trans e) r)
def zdX (me:En→R D) (δ:En):O:=(me δ).toO δ .ro
theorem zdq (h:SEo K XO E te me):SS K XO E (tRet te) (zdX me):=fun Λ F0 H0 F H σ δ Dn I a=>h _ _ _ F H _ _ _ I ((AftS.of I a).imp fun d F1 H1 e p v h0 h1 o=>p v _ _ (I.ext.trans e) h0 (I.ext.hh.free h1) o)
def zrb (i:Nat) (δ:En):O:=match δ[i]? with|some (.o d)=>.ro d|_=>.no
theorem zqf {i:Nat}:SS K XO E (tRet (tVar i)) (zrb i):=by
 intro Λ F0 H0 F H σ δ Dn I a
 unfold zrb at a
 split at a
 ·rename_i d q
  have z:=I.slot i
  rw[q] at z
  obtain⟨p,z1,z2,z3,z4⟩:=z
  exact⟨_,z1,a p F H I.ext z3 z2 z4⟩
 ·exact a.elim
def mDo (me:En→R D) (δ:En):O:=(me δ).toO δ fun _=>.nx δ
theorem zbc (h:SE K XO E te me):SS K XO E (zpC te) (mDo me):=fun Λ F0 H0 F H σ δ Dn I a=>h _ _ _ F H _ _ _ I ((AftS.of I a).imp fun d F1 H1 e p v r=>p _ _ _ (I.grow e))
def mIfS (n:En→R Bool) (m m':En→O) (δ:En):O:=(n δ).toO δ fun b=>if b=true then m δ else m' δ
theorem zb8 {tc:TT} {nc:En→R Bool} (h:ST K XO E tc nc) (ha:SS K XO E t m) (hb:SS K XO E u n):SS K XO E (tIfS tc t u) (mIfS nc m n):=by
 intro Λ F0 H0 F H σ δ Dn I a
 refine h _ _ _ F H _ _ _ I ((AftS.of I a).imp fun b F1 H1 e p=>?_)
 cases b with
 | true=>exact ha _ _ _ _ _ _ _ _ (I.grow e) p
 | false=>exact hb _ _ _ _ _ _ _ _ (I.grow e) p
def O.of:Option En→O
 | some δ=>.nx δ
 | none=>.no
@[simp] theorem O.of_some (δ:En):O.of (some δ)=.nx δ:=rfl
@[simp] theorem O.of_none:O.of none=.no:=rfl
def mAsg (me:En→R D) (b:D→En→Option En) (δ:En):O:=(me δ).toO δ fun d=>O.of (b d δ)
theorem zaR {g:TG} {b:D→En→Option En} (h:SE K XO E te me) (hg:SG K g b):SS K XO E (tAsg te g) (mAsg me b):=by
 intro Λ F0 H0 F H σ δ Dn I a
 refine h _ _ _ F H _ _ _ I ((AftS.of I a).imp fun d F1 H1 e p v r=>?_)
 cases q:b d _ with
 | none=>rw[q] at p;exact p.elim
 | some δ'=>rw[q] at p;exact hg _ _ _ _ _ _ _ d v _ _ (I.grow e) r q fun σ' I'=>p _ _ _ I'
def bNew (i:Nat) (d:D) (δ:En):Option En:=match δ[i]? with|none=>none|some (.l _)=>none|some _=>some (δ.set i (.o d))
theorem zfp {i:Nat} (h:SEo K XO E te me):SS K XO E (tAsg te (zkm i)) (mAsg me (bNew i)):=by
 intro Λ F0 H0 F H σ δ Dn I a
 refine h _ _ _ F H _ _ _ I ((AftS.of I a).imp fun d F1 H1 e p v h0 h1 o=>?_)
 unfold bNew at p
 split at p
 ·exact p.elim
 ·exact p.elim
 ·rename_i x h3 h2
  exact p _ _ _ (I.putO ⟨x,h2,fun d' z=>h3 _ (by rw[z])⟩ e h0 h1 o)
def mFrz (i:Nat) (m:En→O) (δ:En):O:=match δ[i]? with|some (.o d)=>m (δ.set i (.v d))|some (.v _)=>m δ|_=>.no
theorem zla {i:Nat} (h:SS K XO E t m):SS K XO E t (mFrz i m):=by
 intro Λ F0 H0 F H σ δ Dn I a
 unfold mFrz at a
 split at a
 ·rename_i d q
  obtain⟨F',_,I'⟩:=I.frz q
  exact h _ _ _ _ H _ _ _ I' a
 ·exact h _ _ _ F H _ _ _ I a
 ·exact a.elim
def zek (b:D→En→Option En) (m:En→O):List D→En→O
 | [],δ=>.nx δ
 | d::l,δ=>match b d δ with
  | none=>.no
  | some δ1=>match m δ1 with
   | .nx δ2=>zek b m l δ2
   | .ct δ2=>zek b m l δ2
   | .bk δ2=>.nx δ2
   | r=>r
def mFor (mi:En→R (List D)) (b:D→En→Option En) (m:En→O) (δ:En):O:=(mi δ).toO δ fun l=>zek b m l δ
theorem zqU {J:It} {P:Hp→Hp→Prop} {g:TG} {b:D→En→Option En} {ds:List D} (hJ:IsIt K J P ds) (hP:∀σ δ F H,EnvOk K Λ F0 H0 F H σ δ→P F H) (hg:SG K g b) (hb:SS K XO E t m) (I:EnvOk K Λ F0 H0 F H σ δ)
  (a:AftS K XO E Λ F0 H0 Dn (zek b m ds δ)):∃W:Nat→Nat→St→Hp→Prop,(∃k,W 0 k σ H)∧∀i k σ H,W i k σ H →
   (J.stop i H∧Dn.nx σ H)∨(J.go i H∧∃N:St→Hp→Prop,(∀σ' H',N σ' H'→∃k',k'<k∧W (i+1) k' σ' H')∧∀x H',J.yld i H x H'→g x σ H' fun σ2 H2=>t { Dn with nx:=N,ct:=N,bk:=Dn.nx } σ2 H2):=by
 let W:=fun i k σ H=>∃F δ,EnvOk K Λ F0 H0 F H σ δ∧k=ds.length - i∧i≤ds.length∧AftS K XO E Λ F0 H0 Dn (zek b m (ds.drop i) δ)
 refine⟨W,⟨_,F,_,I,rfl,Nat.zero_le _,a⟩,?_⟩
 rintro i k σ H ⟨F,δ,I,rfl,hi,a⟩
 have hP':=hP _ _ F H I
 by_cases hlt:i<ds.length
 ·obtain⟨h1,h2⟩:=(hJ F H hP' i).1 ds[i] (by simp)
  refine .inr ⟨h1,W _ (ds.length - (i+1)),fun σ' H' w=>⟨_,by omega,w⟩,fun x H' y=>?_⟩
  obtain⟨F3,e3,r⟩:=h2 x _ y
  rw[(List.drop_eq_getElem_cons hlt)] at a
  unfold zek at a
  cases q:b _ _ with
  | none=>rw[q] at a;exact a.elim
  | some δ1=>
   rw[q] at a
   refine hg _ _ _ _ _ _ _ _ x _ _ (I.grow e3) r q fun σ1 I1=>hb _ _ _ _ _ _ _ _ I1 ?_
   cases q2:m _ with
   | no=>simp[q2] at a;exact a
   | nx δ2=>simp[q2] at a;exact fun σ' F' H' I'=>⟨_,_,I',rfl,hlt,a⟩
   | ct δ2=>simp[q2] at a;exact fun σ' F' H' I'=>⟨_,_,I',rfl,hlt,a⟩
   | bk δ2=>simp[q2] at a;exact a
   | rt d=>simp[q2] at a;exact a
   | ro d=>simp[q2] at a;exact a
   | ex δ' x=>simp[q2] at a;exact a
 ·have e:i=ds.length:=by omega
  subst e
  rw[List.drop_length] at a
  exact .inl ⟨(hJ F H hP' _).2 (by simp),a _ F H I⟩
theorem zc4 {wi:TI} {mi:En→R (List D)} {g:TG} {b:D→En→Option En} (hi:SI K XO E wi mi) (hg:SG K g b) (hb:SS K XO E t m):SS K XO E (tFor wi g t) (mFor mi b m):=by
 intro Λ F0 H0 F H σ δ Dn I a
 refine hi _ _ _ F H _ _ _ I ((AftS.of I a).imp fun ds F1 H1 e p J hJ=>?_)
 have I1:=I.grow e
 exact zqU hJ (fun σ δ F H I=>⟨I.ext.ff,I.ext.fh⟩) hg hb I1.up (p.up I1.ext)
def zgd (c:En→R Bool) (m:En→O):Nat→En→O
 | 0,_=>.no
 | n+1,δ=>(c δ).toO δ fun b=>if b=true then (match m δ with|.nx δ2=>zgd c m n δ2|.ct δ2=>zgd c m n δ2|.bk δ2=>.nx δ2|r=>r) else .nx δ
open Classical in
def zid (c:En→R Bool) (m:En→O) (δ:En):O:=if h:∃n,zgd c m n δ≠.no then zgd c m (choose h) δ else .no
theorem zpE {tc:TT} {nc:En→R Bool} (hc:ST K XO E tc nc) (hb:SS K XO E t m):SS K XO E (zp1 tc t) (zid nc m):=by
 intro Λ F0 H0 F H σ δ Dn I a
 unfold zid at a
 split at a
 ·refine⟨fun k σ H=>∃F δ,EnvOk K _ _ _ F H σ δ∧AftS K _ E _ _ _ _ (zgd _ m k δ),⟨_,F,_,I,a⟩,?_⟩
  rintro k σ H ⟨F,δ,I,a⟩
  cases k with
  | zero=>exact a.elim
  | succ k=>
   refine hc _ _ _ F H _ _ _ I ((AftS.of I a).imp fun b F1 H1 e p=>?_)
   cases b with
   | false=>exact p _ _ _ (I.grow e)
   | true=>
    refine⟨_,fun σ' H' w=>⟨k,Nat.lt_succ_self _,w⟩,hb _ _ _ _ _ _ _ _ (I.grow e) ?_⟩
    cases q2:m _ with
    | no=>simp[q2] at p;exact p
    | nx δ2=>simp[q2] at p;exact fun σ' F' H' I'=>⟨_,_,I',p⟩
    | ct δ2=>simp[q2] at p;exact fun σ' F' H' I'=>⟨_,_,I',p⟩
    | bk δ2=>simp[q2] at p;exact p
    | rt d=>simp[q2] at p;exact p
    | ro d=>simp[q2] at p;exact p
    | ex δ' x=>simp[q2] at p;exact p
 ·exact a.elim
end
def asK:D→Option Key
 | .int i=>some (.inl i)
 | .str x=>some (.inr x)
 | _=>none
def getK (ks:List Key) (l:List D) (k:Key):Option D:=match ks,l with
 | a::r,d::t=>if a=k then some d else getK r t k
 | _,_=>none
def putL (ks:List Key) (l:List D) (k:Key) (x:D):List D:=match ks,l with
 | a::r,d::t=>(if a=k then x else d)::putL r t k x
 | _,t=>t
def putD (ks:List Key) (l:List D) (k:Key) (x:D):D:=if ks.any (fun a=>decide (a=k))=true then .dct ks (putL ks l k x) else .dct (ks++[k]) (l++[x])
def zpn (ks:List Key) (l:List D) (k:Key):List D:=match ks,l with
 | a::r,d::t=>if a=k then zpn r t k else d::zpn r t k
 | _,t=>t
def zqJ (ks:List Key) (l:List D) (k:Key):D:=.dct (ks.filter fun a=>decide (a≠k)) (zpn ks l k)
section
variable {K:Kx} {F H:Hp}
theorem zoy {d:D} {v:V} {k:Key} (h:asK d=some k) (r:Rep K F d v):v=kV k:=by
 cases d with
 | int i=>cases h;exact r
 | str i=>cases h;exact r
 | _=>cases h
theorem zpX {k:Key}:∀ {kvs:List (Key×V)} {ks:List Key} {l:List D},kvs.map (·.1)=ks→RepL K F l (kvs.map (·.2)) →
  (∀d,getK ks l k=some d→∃v,valV kvs k=some v∧Rep K F d v)∧(getK ks l k=none→valV kvs k=none)
 | [],ks,l,h1,h2=>by
  subst h1
  refine⟨fun d h=>?_,fun _=>rfl⟩
  simp[getK] at h
 | (a,v)::kvs,ks,l,h1,h2=>by
  subst h1
  cases l with
  | nil=>simp[RepL] at h2
  | cons d t=>
   obtain⟨v',r,e,h3,h4⟩:=h2
   cases e
   have ih:=zpX (k:=k) rfl h4
   simp[getK]
   by_cases hk:a=k
   ·rw[if_pos hk]
    refine⟨fun d' e=>?_,fun e=>by cases e⟩
    cases e
    exact⟨v,by simp[valV,hk],h3⟩
   ·have e:valV ((a,v)::kvs) k=valV kvs k:=by simp[valV,hk]
    simp_all
theorem znm {k:Key} {x:D} {u:V} (hu:Rep K F x u):∀ {kvs:List (Key×V)} {ks:List Key} {l:List D},kvs.map (·.1)=ks→RepL K F l (kvs.map (·.2)) →
  RepL K F (putL ks l k x) ((kvs.map (fun kv=>if kv.1=k then (kv.1,u) else kv)).map (·.2))
 | [],ks,l,h1,h2=>by
  subst h1
  cases l with
  | nil=>rfl
  | cons d t=>simp[RepL] at h2
 | (a,v)::kvs,ks,l,h1,h2=>by
  subst h1
  cases l with
  | nil=>simp[RepL] at h2
  | cons d t=>
   obtain⟨v',r,e,h3,h4⟩:=h2
   cases e
   refine .cons ?_ (znm hu rfl h4)
   by_cases hk:a=k
   ·simp_all
   simp_all
theorem zrm {k:Key} {x:D} {u:V} {a:Addr} (hu:Rep K F x u) {kvs:List (Key×V)} {ks:List Key} {l:List D} (h1:kvs.map (·.1)=ks) (h2:RepL K F l (kvs.map (·.2))):Own K F (upd H a (.dK (putK kvs k u))) (putD ks l k x) a:=by
 have e:ks.any (fun a=>decide (a=k))=kvs.any (fun kv=>decide (kv.1=k)):=by rw[← h1,List.any_map];rfl
 unfold putD putK
 rw[e]
 split
 ·refine⟨_,zaB,?_,znm hu h1 h2⟩
  rw[← h1,List.map_map]
  refine List.map_congr_left fun kv _=>?_
  grind
 ·exact⟨_,zaB,by rw[List.map_append,h1];rfl,by rw[List.map_append];exact h2.append (.cons hu .nil)⟩
end
section
variable {K:Kx} {XO:XOT} {E:St→XK} {ta tb te ty td:TE} {ma mb me my md:En→R D} {t u:TS} {m n:En→O} {Λ:List (Nat×Addr×HO)} {F0 H0 F H F1 H1:Hp} {σ:St} {δ:En} {Dn:Ends}
theorem EnvOk.own {i:Nat} {d:D} (I:EnvOk K Λ F0 H0 F H σ δ) (hx:δ[i]?=some (.o d)):∃a,σ[i]?=some (some (.ref a))∧Own K F H d a:=by
 have z:=I.slot i
 rw[hx] at z
 obtain⟨a,z1,z2,z3,z4⟩:=z
 simp_all
def zbO (i:Nat) (me:En→R D) (δ:En):O:=match δ[i]? with
 | some (.o (.lst l))=>(me δ).toO δ fun d=>ifC (l.length<sizeLine) (.nx (δ.set i (.o (.lst (l++[d]))))) .no
 | _=>.no
theorem zeX {i:Nat} (h:SE K XO E te me):SS K XO E (zpC (tBM K.f "list" zmN (tVar i) (ze3 te tNil))) (zbO i me):=by
 intro Λ F0 H0 F H σ δ Dn I a
 unfold zbO at a
 split at a
 ·rename_i l q
  obtain⟨p,s1,vs,s2,s3⟩:=I.own q
  refine⟨_,s1,.inl ⟨rfl,_,.inl (.inl s2)⟩,(h _ _ _ F H _ _ _ I ((AftS.of I a).imp fun d F1 H1 e c v r=>?_))⟩
  unfold ifC at c
  split at c
  ·exact⟨p,_,v,rfl,rfl,e.hh _ _ s2,by rwa [s3.length],c _ _ _ ((I.grow e).chg q s1 ⟨_,zaB,(s3.mono e.ff).append (.cons r .nil)⟩)⟩
  ·exact c.elim
 ·exact a.elim
def zoP (i:Nat) (mi me:En→R D) (δ:En):O:=match δ[i]? with
 | some (.o (.lst l))=>(me δ).toO δ fun d=>(mi δ).toO δ fun k=>match k with
  | .int k=>(match ixN l.length k with|some j=>.nx (δ.set i (.o (.lst (l.set j d))))|none=>.no)
  | _=>.no
 | _=>.no
theorem zqt {i:Nat} {ti:TE} {mi:En→R D} (hi:SE K XO E ti mi) (h:SE K XO E te me):SS K XO E (tAsg te (gSub (tVar i) ti zrA)) (zoP i mi me):=by
 intro Λ F0 H0 F H σ δ Dn I a
 unfold zoP at a
 split at a
 ·rename_i l q
  obtain⟨p,s1,vs,s2,s3⟩:=I.own q
  refine h _ _ _ F H _ _ _ I ((AftS.of I a).imp fun d F1 H1 e c v r=>⟨_,s1,(hi _ _ _ _ _ _ δ _ (I.grow e) ((AftS.of (I.grow e) c).imp fun k F2 H2 e2 c2 v2 r2=>?_))⟩)
  cases k with
  | int k=>
   subst r2
   dsimp at c2
   cases z:ixN _ k with
   | none=>rw[z] at c2;exact c2.elim
   | some j=>
    rw[z] at c2
    exact⟨p,_,k,j,rfl,rfl,e2.hh _ _ (e.hh _ _ s2),by rwa [s3.length],(c2 _ _ _ (((I.grow e).grow e2).chg q s1 ⟨_,zaB,((s3.mono e.ff).mono e2.ff).set j (Rep.mono e2.ff _ r)⟩))⟩
  | _=>exact c2.elim
 ·exact a.elim
def ztk (f:Int→Int→Int) (i:Nat) (mi me:En→R D) (δ:En):O:=match δ[i]? with
 | some (.o (.lst l))=>(mi δ).toO δ fun k=>(match k with
  | .int k=>(match ixN l.length k with
   | some j=>(match l[j]? with
    | some (.int x)=>(me δ).toO δ fun y=>(match y with|.int y=>.nx (δ.set i (.o (.lst (l.set j (.int (f x y))))))|_=>.no)
    | _=>.no)
   | none=>.no)
  | _=>.no)
 | _=>.no
def zkw (i:Nat) (mk me:En→R D) (δ:En):O:=match δ[i]? with
 | some (.o (.dct ks l))=>(me δ).toO δ fun d=>(mk δ).toO δ fun k=>match asK k with
  | some k=>ifC (ks.length<sizeLine) (.nx (δ.set i (.o (putD ks l k d)))) .no
  | none=>.no
 | _=>.no
theorem zqS {i:Nat} {tk:TE} {mk:En→R D} (hk:SE K XO E tk mk) (h:SE K XO E te me):SS K XO E (zso (tVar i) tk te) (zkw i mk me):=by
 intro Λ F0 H0 F H σ δ Dn I a
 unfold zkw at a
 split at a
 ·rename_i ks l q
  obtain⟨p,s1,vs,s2,s0,s3⟩:=I.own q
  refine h _ _ _ F H _ _ _ I ((AftS.of I a).imp fun d F1 H1 e c v r=>⟨_,s1,(hk _ _ _ _ _ _ _ _ (I.grow e) ((AftS.of (I.grow e) c).imp fun k F2 H2 e2 c2 v2 r2=>?_))⟩)
  cases z:asK k with
  | none=>rw[z] at c2;exact c2.elim
  | some k=>
   rw[z] at c2
   dsimp at c2
   unfold ifC at c2
   split at c2
   ·cases zoy z r2
    exact⟨p,_,rfl,DPut.k (e2.hh _ _ (e.hh _ _ s2)) (by grind),c2 _ _ _ (((I.grow e).grow e2).chg q s1 (zrm (Rep.mono e2.ff _ r) s0 ((s3.mono e.ff).mono e2.ff)))⟩
   ·exact c2.elim
 ·exact a.elim
def zrX (i:Nat) (mk:En→R D) (δ:En):O:=match δ[i]? with
 | some (.o (.dct ks l))=>(mk δ).toO δ fun k=>match asK k with
  | some k=>(match getK ks l k with|some _=>.nx (δ.set i (.o (zqJ ks l k)))|none=>.no)
  | none=>.no
 | _=>.no
def dIn (k d:D):Option D:=match asK k,d with|some k,.dct ks l=>some (.bl (getK ks l k).isSome)|_,_=>none
def zkh (k d:D):Option D:=match asK k,d with|some k,.dct ks l=>some (.bl (!(getK ks l k).isSome))|_,_=>none
theorem zoH {ks:List Key} {l:List D} {x:V} {k:Key} (h:Top K F H (.dct ks l) x):∃p o,x=.ref p∧DGet H p (kV k) o∧(∀d,getK ks l k=some d→∃v,o=some v∧Rep K F d v)∧(getK ks l k=none→o=none):=by
 obtain⟨a,kvs,rfl,h1,h2,h3⟩:=h
 exact⟨a,_,rfl,.k h1,zpX h2 h3⟩
theorem znE (hy:SE K XO E ty my) (hd:SEr K XO E td md):SE K XO E (zoz ty td) (m2 zkh my md):=by
 intro Λ F0 H0 F H σ δ Q I a
 refine hy _ _ _ F H _ _ _ I (a.bind.imp fun dk F1 H1 e1 a1 y ry=>(hd _ _ _ _ _ _ _ _ (I.grow e1) (a1.bind.imp fun dd F2 H2 e2 a2 x rx=>?_)))
 unfold zkh at a2
 cases z:asK _ with
 | none=>rw[z] at a2;exact a2.elim
 | some k=>
  rw[z] at a2
  cases dd with
  | dct ks l=>
   obtain⟨p,o,rfl,g,g1,g2⟩:=zoH rx
   cases zoy z ry
   refine⟨p,o,rfl,g,a2 _ _ (.refl e2.fh) _ ?_⟩
   cases q:getK _ l k with
   | none=>rw[g2 q];rfl
   | some d=>obtain⟨v,rfl,_⟩:=g1 d q;rfl
  | _=>exact a2.elim
def i2 (f:Int→Int→D) (x y:D):Option D:=match x,y with|.int i,.int j=>some (f i j)|_,_=>none
def i2c (C:Int→Int→Prop) (f:Int→Int→D) (x y:D):Option D:=match x,y with|.int i,.int j=>ifC (C i j) (some (f i j)) none|_,_=>none
theorem zoQ {g:Int→Int→V} {f:Int→Int→D} (h:∀i j F,Rep K F (f i j) (g i j)):SR K (rI0 g) (i2 f):=by
 intro F H x y dx dy d Q s hx hy e q
 cases dx with
 | int i=>
  cases dy with
  | int j=>
   cases e
   exact⟨i,j,hx,hy,q _ F H (.refl s) (h i j F)⟩
  | _=>cases e
 | _=>cases e
theorem zll {C:Int→Int→Prop} {g:Int→Int→V} {f:Int→Int→D} (h:∀i j F,Rep K F (f i j) (g i j)):SR K (rI C g) (i2c C f):=by
 intro F H x y dx dy d Q s hx hy e q
 cases dx with
 | int i=>
  cases dy with
  | int j=>
   simp[i2c] at e
   unfold ifC at e
   split at e
   ·rename_i hc
    cases e
    exact⟨i,j,hx,hy,hc,q _ F H (.refl s) (h i j F)⟩
   simp_all
  | _=>cases e
 | _=>cases e
def oAdd:D→D→Option D:=i2 fun i j=>.int (i+j)
def oSub:D→D→Option D:=i2 fun i j=>.int (i - j)
def oMul:D→D→Option D:=i2c (fun i j=>Fit i∧Fit j) fun i j=>.int (i*j)
def oDiv:D→D→Option D:=i2c (fun _ j=>j≠0∧Fit j) fun i j=>.int (i.fdiv j)
def oMod:D→D→Option D:=i2c (fun _ j=>0<j) fun i j=>.int (i%j)
def oPow:D→D→Option D:=i2c CPow fun i j=>.int (i ^ j.toNat)
def oLt:D→D→Option D:=i2 fun i j=>.bl (decide (i<j))
def oGt:D→D→Option D:=i2 fun i j=>.bl (decide (j<i))
theorem zdu:SR K (rI0 fun i j=>.int (i+j)) oAdd:=zoQ fun _ _ _=>rfl
theorem zlt:SR K (rI0 fun i j=>.int (i - j)) oSub:=zoQ fun _ _ _=>rfl
theorem zj2:SR K (rI (fun i j=>Fit i∧Fit j) fun i j=>.int (i*j)) oMul:=zll fun _ _ _=>rfl
theorem zfS:SR K (rI (fun _ j=>j≠0∧Fit j) fun i j=>.int (i.fdiv j)) oDiv:=zll fun _ _ _=>rfl
theorem zdE:SR K (rI (fun _ j=>0<j) fun i j=>.int (i%j)) oMod:=zll fun _ _ _=>rfl
theorem zr2:SR K (rI CPow fun i j=>.int (i ^ j.toNat)) oPow:=zll fun _ _ _=>rfl
theorem zmy:SR K (rI0 fun i j=>.bl (decide (i<j))) oLt:=zoQ fun _ _ _=>rfl
theorem zfl:SR K (rI0 fun i j=>.bl (decide (j<i))) oGt:=zoQ fun _ _ _=>rfl
def oNeg:D→Option D
 | .int i=>some (.int (-i))
 | _=>none
theorem zh2:SU K (rU fun i=>.int (-i)) oNeg:=by
 intro F H x dx d Q s hx e q
 cases dx with
 | int i=>cases e;exact⟨i,hx,q _ F H (.refl s) rfl⟩
 | _=>cases e
def fl:D→Option V
 | .non=>some .non
 | .bl b=>some (.bl b)
 | .int i=>some (.int i)
 | .str x=>some (.str x)
 | _=>none
theorem zk6 {d:D} {v x:V} (h:fl d=some v) (r:Top K F H d x):x=v:=by
 cases d with
 | non=>cases h;simpa[Top,Rep] using r
 | bl _=>cases h;simpa[Top,Rep] using r
 | int _=>cases h;simpa[Top,Rep] using r
 | str _=>cases h;simpa[Top,Rep] using r
 | _=>cases h
def oEq (x y:D):Option D:=match fl x,fl y with|some a,some b=>if scal a b=true then some (.bl (decide (a=b))) else none|_,_=>none
def oNe (x y:D):Option D:=match fl x,fl y with|some a,some b=>if scal a b=true then some (.bl (!decide (a=b))) else none|_,_=>none
theorem zcm:SR K rEq oEq:=by
 intro F H x y dx dy d Q s hx hy e q
 unfold oEq at e
 split at e
 ·rename_i a b h1 h2
  split at e
  ·rename_i hs
   cases e
   cases zk6 h1 hx;cases zk6 h2 hy
   exact⟨hs,q _ F H (.refl s) rfl⟩
  simp_all
 simp_all
theorem znu:SR K rNe oNe:=by
 intro F H x y dx dy d Q s hx hy e q
 unfold oNe at e
 split at e
 ·rename_i a b h1 h2
  split at e
  ·rename_i hs
   cases e
   cases zk6 h1 hx;cases zk6 h2 hy
   exact⟨hs,q _ F H (.refl s) rfl⟩
  simp_all
 simp_all
def isN:D→Bool
 | .non=>true
 | _=>false
theorem zmH {d:D} {x:V} (r:Top K F H d x):decide (x=.non)=isN d:=by
 cases d with
 | non=>subst r;rfl
 | bl _=>subst r;rfl
 | int _=>subst r;rfl
 | str _=>subst r;rfl
 | tup _=>obtain⟨a,_,rfl,_⟩:=r;rfl
 | lst _=>obtain⟨a,_,rfl,_⟩:=r;rfl
 | dct _ _=>obtain⟨a,_,rfl,_⟩:=r;rfl
 | scr _=>obtain⟨a,rfl,_⟩:=r;rfl
 | exc _=>obtain⟨a,_,rfl,_⟩:=r;rfl
 | fd _ _=>obtain⟨a,_,_,rfl,_⟩:=r;rfl
 | obj _ _ _=>obtain⟨a,_,_,rfl,_⟩:=r;rfl
def oIs (x y:D):Option D:=match y with|.non=>some (.bl (isN x))|_=>none
def zol (x y:D):Option D:=match y with|.non=>some (.bl (!isN x))|_=>none
theorem zsI:SR K (fun x y H Q=>y=.non∧Q (.bl (decide (x=.non))) H) oIs:=by
 intro F H x y dx dy d Q s hx hy e q
 cases dy with
 | non=>cases e;exact⟨hy,q _ F H (.refl s) (by simp[Rep];rw[zmH hx])⟩
 | _=>cases e
theorem zpt:SR K (fun x y H Q=>y=.non∧Q (.bl (!decide (x=.non))) H) zol:=by
 intro F H x y dx dy d Q s hx hy e q
 cases dy with
 | non=>cases e;exact⟨hy,q _ F H (.refl s) (by simp[Rep];rw[zmH hx])⟩
 | _=>cases e
def oIxL (x y:D):Option D:=match x,y with|.lst l,.int i=>atI l i|.scr l,.int i=>(atI l i).map .int|_,_=>none
def oIxT (x y:D):Option D:=match x,y with|.tup l,.int i=>atI l i|_,_=>none
theorem zkE {l:List D} {vs:List V} {i:Int} {d:D} (r:RepL K F l vs) (h:atI l i=some d):∃v,atI vs i=some v∧Rep K F d v:=by
 unfold atI at h ⊢
 rw[r.length]
 cases q:ixN _ i with
 | none=>simp_all
 | some j=>rw[q] at h;exact r.get h
theorem zaZ:SR K (rIxL K.f) oIxL:=by
 intro F H x y dx dy d Q s hx hy e q
 cases dx with
 | lst l=>
  cases dy with
  | int i=>
   obtain⟨a,vs,rfl,h1,h2⟩:=hx
   obtain⟨v,g1,g2⟩:=zkE h2 e
   exact⟨a,_,i,v,rfl,hy,.inl h1,g1,q _ F H (.refl s) g2⟩
  | _=>cases e
 | scr l=>
  cases dy with
  | int i=>
   obtain⟨a,rfl,h1⟩:=hx
   simp only[oIxL] at e
   cases z:atI l i with
   | none=>simp_all
   | some n=>
    rw[z] at e;cases e
    obtain⟨v,g1,g2⟩:=zkE (l:=l.map _) (i:=i) (d:=.int n) .ints (by
     unfold atI at z ⊢
     cases q:ixN l.length i with
     | none=>rw[q] at z;cases z
     | some j=>
      simp_all)
    exact⟨a,_,i,v,rfl,hy,s.seq h1,g1,q _ F H (.refl s) g2⟩
  | _=>cases e
 | _=>cases e
theorem zc5:SR K (rIxT K.f) oIxT:=by
 intro F H x y dx dy d Q s hx hy e q
 cases dx with
 | tup l=>
  cases dy with
  | int i=>
   obtain⟨a,vs,rfl,h1,h2⟩:=hx
   obtain⟨v,g1,g2⟩:=zkE h2 e
   exact⟨a,_,i,v,rfl,hy,.inl (.inl (s _ _ h1)),g1,q _ F H (.refl s) g2⟩
  | _=>cases e
 | _=>cases e
abbrev EN:St→XK:=fun _ _ _ _=>False
def zmK:Sl→Sl
 | .o d=>.l d
 | .p _=>.no
 | s=>s
def zaK (δ:En) (ix:List Nat) (n:Nat):En:=ix.map (fun i=>zmK (δ[i]?.getD .no))++List.replicate n .no
def zb1 (f:D→R (Option D)):List D→R (List D)
 | []=>.ok []
 | d::l=>(f d).bind fun o=>(zb1 f l).bind fun r=>.ok (o.toList++r)
def zeP (b:D→En→Option En) (nc:Option (En→R Bool)) (me:En→R D) (δ:En) (d:D):R (Option D):=match b d δ with
 | none=>.no
 | some δ1=>(match nc with
  | none=>(me δ1).nev.bind fun x=>.ok (some x)
  | some c=>(c δ1).nev.bind fun k=>if k=true then (me δ1).nev.bind fun x=>.ok (some x) else .ok none)
def zha (mi:En→R (List D)) (ix:List Nat) (n:Nat) (b:D→En→Option En) (nc:Option (En→R Bool)) (me:En→R D) (δ:En):R D:=
 (mi δ).bind fun ds=>ifC (ds.length≤sizeLine) ((zb1 (zeP b nc me (zaK δ ix n)) ds).nev.bind fun l=>.ok (.lst l)) .no
theorem zjm {ix:List Nat} {n:Nat} (I:EnvOk K Λ F0 H0 F H σ δ) (hix:ix.Nodup) :
  ∃Λc,EnvOk K Λc F0 H0 F H (zdt σ ix n) (zaK δ ix n)∧(∀i:Nat,Sl.own (zaK δ ix n)[i]?=true→∃x∈Λc,x.1=i)∧∀x∈Λc,∃o,H x.2.1=some o:=by
 have gd:∀j:Nat,j<ix.length→(zaK δ ix n)[j]?=some (zmK (δ[ix.getD j 0]?.getD .no)):=fun j hj=>by
  unfold zaK
  rw[List.getElem?_append_left (by simpa using hj),List.getElem?_map,List.getElem?_eq_getElem hj]
  simp[List.getD_eq_getElem?_getD,List.getElem?_eq_getElem hj]
 have gs:∀j:Nat,j<ix.length→(zdt σ ix n)[j]?=some ((σ[ix.getD j 0]?).getD none):=fun j hj=>by
  unfold zdt
  rw[List.getElem?_append_left (by simpa using hj),List.getElem?_map,List.getElem?_eq_getElem hj]
  simp[List.getD_eq_getElem?_getD,List.getElem?_eq_getElem hj]
 have gn:∀j:Nat,¬ j<ix.length→(zaK δ ix n)[j]?=some .no∨(zaK δ ix n)[j]?=none:=fun j hj=>by
  unfold zaK
  rw[List.getElem?_append_right (by simpa using hj),List.getElem?_replicate]
  split
  ·grind
  simp_all
 have own:∀j:Nat,Sl.own (zaK δ ix n)[j]?=true→j<ix.length∧∃d a o,δ[ix.getD j 0]?=some d∧Sl.own (some d)=true∧(zaK δ ix n)[j]?=some (zmK d)∧(∃e,zmK d=.l e)∧σ[ix.getD j 0]?=some (some (.ref a))∧(zdt σ ix n)[j]?=some (some (.ref a))∧H a=some o∧H0 a=none∧F a=none:=fun j h=>by
  by_cases hj:j<ix.length
  ·refine⟨hj,?_⟩
   rw[gd j hj] at h
   have z:=I.slot (ix.getD j 0)
   cases q:δ[ix.getD j 0]? with
   | none=>rw[q] at h;cases h
   | some s=>
    rw[q] at h z
    cases s with
    | no=>cases h
    | v d=>cases h
    | o d=>
     obtain⟨a,z1,z2,z3,z4⟩:=z
     obtain⟨o,ho⟩:=z4.obj
     exact⟨_,a,o,rfl,rfl,by rw[gd j hj,q];rfl,⟨d,rfl⟩,z1,by rw[gs j hj,z1];rfl,ho,z2,z3⟩
    | l d=>
     obtain⟨a,z1,z2,z3,z4⟩:=z
     obtain⟨o,ho⟩:=z4.obj
     exact⟨_,a,o,rfl,rfl,by grind,⟨d,rfl⟩,z1,by rw[gs j hj,z1];rfl,ho,z2,z3⟩
    | p ll=>cases h
  ·rcases gn j hj with z|z <;> (rw[z] at h;cases h)
 let Λc:List (Nat×Addr×HO):=(List.range ix.length).filterMap fun (j:Nat)=>match (zdt σ ix n)[j]? with
  | some (some (V.ref a))=>if Sl.own (zaK δ ix n)[j]?=true then (H a).map fun o=>(j,a,o) else none
  | _=>none
 have mem:∀x∈Λc,(zdt σ ix n)[x.1]?=some (some (.ref x.2.1))∧Sl.own (zaK δ ix n)[x.1]?=true∧H x.2.1=some x.2.2:=fun x hx=>by
  obtain⟨j,_,h⟩:=List.mem_filterMap.mp hx
  split at h
  ·rename_i a q
   split at h
   ·rename_i ow
    cases q2:H a with
    | none=>rw[q2] at h;cases h
    | some o=>rw[q2] at h;cases h;exact⟨q,ow,q2⟩
   ·cases h
  ·cases h
 have zoZ:∀(j:Nat) (ll:Tr),(zaK δ ix n)[j]?≠some (.p ll):=fun j ll h=>by
  by_cases hj:j<ix.length
  ·rw[gd j hj] at h
   cases q:δ[ix.getD j 0]? with
   | none=>rw[q] at h;cases h
   | some s=>rw[q] at h;cases s <;> cases h
  ·rcases gn j hj with z|z <;> (rw[z] at h;cases h)
 refine⟨Λc,⟨I.ext,?_,fun j=>?_,fun i j a hij h1 h2 h3 h4=>?_,fun x hx=>?_,fun j ll h=>absurd h (zoZ j ll)⟩,fun j h=>?_,fun x hx=>⟨_,(mem x hx).2.2⟩⟩
 ·unfold zdt zaK
  simp
 ·by_cases hj:j<ix.length
  ·rw[gd j hj,gs j hj]
   have z:=I.slot (ix.getD j 0)
   cases q:δ[ix.getD j 0]? with
   | none=>trivial
   | some s=>
    rw[q] at z
    cases s with
    | no=>trivial
    | v d=>obtain⟨u,z1,z2⟩:=z;exact⟨u,by rw[z1];rfl,z2⟩
    | o d=>obtain⟨a,z1,z2⟩:=z;exact⟨a,by rw[z1];rfl,z2⟩
    | l d=>obtain⟨a,z1,z2⟩:=z;exact⟨a,by rw[z1];rfl,z2⟩
    | p ll=>trivial
  ·rcases gn j hj with z|z <;> (rw[z];trivial)
 ·obtain⟨i1,d1,a1,o1,i2,i3,i4,i5,i6,i7,i8⟩:=own i h1
  obtain⟨j1,d2,a2,o2,j2,j3,j4,j5,j6,j7,j8⟩:=own j h2
  rw[i7] at h3;cases h3
  rw[j7] at h4;cases h4
  refine I.dist (ix.getD i 0) (ix.getD j 0) a (fun e=>hij ?_) (by rwa [i2]) (by rwa [j2]) i6 j6
  rw[List.getD_eq_getElem?_getD,List.getD_eq_getElem?_getD,List.getElem?_eq_getElem i1,List.getElem?_eq_getElem j1] at e
  exact ((List.getElem?_inj i1 hix).mp (by rw[List.getElem?_eq_getElem i1,List.getElem?_eq_getElem j1];exact congrArg some e))
 ·obtain⟨m1,m2,m3⟩:=mem x hx
  obtain⟨_,d,_,_,_,_,h4,⟨e,h5⟩,_⟩:=own x.1 m2
  exact⟨⟨e,by rw[h4,h5]⟩,m1,m3⟩
 ·obtain⟨i1,d1,a1,o1,i2,i3,i4,i5,i6,i7,i8,_⟩:=own j h
  refine⟨(j,a1,o1),List.mem_filterMap.mpr ⟨j,List.mem_range.mpr i1,?_⟩,rfl⟩
  rw[i7]
  show (if Sl.own (zaK δ ix n)[j]?=true then (H a1).map fun o=>(j,a1,o) else none)=_
  rw[if_pos h,i8]
  rfl
theorem EnvOk.side {p:Addr} {w:HO} (I:EnvOk K Λ F0 H0 F H σ δ) (ho:∀i:Nat,Sl.own δ[i]?=true→∃x∈Λ,x.1=i) (hp:∀x∈Λ,x.2.1≠p) (h0:H0 p=none) (h1:F p=none):EnvOk K Λ F0 H0 F (upd H p w) σ δ:=by
 have ne:∀(i:Nat) (a:Addr),Sl.own _=true→σ[i]?=some (some (.ref a))→a≠p:=fun i a h h'=>by
  obtain⟨x,hx,e⟩:=ho i h
  have z:=(I.lent x hx).2.1
  grind
 have zoZ:∀(j:Nat) (ll:Tr),δ[j]?≠some (.p ll):=fun j ll h=>by
  obtain⟨x,hx,e⟩:=ho j (by rw[h];rfl)
  obtain⟨d,hd⟩:=(I.lent x hx).1
  grind
 refine⟨⟨I.ext.ff,fun b o q=>?_,fun b o q=>?_,I.ext.nw⟩,I.len,fun i=>?_,I.dist,fun x hx=>?_,fun j ll h=>absurd h (zoZ j _)⟩
 ·rw[zaz (zaW q h0)];exact I.ext.hh b o q
 ·rw[zaz (zaW q h1)];exact I.ext.fh b o q
 ·have z:=I.slot i
  cases q:δ[i]? with
  | none=>trivial
  | some s=>
   rw[q] at z
   cases s with
   | no=>trivial
   | v d=>exact z
   | o d=>obtain⟨a,z1,z2,z3,z4⟩:=z;exact⟨a,z1,z2,z3,z4.at (zaz (ne i a (by rw[q];rfl) z1))⟩
   | l d=>obtain⟨a,z1,z2,z3,z4⟩:=z;exact⟨a,z1,z2,z3,z4.at (zaz (ne i a (by rw[q];rfl) z1))⟩
   | p ll=>grind
 ·obtain⟨z1,z2,z3⟩:=I.lent x hx
  exact⟨z1,z2,by rwa [zaz (hp x hx)]⟩
theorem EnvOk.weakL {δ':En} (w:Weak δ δ') (hl:∀x∈Λ,∃d,δ[x.1]?=some (.l d)) (I:EnvOk K Λ F0 H0 F H σ δ'):EnvOk K Λ F0 H0 F H σ δ:=by
 refine⟨I.ext,I.len.trans w.1.symm,fun i=>?_,fun i j a hij h1 h2 h3 h4=>?_,fun x hx=>⟨hl x hx,(I.lent x hx).2⟩,I.tabsOf (fun k ll h=>⟨(w.2 k).elim (fun z=>by simp_all) fun z=>by grind,rfl⟩) (fun _ _ _ _ _ _ t f _=>⟨t,fun b hb=>(f b hb).2⟩) fun k j ll r b bs _ _ _ _ ho hs=>.inl ⟨(w.2 j).elim (fun z=>by rw[z] at ho;cases ho) fun z=>by rwa [← z],hs⟩⟩
 ·rcases w.2 i with z|z
  ·rw[z];trivial
  ·rw[z];exact I.slot i
 ·have ow:∀k ,Sl.own δ[k]?=true→Sl.own δ'[k]?=true:=fun k h=>by
   rcases w.2 k with z|z
   ·rw[z] at h;cases h
   ·rwa [← z]
  exact I.dist i j a hij (ow i h1) (ow j h2) h3 h4
theorem zkl {f:D→R (Option D)} {d:D} {l r:List D} (h:(zb1 f (d::l)).nev=.ok r):∃o r',f d=.ok o∧(zb1 f l).nev=.ok r'∧r=o.toList++r':=by
 unfold zb1 at h
 cases q:f d with
 | no=>rw[q] at h;cases h
 | ex x=>rw[q] at h;cases h
 | ok o=>
  rw[q] at h
  cases q2:zb1 f l with
  | no=>rw[q2] at h;cases h
  | ex x=>rw[q2] at h;cases h
  | ok r'=>rw[q2] at h;cases h;simp
theorem nev_ok {α:Type} {r:R α} {a:α} (h:r.nev=.ok a):r=.ok a:=by
 cases r with
 | no=>cases h
 | ok b=>simp_all
 | ex x=>cases h
theorem zdZ {wi:TI} {mi:En→R (List D)} {ix:List Nat} {n:Nat} {g:TG} {b:D→En→Option En} {tc:Option TT} {nc:Option (En→R Bool)}
  (hi:SIc K XO E wi mi) (hix:ix.Nodup) (hg:SG K g b) (hw:BW b) (hc:(tc=none∧nc=none)∨∃c k,tc=some c∧nc=some k∧ST K XO EN c k) (he:SE K XO EN te me):SEo K XO E (zl2 wi ix n g tc te) (zha mi ix n b nc me):=by
 intro Λ F0 H0 F H σ δ Q I a
 refine hi Λ F0 H0 F H σ δ _ I (a.bind.imp fun ds F1 H1 e1 a1 J hJ p hp=>?_)
 unfold ifC at a1
 split at a1
 case isFalse=>exact a1.elim
 have I1:=I.grow e1
 obtain⟨Λc,Ic,hown,hall⟩:=zjm (n:=n) I1 hix
 cases qg:(zb1 (zeP b nc me (zaK δ ix n)) ds).nev with
 | no=>rw[qg] at a1;exact a1.elim
 | ex x=>cases q2:zb1 (zeP b nc me (zaK δ ix n)) ds <;> (rw[q2] at qg;cases qg)
 | ok l=>
 rw[qg] at a1
 have hlent:∀x∈Λc,∃d,(zaK δ ix n)[x.1]?=some (.l d):=fun x hx=>(Ic.lent x hx).1
 have hpn:∀x∈Λc,x.2.1≠p:=fun x hx e=>by
  obtain⟨o,ho⟩:=hall x hx
  simp_all
 have p0:H0 p=none:=I1.ext.hh.free hp
 have f1:F1 p=none:=e1.fh.free hp
 refine⟨fun i k ys σ2 H2=>∃F2 l1 l2,EnvOk K Λc F0 H0 F2 H2 σ2 (zaK δ ix n)∧Ext F1 H1 F2 H2∧H2 p=some (.lst ys)∧F2 p=none∧RepL K F2 l1 ys∧(zb1 (zeP b nc me (zaK δ ix n)) (ds.drop i)).nev=.ok l2∧l=l1++l2∧k=ds.length - i∧i≤ds.length∧ys.length≤i,
  ⟨_,F1,[],l,?_,.newO e1.fh hp,zaB,f1,.nil,qg,rfl,rfl,Nat.zero_le _,Nat.le_refl _⟩,?_⟩
 ·exact Ic.grow (.newO e1.fh hp)
 rintro i k ys σ2 H2 ⟨F2,l1,l2,I2,x2,hD,hF,r,qd,rfl,rfl,hil,hys⟩
 refine⟨hD,?_⟩
 by_cases hlt:i<ds.length
 ·have e:ds.drop i=ds[i]::ds.drop (i+1):=List.drop_eq_getElem_cons hlt
  rw[e] at qd
  obtain⟨o,l3,q1,q3,rfl⟩:=zkl qd
  obtain⟨h1,h2⟩:=(hJ F2 H2 x2 i).1 ds[i] (by simp)
  refine .inr ⟨h1,fun ys' σ' H'=>∃F' l1',EnvOk K Λc F0 H0 F' H' σ' (zaK δ ix n)∧Ext F1 H1 F' H'∧H' p=some (.lst ys')∧F' p=none∧RepL K F' l1' ys'∧l1++(o.toList++l3)=l1'++l3∧ys'.length≤i+1,
   fun ys' σ' H' ⟨F',l1',w1,w2,w3,w4,w5,w6,w7⟩=>⟨_,by omega,F',l1',l3,w1,w2,w3,w4,w5,q3,w6,rfl,hlt,w7⟩,fun x H' y=>?_⟩
  obtain⟨F3,e3,rx⟩:=h2 x H' y
  have hp2:∀ {F5 H5:Hp},Ext F2 H2 F5 H5→H5 p=some (.lst ys)∧F5 p=none:=fun z=>⟨z.hh _ _ hD,z.nw p _ hF hD⟩
  unfold zeP at q1
  cases qb:b ds[i] (zaK δ ix n) with
  | none=>rw[qb] at q1;cases q1
  | some δ1=>
   rw[qb] at q1
   have hwk:=hw _ _ _ qb
   refine hg Λc F0 H0 F3 H' σ2 _ _ x δ1 _ (I2.grow e3) rx qb fun σ3 I3=>?_
   have fin:∀F4 H4,Ext F3 H' F4 H4→(me δ1).nev.bind (fun x=>R.ok (some x))=.ok o→te σ3 H4 fun y H5=>H5 p=some (.lst ys)∧ys.length<sizeLine ∧
     ∃F' l1',EnvOk K Λc F0 H0 F' (upd H5 p (.lst (ys++[y]))) σ3 (zaK δ ix n)∧Ext F1 H1 F' (upd H5 p (.lst (ys++[y])))∧upd H5 p (.lst (ys++[y])) p=some (.lst (ys++[y]))∧F' p=none∧RepL K F' l1' (ys++[y])∧l1++(o.toList++l3)=l1'++l3∧(ys++[y]).length≤i+1:=by
    intro F4 H4 e4 qe
    cases qm:me δ1 with
    | no=>rw[qm] at qe;cases qe
    | ex x=>rw[qm] at qe;cases qe
    | ok d=>
     rw[qm] at qe
     cases qe
     refine he Λc F0 H0 F4 H4 σ3 δ1 _ (I3.grow e4) ?_
     rw[qm]
     intro F5 H5 e5 v rv
     have z:=e3.trans (e4.trans e5)
     obtain⟨z1,z2⟩:=hp2 z
     refine⟨z1,by omega,F5,l1++[d],(((I3.grow e4).grow e5).weakL hwk hlent).side hown hpn p0 z2,?_,zaB,z2,(r.mono z.ff).append (.cons rv .nil),by simp,by simpa using hys⟩
     have w:=x2.trans z
     exact⟨w.ff,fun c o q=>by rw[zaz (zaW q hp)];exact w.hh c o q,fun c o q=>by rw[zaz (zaW q z2)];exact w.fh c o q,w.nw⟩
   rcases hc with ⟨rfl,rfl⟩|⟨c,kc,rfl,rfl,hcc⟩
   ·have z:=fin F3 H' (.refl e3.fh) q1
    exact z
   ·simp only at q1
    refine hcc Λc F0 H0 F3 H' σ3 δ1 _ I3 ?_
    cases qk:kc δ1 with
    | no=>rw[qk] at q1;cases q1
    | ex x=>rw[qk] at q1;cases q1
    | ok bb=>
     rw[qk] at q1
     intro F4 H4 e4
     cases bb with
     | true=>exact fin F4 H4 e4 q1
     | false=>
      rw[if_neg Bool.false_ne_true]
      have eo:o=none:=by
       cases q1;rfl
      subst eo
      have z:=e3.trans e4
      obtain⟨z1,z2⟩:=hp2 z
      exact⟨F4,l1,(I3.grow e4).weakL hwk hlent,x2.trans z,z1,z2,r.mono z.ff,rfl,by omega⟩
 ·have e:i=ds.length:=by omega
  subst e
  rw[List.drop_length] at qd
  cases qd
  refine .inl ⟨(hJ F2 H2 x2 _).2 (by simp),a1 _ _ x2 p hF (e1.hh.free hp) ⟨_,hD,?_⟩⟩
  rwa [List.append_nil]
def zbn (n:Nat) (ds:List D):En:=ds.map .v++List.replicate n .no
def runF (np nv:Nat) (m:En→O) (ds:List D):R D:=if ds.length=np then (match m (zbn nv ds) with|.rt d=>.ok d|.nx _=>.ok .non|.ex _ x=>.ex x|_=>.no) else .no
theorem zlg {np nv:Nat} {N:List Str} {ds:List D} {vs:List V} (s:Same F H) (r:RepL K F ds vs) (hn:N.length=np+nv) (hl:ds.length=np):EnvOk K [] F H F H (L2.start N vs) (zbn nv ds):=by
 have hv:=r.length
 unfold L2.start zbn
 have en:N.length - vs.length=nv:=by omega
 rw[en]
 refine⟨.refl s,by simp[hv],fun i=>?_,fun i j a _ h1 _ _ _=>?_,fun x hx=>(by cases hx),fun i ll h1=>by
  by_cases hi:i<ds.length
  ·rw[List.getElem?_append_left (by simp_all),List.getElem?_map,List.getElem?_eq_getElem hi] at h1
   cases h1
  ·rw[List.getElem?_append_right (by simpa using hi),List.getElem?_replicate] at h1
   simp_all⟩
 ·by_cases hi:i<ds.length
  ·rw[List.getElem?_append_left (by grind),List.getElem?_append_left (by simp_all),List.getElem?_map,List.getElem?_map,List.getElem?_eq_getElem hi]
   obtain⟨v,h1,h2⟩:=r.get (List.getElem?_eq_getElem _)
   rw[h1]
   exact⟨v,rfl,h2⟩
  ·rw[List.getElem?_append_right (by simp_all),List.getElem?_replicate]
   split <;> trivial
 ·by_cases hi:i<ds.length
  ·rw[List.getElem?_append_left (by simpa using hi),List.getElem?_map,List.getElem?_eq_getElem hi] at h1
   cases h1
  ·rw[List.getElem?_append_right (by simpa using hi),List.getElem?_replicate] at h1
   split at h1 <;> cases h1
theorem zco {np nv:Nat} {N:List Str} {vs:List V} {Q:VK} {E:XK} (h:SS K XO (fun _=>E) t m) (hn:N.length=np+nv) (sp:spM K XO (runF np nv m) vs H Q E):t { nx:=fun _ H'=>Q .non H',rt:=Q } (L2.start N vs) H:=by
 obtain⟨F,ds,s,r,a⟩:=sp
 unfold runF at a
 split at a
 ·rename_i hl
  refine h _ F H F H _ _ _ (zlg s r hn hl) ?_
  cases q:m _ with
  | no=>rwa [q] at a
  | nx δ=>rw[q] at a;exact fun σ F' H' I=>a _ _ I.ext _ rfl
  | rt d=>rw[q] at a;exact fun v F' H' e r=>a _ _ e v r
  | ro d=>rw[q] at a;exact a.elim
  | bk δ=>rw[q] at a;exact a.elim
  | ct δ=>rw[q] at a;exact a.elim
  | ex δ x=>rw[q] at a;exact fun σ F' H' C dct I w=>a C _ _ _ I.ext w
 ·exact a.elim
def runO (np nv:Nat) (m:En→O) (ds:List D):R D:=if ds.length=np then (match m (zbn nv ds) with|.ro d=>.ok d|.ex _ x=>.ex x|_=>.no) else .no
def spO (K:Kx) (XO:XOT) (f:List D→R D):Sp:=fun vs H Q E=>∃F ds,Same F H∧RepL K F ds vs∧Aft (fun _=>E) XO [] F H (fun d F' H'=>∀p,F' p=none→H p=none→Own K F' H' d p→Q (.ref p) H') (f ds)
theorem zlf {np nv:Nat} {N:List Str} {vs:List V} {Q:VK} {E:XK} (h:SS K XO (fun _=>E) t m) (hn:N.length=np+nv) (sp:spO K XO (runO np nv m) vs H Q E):t { nx:=fun _ H'=>Q .non H',rt:=Q } (L2.start N vs) H:=by
 obtain⟨F,ds,s,r,a⟩:=sp
 unfold runO at a
 split at a
 ·rename_i hl
  refine h _ F H F H _ _ _ (zlg s r hn hl) ?_
  cases q:m _ with
  | no=>rwa [q] at a
  | nx δ=>rw[q] at a;exact a.elim
  | rt d=>rw[q] at a;exact a.elim
  | ro d=>rw[q] at a;exact fun p F' H' e h0 h1 o=>a _ _ e p h0 h1 o
  | bk δ=>rw[q] at a;exact a.elim
  | ct δ=>rw[q] at a;exact a.elim
  | ex δ x=>rw[q] at a;exact fun σ F' H' C dct I w=>a C _ _ _ I.ext w
 ·exact a.elim
theorem ziq {np nv:Nat} {vs:List V} {Q:VK} {E:XK} (sp:spO K XO (runO np nv m) vs H Q E):vs.length=np:=by
 obtain⟨F,ds,s,r,a⟩:=sp
 unfold runO at a
 split at a
 ·rwa [r.length]
 ·exact a.elim
theorem zbb {np nv:Nat} {vs:List V} {Q:VK} {E:XK} (sp:spM K XO (runF np nv m) vs H Q E):vs.length=np:=by
 obtain⟨F,ds,s,r,a⟩:=sp
 unfold runF at a
 split at a
 ·rwa [r.length]
 ·exact a.elim
theorem zsl {f:List D→R D} {ns:List Int} {a:Addr} {Q:VK} {E:XK} (hf:f [.scr ns]=.ok (.bl true)) (h:SqL K.f H a (ns.map V.int)) (q:∀H',Q (.bl true) H'):spM K XO f [.ref a] H Q E:=by
 refine⟨fun b=>if b=a then H b else none,[.scr ns],fun b o e=>?_,.cons ?_ .nil,?_⟩
 ·simp_all
 ·refine⟨a,rfl,?_⟩
  rcases h with (h|⟨o,h⟩)|h
  ·exact .inl (.inl (by simp_all))
  ·exact .inl (.inr ⟨o,by simp_all⟩)
  ·exact .inr h
 ·rw[hf]
  intro F' H' _ v r
  simp[Rep] at r
  simp_all
theorem zei {f:List D→R D} {tl:TA} {ml:En→R (List D)} {E':XK} (h:SA K XO E tl ml):SEo K XO E (zlT (spO K XO f) [] E' tl) (zar f ml):=fun Λ F0 H0 F H σ δ Q I a=>h _ _ _ F H _ _ _ I (a.bind.imp fun ds F1 H1 e1 a1 vs r=>⟨_,ds,e1.fh,by simp_all,Aft.imp (fun d F2 H2 e2 p q h0 h1 o=>p q h0 (e1.hh.free h1) o) (Aft.any a1)⟩)
theorem znc {f:List D→R D} {tl:TA} {ml:En→R (List D)} (h:SA K XO E tl ml):SEo K XO E (zi9 (spO K XO f) E tl) (zaj f ml):=by
 intro Λ F0 H0 F H σ δ Q I a
 refine h _ _ _ F H _ _ _ I (a.bind.imp fun ds F1 H1 e1 a1 vs r=>⟨_,_,e1.fh,r,?_⟩)
 cases q:f _ with
 | no=>rwa [q] at a1
 | ok d=>rw[q] at a1;exact fun F2 H2 e2 p h0 h1 o=>a1 _ _ e2 p h0 (e1.hh.free h1) o
 | ex x=>rwa [q] at a1
mutual
def znH:D→Bool
 | .tup l=>zlB l
 | .lst _=>false
 | .dct _ _=>false
 | .scr _=>false
 | .exc _=>false
 | .fd _ _=>false
 | .obj _ _ _=>false
 | _=>true
def zlB:List D→Bool
 | []=>true
 | d::l=>znH d && zlB l
end
variable (K) in
def Bor (F H:Hp) (d:D) (v:V):Prop:=Rep K F d v∨(∃a,v=.ref a∧Own K F H d a)∨∃T fp,d=trD T∧TrOk K F H T v fp
variable (K XO E) in
def SAb (t:TA) (m:En→R (List D)):Prop:=∀Λ F0 H0 F H σ δ Q,EnvOk K Λ F0 H0 F H σ δ→Aft E XO σ F H (fun ds F' H'=>∀vs,Prd (Bor K F' H') ds vs→Q vs H') (m δ)→t σ H Q
theorem Bor.mono {F H F' H':Hp} (e:Ext F H F' H') {d:D} {v:V}:Bor K F H d v→Bor K F' H' d v
 | .inl h=>.inl (Rep.mono e.ff _ h)
 | .inr (.inl ⟨a,h1,h2⟩)=>.inr (.inl ⟨a,h1,h2.mono e.ff e.hh⟩)
 | .inr (.inr ⟨T,_,h1,h2⟩)=>.inr (.inr ⟨T,_,h1,TrOk.mono e.ff e.hh T h2⟩)
theorem zov:SAb K XO E tNil mNil:=fun Λ F0 H0 F H σ δ Q I a=>a F H (.refl I.same) _ .nil
theorem znf {i:Nat} {tr:TA} {mr:En→R (List D)} (hr:SAb K XO E tr mr):SAb K XO E (ze3 (tVar i) tr) (zab (mRd i) mr):=by
 intro Λ F0 H0 F H σ δ Q I a
 have key:∀d v,mRd i _=.ok d→σ[i]?=some _→Bor K F H d v→ze3 (tVar i) _ _ H Q:=fun d v hm hs b=>by
  unfold zab at a
  rw[hm] at a
  refine⟨v,hs,hr _ _ _ F H _ _ _ I (Aft.imp (fun dy F2 H2 e2 a2 y ry=>?_) (Aft.bind a))⟩
  exact a2 _ _ (.refl e2.fh) _ (.cons (b.mono e2) ry)
 have z:=I.slot i
 unfold zab at a
 cases q:δ[i]? with
 | none=>
  have e:mRd i δ=.no:=by unfold mRd;rw[q]
  rw[e] at a;exact a.elim
 | some s=>
  rw[q] at z
  cases s with
  | no=>
   have e:mRd i δ=.no:=by unfold mRd;rw[q]
   rw[e] at a;exact a.elim
  | v d=>obtain⟨u,z1,z2⟩:=z;exact key d u (by unfold mRd;rw[q]) z1 (.inl z2)
  | o d=>obtain⟨u,z1,_,_,z2⟩:=z;exact key d _ (by unfold mRd;rw[q]) z1 (.inr (.inl ⟨u,rfl,z2⟩))
  | l d=>obtain⟨u,z1,_,_,z2⟩:=z;exact key d _ (by unfold mRd;rw[q]) z1 (.inr (.inl ⟨u,rfl,z2⟩))
  | p ll=>
   have e:mRd i δ=.no:=by unfold mRd;rw[q]
   rw[e] at a;exact a.elim
def zer (F H:Hp):Hp:=fun b=>match F b with
 | some o=>some o
 | none=>match H b with
  | some (.lst vs)=>some (.lst vs)
  | some (.dK kvs)=>some (.dK kvs)
  | some (.frz o u)=>some (.frz o u)
  | some (.ins C dx fs)=>some (.ins C dx fs)
  | _=>none
theorem zfy {F H:Hp}:Same F (zer F H):=fun b o h=>by unfold zer;rw[h]
theorem zqV {F H:Hp} (s:Same F H):Same (zer F H) H:=fun b o h=>by
 unfold zer at h
 cases q:F b with
 | some u=>rw[q] at h;cases h;exact s _ _ q
 | none=>
  grind
theorem zqq {a:Addr} {vs:List V} (s:Same F H) (h:H a=some (.lst vs)):zer F H a=some (.lst vs):=by
 unfold zer
 cases q:F a with
 | some u=>rwa [s _ _ q] at h
 | none=>simp_all
mutual
theorem zlC (s:Same F H):∀(T:Tr) {v:V} {fp:List Addr},TrOk K F H T v fp→Rep K (zer F H) (trD T) v
 | .d x,v,fp,h=>Rep.mono zfy x h.2
 | .l _,v,fp,h=>by
  obtain⟨a,vs,fs,rfl,h2,h3,h4⟩:=h
  exact⟨a,_,rfl,zqq s h3,zg6 s _ h4⟩
 | .t _,v,fp,h=>by
  obtain⟨a,vs,rfl,h3,h4⟩:=h
  exact⟨a,_,rfl,zfy _ _ h3,zg6 s _ h4⟩
theorem zg6 (s:Same F H):∀(ts:List Tr) {vs:List V} {fp:List Addr},TrOkL K F H ts vs fp→RepL K (zer F H) (trDL ts) vs
 | [],vs,fp,h=>by
  simp only[TrOkL] at h
  rw[h.1]
  simp only[trDL]
  exact .nil
 | t::ts,vs,fp,h=>by
  simp only[TrOkL] at h
  obtain⟨v,r,f1,f2,rfl,h2,h3,h4⟩:=h
  simp only[trDL]
  exact .cons (zlC s t h3) (zg6 s ts h4)
end
theorem zq2 {F H:Hp} (s:Same F H):∀ {d:D} {v:V},Bor K F H d v→Rep K (zer F H) d v:=by
 intro d v h
 rcases h with h|⟨a,rfl,h⟩|⟨T,fp,rfl,h⟩
 ·exact Rep.mono zfy _ h
 ·cases d with
  | lst l=>
   obtain⟨vs,h1,h2⟩:=h
   refine⟨a,_,rfl,?_,h2.mono zfy⟩
   unfold zer
   cases q:F a with
   | some u=>rwa [s _ _ q] at h1
   | none=>simp_all
  | dct ks l=>
   obtain⟨vs,h1,h0,h2⟩:=h
   refine⟨a,_,rfl,?_,h0,h2.mono zfy⟩
   unfold zer
   cases q:F a with
   | some u=>rwa [s _ _ q] at h1
   | none=>simp_all
  | obj c ks l=>
   obtain⟨dx,vs,h1,h0,h2⟩:=h
   refine⟨a,dx,_,rfl,?_,h0,h2.mono zfy⟩
   unfold zer
   cases q:F a with
   | some u=>rwa [s _ _ q] at h1
   | none=>simp_all
  | _=>exact h.elim
 ·exact zlC s T h
theorem zk4 {F H:Hp} (s:Same F H):∀ {ds:List D} {vs:List V},Prd (Bor K F H) ds vs→RepL K (zer F H) ds vs
 | _,_,.nil=>.nil
 | _,_,.cons h t=>.cons (zq2 s h) (zk4 s t)
open Classical in
def minH (F H F':Hp):Hp:=fun b=>if F b=none∧H b≠none then none else F' b
theorem zsn {F H F' H':Hp} (e:Ext (zer F H) H F' H') {a:Addr} {o:HO} (h:F' a=some o) (h1:∀vs,o≠.lst vs) (h2:∀kvs,o≠.dK kvs) (h3:∀q u,o≠.frz q u) (h4:∀C dx fs,o≠.ins C dx fs):minH F H F' a=some o:=by
 unfold minH
 split
 ·rename_i hc
  exfalso
  cases qh:H a with
  | none=>simp_all
  | some u=>
   have np:zer F H a=match H a with|some (.lst vs)=>some (.lst vs)|some (.dK kvs)=>some (.dK kvs)|some (.frz o u)=>some (.frz o u)|some (.ins C dx fs)=>some (.ins C dx fs)|_=>none:=by
    unfold zer;rw[hc.1]
   cases u with
   | lst vs=>rw[qh] at np;have z:=e.ff a _ np;grind
   | dK vs=>rw[qh] at np;have z:=e.ff a _ np;rw[h] at z;simp_all
   | frz q w=>rw[qh] at np;have z:=e.ff a _ np;rw[h] at z;cases z;exact h3 q w rfl
   | ins C dx fs=>rw[qh] at np;have z:=e.ff a _ np;rw[h] at z;cases z;exact h4 C _ _ rfl
   | _=>rw[qh] at np;have z:=e.nw a _ np qh;rw[h] at z;cases z
 ·exact h
mutual
theorem znD {F H F' H':Hp} (e:Ext (zer F H) H F' H'):∀(d:D) {v:V},znH d=true→Rep K F' d v→Rep K (minH F H F') d v
 | .non,v,_,h=>h
 | .bl _,v,_,h=>h
 | .int _,v,_,h=>h
 | .str _,v,_,h=>h
 | .lst _,v,c,h=>by cases c
 | .dct _ _,v,c,h=>by cases c
 | .scr _,v,c,h=>by cases c
 | .exc _,v,c,h=>by cases c
 | .fd _ _,v,c,h=>by cases c
 | .obj _ _ _,v,c,h=>by cases c
 | .tup l,v,c,h=>let ⟨a,_,h1,h2,h3⟩:=h;⟨a,_,h1,zsn e h2 (fun _ z=>by cases z) (fun _ z=>by cases z) (fun _ _ z=>by cases z) (fun _ _ _ z=>by cases z),zlm e l c h3⟩
theorem zlm {F H F' H':Hp} (e:Ext (zer F H) H F' H'):∀(l:List D) {vs:List V},zlB l=true→RepL K F' l vs→RepL K (minH F H F') l vs
 | [],vs,_,h=>by simp only[RepL] at h ⊢;exact h
 | d::l,vs,c,h=>by
  simp only[zlB,Bool.and_eq_true] at c
  simp only[RepL] at h ⊢
  obtain⟨v,r,h1,h2,h3⟩:=h
  exact⟨v,r,h1,znD e d c.1 h2,zlm e l c.2 h3⟩
end
theorem zqe {F H F' H':Hp} (e:Ext (zer F H) H F' H'):Ext F H (minH F H F') H':=by
 refine⟨fun b o h=>?_,e.hh,fun b o h=>?_,fun p o h1 h2=>?_⟩
 ·unfold minH
  rw[if_neg (fun hc=>by simp_all)]
  exact e.ff b o (zfy b o h)
 ·unfold minH at h
  split at h
  ·cases h
  ·exact e.fh b o h
 ·unfold minH
  rw[if_pos ⟨h1,by simp_all⟩]
def zjo (f:List D→R D) (ml:En→R (List D)) (δ:En):R D:=(ml δ).bind fun l=>(f l).nev.bind fun d=>if znH d=true then .ok d else .no
theorem zlp {f:List D→R D} {tl:TA} {ml:En→R (List D)} {E':XK} (h:SAb K XO E tl ml):SE K XO E (zlT (spM K XO f) [] E' tl) (zjo f ml):=by
 intro Λ F0 H0 F H σ δ Q I a
 refine h _ _ _ F H _ _ _ I (a.bind.imp fun ds F1 H1 e1 a1 vs r=>⟨_,_,zqV e1.fh,by rw[List.append_nil];exact zk4 e1.fh r,?_⟩)
 cases q:f _ with
 | no=>rwa [q] at a1
 | ex x=>rw[q] at a1;exact a1.elim
 | ok d=>
  rw[q] at a1
  intro F2 H2 e2 v rv
  simp[R.nev_ok] at a1
  split at a1
  ·rename_i hc
   exact a1 _ _ (zqe e2) v (znD e2 d hc rv)
  ·exact a1.elim
variable (K) in
def SC (r:List V→Hp→VK→Prop) (f:List D→Option D):Prop:=∀F H vs ds d Q,Same F H→Prd (Top K F H) ds vs→f ds=some d→(∀v F' H',Ext F H F' H'→Rep K F' d v→Q v H')→r vs H Q
def mCB (f:List D→Option D) (ml:En→R (List D)) (δ:En):R D:=(ml δ).bind fun l=>R.of (f l)
theorem zcs {r:List V→Hp→VK→Prop} {f:List D→Option D} {tl:TA} {ml:En→R (List D)} (hr:SC K r f) (h:SAr K XO E tl ml):SE K XO E (tCB r tl) (mCB f ml):=by
 intro Λ F0 H0 F H σ δ Q I a
 refine h _ _ _ F H _ _ _ I (a.bind.imp fun ds F1 H1 e1 a1 vs rv=>?_)
 cases q:f _ with
 | none=>rw[q] at a1;exact a1.elim
 | some d=>rw[q] at a1;exact hr _ _ _ _ d Q e1.fh rv q fun v F' H' e r=>a1 _ _ e v r
def fLen:List D→Option D
 | [.lst l]=>some (.int l.length)
 | [.scr l]=>some (.int l.length)
 | [.tup l]=>some (.int l.length)
 | _=>none
theorem zcQ:SC K (fun xs H Q=>∃p ys,xs=[.ref p]∧(SqL K.f H p ys∨SqT K.f H p ys)∧Q (.int ys.length) H) fLen:=by
 intro F H vs ds d Q s r e q
 unfold fLen at e
 split at e
 ·cases e
  cases r with
  | cons r r'=>
   cases r'
   obtain⟨a,xs,rfl,h1,h2⟩:=r
   exact⟨a,_,rfl,.inl (.inl h1),q _ F H (.refl s) (by simp[Rep];rw[h2.length])⟩
 ·cases e
  cases r with
  | cons r r'=>
   cases r'
   obtain⟨a,rfl,h1⟩:=r
   exact⟨a,_,rfl,.inl (s.seq h1),q _ F H (.refl s) (by simp only[Rep];simp)⟩
 ·cases e
  cases r with
  | cons r r'=>
   cases r'
   obtain⟨a,xs,rfl,h1,h2⟩:=r
   exact⟨a,_,rfl,.inr (.inl (.inl (s _ _ h1))),q _ F H (.refl s) (by simp[Rep];rw[h2.length])⟩
 simp_all
def fAbs:List D→Option D
 | [.int i]=>some (.int (if i<0 then -i else i))
 | _=>none
theorem zp6:SC K (fun xs H Q=>∃i,xs=[.int i]∧Q (.int (if i<0 then -i else i)) H) fAbs:=by
 intro F H vs ds d Q s r e q
 unfold fAbs at e
 split at e
 ·rename_i i
  cases e
  cases r with
  | cons r r'=>
   cases r'
   subst r
   exact⟨i,rfl,q _ F H (.refl s) rfl⟩
 simp_all
def asI:D→Option Int
 | .int i=>some i
 | _=>none
def mNoP (_:En):R (Option Int):=.ok none
def zbq (me:En→R D) (δ:En):R (Option Int):=(me δ).bind fun d=>(R.of (asI d)).bind fun i=>.ok (some i)
variable (K XO E) in
def SO (t:TO) (m:En→R (Option Int)):Prop:=∀Λ F0 H0 F H σ δ Q,EnvOk K Λ F0 H0 F H σ δ→Aft E XO σ F H (fun o _ H'=>Q o H') (m δ)→t σ H Q
theorem zfA:SO K XO E zn1 mNoP:=fun Λ F0 H0 F H σ δ Q I a=>a F H (.refl I.same)
theorem zbT (h:SE K XO E te me):SO K XO E (zrI te) (zbq me):=by
 intro Λ F0 H0 F H σ δ Q I a
 refine h _ _ _ F H _ _ _ I (a.bind.imp fun d F1 H1 e1 a1 v r=>?_)
 cases d with
 | int i=>exact⟨i,r,a1 _ _ (.refl e1.fh)⟩
 | _=>exact a1.elim
def cutD (xs:List D) (lo hi:Option Int):List D:=(xs.drop (HT.sIx xs.length 0 lo)).take (HT.sIx xs.length xs.length hi - HT.sIx xs.length 0 lo)
def mSl (me:En→R D) (ml mh:En→R (Option Int)) (δ:En):R D:=(me δ).bind fun d=>(ml δ).bind fun lo=>(mh δ).bind fun hi=>(R.of (asL d)).bind fun l=>.ok (.lst (cutD l lo hi))
theorem zbx {tl th:TO} {ml mh:En→R (Option Int)} (h:SEr K XO E te me) (hl:SO K XO E tl ml) (hh:SO K XO E th mh):SEo K XO E (tSl (rSlL K.f) te tl th) (mSl me ml mh):=by
 intro Λ F0 H0 F H σ δ Q I a
 refine h _ _ _ F H _ _ _ I (a.bind.imp fun d F1 H1 e1 a1 v r=>?_)
 refine hl _ _ _ _ _ _ _ _ (I.grow e1) (a1.bind.imp fun lo F2 H2 e2 a2=>(hh _ _ _ _ _ _ _ _ ((I.grow e1).grow e2) (a2.bind.imp fun hi F3 H3 e3 a3=>?_)))
 cases d with
 | lst l=>
  obtain⟨p,vs,rfl,h1,h2⟩:=r
  refine⟨p,_,rfl,.inl (PM.Same.rd e3.hh (PM.Same.rd e2.hh h1)),fun q hq=>a3 _ _ (.newO e3.fh hq) q (e3.fh.free hq) (e1.hh.free (e2.hh.free (e3.hh.free hq))) ⟨_,zaB,?_⟩⟩
  unfold cutD cutV
  rw[← h2.length]
  exact (((h2.mono e2.ff).mono e3.ff).drop _).take _
 | scr l=>
  obtain⟨p,rfl,h1⟩:=r
  refine⟨p,_,rfl,e3.hh.seq (e2.hh.seq (e1.fh.seq h1)),fun q hq=>a3 _ _ (.newO e3.fh hq) q (e3.fh.free hq) (e1.hh.free (e2.hh.free (e3.hh.free hq))) ⟨_,zaB,?_⟩⟩
  unfold cutD cutV
  rw[List.length_map,List.length_map]
  exact (RepL.ints.drop _).take _
 | _=>exact a3.elim
end
def oCat (x y:D):Option D:=match x,y with|.lst l,.lst r=>ifC (l.length+r.length≤sizeLine) (some (.lst (l++r))) none|_,_=>none
def isiB:String→D→Bool
 | "int",.int _=>true
 | "int",.bl _=>true
 | "bool",.bl _=>true
 | "list",.lst _=>true
 | "tuple",.tup _=>true
 | "str",.str _=>true
 | _,_=>false
def okI:D→Bool
 | .scr _=>false
 | .exc _=>false
 | .fd _ _=>false
 | .obj _ _ _=>false
 | _=>true
def oIsi (c:String) (d:D):Option D:=match d with|.scr _=>none|.exc _=>none|.fd _ _=>none|.obj _ _ _=>none|d=>some (.bl (isiB c d))
def asIs:List D→Option (List Int)
 | []=>some []
 | .int i::l=>(asIs l).map (i::·)
 | _=>none
theorem zlj (ns:List Int):asIs (ns.map .int)=some ns:=by
 induction ns with
 | nil=>rfl
 | cons a l ih=>simp[asIs,ih]
theorem zkc {l:List D} {ns:List Int} (h:asIs l=some ns):l=ns.map .int:=by
 induction l generalizing ns with
 | nil=>cases h;rfl
 | cons d l ih=>
  cases d with
  | int i=>
   simp[asIs] at h
   cases q:asIs l with
   | none=>simp_all
   | some m=>grind
  | _=>cases h
def fSum:List D→Option D
 | [.lst l]=>(asIs l).map fun ns=>.int ns.sum
 | _=>none
theorem znI {c:En→R Bool} {m:En→O} {δ:En} {n:Nat} {o:O} (h:zgd c m n δ=o) (ho:o≠.no):zid c m δ=o:=by
 have mono:∀k n δ,zgd c m n δ≠.no→zgd c m (n+k) δ=zgd c m n δ:=by
  intro k n
  induction n with
  | zero=>intro δ h;exact absurd rfl h
  | succ n ih=>
   intro δ h
   have e:n+1+k=(n+k)+1:=by omega
   rw[e]
   unfold zgd at h ⊢
   cases q:c _ with
   | no=>rfl
   | ex x=>rfl
   | ok b=>
    rw[q] at h
    cases b with
    | false=>rfl
    | true=>
     cases q2:m _ <;> simp[q2] at h ⊢ <;> exact ih _ h
 have hex:∃n,zgd c m n _≠.no:=⟨n,by rwa [h]⟩
 unfold zid
 rw[dif_pos hex]
 rw[← (mono n _ _ (Classical.choose_spec hex)),Nat.add_comm,(mono (Classical.choose _) n _ (by simp_all)),h]
theorem zoh {c:En→R Bool} {m:En→O} {α:Type} (env:α→En) (go:α→Bool) (nxt:α→α) (P:α→Prop) (μ:α→Nat) (hc:∀a,P a→c (env a)=.ok (go a)) (hs:∀a,P a→go a=true→m (env a)=.nx (env (nxt a))∧P (nxt a)∧μ (nxt a)<μ a)
  (a:α) (h:P a):∃b,P b∧go b=false∧zid c m (env a)=.nx (env b)∧∃k,b=Nat.repeat nxt k a:=by
 have key:∀n a,P a→μ a<n→∃b,P b∧go b=false∧zgd c m n (env a)=.nx (env b)∧∃k,b=Nat.repeat nxt k a:=by
  intro n
  induction n with
  | zero=>omega
  | succ n ih=>
   intro a hp hm
   cases g:go a with
   | false=>exact⟨a,hp,g,by unfold zgd;rw[hc a hp,g];rfl,0,rfl⟩
   | true=>
    obtain⟨h1,h2,h3⟩:=hs a hp g
    obtain⟨b,b1,b2,b3,k,b4⟩:=ih _ h2 (by omega)
    refine⟨b,b1,b2,?_,k+1,?_⟩
    ·unfold zgd
     simp_all
    ·rw[b4]
     clear b4 b3 b2 b1 b h3 h2 h1 hm hp ih
     induction k with
     | zero=>rfl
     | succ k ih=>show nxt _=nxt _;rw[ih]
 obtain⟨b,b1,b2,b3,k⟩:=key _ a h (Nat.lt_succ_self _)
 exact⟨b,b1,b2,znI b3 (by simp),k⟩
theorem zh5 {β:Type} {f:D→R (Option D)} (enc:β→D) (g:β→Option D):∀(l:List β),(∀x∈l,f (enc x)=.ok (g x))→zb1 f (l.map enc)=.ok (l.filterMap g)
 | [],_=>rfl
 | x::l,h=>by
  rw[List.map_cons]
  unfold zb1
  rw[zh5 _ g l fun y hy=>h y (List.mem_cons_of_mem _ hy)]
  cases q:g x with
  | none=>simp_all
  | some d=>simp_all
theorem small {n:Nat} (h:n≤100000):n≤sizeLine:=Nat.le_trans h (by decide)
theorem zq6 {n:Nat} (h:n≤100000):n<sizeLine:=Nat.lt_of_le_of_lt h (by decide)
theorem fitN {i:Int} (n:Nat) (h:i.natAbs≤n) (h2:n<2 ^ 8000:=by decide +kernel):Fit i:=Nat.lt_of_le_of_lt h h2
@[simp] theorem zmL (i j:Int):oAdd (.int i) (.int j)=some (.int (i+j)):=rfl
@[simp] theorem zrL (i j:Int):oSub (.int i) (.int j)=some (.int (i - j)):=rfl
theorem zoo {i j:Int} (h:Fit i) (h':Fit j):oMul (.int i) (.int j)=some (.int (i*j)):=za3 ⟨h,h'⟩
theorem zrc {i j:Int} (h:j≠0) (h':Fit j):oDiv (.int i) (.int j)=some (.int (i.fdiv j)):=za3 ⟨h,h'⟩
theorem zeL {i j:Int} (h:0<j) (h':Fit j):oDiv (.int i) (.int j)=some (.int (i/j)):=by
 rw[zrc (by omega) h',Int.fdiv_eq_ediv_of_nonneg _ (by omega)]
theorem zdv {i j:Int} (h:0<j):oMod (.int i) (.int j)=some (.int (i%j)):=za3 h
theorem zrr {i j:Int} (h:CPow i j):oPow (.int i) (.int j)=some (.int (i ^ j.toNat)):=za3 h
@[simp] theorem zte (i j:Int):oLt (.int i) (.int j)=some (.bl (decide (i<j))):=rfl
@[simp] theorem zth (i j:Int):oGt (.int i) (.int j)=some (.bl (decide (j<i))):=rfl
@[simp] theorem zpK (i:Int):oNeg (.int i)=some (.int (-i)):=rfl
@[simp] theorem zsC (i j:Int):oEq (.int i) (.int j)=some (.bl (decide (i=j))):=by simp[oEq,fl,scal]
@[simp] theorem ztg (i j:Int):oNe (.int i) (.int j)=some (.bl (!decide (i=j))):=by simp[oNe,fl,scal]
@[simp] theorem ztf (d:D):oIs d .non=some (.bl (isN d)):=rfl
@[simp] theorem zmc (b:Bool):asB (.bl b)=some b:=rfl
@[simp] theorem zti (l:List D):asL (.lst l)=some l:=rfl
@[simp] theorem zmG (i:Int):asI (.int i)=some i:=rfl
@[simp] theorem zta (l:List D):fLen [.lst l]=some (.int l.length):=rfl
@[simp] theorem ztb (l:List D):fLen [.tup l]=some (.int l.length):=rfl
@[simp] theorem zs7 (a b:D):oIxT (.tup [a,b]) (.int 0)=some a:=rfl
@[simp] theorem zsY (a b:D):oIxT (.tup [a,b]) (.int 1)=some b:=rfl
theorem atI_nat {α:Type} {l:List α} {k:Nat} {d:α} (h:l[k]?=some d):atI l (k:Int)=some d:=by
 have hk:=(List.getElem?_eq_some_iff.mp h).1
 unfold atI ixN
 rwa [if_pos (by omega),if_pos (by omega)]
theorem zrP {l:List D} {k:Nat} {d:D} (h:l[k]?=some d):oIxL (.lst l) (.int (k:Int))=some d:=atI_nat h
theorem zfu {l:List D} {i:Int} {d:D} (h0:0≤i) (h:l[i.toNat]?=some d):oIxL (.lst l) (.int i)=some d:=by
 have e:i=i.toNat:=by omega
 rw[e]
 exact zrP h
theorem rng1 {n:Int} (h0:0≤n) (h:n≤100000):rng [.int n]=some (zfT 0 n.toNat):=by
 show ifC _ _ _=_
 rw[za3 (by omega)]
theorem rng2 {a b:Int} (h0 : -100000≤a∧a≤100000) (h : -100000≤b∧b≤100000):rng [.int a,.int b]=some (zfT a (b - a).toNat):=by
 show ifC _ _ _=_
 rw[za3 (by omega)]
theorem znT (n:Nat):zfT 0 n=(List.range n).map fun (k:Nat)=>D.int (k:Int):=by
 unfold zfT
 simp
theorem zls (l:List D):zhS l=(l.zipIdx).map fun p=>D.tup [.int (p.2:Int),p.1]:=by
 unfold zhS
 rw[List.mapIdx_eq_zipIdx_map]
@[simp] theorem ztd (a b:α):([a,b].length≤sizeLine)=True:=by simp[sizeLine]
def sv:Option D→Sl
 | none=>.no
 | some d=>.v d
theorem zaY {i:Nat} {d:D} {δ:En} {o:Option D} (h:δ[i]?=some (sv o)):zax i d δ=some (δ.set i (.v d)):=by
 unfold zax
 rw[h]
 cases o <;> rfl
@[simp] theorem zsM:sv none=.no:=rfl
@[simp] theorem zs6 (d:D):sv (some d)=.v d:=rfl
def dk (L:List Int):D:=.dct (L.map .inl) (L.map fun _=>.bl true)
theorem zpN (L:List Int) (t:Int):getK (L.map .inl) (L.map fun _=>.bl true) (.inl t)=if t∈L then some (.bl true) else none:=by
 induction L with
 | nil=>rfl
 | cons a l ih=>
  simp[getK]
  by_cases h:a=t
  ·simp_all
  ·grind
theorem zqc (L:List Int) (t:Int):putL (L.map .inl) (L.map fun _=>.bl true) (.inl t) (.bl true)=L.map fun _=>.bl true:=by
 induction L with
 | nil=>rfl
 | cons a l ih=>simp[putL,ih]
theorem zrD (L:List Int) (t:Int):putD (L.map .inl) (L.map fun _=>.bl true) (.inl t) (.bl true)=dk (if t∈L then L else L++[t]):=by
 unfold putD
 by_cases h:t∈L
 ·rw[if_pos (by simp_all),if_pos h,zqc];rfl
 ·rw[if_neg (by simp_all),if_neg h]
  simp[dk]
theorem zqw (L:List Int) (t:Int):zqJ (L.map .inl) (L.map fun _=>.bl true) (.inl t)=dk (L.filter fun a=>decide (a≠t)):=by
 unfold zqJ dk
 congr 1
 ·induction L with
  | nil=>rfl
  | cons a l ih=>
   simp only[List.map_cons,List.filter_cons]
   by_cases h:a=t
   ·subst h;simpa using ih
   ·have h':¬ (Sum.inl a:Key)=Sum.inl t:=fun e=>h (Sum.inl.inj e)
    simp only[h,h',ne_eq,not_false_eq_true,decide_true,if_true,List.map_cons,ih]
 ·induction L with
  | nil=>rfl
  | cons a l ih=>
   simp only[List.map_cons,zpn,List.filter_cons]
   by_cases h:a=t
   ·subst h;simpa using ih
   ·have h':¬ (Sum.inl a:Key)=Sum.inl t:=fun e=>h (Sum.inl.inj e)
    rw[if_neg h',ih]
    simp[h]
@[simp] theorem zrU (L:List Int) (t:Int):zkh (.int t) (dk L)=some (.bl (!decide (t∈L))):=by
 simp[zkh,asK,dk,zpN]
 grind
theorem zpo {i:Nat} {mk me:En→R D} {δ:En} {L:List Int} {t:Int} (h:δ[i]?=some (.o (dk L))) (h1:mk δ=.ok (.int t)) (h2:me δ=.ok (.bl true)) (hl:L.length≤100000) :
  zkw i mk me δ=.nx (δ.set i (.o (dk (if t∈L then L else L++[t])))):=by
 unfold zkw
 rw[h]
 simp only[dk,h2,h1,R.toO_ok,asK]
 rw[za3 (by rw[List.length_map];exact zq6 hl),zrD]
 rfl
theorem zsG {i:Nat} {mk:En→R D} {δ:En} {L:List Int} {t:Int} (h:δ[i]?=some (.o (dk L))) (h1:mk δ=.ok (.int t)) (ht:t∈L) :
  zrX i mk δ=.nx (δ.set i (.o (dk (L.filter fun a=>decide (a≠t))))):=by
 unfold zrX
 rw[h]
 simp only[dk,h1,R.toO_ok,asK,zpN,if_pos ht]
 rw[zqw]
 rfl
def iL (l:List Int):D:=.lst (l.map .int)
theorem zbX {α:Type} {f:D→R (Option D)} (enc:α→D) (g:α→D) (l:List α) (h:∀x∈l,f (enc x)=.ok (some (g x))):zb1 f (l.map enc)=.ok (l.map g):=by
 rw[zh5 _ _ l h,List.filterMap_eq_map']
theorem zcZ {mi:En→R (List D)} {ix:List Nat} {n:Nat} {b:D→En→Option En} {nc:Option (En→R Bool)} {me:En→R D} {δ:En} {l r:List D} (h1:mi δ=.ok l) (hl:l.length≤100000)
  (h2:zb1 (zeP b nc me (zaK δ ix n)) l=.ok r):zha mi ix n b nc me δ=.ok (.lst r):=by
 unfold zha
 rw[h1,R.bind_ok,za3 (small hl),h2]
 rfl
theorem zce {mi:En→R (List D)} {b:D→En→Option En} {m:En→O} {δ:En} {l:List D} (h:mi δ=.ok l):mFor mi b m δ=zek b m l δ:=by
 unfold mFor
 simp_all
theorem zbL {np nv:Nat} {m:En→O} {ds:List D} {d:D} (h:m (zbn nv ds)=.rt d) (hl:ds.length=np:=by rfl):runF np nv m ds=.ok d:=by
 unfold runF
 simp_all
theorem zkj {np nv:Nat} {m:En→O} {ds:List D} {δ:En} (h:m (zbn nv ds)=.nx δ) (hl:ds.length=np:=by rfl):runF np nv m ds=.ok .non:=by
 unfold runF
 simp_all
theorem zda {np nv:Nat} {m:En→O} {ds:List D} {d:D} (h:m (zbn nv ds)=.ro d) (hl:ds.length=np:=by rfl):runO np nv m ds=.ok d:=by
 unfold runO
 simp_all
theorem zaN {m n:En→O} {δ δ':En} (h:m δ=.nx δ'):mSeq m n δ=n δ':=by unfold mSeq;rw[h]
theorem zcY {me:En→R D} {b:D→En→Option En} {δ δ':En} {d:D} (h:me δ=.ok d) (h2:b d δ=some δ'):mAsg me b δ=.nx δ':=by unfold mAsg;simp_all
theorem zcN {n:En→R Bool} {m m':En→O} {δ:En} (h:n δ=.ok true):mIfS n m m' δ=m δ:=by unfold mIfS;simp_all
theorem zbe {n:En→R Bool} {m m':En→O} {δ:En} (h:n δ=.ok false):mIfS n m m' δ=m' δ:=by unfold mIfS;simp_all
theorem zbQ {β:Type} {b:D→En→Option En} {m:En→O} (enc:β→D) (P:List β→En→Prop) (all:List β)
  (step:∀pre x post δ,all=pre++x::post→P pre δ→∃δ1 δ2,b (enc x) δ=some δ1∧(m δ1=.nx δ2∨m δ1=.ct δ2)∧P (pre++[x]) δ2) (δ:En) (h:P [] δ):∃δ2,zek b m (all.map enc) δ=.nx δ2∧P all δ2:=by
 have key:∀(post pre:List _) (δ:En),all=pre++post→P pre δ→∃δ2,zek b m (post.map enc) δ=.nx δ2∧P all δ2:=by
  intro post
  induction post with
  | nil=>intro pre δ e h;exact⟨_,rfl,by simp_all⟩
  | cons x post ih=>
   intro pre δ e h
   obtain⟨δ1,δ2,h1,h2,h3⟩:=step _ x _ _ e h
   obtain⟨δ3,h4,h5⟩:=ih _ _ (by rw[e];simp) h3
   refine⟨_,?_,h5⟩
   rw[List.map_cons]
   unfold zek
   rw[h1]
   rcases h2 with h2|h2 <;> (simp[h2];exact h4)
 exact key _ _ _ rfl h
@[simp] theorem zsP (l:List Int):fLen [iL l]=some (.int l.length):=by simp[iL]
@[simp] theorem ztc (l:List Int):asL (iL l)=some (l.map .int):=rfl
theorem za8 {α:Type} {l:List α} {pre post:List (α×Nat)} {x:α×Nat} (h:l.zipIdx=pre++x::post):x.2=pre.length∧l[x.2]?=some x.1∧∀q∈pre,q.2<x.2:=by
 have at':∀(k:Nat) (y:α×Nat),(pre++x::post)[k]?=some y→l[k]?=some y.1∧y.2=k:=by
  intro k y hk
  rw[← h,List.getElem?_zipIdx] at hk
  cases e:l[k]? with
  | none=>simp_all
  | some a=>grind
 obtain⟨h1,h2⟩:=at' pre.length x (by simp)
 refine⟨h2,by grind,fun q hq=>?_⟩
 obtain⟨k,hk,e⟩:=List.getElem_of_mem hq
 obtain⟨_,h3⟩:=at' k q (by rw[List.getElem?_append_left hk,List.getElem?_eq_getElem hk,e])
 omega
theorem zoR {l:List D} {k:Nat} (h:k≤l.length):cutD l none (some (k:Int))=l.take k:=by
 unfold cutD
 have e:HT.sIx l.length l.length (some k)=k:=by
  show (if k<0 then ((k:Int)+l.length).toNat else min _ _)=k
  grind
 rw[e]
 rfl
theorem ziz {l:List D} {k:Nat} (h:k≤l.length):cutD l (some (k:Int)) none=l.drop k:=by
 unfold cutD
 have e:HT.sIx l.length 0 (some k)=k:=by
  show (if k<0 then ((k:Int)+l.length).toNat else min _ _)=k
  grind
 rw[e]
 show (l.drop k).take (l.length - k)=_
 rw[List.take_of_length_le (by simp)]
theorem zo4 (l:List Int) (lo hi:Option Int):∃cs:List Int,cutD (l.map .int) lo hi=cs.map .int∧cs.length≤l.length:=by
 refine⟨(l.drop (HT.sIx l.length 0 lo)).take (HT.sIx l.length l.length hi - HT.sIx l.length 0 lo),?_,by rw[List.length_take,List.length_drop];omega⟩
 unfold cutD
 simp
end PM
namespace PM
open PySem L2 PyProof.Rows
section
variable {K:Kx} {ca:Nat→Addr} {an:Nat→Str} {XO:XOT} {E:L2.St→XK} {ta tb te:TE} {ma mb me:En→R D} {X:Cx}
def zss:R2:=fun x y H Q=>∃l b xs zs,x=.ref l∧y=.ref b∧Rd H l (.lst xs)∧Rd H b (.lst zs)∧xs.length+zs.length≤sizeLine∧∀p,H p=none→Q (.ref p) (upd H p (.lst (xs++zs)))
theorem zdp:OpR X (binaryOp .Add) zss:=by
 rintro pins s σ H x y v u Q I rx ry ⟨l,b,xs,zs,rfl,rfl,hH,hB,hz,q⟩
 cases rx
 cases ry
 obtain⟨z,its,n,r,e⟩:=hH.ok I.hok
 obtain⟨z2,its2,n2,r2,e2⟩:=hB.ok I.hok
 have hl:=r.length
 have hl2:=r2.length
 refine PySem.P.add_list e e2 ?_ (by rw[List.size_toArray,List.size_toArray];omega)
 have ea:its.toArray++its2.toArray=(its++its2).toArray:=by simp
 rw[ea]
 exact⟨.ref _,_,I.lnew (r.append r2) (by rw[List.length_append];omega),rfl,q _ I.fresh⟩
theorem zeD:SRo K zss oCat:=by
 intro F H x y dx dy d Q s hx hy e q
 cases dx with
 | lst l=>
  cases dy with
  | lst r=>
   simp[oCat] at e
   unfold ifC at e
   split at e
   ·cases e
    obtain⟨a,vs,rfl,h1,h2⟩:=hx
    obtain⟨b,ws,rfl,g1,g2⟩:=hy
    exact⟨a,b,_,_,rfl,rfl,h1,g1,by rwa [h2.length,g2.length],fun p hp=>q p F _ (.newO s hp) (s.free hp) hp ⟨_,zaB,h2.append g2⟩⟩
   simp_all
  | _=>cases e
 | _=>cases e
theorem zg4 {F:Hp}:∀ {ns:List Int} {xs:List V},RepL K F (ns.map .int) xs→xs=ns.map V.int
 | [],xs,h=>by simpa[RepL] using h
 | n::ns,xs,h=>by
  obtain⟨v,r,rfl,rfl,h3⟩:=h
  rw[zg4 h3];rfl
theorem zqy {K:W.Frag} {S T:String} (h2:PySem.W.kitMeta T=true) (h3:(PySem.fastBuiltinMro S).map (·.contains (.type T))=some true):PySem.W.kitOne K (.type S) (.type T)=some true:=by
 unfold PySem.W.kitOne
 split
 ·rfl
 ·show (if PySem.W.kitMeta T=true then PySem.W.subIn K _ _ else none)=some _
  rw[if_pos h2]
  exact h3
def zm9:D→String
 | .non=>"NoneType"
 | .bl _=>"bool"
 | .int _=>"int"
 | .str _=>"str"
 | .tup _=>"tuple"
 | .lst _=>"list"
 | .dct _ _=>"dict"
 | .scr _=>"list"
 | .exc _=>"object"
 | .fd _ _=>"object"
 | .obj _ _ _=>"object"
theorem zgN {K:W.Frag}:PySem.W.kitOne K (.type "NoneType") (.type "int")=some false:=L2.kit_no rfl rfl rfl
theorem kit_int_bool {K:W.Frag}:PySem.W.kitOne K (.type "bool") (.type "int")=some true:=zqy rfl (rfl)
theorem zkD {K:W.Frag}:PySem.W.kitOne K (.type "str") (.type "int")=some false:=L2.kit_no rfl (by decide +kernel) (by decide +kernel)
theorem zi5 {K:W.Frag}:PySem.W.kitOne K (.type "tuple") (.type "int")=some false:=L2.kit_no rfl (by decide +kernel) (by decide +kernel)
theorem zjb {K:W.Frag}:PySem.W.kitOne K (.type "list") (.type "int")=some false:=L2.kit_no rfl rfl rfl
theorem zjz {K:W.Frag}:PySem.W.kitOne K (.type "dict") (.type "int")=some false:=L2.kit_no rfl (by decide +kernel) (by decide +kernel)
theorem zgo {K:W.Frag}:PySem.W.kitOne K (.type "NoneType") (.type "bool")=some false:=L2.kit_no rfl rfl rfl
theorem zjG {K:W.Frag}:PySem.W.kitOne K (.type "int") (.type "bool")=some false:=L2.kit_no rfl rfl rfl
theorem zjV {K:W.Frag}:PySem.W.kitOne K (.type "str") (.type "bool")=some false:=L2.kit_no rfl rfl rfl
theorem zhG {K:W.Frag}:PySem.W.kitOne K (.type "tuple") (.type "bool")=some false:=L2.kit_no rfl (by decide +kernel) rfl
theorem zin {K:W.Frag}:PySem.W.kitOne K (.type "list") (.type "bool")=some false:=L2.kit_no rfl (by decide +kernel) (by decide +kernel)
theorem zit {K:W.Frag}:PySem.W.kitOne K (.type "dict") (.type "bool")=some false:=L2.kit_no rfl rfl rfl
theorem zph {K:W.Frag} (d:D) (h:okI d=true):PySem.W.kitOne K (.type (zm9 d)) (.type "int")=some (isiB "int" d):=by
 cases d with
 | non=>exact zgN
 | bl b=>exact kit_int_bool
 | int b=>rfl
 | str b=>exact zkD
 | tup b=>exact zi5
 | lst b=>exact zjb
 | dct b b'=>exact zjz
 | scr b=>cases h
 | exc b=>cases h
 | fd b b'=>cases h
 | obj b b' b''=>cases h
theorem znL {K:W.Frag} (d:D) (h:okI d=true):PySem.W.kitOne K (.type (zm9 d)) (.type "bool")=some (isiB "bool" d):=by
 cases d with
 | non=>exact zgo
 | bl b=>rfl
 | int b=>exact zjG
 | str b=>exact zjV
 | tup b=>exact zhG
 | lst b=>exact zin
 | dct b b'=>exact zit
 | scr b=>cases h
 | exc b=>cases h
 | fd b b'=>cases h
 | obj b b' b''=>cases h
theorem zpP {c:String} (hk:∀d,okI d=true→PySem.W.kitOne K.f (.type (zm9 d)) (.type c)=some (isiB c d)) (ha:SEr K XO E ta ma):SE K XO E (tCB (rIs K.f) (ze3 ta (ze3 (tC (.ty c)) tNil))) (m1 (oIsi c) ma):=by
 intro Λ F0 H0 F H σ δ Q I a
 refine ha _ _ _ F H _ _ _ I (a.bind.imp fun d F1 H1 e1 a1 x rx=>?_)
 by_cases hs':okI d=true
 case neg=>
  cases d with
  | scr _=>exact a1.elim
  | exc _=>exact a1.elim
  | fd _ _=>exact a1.elim
  | obj _ _ _=>exact a1.elim
  | _=>exact absurd rfl hs'
 have a2:Aft E XO σ F1 H1 (fun d F' H'=>∀v,Rep K F' d v→Q v H') (.ok (.bl (isiB c d))):=by
  cases d with
  | scr l=>cases hs'
  | exc l=>cases hs'
  | fd _ _=>cases hs'
  | obj _ _ _=>cases hs'
  | _=>exact a1
 suffices h:TyOf _ _ x _ from ⟨x,_,_,_,_,rfl,rfl,h,hk d hs',(a2 _ _ (.refl e1.fh) _ rfl)⟩
 cases d with
 | non=>subst rx;exact .non
 | bl b=>subst rx;exact .bl _
 | int b=>subst rx;exact .int _
 | str b=>subst rx;exact .str _
 | tup l=>
  obtain⟨p,vs,rfl,h1,h2⟩:=rx
  exact .tup (e1.fh _ _ h1)
 | lst l=>
  obtain⟨p,vs,rfl,h1,h2⟩:=rx
  rcases h1 with h|⟨o,h⟩
  ·exact .lst h
  ·exact .frz h
 | dct ks l=>obtain⟨p,kvs,rfl,h1,h2⟩:=rx;exact .dK h1
 | scr l=>cases hs'
 | exc l=>cases hs'
 | fd _ _=>cases hs'
 | obj _ _ _=>cases hs'
def toPy:Nat→D→PyData
 | _,.non=>.none
 | _,.int i=>.int i
 | n+1,.tup l=>.tuple (l.map (toPy n))
 | n+1,.lst l=>.list (l.map (toPy n))
 | _,_=>.none
end
end PM
namespace PM
open PySem L2
def xoK (K:Kx):XOT:=fun x F _ C dct=>C=.ref (K.ca x.c)∧XA K F x.c dct
def zlq (c:Nat) (ml:En→R (List D)) (δ:En):O:=(ml δ).toO δ fun l=>ifC (l.length≤sizeLine) (.ex δ ⟨c⟩) .no
section
variable {K:Kx} {E:L2.St→XK} {ta:TE} {ma:En→R D} {t u:TS} {m n:En→O} {Λ:List (Nat×Addr×HO)} {F0 H0 F H:Hp} {σ:L2.St} {δ:En}
theorem zi6 {C:Addr} {c:Nat} {tl:TA} {ml:En→R (List D)} (hC:C=K.ca c) (hax:c<16) (h:SA K (xoK K) E tl ml):SS K (xoK K) E (zp4 C E tl) (zlq c ml):=by
 intro Λ F0 H0 F H σ δ Dn I a
 refine h _ _ _ F H _ _ _ I ((AftS.of I a).imp fun l F1 H1 e p vs r=>?_)
 unfold ifC at p
 split at p
 ·exact⟨by rwa [r.length],p _ _ _ _ _ (I.grow e) ⟨by rw[hC],by unfold XA;simp_all⟩⟩
 ·exact p.elim
theorem EnvOk.unset {i:Nat} (I:EnvOk K Λ F0 H0 F H σ δ) (hl:∃x,δ[i]?=some x∧∀d,x≠.l d):EnvOk K Λ F0 H0 F H (σ.set i none) (δ.set i .no):=by
 obtain⟨x,hx,hn⟩:=hl
 have hi:=(List.getElem?_eq_some_iff.mp hx).1
 refine⟨I.ext,by simp[I.len],fun j=>?_,fun j k a hjk h1 h2 h3 h4=>?_,fun y hy=>?_,I.tabsOf (fun k ll h=>by
   by_cases e:i=k
   ·simp_all
   simp_all) (fun _ _ _ _ _ _ t f _=>⟨t,fun b hb=>(f b hb).2⟩) fun k j ll a b bs _ _ _ _ ho hs=>.inl (by
   by_cases e:i=j
   ·subst e;rw[List.getElem?_set_self hi] at ho;cases ho
   simp_all)⟩
 ·by_cases e:i=j
  ·subst e
   rw[List.getElem?_set_self hi]
   trivial
  ·rw[List.getElem?_set_ne e,List.getElem?_set_ne e]
   exact I.slot j
 ·have ne:∀k ,Sl.own (δ.set i .no)[k]?=true→i≠k:=by
   rintro k h rfl
   rw[List.getElem?_set_self hi] at h
   cases h
  have n1:=ne j h1
  have n2:=ne k h2
  rw[List.getElem?_set_ne n1] at h1 h3
  rw[List.getElem?_set_ne n2] at h2 h4
  exact I.dist j k a hjk h1 h2 h3 h4
 ·obtain⟨⟨d',h1⟩,h2,h3⟩:=I.lent y hy
  have n:i≠y.1:=by
   intro e
   rw[← e,hx] at h1
   exact hn _ (Option.some.inj h1)
  exact⟨⟨_,by rwa [List.getElem?_set_ne n]⟩,by rwa [List.getElem?_set_ne n],h3⟩
def zgL (i:Nat) (δ:En):Option En:=match δ[i]? with|none=>none|some (.l _)=>none|some _=>some (δ.set i .no)
theorem zhr {i:Nat} {δ':En} (h:zgL i δ=some δ') (I:EnvOk K Λ F0 H0 F H σ δ):EnvOk K Λ F0 H0 F H (σ.set i none) δ':=by
 unfold zgL at h
 split at h
 ·cases h
 ·cases h
 ·rename_i x h2 h1
  cases h
  exact I.unset ⟨x,h1,fun d' z=>h2 _ (by rw[z])⟩
def zk3 (i:Nat):O→O
 | .nx δ=>(match zgL i δ with|some δ'=>.nx δ'|none=>.no)
 | .bk δ=>(match zgL i δ with|some δ'=>.bk δ'|none=>.no)
 | .ct δ=>(match zgL i δ with|some δ'=>.ct δ'|none=>.no)
 | .ex _ _=>.no
 | r=>r
def mTry (mb:En→O) (sub:Nat→Bool) (i:Nat) (mh:En→O) (δ:En):O:=match mb δ with
 | .ex δ' x=>if sub x.c=true then (match zax i (.exc x.c) δ' with|some δ1=>zk3 i (mh δ1)|none=>.no) else .no
 | r=>r
theorem zrM {D':Addr} {tb:(L2.St→XK)→TS} {th:TS} {mb mh:En→O} {sub:Nat→Bool} {i:Nat} (hsub:∀c,sub c=true→PySem.W.kitCls K.f (.ref (K.ca c)) (.ref D')=some true)
  (hb:∀E',SS K (xoK K) E' (tb E') mb) (hh:SS K (xoK K) EN th mh):SS K (xoK K) E (tTry K.f D' tb i th) (mTry mb sub i mh):=by
 intro Λ F0 H0 F H σ δ Dn I a
 refine hb _ _ _ _ F H _ _ _ I ?_
 unfold mTry at a
 cases q:mb _ with
 | no=>rwa [q] at a
 | nx δ'=>rwa [q] at a
 | rt d=>rwa [q] at a
 | ro d=>rwa [q] at a
 | bk δ'=>rwa [q] at a
 | ct δ'=>rwa [q] at a
 | ex δ' x=>
  rw[q] at a
  simp at a
  split at a
  ·rename_i hs
   rintro σ1 F1 H1 C dct I1 ⟨rfl,hxa⟩
   refine⟨_,rfl,hsub _ hs,fun ea hea=>?_⟩
   have sF:Same _ (upd _ _ (excO (K.ca x.c) dct ea)):=Same.upd (I1.same.free hea)
   cases qb:zax i _ _ with
   | none=>rw[qb] at a;exact a.elim
   | some δ1=>
    rw[qb] at a
    simp at a
    refine zau _ _ _ _ _ _ _ _ _ _ _ (I1.grow (Ext.new I1.same hea)) ?_ qb fun σ2 I3=>?_
    ·exact⟨_,_,rfl,zaB,hxa.mono sF⟩
    ·refine hh _ _ _ _ _ _ _ _ I3 ?_
     cases qh:mh _ with
     | no=>rwa [qh] at a
     | rt d=>rwa [qh] at a
     | ro d=>rwa [qh] at a
     | ex _ _=>rw[qh] at a;exact a.elim
     | nx δ2=>
      rw[qh] at a
      simp[zk3] at a
      cases z:zgL i _ with
      | none=>rw[z] at a;exact a.elim
      | some δ3=>rw[z] at a;exact fun σ F H J=>a _ F H (zhr z J)
     | bk δ2=>
      rw[qh] at a
      simp[zk3] at a
      cases z:zgL i _ with
      | none=>rw[z] at a;exact a.elim
      | some δ3=>rw[z] at a;exact fun σ F H J=>a _ F H (zhr z J)
     | ct δ2=>
      rw[qh] at a
      simp[zk3] at a
      cases z:zgL i _ with
      | none=>rw[z] at a;exact a.elim
      | some δ3=>rw[z] at a;exact fun σ F H J=>a _ F H (zhr z J)
  ·exact a.elim
def zdK (tab:Nat→Option Bool) (d:D):Option D:=match d with|.exc c=>(tab c).map .bl|_=>none
theorem zfH {w:V} {cv:Value} {tab:Nat→Option Bool} (hw:clsV w=some cv) (hk:∀c b,tab c=some b→ExcCls K.f (K.ca c)∧PySem.W.kitOne K.f (.ref (K.ca c)) cv=some b) (ha:SEr K XO E ta ma) :
  SE K XO E (tCB (rIsX K.f) (ze3 ta (ze3 (tC w) tNil))) (m1 (zdK tab) ma):=by
 intro Λ F0 H0 F H σ δ Q I a
 refine ha _ _ _ F H _ _ _ I (a.bind.imp fun d F1 H1 e1 a1 x rx=>?_)
 cases d with
 | exc c=>
  obtain⟨p,dct,rfl,h1,hxa⟩:=rx
  simp[zdK] at a1
  cases z:tab c with
  | none=>rw[z] at a1;exact a1.elim
  | some b=>
   rw[z] at a1
   obtain⟨k1,k2⟩:=hk c b z
   exact⟨p,_,_,w,_,b,rfl,hw,e1.fh _ _ h1,fun dx ed=>by
    unfold XA at hxa
    split at hxa
    ·simp_all
    ·obtain⟨dx',e2,e3⟩:=hxa
     rw[e2] at ed;cases ed
     exact⟨_,e1.fh _ _ e3⟩,k1,k2,a1 _ _ (.refl e1.fh) _ rfl⟩
 | _=>exact a1.elim
end
section
variable {K:Kx} {XO:XOT} {E:L2.St→XK} {td ty tx:TE} {md my mx:En→R D}
def oShl:D→D→Option D:=i2c CPow fun i j=>.int (i*2 ^ j.toNat)
def oIn (x y:D):Option D:=match x,y with|.int i,.lst l=>(asIs l).map fun ns=>.bl (decide (i∈ns))|.int i,.tup l=>(asIs l).map fun ns=>.bl (decide (i∈ns))|_,_=>none
theorem zln {i:Int} {ns:List Int}:inV (.int i) (ns.map V.int)=decide (i∈ns):=by
 rw[Bool.eq_iff_iff]
 unfold inV
 simp[List.any_eq_true]
 constructor
 ·rintro⟨a,h1,h2⟩
  have:=by simpa[eqV] using h2
  simp_all
 ·intro h
  exact⟨i,h,by simp[eqV]⟩
theorem zjK {ns:List Int}:(ns.map V.int).all zix=true:=by
 rw[List.all_map,List.all_eq_true]
 intro x _;rfl
theorem zsZ:SR K (rIn K.f false) oIn:=by
 intro F H x y dx dy d Q s hx hy e q
 cases dx with
 | int i=>
  subst hx
  cases dy with
  | lst l=>
   obtain⟨a,vs,rfl,h1,h2⟩:=hy
   simp only[oIn] at e
   cases z:asIs l with
   | none=>simp_all
   | some ns=>
    rw[z] at e;cases e
    have el:=zkc z;subst el
    have ev:=zg4 h2;subst ev
    exact⟨a,_,rfl,.inl (.inl h1),rfl,zjK,q _ F H (.refl s) (by rw[zln];rfl)⟩
  | tup l=>
   obtain⟨a,vs,rfl,h1,h2⟩:=hy
   simp only[oIn] at e
   cases z:asIs l with
   | none=>rw[z] at e;cases e
   | some ns=>
    rw[z] at e;cases e
    have el:=zkc z;subst el
    have ev:=zg4 h2;subst ev
    exact⟨a,_,rfl,.inr (.inl (.inl (s _ _ h1))),rfl,zjK,q _ F H (.refl s) (by rw[zln];rfl)⟩
  | _=>cases e
 | _=>cases e
end
section
variable {K:Kx} {XO:XOT} {E:L2.St→XK} {te:TE} {me:En→R D}
theorem RepL.eraseIdx {F:Hp}:∀ {l:List D} {vs:List V} (k:Nat),RepL K F l vs→RepL K F (l.eraseIdx k) (vs.eraseIdx k)
 | [],vs,k,h=>by
  subst h
  rfl
 | d::l,vs,k,h=>by
  obtain⟨v,r,rfl,h1,h2⟩:=h
  cases k with
  | zero=>exact h2
  | succ k=>exact .cons h1 (RepL.eraseIdx k h2)
def zqT (i:Nat) (me:En→R D) (b:D→En→Option En) (δ:En):O:=match δ[i]? with
 | some (.o (.lst l))=>(me δ).toO δ fun k=>match k with
  | .int (.ofNat k)=>(match l[k]? with|some d=>if k<2 ^ 63 then O.of (b d (δ.set i (.o (.lst (l.eraseIdx k))))) else .no|none=>.no)
  | _=>.no
 | _=>.no
theorem zsQ {k n:Nat} (h:k<n):seqIndex? (k:Int) n=some k:=by
 unfold seqIndex?
 have e:¬ (k:Int)<0:=by omega
 simp[e]
 simp_all
theorem zql {i:Nat} {g:TG} {b:D→En→Option En} (h:SE K XO E te me) (hg:SG K g b):SS K XO E (tAsg (tBM K.f "list" zpY (tVar i) (ze3 te tNil)) g) (zqT i me b):=by
 intro Λ F0 H0 F H σ δ Dn I a
 unfold zqT at a
 split at a
 ·rename_i l q
  obtain⟨p,s1,vs,s2,s3⟩:=I.own q
  refine⟨_,s1,.inl ⟨rfl,_,.inl (.inl s2)⟩,(h _ _ _ F H _ δ _ I ((AftS.of I a).imp fun d F1 H1 e c v r=>?_))⟩
  split at c
  ·rename_i k
   subst r
   cases z:l[k]? with
   | none=>simp[z] at c;exact c.elim
   | some y=>
    simp[z] at c
    split at c
    ·obtain⟨w,hw,rw'⟩:=(s3.mono e.ff).get z
     refine⟨p,_,k,k,w,rfl,rfl,e.hh _ _ s2,by omega,by omega,zsQ (by grind),hw,?_⟩
     cases zz:b y _ with
     | none=>rw[zz] at c;exact c.elim
     | some δ'=>rw[zz] at c;exact hg _ _ _ _ _ _ _ y w _ _ ((I.grow e).chg (d':=.lst _) q s1 ⟨_,zaB,(s3.mono e.ff).eraseIdx k⟩) rw' zz fun σ' I'=>c _ _ _ I'
    ·exact c.elim
  ·exact c.elim
 ·exact a.elim
end
end PM
namespace L2
open PySem PySem.Spec PyProof.Rows
open Sem (wp)
section
variable {P:Program} {w:World} {B:Around} {Er:Value→Shared→Prop} {hp:Heap} {gs:Array GenState} {dr:Drawn} {tk:Nat} {os:OsState}
variable {nm q:Str} {C N:Addr} {bs bm bmB:List Value} {hdct:Bool} {sn:List Str} {sub:List Value} {ab:Bool} {col:Option Bool} {dd:Option Addr} {k0 k1 k2 k3 k5:Option Value} {B0 Bn newId nid initId inN:String} {bmN:List Value}
abbrev tupO (as:List Value):Obj:={ cls:=.type "tuple",data:=.seq as.toArray }
abbrev zl1 (C t:Addr):Obj:={ cls:=.ref C,data:=.fields #[.ref t,.none,.none,.none,.bool false,.none] }
theorem zhJ (Fn:ExcBaseFacts Bn newId inN bmN) (has:bmB.contains (.type Bn)=true) (Fb:ExcBaseFacts B0 nid initId bmB) (tail:OwnTail hp bmB bm) {ns:Str→Option Value} {as:List Value} {fa:Addr} {fo:Obj} {Q:Fin→Shared→Prop}
  (atC:hp.get? C=some (excClassObj nm q C N bs bm hdct sn sub ab col dd k0 k1 k2 k3 k5 newId)) (atN:hp.Ns N ns) (ini:ns "__init__"=some (.ref fa)) (atF:hp.get? fa=some fo) (isF:fo.cls=.type "function")
  (run:∀h' e,Heap.MadeExcOf hp h' e (.ref C) as→wpAny (model P w) B (call (.ref fa) (.ref e::as)) (fun r s'=>r=.none∧Q (.done (.ret (.ref e))) s') Er ⟨h',gs,dr,tk,os⟩) (few:as.length≤sizeLine) :
  wpAny (model P w) B (Builtin.«type.__call__» ⟨.ref C::as,[]⟩) Q Er ⟨hp,gs,dr,tk,os⟩:=by
 repeat (first|with_reducible rfl|with_reducible rfl|wp_step)
 refine codeAny_call_builtin_code (Code.quiet_builtin _ Fn.quiet) (wpAny_check_new_subU Fn has tail atC (codeAny_exc_new_subU Fn has Fb tail atC ?_ few))
 show wpAny _ _ _ _ _ _
 have up:∀b o,hp.get? b=some o→((hp.push (tupO as)).push (zl1 C hp.objs.size)).get? b=some o:=fun b o e=>Heap.get?_push_of_some _ (Heap.get?_push_of_some _ e)
 have atC1:=up _ _ atC
 have atN1:((hp.push (tupO as)).push (zl1 C hp.objs.size)).Ns N ns:=let ⟨o,es,ep,e,r⟩:=atN;⟨o,es,ep,up _ _ e,r⟩
 have atE:((hp.push (tupO as)).push (zl1 C hp.objs.size)).get? (hp.objs.size+1)=some (zl1 C hp.objs.size):=by heap_get
 have own:(Value.ref C::bm).contains (.ref C)=true:=by simp
 unfold isInstance
 repeat (first|with_reducible refine wpAny_loadPart_at atE ?_|(with_reducible refine wpAny_isSubtype_exc atC1 ?_;rw[own])|wp_step)
 show wpAny _ _ (typeLookup (.ref C) _) _ _ _;refine wpAny_typeLookup_tail atC1 atN1 (tail.keeps (h':=(hp.push (tupO as)).push (zl1 C hp.objs.size)) up) Fb.mroIs Fb.init.lookup ?_
 rw[ini];refine wpAny_holding (wpAny_bind ?_);unfold bindSpecial
 refine wpAny_bind (wpAny_typeOf (T:="function") ⟨_,up _ _ atF,isF⟩ ?_)
 have made:Heap.MadeExcOf hp ((hp.push (tupO as)).push (zl1 C hp.objs.size)) (hp.objs.size+1) (.ref C) as:=
  ⟨up,Heap.get?_none_of_le (Nat.le_succ _),hp.objs.size,atE,Heap.get?_none_of_le (Nat.le_refl _),Heap.get?_push_of_some _ (Heap.get?_push_at rfl rfl)⟩
 refine wpAny_pure (wpAny_bind (wpAny_mono (run _ _ made) (fun r s' hr=>?_) fun _ _ x=>x))
 obtain⟨rfl,hQ⟩:=hr
 wp_walk
 exact hQ
theorem zmx (Fn:ExcBaseFacts Bn newId inN bmN) (has:bmB.contains (.type Bn)=true) (Fb:ExcBaseFacts B0 nid initId bmB) (tail:OwnTail hp bmB bm) {ns:Str→Option Value} {as:List Value} {fa:Addr} {fo:Obj} {Q:Value→Shared→Prop}
  (atC:hp.get? C=some (excClassObj nm q C N bs bm hdct sn sub ab col dd k0 k1 k2 k3 k5 newId)) (atN:hp.Ns N ns) (ini:ns "__init__"=some (.ref fa)) (atF:hp.get? fa=some fo) (isF:fo.cls=.type "function")
  (run:∀h' e,Heap.MadeExcOf hp h' e (.ref C) as→wpAny (model P w) (B.under (.builtin "type.__call__" ⟨.ref C::as,[]⟩)) (call (.ref fa) (.ref e::as)) (fun r s'=>r=.none∧Q (.ref e) s') Er ⟨h',gs,dr,tk,os⟩) (few:as.length≤sizeLine) :
  wpAny (model P w) B (call (.ref C) as) Q Er ⟨hp,gs,dr,tk,os⟩:=by
 have f1:=tc_lookup
 have f2:=tc_bind (.ref C)
 refine wpAny_call (codeAny_of_tree ?_);repeat (any_goals (first|rfl|with_reducible rfl|wp_step))
 exact⟨rfl,codeAny_call_builtin_at (Code.quiet_builtin _ (by simp)) entry_typeCall (wpAny_check_type_call_sub atC (zhJ Fn has Fb tail atC atN ini atF isF (fun h' e m=>run _ e m) few))⟩
end
end L2
namespace L2
open PySem PySem.Spec PyProof.Rows
def uniq (ns:List Int):List Int:=ns.foldl step_dedup []
section
variable {X:Cx}
def zmV:TE:=fun _ _ _=>False
theorem zoS {e:Expr}:PE X e zmV:=fun _ _ _ _ _ _ h=>h.elim
end
end L2
namespace PM
open PySem L2
section
variable {K:Kx} {XO:XOT} {E:St→XK} {ta tb te:TE} {ma mb me:En→R D} {t u:TS} {m n:En→O} {Λ:List (Nat×Addr×HO)} {F0 H0 F H F' H' F1 H1:Hp} {σ:St} {δ:En} {Dn:Ends}
def tabD (ll:List (List Int)):D:=.lst (ll.map iL)
def rowT (l:List Int):Tr:=.l (l.map fun i=>.d (.int i))
def tabT (ll:List (List Int)):Tr:=.l (ll.map rowT)
def zsR:Tr→Option Int
 | .d (.int i)=>some i
 | _=>none
def zmR {α:Type} (f:Tr→Option α):List Tr→Option (List α)
 | []=>some []
 | t::ts=>(f t).bind fun x=>(zmR f ts).bind fun r=>some (x::r)
def zs0:Tr→Option (List Int)
 | .l ts=>zmR zsR ts
 | _=>none
def zsV:Tr→Option (List (List Int))
 | .l ts=>zmR zs0 ts
 | _=>none
def zoZ (i:Nat) (δ:En):Bool:=(List.range δ.length).all fun j=>j == i || match δ[j]? with|some (.p _)=>false|_=>true
def tabOf:Option Sl→Option (List (List Int))
 | some (.p T)=>zsV T
 | _=>none
def ztj (i:Nat) (mk mj me:En→R D) (δ:En):O:=match tabOf δ[i]? with
 | some ll=>(me δ).toO δ fun v=>(mk δ).toO δ fun k=>match v,k with
  | .int v,.int k=>(match ixN ll.length k with
   | some k'=>(match ll[k']? with
    | some row=>(mj δ).toO δ fun j=>(match j with
     | .int j=>(match ixN row.length j with|some j'=>.nx (δ.set i (.p (tabT (ll.set k' (row.set j' v)))))|none=>.no)
     | _=>.no)
    | none=>.no)
   | none=>.no)
  | _,_=>.no
 | none=>.no
end
end PM
namespace L2
open PySem PySem.Spec PyProof.Rows
section
variable {X:Cx} {a b c:Expr} {ta tb tc:TE} {pos:Pos}
def rAll:List V→Hp→VK→Prop:=fun xs H Q=>∃(p:Addr) (bs:List Bool),xs=[.ref p]∧Rd H p (.lst (bs.map V.bl))∧Q (.bl (bs.all id)) H
theorem zj6 {bs:List Bool} {its:List Value} (rv:Vals (bs.map V.bl) its):its=bs.map Value.bool:=by
 induction bs generalizing its with
 | nil=>cases rv;rfl
 | cons a l ih=>
  cases rv with
  | cons h t=>
   have:_=Value.bool a:=h
   grind
theorem zjU:∀(bs:List Bool),((List.range bs.length).all fun i=>bs.getD i false)=bs.all id
 | []=>rfl
 | b::bs=>by
  rw[List.length_cons,List.range_succ_eq_map,List.all_cons,List.all_map,List.all_cons,← zjU _]
  rfl
theorem znN (hc:X.calm=true):zgQ X (.builtin "all") rAll:=by
 rintro pins s σ H xs us Q I r ⟨p,bs,rfl,hq,q⟩
 obtain⟨u,rfl,rx⟩:=zhF r
 cases rx
 obtain⟨z,its,n,rv,e⟩:=hq.ok I.hok
 have ei:=zj6 rv
 subst ei
 have isl:s.heap.IsList p (bs.map _).toArray:=⟨_,e,rfl,n,rfl⟩
 refine call_all_walk (wpAny_pyIter_list isl (⟨_,_,_,_,_,_,(fun i=>bs.getD i false),rfl,Walks.list (A:=X.A.in1) (I.ok.hd hc) _ p (Nat.ne_of_lt (Heap.lt_size e)) _,⟨⟨_,Heap.get?_push_size _ rfl,rfl,rfl⟩,isl.push _⟩,?_,?_⟩))
 ·intro i v s' Q' E' hi hQ
  have hi':=hi
  rw[List.getElem?_toArray,List.getElem?_map] at hi'
  cases z:bs[i]? with
  | none=>simp_all
  | some b=>
   rw[z] at hi'
   cases hi'
   refine wpAny_truthy_bool ?_
   simp_all
 ·intro h' tk hk
  rw[List.size_toArray,List.length_map,zjU]
  refine⟨.bl _,H,I.kept (fun b o eo=>hk b o (fun hm=>?_) (Heap.get?_push_of_some _ eo)),rfl,q⟩
  rw[List.mem_singleton.mp hm] at eo
  exact absurd (Heap.lt_size eo) (Nat.lt_irrefl _)
end
end L2
namespace PM
open PySem L2
section
variable {K:Kx} {XO:XOT} {E:L2.St→XK} {ta tb tc:TE} {ma mb mc:En→R D}
def asBs:List D→Option (List Bool)
 | []=>some []
 | .bl b::l=>(asBs l).map fun bs=>b::bs
 | _::_=>none
theorem zgX:∀ {l:List D} {bs:List Bool},asBs l=some bs→l=bs.map .bl
 | [],_,h=>by cases h;rfl
 | d::l,bs,h=>by
  cases d with
  | bl b=>
   unfold asBs at h
   cases q:asBs l with
   | none=>simp_all
   | some r=>rw[q] at h;cases h;rw[zgX q];rfl
  | _=>cases h
theorem zlk (bs:List Bool):asBs (bs.map .bl)=some bs:=by
 induction bs with
 | nil=>rfl
 | cons b bs ih=>simp[asBs,ih]
def fAll:List D→Option D
 | [.lst l]=>(asBs l).map fun bs=>.bl (bs.all id)
 | _=>none
theorem zgx {F:Hp}:∀ {bs:List Bool} {vs:List V},RepL K F (bs.map .bl) vs→vs=bs.map V.bl
 | [],vs,h=>h
 | b::bs,vs,h=>by
  obtain⟨v,r,rfl,h1,h2⟩:=h
  have:=h1
  rw[this,zgx h2];rfl
theorem zrj:SC K rAll fAll:=by
 intro F H vs ds d Q s r e q
 unfold fAll at e
 split at e
 ·rename_i l
  cases q2:asBs l with
  | none=>simp_all
  | some bs=>
   rw[q2] at e
   cases e
   cases r with
   | cons r r'=>
    cases r'
    obtain⟨p,xs,rfl,h1,h2⟩:=r
    rw[zgX q2] at h2
    have:=zgx h2
    subst this
    exact⟨p,_,rfl,h1,q _ F H (.refl s) rfl⟩
 simp_all
end
end PM
namespace L2
open PySem PySem.Spec PyProof.Rows Builtin Builtin.ObjectAttr
def zn0:List Value→Bool
 | .ref _::r=>zn0 r
 | l=>l == [.type "ValueError",.type "Exception",.type "BaseException",.type "object"]
theorem zjq (self:Value):∀ {l:List Value},zn0 l=true→refuseLoop self "__setattr__" l=pure ()
 | .ref c::r,e=>by rw[refuseLoop_ref];exact zjq _ e
 | [],e=>rfl
 | .type n::r,e=>by
  have:=beq_iff_eq.mp e
  rw[this];exact PySem.F.store_ValueError.passes _
 | .none::r,e=>by have:=beq_iff_eq.mp e;simp_all
 | .bool _::r,e=>by have:=beq_iff_eq.mp e;simp_all
 | .int _ _::r,e=>by have:=beq_iff_eq.mp e;simp_all
 | .str _ _::r,e=>by have:=beq_iff_eq.mp e;simp_all
 | .builtin _::r,e=>by have:=beq_iff_eq.mp e;simp_all
def zmo (K:PySem.W.Frag) (C:Addr):Bool:=(PySem.W.clsIn K C).any fun cd=>zn0 cd.mro
section
variable {prog:Program} {w:World} {A:Around} {E:Value→Shared→Prop} {s:Shared} {K:PySem.W.Frag} {x C:Addr} {ox:Obj} {od:Option Obj} {name:Str} {tk:Tok} {v:Value} {R:Result→Shared→Prop}
theorem zo9 (X:K.In s.heap) (I:PySem.W.InstAt s.heap x ox C od) (hm0:PySem.W.mroIn K C (.type "object")=some true) (hp:zmo K C=true) (ht:PySem.W.takerIn K C name=some none)
  (h:∀b,wpAny (model prog w) A.in1 (storeInOwnDict (.ref x) (.ref C) (.str name tk) name v b)
   (fun fin s'=>match fin with|.done f=>R (.ok f) s'|.again c'=>c'.quiet=true∧codeAny (model prog w) A c' R s') (fun e s'=>R (.error e) s') s) :
  codeAny (model prog w) A (.call (.builtin "object.__setattr__") ⟨[.ref x,.str name tk,v],[]⟩) R s:=by
 have SF:=PySem.F.store_object
 obtain⟨cd,hc,ho⟩:=PySem.W.any_some hp
 have sub:PySem.W.Looks (model prog w) s.heap (isInstance _ _) _:=I.type.andThen (PySem.W.looks_mroIn X hm0)
 refine codeAny_call_builtin SF.slot.plain SF.entry (@PySem.W.check_slot _ _ _ s _ _ _ _ _ _ _ SF.kind SF.split sub (SF.args _ _ v) ?_)
 obtain⟨attr,ha,hr⟩:=Option.bind_eq_some_iff.mp ht
 have hm:PySem.W.Looks (model prog w) _ (mroOf (.ref C)) _:=(PySem.W.looks_clsIn X hc).andThen .now
 have L3:PySem.W.Looks (model prog w) s.heap (storeTaker? attr) none:=by
  cases attr with
  | none=>exact .now
  | some a=>
   obtain⟨b,hb,hb'⟩:=Option.map_eq_some_iff.mp hr
   refine (PySem.W.looks_takesIn X hb).andThen ?_
   cases b
   ·exact .now
   simp_all
 rw[PySem.W.osa_eq,refuse_eq]
 refine wpAny_bind (wpAny_bind (I.type.here (wpAny_bind (hm.here ?_))))
 rw[zjq _ ho]
 exact wpAny_pure (wpAny_bind (I.type.here (wpAny_bind ((PySem.W.looks_findIn X ha).here (wpAny_bind (L3.here (h _)))))))
theorem zpg {Q:Unit→Shared→Prop} {vs:Array Value} (X:K.In s.heap) (hx:s.heap.get? x=some ox) (hc:ox.cls=.ref C) (hdn:ox.dict=none) (hdt:ox.data=.fields vs)
  (hs:PySem.W.findIn K (.ref C) "__setattr__"=some (some (.builtin "object.__setattr__"))) (hm0:PySem.W.mroIn K C (.type "object")=some true) (hp:zmo K C=true) (ht:PySem.W.takerIn K C name=some none) (hh:PySem.W.hasDictIn K C=true)
  (h:∀h' tk',(∀b o,b≠x→s.heap.get? b=some o→h'.get? b=some o)→h'.get? x=some { ox with dict:=some s.heap.objs.size }→h'.Ns1 s.heap.objs.size (fun y=>if y=name then some v else none)→s.heap.objs.size+1≤h'.objs.size→Q () { s with heap:=h',toks:=tk' }) :
  wpAny (model prog w) A (setAttr (.ref x) name v) Q E s:=by
 have I:PySem.W.InstAt s.heap x ox C none:=⟨hx,hc,by unfold PySem.W.notCls;rw[hdt],by simp_all⟩
 refine PySem.W.set_plain X I hs (zo9 (s:={ s with toks:=s.toks+1 }) X I hm0 hp ht fun b=>?_)
 obtain⟨cd,hcd,hd'⟩:=PySem.W.any_some hh
 obtain⟨hp,g,d,t,os⟩:=s
 obtain⟨oc,odi,oda,osl⟩:=ox
 dsimp at hc hdn hdt hx h X I ⊢
 subst hc hdn hdt
 obtain⟨nd,end_⟩:∃nd:Obj,nd = { cls:=.type "dict",data:=.dict #[] }:=⟨_,rfl⟩
 obtain⟨g1,eg1⟩:∃g1:Heap,g1=(hp.push nd).update x fun u=>{ u with dict:=some hp.objs.size }:=⟨_,rfl⟩
 have ne:x≠hp.objs.size:=fun z=>absurd (Heap.lt_size hx) (by simp_all)
 have px:(hp.push nd).get? x=some ⟨.ref C,none,.fields vs,osl⟩:=Heap.get?_push_of_some _ hx
 refine wpAny_bind (wpAny_pure (wpAny_bind (wpAny_bind (wpAny_loadPart hx (wpAny_bind ((PySem.W.looks_clsIn X hcd).here ?_))))))
 rw[hd']
 rw[← end_]
 refine wpAny_bind (wpAny_alloc' (wpAny_bind (wpAny_update' px (wpAny_pure ?_))))
 have at1:g1.get? hp.objs.size=some nd:=by
  rw[eg1]
  exact (Heap.get?_update_ne _ _ _ _ (Ne.symm ne)).trans (Heap.get?_push_at rfl (by rw[end_];rfl))
 have none1:g1.Ns1 hp.objs.size (fun _=>none):=Heap.Ns1.of_empty ⟨nd,#[],_,at1,by rw[end_],fun u hu=>absurd hu (by simp),fun _=>rfl⟩
 rw[← eg1]
 refine wpAny_bind (wpAny_pure (wpAny_bind (wpAny_nsSet1 none1 fun g2 n2 same=>?_)))
 obtain⟨oD,_,_,atD,dataD,few⟩:=n2.count (Within.cons name v Within.nil)
 refine wpAny_bind (wpAny_lookBehind atD ?_ ?_)
 ·rw[dataD]
  refine pastItsLine_dict (Nat.le_trans few ?_)
  grind
 wp_walk
 have x1:g1.get? x=some ⟨.ref C,some hp.objs.size,.fields vs,osl⟩:=by rw[eg1];exact Heap.get?_update_self _ px rfl
 refine h g2 _ (fun b u nb e=>?_) ((same.2 x ne).trans x1) n2 (Heap.lt_size atD)
 have nbs:b≠hp.objs.size:=fun z=>absurd (Heap.lt_size e) (by rw[z];exact Nat.lt_irrefl _)
 refine (same.2 b nbs).trans ?_
 rw[eg1]
 exact (Heap.get?_update_ne _ _ _ _ nb).trans (Heap.get?_push_of_some _ e)
set_option maxHeartbeats 4000000 in
theorem getx {Q:Value→Shared→Prop} {vs:Array Value} {dx:Addr} {mA:Str→Option Value} {expr:Bool} (Z:ExcCls K C) (X:K.In s.heap) (hx:s.heap.get? x=some ox) (hc:ox.cls=.ref C) (hdx:ox.dict=some dx) (hdt:ox.data=.fields vs) (hns:s.heap.Ns1 dx mA)
  (na:PySem.W.findIn K (.ref C) name=some none) (hv:mA name=some v) (hh:PySem.W.handedIn v=true) (k:Q v { s with toks:=s.toks+1 }):wpAny (model prog w) A (getAttr (.ref x) name expr) Q E s:=by
 obtain⟨oD,ho,hl⟩:=zjk hns
 have I:PySem.W.InstAt s.heap x ox C (some oD):=⟨hx,hc,by unfold PySem.W.notCls;rw[hdt],by rwa [hdx]⟩
 have hf:PySem.W.findObj K C (some oD) name=some (.value v):=PySem.W.findObj_own Z.hd na rfl (by rw[hl,hv])
 have X':=X
 have I':=I
 have Z':=Z
 obtain⟨hp,g,d,t,os⟩:=s
 have L0:=I.type (M:=model prog w)
 have L1:=PySem.W.looks_findIn (M:=model prog w) X Z.ga
 have L2:=PySem.W.looks_findIn (M:=model prog w) X Z.gn
 have L4:PySem.W.Looks (model prog w) hp (isInstance (.ref x) (.type "BaseException")) true:=L0.andThen (PySem.W.looks_mroIn X Z.hb)
 have f3:=F.attr_ValueError.ga.bind (.ref x)
 have hx0:(expr && onTheHeap (Value.builtin "BaseException.__getattribute__"))=false:=by cases expr <;> rfl
 have hx2:(Value.builtin "BaseException.__getattribute__" == Value.builtin "object.__getattribute__")=false:=by decide +kernel
 have hx1:(onTheHeap (Value.ref C) && Value.builtin "BaseException.__getattribute__" == Value.builtin "object.__getattribute__")=false:=by rw[hx2];rfl
 unfold getAttr getAttrBy
 refine wpAny_bind (wpAny_mkText ?_)
 repeat (any_goals (first|assumption|with_reducible refine PySem.W.Looks.at L0 ?_|with_reducible refine PySem.W.Looks.at L1 ?_|with_reducible refine PySem.W.Looks.at L2 ?_|wp_step))
 have hk:builtinKind "BaseException.__getattribute__"=some .slot:=by decide +kernel
 have hsplit:splitId "BaseException.__getattribute__"=some ("BaseException","__getattribute__"):=by decide +kernel
 have har:=F.args_bexc_ga (.ref x) (.str name t)
 refine codeAny_call_builtin F.attr_ValueError.ga.plain F.entry_bexc_ga ?_
 simp only[checkBuiltinCall,hk,hsplit]
 refine wpAny_bind (PySem.W.Looks.at L4 ?_)
 repeat (any_goals (first|assumption|with_reducible refine PySem.W.Looks.at L4 ?_|with_reducible refine PySem.W.Looks.at L0 ?_|with_reducible refine PySem.W.Looks.at (PySem.W.looks_find (M:=model prog w) X I hf) ?_|wp_step))
 exact PySem.W.handed_on hh k
end
structure ExcA (K:PySem.W.Frag) (C:Addr):Prop where
 z:ExcCls K C
 sa:PySem.W.findIn K (.ref C) "__setattr__"=some (some (.builtin "object.__setattr__"))
 ov:zmo K C=true
def excP (C:Addr) (dct:Option Addr) (vs:Array Value) (ea:Addr):HO:=.ext fun h=>∃ob,h.get? ea=some ob∧ob.cls=.ref C∧ob.dict=dct∧ob.data=.fields vs
theorem znA {P:Program} {w:World} {H:Hp} {h:Heap} {C:Addr} {dct:Option Addr} {vs:Array Value} {ea:Addr} {ob:Obj} (h1:h.get? ea=some ob) (h2:ob.cls=.ref C) (h3:ob.dict=dct) (h4:ob.data=.fields vs):ObjOk P w H h ea (excP C dct vs ea):=
 ⟨⟨_,h1,h2,h3,h4⟩,⟨_,h1⟩,fun g1 g2 ⟨_,e1,e2,e3,e4⟩ k=>⟨_,k _ e1,e2,e3,e4⟩⟩
def zs8 (K:PySem.W.Frag) (ta tv:TE) (f:Str):TS:=fun D σ H=>tv σ H fun y H1=>ta σ H1 fun x H2=>∃a C vs,x=.ref a∧H2 a=some (excP C none vs a)∧ExcA K C∧NoAttr K C f ∧
 ∀dx,H2 dx=none→D.nx σ (upd (upd H2 a (excP C (some dx) vs a)) dx (.xd [(f,y)]))
def zst (K:PySem.W.Frag) (ta:TE) (f:Str):TE:=fun σ H Q=>ta σ H fun x H1=>∃a C dx fs v,x=.ref a∧H1 a=some (excO C (some dx) a)∧H1 dx=some (.xd fs)∧ExcCls K C∧NoAttr K C f∧fs.lookup f=some v∧Q v H1
section
variable {X:Cx} {o e value:Expr} {f:Str} {pos pos' tpos:Pos} {ta tv:TE}
theorem zkV (he:PE X e ta) (hb:attributeBase e f X.env (eval e X.env)=eval e X.env):PE X (.Attribute e f pos) (zst X.K ta f):=by
 intro pins s σ H Q I h
 refine zq8 hb (thn (he _ s _ H _ I h) fun u s1 ⟨x,_,I1,rx,a,C,dx,_,v,ex,ea,ed,c,n,l,q⟩=>?_)
 subst ex
 obtain rfl:u=Value.ref a:=rx
 obtain⟨⟨ob,h1,h2,h3,vs,h4⟩,_⟩:=I1.hok a _ ea
 obtain⟨mA,hn,r⟩:=(I1.hok dx _ ed)
 obtain⟨u,hu,ru⟩:=RelO.some_of (v:=v) (o:=mA f) (by grind)
 exact getx c I1.kIn h1 h2 h3 h4 hn n hu (zmM ru) ⟨v,_,I1.tok _,ru,q⟩
theorem zkX (ha:PE X o ta) (hv:PE X value tv) (hs:swapsWith value (some (.Attribute o f pos')) pos.line X.env=pure false):PS X (.Assign [.Attribute o f pos'] value pos) (zs8 X.K ta tv f):=by
 intro pins s σ H D I h
 refine plainObj_wpAny_Assign_Attribute (thn (hv _ s _ H _ I h) fun u s1 ⟨y,_,I1,_,q⟩=>thn (ha _ _ _ _ _ I1 q) fun ov s2 ⟨x,_,I2,rx,a,C,_,ex,ea,c,n,q2⟩=>?_) hs
 subst ex
 obtain rfl:ov=Value.ref a:=rx
 obtain⟨⟨ob,h1,h2,h3,h4⟩,_⟩:=I2.hok a _ ea
 refine zpg I2.kIn h1 h2 h3 h4 c.sa c.z.hm c.ov n.taker c.z.hd fun h' tk' hk hx' hn hsz=>?_
 have fr:=I2.hok.fresh (Nat.le_refl _)
 have nea:s2.heap.objs.size≠a:=fun z=>by rw[← z,fr] at ea;cases ea
 have I3:Inv X _ _ _ { s2 with heap:=h',toks:=tk' }:=I2.write (by rw[ea];exact True.intro) (.inl rfl) hk ⟨_,hx'⟩ (znA hx' h2 rfl h4)
 refine⟨_,_,I3.track (by rwa [zaz nea]) ?_ ?_ ?_ ?_ ?_,q2 _ fr⟩
 ·exact Heap.get?_none_of_le I2.sz
 ·exact Nat.ne_of_gt I2.lt
 ·intro x c e
  obtain⟨v,o,ho,_⟩:=I2.cell x c e
  exact Nat.ne_of_lt (Heap.lt_size ho)
 ·intro p hp
  exact Nat.ne_of_lt (Heap.lt_size (I2.pin p hp).1)
 ·refine⟨_,hn,fun g=>?_⟩
  show RelO (match g == f with|true=>some y|false=>none) _
  by_cases z:g=f
  ·rwa [if_pos z,show (g == f)=true by grind]
  ·rw[if_neg z,show (g == f)=false by simpa using z];trivial
end
section
variable {M:Model} {A:Around} {E:Value→Shared→Prop} {s:Shared} {B:Heap} {env:Env} {outer l:List Env} {L e:Addr} {Q:Unit→Shared→Prop}
theorem zng {oe:Obj} {vs:Array Value} (hfr:A.frames=some (env::outer)) (hf:env.frame=some L) (hst:B.StaysIn s.heap) (hl:s.heap.FunFrames B (env::outer)) (he:s.heap.get? e=some oe) (hd:oe.data=.fields vs) (h1:vs[1]?=some .none) (hen:B.get? e=none)
  (k:∀h',FlyD B (env::outer) e oe.cls oe.dict (rawInt L) h'→s.heap.UpToSlots h'→Q () { s with heap:=h' }):wpAny M A (noteFrame (.ref e) env) Q E s:=by
 unfold noteFrame
 simp[hf]
 exact wpAny_bind (wpAny_field he hd h1 (zlu hfr hl hf he hd (Array.getElem?_eq_some_iff.mp h1).1 hst hen k))
end
def remH (H:Hp) (a:Addr):Hp:=fun b=>if b=a then none else H b
theorem zfF {H:Hp} {a b:Addr} (h:b≠a):remH H a b=H b:=by unfold remH;simp_all
section
variable {P:Program} {w:World} {K:PySem.W.Frag} {mg:Str→Option Value} {base:Heap} {N:List Str} {qual:Str} {scope:Scope} {f:Addr} {cd:Value} {A:Around} {outer:List Env} {s0:Shared} {H0:Hp} {E:XK}
theorem zog {pins:List (Addr×Obj)} {σ:St} {H:Hp} {s:Shared} {ea C:Addr} {dct:Option Addr} {vs:Array Value} (I:Inv (cx1 P w K mg base N qual scope f cd A outer s0 H0 E) pins σ H s) (he:H ea=some (excP C dct vs ea)) (h0:s0.heap.get? ea=none) (v1:vs[1]?=some .none)
  (q:E (.ref C) dct (remH H ea)):(cx1 P w K mg base N qual scope f cd A outer s0 H0 E).xe (.ref ea) s:=by
 obtain⟨⟨ob,g1,g2,g3,g4⟩,_⟩:=I.hok ea _ he
 have hin:∀env∈(cx1 P w K mg base N qual scope f cd A outer s0 H0 E).stack,∀a,env.frame=some a→a∈ea::frs (cx1 P w K mg base N qual scope f cd A outer s0 H0 E).stack:=fun env he a ha=>List.mem_cons_of_mem _ (List.mem_filterMap.mpr ⟨env,he,ha⟩)
 have hstk:=I.stack
 refine wpAny_bind (zng (B:=PySem.W.hideAll s.heap (ea::frs (cx1 P w K mg base N qual scope f cd A outer s0 H0 E).stack)) I.ok.frames rfl (fun b o e=>PySem.W.of_hideAll _ e) (PySem.W.funFrames_hide hstk hin) g1 g4 v1 (PySem.W.hideAll_none _ (by simp)) fun h1 F1 up1=>(zlN F1 fun h2 F2 up2=>?_))
 have keepS:∀b o,s.heap.get? b=some o→b∉ea::frs (cx1 P w K mg base N qual scope f cd A outer s0 H0 E).stack→(PySem.W.hideAll s.heap (ea::frs (cx1 P w K mg base N qual scope f cd A outer s0 H0 E).stack)).get? b=some o:=fun b o e hb=>PySem.W.hideAll_get _ e hb
 have nea:∀ {b:Addr} {u:HO},H b=some u→(∀φ,u≠.ext φ)→b≠ea:=fun e n z=>by
  subst z
  rw[he] at e
  exact n _ (Option.some.inj e).symm
 have base':Un (cx1 P w K mg base N qual scope f cd A outer s0 H0 E).fs [] H0 (remH H ea) s0.heap s.heap:=⟨I.base.keep,I.base.slot,fun b o e n hx=>by
   unfold remH
   split
   ·rfl
   ·exact I.base.free b o e n hx,I.base.there,fun b xs e=>by
   have z:=I.base.tups b xs e
   rwa [zfF (nea z (fun _ w=>by cases w))],fun b o u e=>by
   have z:=I.base.frzs b o u e
   rwa [zfF (nea z (fun _ w=>by cases w))],fun b ps e=>let ⟨m,z⟩:=I.base.tbls b ps e;⟨m,by rwa [zfF (nea z (fun _ w=>by cases w))]⟩⟩
 obtain⟨u,third⟩:=zjy (h1:=s0.heap) (h2:=s.heap) (h3:=h2) (B:=PySem.W.hideAll s.heap (ea::frs (cx1 P w K mg base N qual scope f cd A outer s0 H0 E).stack)) (fr:=frs (cx1 P w K mg base N qual scope f cd A outer s0 H0 E).stack) Un.refl (base'.mono (fun b hb=>List.mem_cons_of_mem _ hb) (fun b hb=>hb)) I.ok.above I.stkSub
  (fun b hb=>List.mem_cons_of_mem _ hb) I.ok.frf (fun b hb o e=>by
   obtain⟨_,o',ho',hn⟩:=hstk.mem (List.mem_cons_of_mem _ hb)
   simp_all) (up1.trans up2) F2.stays (fun b o e hb=>by
   obtain⟨o',e'⟩:=I.base.there b o e (by show b∉[];simp)
   have nb:b≠ea:=fun z=>by simp_all
   refine⟨o',keepS b o' e' (fun z=>(List.mem_cons.mp z).elim nb hb),fun n=>?_⟩
   have k:=I.base.keep b o e n (fun z=>hb (List.mem_cons_of_mem _ z)) (by show b∉[];simp)
   simp_all)
 refine⟨ea,C,dct,remH H ea,rfl,⟨I.os,I.bare,u,_,by rw[g2,g3] at F2;exact F2.pop,?_,third⟩,q⟩
 intro a o e
 have na:a≠ea:=fun z=>by unfold remH at e;simp_all
 rw[zfF na] at e
 refine (I.hok a o e).stay (fun b v hb q=>keepS b v q fun z=>?_) (fun b q=>by rwa [zfF (nea q (fun _ w=>by cases w))]) fun b _ q=>by rwa [zfF (nea q (fun _ w=>by cases w))]
 rcases List.mem_cons.mp z with z|z
 ·subst z
  rcases hb with hb|hb
  ·exact na hb.symm
  ·exact nea hb (fun _ w=>by cases w) rfl
 ·have n:=I.stkFree b z
  rcases hb with rfl|hb
  ·rw[e] at n;cases n
  ·rw[hb] at n;cases n
end
theorem zlV {K:PySem.W.Frag} {h:Heap} {N:Addr} {m:Str→Option Value} {n:Str} {v:Value} (X:K.In h) (G:h.Ns N m) (e:PySem.W.nsIn K N n=some (some v)):m n=some v:=by
 obtain⟨o,es,ep,a1,a2,_,a3⟩:=G
 unfold PySem.W.nsIn at e
 split at e
 ·rename_i look
  cases ((X _ _ look).symm.trans a1)
  cases a2
  split at e
  ·rename_i found
   cases e
   refine (a3 n).symm.trans ?_
   simp only[nsFind,findBy]
   rw[← Array.find?_toList,found];rfl
  simp_all
 ·cases e
def zfq (K:PySem.W.Frag) (C:Addr) (bmB:List Value) (newId:String) (fa:Addr):Bool:=match K.lookup C with
 | some ⟨.type "type",_,.cls cd,sl⟩=>(match cd.mro,sl.toList with
  | .ref C'::bm,[_,_,_,_,some (.builtin n),_]=>C' == C && n == newId && !cd.hasDel && PySem.W.tailIn K bmB bm && PySem.W.nsOkIn K cd.ns && PySem.W.nsIn K cd.ns "__init__" == some (some (.ref fa))
  | _,_=>false)
 | _=>false
theorem zlW {K:PySem.W.Frag} {h:Heap} {C fa:Addr} {bmB:List Value} {newId:String} (X:K.In h) (q:zfq K C bmB newId fa=true) :
  ∃bm N nm qn bs hdct sn sub ab col dd k0 k1 k2 k3 k5 mN,h.get? C=some (excClassObj nm qn C N bs bm hdct sn sub ab col dd k0 k1 k2 k3 k5 newId)∧h.Ns N mN∧mN "__init__"=some (.ref fa)∧OwnTail h bmB bm:=by
 unfold zfq at q
 split at q
 ·rename_i dd cd sl ho
  split at q
  ·rename_i C' bm k0 k1 k2 k3 n k5 hm hs
   simp[beq_iff_eq] at q
   obtain⟨⟨⟨⟨⟨rfl,rfl⟩,hdel⟩,ht⟩,hok⟩,hni⟩:=q
   obtain⟨nm,bs,mro,ns,qn,hd,sn,sub,ab,col,del⟩:=cd
   subst hm hdel
   obtain⟨sll⟩:=sl
   subst hs
   exact⟨_,_,_,_,_,_,_,_,_,_,_,_,_,_,_,_,_,X _ _ ho,.of_isNs (PySem.W.isNs_of_in X hok),zlV X (.of_isNs (PySem.W.isNs_of_in X hok)) hni,PySem.W.tail_of_in X ht⟩
  simp_all
 simp_all
section
variable {M:Model} {A:Around} {E:Value→Shared→Prop} {env:Env}
variable {nm q:Str} {C N:Addr} {bs bm:List Value} {hdct:Bool} {sn:List Str} {sub:List Value} {ab:Bool} {col:Option Bool} {dd:Option Addr} {k0 k1 k2 k3 k5:Option Value} {newId:String}
theorem zhc {s:Shared} {x:Sem Value} {Q:Flow→Shared→Prop} (hbase:bm.contains (.type "BaseException")=true) (hh:A.handled=none)
  (h:wpAny M A x (fun v s₁=>∃e oe,v=.ref e∧s₁.heap.get? C=some (excClassObj nm q C N bs bm hdct sn sub ab col dd k0 k1 k2 k3 k5 newId) ∧
   s₁.heap.get? e=some oe∧oe.cls=.ref C∧(∃vs,oe.data=.fields vs∧vs[1]?=some .none)∧E (.ref e) s₁) E s) :
  wpAny M A (raiseStmt env (some x) none) Q E s:=by
 have hcB:(Value.ref C::bm).contains (.type "BaseException")=true:=by rw[List.contains_cons,hbase,Bool.or_true]
 unfold raiseStmt
 refine wpAny_bind (wpAny_mono h (fun v s₁ h₁=>?_) fun _ _ x=>x)
 obtain⟨e,oe,rfl,hC,he,hc,⟨vs,hd,hv⟩,hE⟩:=h₁
 obtain⟨hp,g,d,tk,os⟩:=s₁
 obtain⟨oc,odi,oda,osl⟩:=oe
 subst hc hd
 repeat (first|with_reducible rfl|with_reducible rfl|(with_reducible refine wpAny_isSubtype_exc hC ?_;rw[hcB])|wp_step)
 rw[hv]
 refine wpAny_pure ?_
 exact wpAny_pure (wpAny_raiseNew_none hh hE)
end
def zqv (X:Cx) (E:St→XK):Prop:=∀(pins:List (Addr×Obj)) (σ:St) (H:Hp) (s:Shared) (ea C:Addr) (dct:Option Addr) (vs:Array Value),Inv X pins σ H s→H ea=some (excP C dct vs ea)→X.s₀.heap.get? ea=none→vs[1]?=some .none→E σ (.ref C) dct (remH H ea)→X.xe (.ref ea) s
def zkA (C:Addr) (sp:Sp) (E:St→XK) (t:TA):TS:=fun _ σ H=>t σ H fun vs H1=>vs.length≤sizeLine ∧
 ∀e xs,H1 e=none→sp (.ref e::vs) (upd H1 e (excP C none xs e)) (fun v H2=>v=.non∧∃dct,H2 e=some (excP C dct xs e)∧E σ (.ref C) dct (remH H2 e)) E0
section
variable {P:Program} {w:World} {K:PySem.W.Frag} {mg:Str→Option Value} {base:Heap} {N:List Str} {qual:Str} {scope:Scope} {f:Addr} {cd:Value} {A:Around} {outer:List Env} {s0:Shared} {H0:Hp} {E:XK}
theorem zlF:zqv (cx1 P w K mg base N qual scope f cd A outer s0 H0 E) (fun _=>E):=fun _ _ _ _ _ _ _ _ I he h0 v1 q=>zog I he h0 v1 q
end
section
variable {X:Cx} {CX:CXT} {k:Nat} {fa:Addr} {fd:FuncData} {ps:List Str} {sp:Sp} {x:Str} {np cpos pos:Pos} {e₀:Expr} {rest:List Expr} {C:Addr} {bmB bmN:List Value} {newId Bn B nid inN initId:String} {E:St→XK} {t:TA}
theorem znB (hex:X.ex=[]) (hc:X.calm=true) (hg:Gl X x) (hmx:X.mg x=some (.ref C)) (hk:zfq X.K C bmB newId fa=true) (Fn:ExcBaseFacts Bn newId inN bmN) (hBn:bmB.contains (.type Bn)=true) (FB:ExcBaseFacts B nid initId bmB) (hE:zqv X E)
  (F:FnOk X.prog X.w X.K X.mg X.base CX k fa fd ps sp) (hr:Room (k+1) X.A) (hb:Binds X.K fd ps []) (hfn:PySem.W.isFn X.K (.ref fa)=true) (hx:zh6 CX X E0)
  (ha:PA X (e₀::rest) t) (he:starEach (e₀::rest) X.env=(false,eval e₀ X.env)::starEach rest X.env:=by rfl) (hplain:(backTo cpos (starEach rest X.env)).any (·.1)=false:=by rfl) (hdb:(x == ("__debug__" : Str))=false:=by decide) :
  PS X (.Raise (some (.Call (.Name x np) (e₀::rest) [] cpos)) none pos) (zkA C sp E t):=by
 intro pins s σ H D I h
 obtain⟨tl,N,nm,qn,bs,hdct,sn,sub,ab,col,dd,k0,k1,k2,k3,k5,mN,hC,hN,hni,T⟩:=zlW I.ok.mod.kin hk
 have hpl:(backTo cpos (starEach (e₀::rest) X.env)).any (·.1)=false:=by
  rw[he];show (false || (backTo cpos (starEach rest X.env)).any (·.1))=false;rw[hplain];rfl
 refine wpAny_bind (wpAny_standAt (zhc (C:=C) (nm:=nm) (q:=qn) (N:=N) (bs:=bs) (bm:=tl) (hdct:=hdct) (sn:=sn) (sub:=sub) (ab:=ab) (col:=col) (dd:=dd) (k0:=k0) (k1:=k1) (k2:=k2) (k3:=k3) (k5:=k5) (newId:=newId) (T.hasType FB.hasBase) (I.ok.hd hc) ?_))
 refine wpAny_bind (wpAny_mono (wpAny_Call_ofName (zfM I hg hmx ?_ hdb)) (fun v s₃ h₃=>wpAny_bind (wpAny_standAt (wpAny_pure h₃))) fun _ _ x=>x)
 refine wpAny_bind (wpAny_holding ?_)
 have hA:=ha cpos pins s σ H _ I h
 rw[he] at hA hpl ⊢
 refine Calls.evalArgs_plain (thn hA fun us s1 ⟨vs,H1,I1,r1,z,q⟩=>?_)
 have bk:=I1.bk
 have hC1:=bk _ _ hC
 have fI:∃fo,s1.heap.get? fa=some fo∧fo.cls=.type "function":=by
  have z:=beq_iff_eq.mp hfn
  obtain⟨fo,e1,e2⟩:=Option.map_eq_some_iff.mp z
  exact⟨fo,I1.kIn _ _ e1,e2⟩
 obtain⟨fo,atF,isF⟩:=fI
 obtain⟨hp,g,d,tk,os⟩:=s1
 refine wpAny_bind (wpAny_standAt ?_)
 simp only[hpl]
 refine wpAny_bind (wpAny_keeperOf_exc hC1 (wpAny_bind (zmx Fn hBn FB (T.keeps bk) hC1 (hN.keeps bk) hni atF isF (fun h' e hm=>?_) (by show us.length≤sizeLine;rw[← r1.length];exact z))))
 obtain⟨t,ht,_,_⟩:=hm.there
 have nw:hp.get? e=none:=hm.new
 have nH:H1 e=none:=I1.hok.none_of nw
 have h0:X.s₀.heap.get? e=none:=by
  cases z:X.s₀.heap.get? e with
  | none=>rfl
  | some o=>
   obtain⟨o',e'⟩:=I1.base.there e o z (by rw[hex];simp)
   rw[show hp.get? e=some o' from e'] at nw;cases nw
 have I2:Inv X pins σ H1 { heap:=h',gens:=g,drawn:=d,toks:=tk,os:=os }:=I1.kept hm.keeps
 have I3:=I2.track (ea:=e) (o:=excP C none #[.ref t,.none,.none,.none,.bool false,.none] e) nH h0 (fun z=>by
   obtain⟨m,⟨o,es,ep,ho,_⟩,_⟩:=I1.loc
   rw[z,show hp.get? X.env.locals=some o from ho] at nw;cases nw) (fun x c ec z=>by
   obtain⟨v,o,ho,_⟩:=I1.cell x c ec
   rw[z,nw] at ho;cases ho) (fun p hpn z=>by
   have a:=(I1.pin p hpn).1
   rw[z,nw] at a;cases a) (znA ht rfl rfl rfl)
 have hq:=q e #[.ref t,.none,.none,.none,.bool false,.none] nH
 have r2:Vals (V.ref e::vs) (Value.ref e::us):=.cons rfl r1
 have hl:(Value.ref e::us++[]).length=ps.length:=by
  rw[List.append_nil,← r2.length]
  exact F.len _ _ _ _ hq
 have bb:=hb _ (Value.ref e::us) I3.kIn hl
 rw[List.append_nil] at bb
 refine wpAny_call (codeAny_mono (F.run _ X.stack _ _ ⟨Value.ref e::us,[]⟩ (Value.ref e::us) _ _ E0 (hr.make C us []) (I3.env0.make C us []) bb r2 hq) fun r s' hq'=>?_)
 cases r with
 | error er=>exact hx pins σ _ _ er s' I3 hq'
 | ok fl=>
  cases fl with
  | ret u=>
   obtain⟨v,H',I4,rv,ev,dct,eH,qE⟩:=I3.after hq'
   subst ev
   obtain⟨⟨ob,g1,g2,g3,g4⟩,_⟩:=I4.hok e _ eH
   exact⟨rv,wpAny_bind (wpAny_holding (wpAny_point (wpAny_pure ⟨e,ob,rfl,I4.bk _ _ hC,g1,g2,⟨_,g4,rfl⟩,hE pins σ _ _ e C _ _ I4 eH h0 rfl qE⟩)))⟩
  | next=>exact False.elim hq'
  | brk=>exact False.elim hq'
  | cont=>exact False.elim hq'
end
end L2
namespace PM
open PySem L2
def spI (K:PySem.W.Frag) (attr:Str):Sp:=fun vs H Q _=>∃(e C:Addr) (xs:Array Value) (n:Int),vs=[.ref e,.int n]∧H e=some (excP C none xs e)∧ExcA K C∧NoAttr K C attr ∧
 ∀dx,H dx=none→Q .non (upd (upd H e (excP C (some dx) xs e)) dx (.xd [(attr,.int n)]))
theorem zkL {K:PySem.W.Frag} {attr p1 p2:Str} {vs:List V} {H:Hp} {Q:VK} {E:XK} (h:spI K attr vs H Q E):vs.length=[p1,p2].length:=by
 obtain⟨_,_,_,_,rfl,_⟩:=h
 rfl
def HasI (P:Program) (w:World) (K:PySem.W.Frag) (mg:Str→Option Value) (base:Heap) (fa:Addr) (ps:List Str) (sp:Sp):Prop:=∃fd,FnOk P w K mg base CX0 1 fa fd ps sp∧Binds K fd ps []
section
variable {X:Cx} {fa:Addr} {ps:List Str} {sp:Sp} {x:Str} {np cpos pos:Pos} {e₀:Expr} {rest:List Expr} {C:Addr} {bmB bmN:List Value} {newId Bn B nid inN initId:String} {E:L2.St→XK} {t:TA}
theorem zfY (hex:X.ex=[]) (hc:X.calm=true) (hg:Gl X x) (hmx:X.mg x=some (.ref C)) (hk:zfq X.K C bmB newId fa=true) (Fn:ExcBaseFacts Bn newId inN bmN) (hBn:bmB.contains (.type Bn)=true) (FB:ExcBaseFacts B nid initId bmB) (hE:zqv X E)
  (G:HasI X.prog X.w X.K X.mg X.base fa ps sp) (hr:Room 2 X.A) (hfn:PySem.W.isFn X.K (.ref fa)=true)
  (ha:PA X (e₀::rest) t) (he:starEach (e₀::rest) X.env=(false,eval e₀ X.env)::starEach rest X.env:=by rfl) (hplain:(backTo cpos (starEach rest X.env)).any (·.1)=false:=by rfl) (hdb:(x == ("__debug__" : Str))=false:=by decide) :
  PS X (.Raise (some (.Call (.Name x np) (e₀::rest) [] cpos)) none pos) (zkA C sp E t):=let ⟨_,F,hb⟩:=G;znB hex hc hg hmx hk Fn hBn FB hE F hr hb hfn zcW ha he hplain hdb
end
def asI1:List D→Option Int
 | [.int n]=>some n
 | _=>none
theorem zmU {l:List D} {n:Int} (h:asI1 l=some n):l=[.int n]:=by
 unfold asI1 at h
 grind
def zgs (c0:Nat) (ml:En→R (List D)) (δ:En):O:=(ml δ).toO δ fun l=>match asI1 l with|some n=>ifC (0≤n) (.ex δ ⟨c0+16*(n.toNat+1)⟩) .no|none=>.no
section
variable {K:Kx} {XO:XOT} {E:L2.St→XK} {ta:TE} {ma:En→R D} {Λ:List (Nat×Addr×HO)} {F0 H0 F H:Hp} {σ:L2.St} {δ:En}
theorem zf0 {C:Addr} {c0:Nat} {attr:Str} {tl:TA} {ml:En→R (List D)} (h16:c0<16) (hC:∀k,C=K.ca (c0+16*(k+1))) (han:∀k,K.an (c0+16*(k+1))=attr) (zA:ExcA K.f C) (zN:NoAttr K.f C attr)
  (h:SA K (xoK K) E tl ml):SS K (xoK K) E (zkA C (spI K.f attr) E tl) (zgs c0 ml):=by
 intro Λ F0 H0 F H σ δ Dn I a
 refine h _ _ _ F H _ _ _ I ((AftS.of I a).imp fun l F1 H1 e p vs r=>?_)
 cases q1:asI1 l with
 | none=>rw[q1] at p;exact p.elim
 | some n=>
  rw[q1] at p
  have el:=zmU q1
  subst el
  simp at p
  unfold ifC at p
  split at p
  ·obtain⟨v,rfl,rv⟩:=r.one
   subst rv
   refine⟨by show 1≤sizeLine;decide,fun ea xs hea=>⟨_,C,_,n,rfl,zaB,zA,zN,fun dx hdx=>⟨rfl,some dx,?_,?_⟩⟩⟩
   ·have ne:ea≠dx:=fun z=>by rw[← z,zaB] at hdx;cases hdx
    rw[zaz ne,zaB]
   ·have ne:dx≠ea:=fun z=>by rw[z,zaB] at hdx;cases hdx
    have hd1:=by rw[zaz ne] at hdx;exact hdx
    have er:remH (upd (upd (upd H1 ea (excP C none xs ea)) ea (excP C (some dx) xs ea)) dx (.xd [(attr,.int n)])) ea=upd H1 dx (.xd [(attr,.int n)]):=by
     funext b
     by_cases hb:b=ea
     ·subst hb
      rw[zaz (Ne.symm ne),hea]
      unfold remH
      simp
     ·rw[zfF hb]
      by_cases hd:b=dx
      ·subst hd;rw[zaB,zaB]
      ·rw[zaz hd,zaz hd,zaz hb,zaz hb]
    rw[er]
    refine p _ _ _ _ _ ((I.grow e).grow (Ext.new (o:=.xd _) (I.grow e).same hd1)) ⟨by rw[hC _],(⟨_,rfl,?_⟩)⟩
    rw[zaB,han]
    have:((c0+16*(n.toNat+1))/16:Nat) - 1=n:=by omega
    rw[this]
  ·exact p.elim
def zkP (tab:Nat→Bool) (d:D):Option D:=match d with|.exc c=>if 16≤c∧tab c=true then some (.int (((c/16:Nat):Int) - 1)) else none|_=>none
theorem zkv {attr:Str} {tab:Nat→Bool} (hz:∀c,tab c=true→ExcCls K.f (K.ca c)∧NoAttr K.f (K.ca c) attr∧K.an c=attr) (ha:SEr K XO E ta ma):SE K XO E (zst K.f ta attr) (m1 (zkP tab) ma):=by
 intro Λ F0 H0 F H σ δ Q I a
 refine ha _ _ _ F H _ _ _ I (a.bind.imp fun d F1 H1 e1 a1 x rx=>?_)
 cases d with
 | exc c=>
  obtain⟨p,dct,rfl,h1,hxa⟩:=rx
  simp[zkP] at a1
  by_cases hc:16≤c∧tab c=true
  ·rw[if_pos hc] at a1
   obtain⟨z1,z2,z3⟩:=hz c hc.2
   unfold XA at hxa
   rw[if_neg (by omega)] at hxa
   obtain⟨dx,rfl,h2⟩:=hxa
   rw[z3] at h2
   refine⟨p,_,_,_,_,rfl,e1.fh _ _ h1,e1.fh _ _ h2,z1,z2,?_,a1 _ _ (.refl e1.fh) _ rfl⟩
   simp
  ·rw[if_neg hc] at a1;exact a1.elim
 | _=>exact a1.elim
end
end PM
namespace L2
open PySem PySem.Spec PyProof.Rows
section
variable {X:Cx} {pins:List (Addr×Obj)} {σ:St} {H:Hp} {s:Shared} {h':Heap}
def BmAt (mg:Str→Option Value) (h:Heap):Prop:=∃bm ob,mg "__builtins__"=some (.ref bm)∧bm≠builtinsNs∧h.get? bm=some ob∧ob.cls=.type "module"∧ob.dict=some builtinsNs∧ob.data=.plain
end
theorem zlO {K:PySem.W.Frag} {T:Addr×Array Value} (h:tabOf K=some T):∃(q:Str) (ln cl:Int),T.2 = #[.str q 0,rawInt ln,rawInt cl]:=by
 obtain⟨p,_,e⟩:=List.exists_of_findSome?_eq_some h
 split at e
 ·split at e
  ·obtain⟨P,_,e⟩:=Option.map_eq_some_iff.mp e
   grind
  grind
 grind
def zjh (K:PySem.W.Frag) (P:Addr):Bool:=
 (match tabOf K with|some t=>t.1 == P|none=>false) && (K.lookup P).isNone && K.any fun p=>match p.2.data with
  | .func fd=>match fd.code with
   | .ref c=>PySem.W.codeHdIn K c P
   | _=>false
  | _=>false
theorem zos {K:PySem.W.Frag} {P:Addr} (h:zjh K P=true):(∃arr,tabOf K=some (P,arr))∧K.lookup P=none∧∃c,PySem.W.codeHdIn K c P=true:=by
 unfold zjh at h
 simp only[Bool.and_eq_true] at h
 obtain⟨⟨h1,h2⟩,h3⟩:=h
 refine⟨?_,by simpa using h2,?_⟩
 ·split at h1
  ·grind
  simp_all
 ·obtain⟨p,_,e⟩:=List.any_eq_true.mp h3
  split at e
  ·split at e
   ·exact⟨_,e⟩
   ·cases e
  ·cases e
section
variable {P:Program} {w:World} {K:PySem.W.Frag} {mg mb:Str→Option Value} {CX:CXT} {k:Nat} {fa a tP:Addr} {fd:FuncData} {x:Str} {sp:Sp} {s₁:Shared} {vs:List Value} {ns:List Int}
theorem zm1 (KX:K.In s₁.heap) (hT:zjh K tP=true) (tT:s₁.heap.get? tP=some (PySem.W.tabObj #[]))
  (hns:s₁.heap.Ns mainGlobals mg) (hb:s₁.heap.Ns builtinsNs mb) (hbb:∀y:Str,y≠"__name__"→mb y=bootBuiltins y) (lim:s₁.heap.NoLimit) (bm:BmAt mg s₁.heap) (hg:s₁.gens = #[])
  (ha:s₁.heap.get? a=some (seqObj "list" vs.toArray 0)) (hi:IntsAre vs ns) (hl:ns.length≤sizeLine) (hr:Room k callerA)
  (F:∀B:Heap,K.In B→B.Ns mainGlobals mg→BmAt mg B→FnOk P w K mg B CX k fa fd [x] sp) (bd:∀(s:Shared) (u:Value),BindsTo s fd ⟨[u],[]⟩ [(x,u)])
  (hsp:∀H:Hp,SqL K H a (ns.map V.int)→sp [.ref a] H (fun v _=>v=.bl true) fun _ _ _=>False) (hCX:∀H e s',CX [] H s₁ (fun _ _ _=>False) e s'→False) :
  codeAny (model P w) callerA (.call (.ref fa) ⟨[.ref a],[]⟩) (fun r s'=>r=.ok (.ret (.bool true))∧OldK s₁.heap s'.heap∧s'.os=s₁.os∧AllBare s'.gens) s₁:=by
 obtain⟨⟨arr,eT⟩,nT,c,cT⟩:=zos hT
 obtain⟨q,ln,cl,earr⟩:=zlO eT
 dsimp only at earr
 have rv:=zkb hi
 have aP:a≠tP:=fun z=>by simp_all
 obtain⟨H0,eH0⟩:∃H0:Hp,H0=fun b=>if b=a then (if (K.lookup a).isNone then some (.frz (seqObj "list" vs.toArray 0) (.lst (ns.map V.int))) else none) else none:=⟨_,rfl⟩
 have at0:H0 a=if (K.lookup a).isNone then some (.frz (seqObj "list" vs.toArray 0) (.lst (ns.map V.int))) else none:=by rw[eH0];grind
 have ne0:∀b,b≠a→H0 b=none:=fun b hb=>by rw[eH0];grind
 obtain⟨H,eH⟩:∃H,H=upd H0 tP (.tbl arr):=⟨_,rfl⟩
 have HT:H tP=some (.tbl arr):=by rw[eH];exact zaB
 have HA:H a=H0 a:=by rw[eH];exact zaz aP
 have tr:∀b u,H b=some u→(b=tP∧u=.tbl arr)∨(b=a∧K.lookup a=none∧u=.frz (seqObj "list" vs.toArray 0) (.lst (ns.map V.int))):=fun b u e=>by
  by_cases h1:b=tP
  ·subst h1;rw[HT] at e;grind
  ·rw[eH,zaz h1] at e
   by_cases h2:b=a
   ·subst h2
    rw[at0] at e
    split at e
    ·rename_i z;cases e;exact .inr ⟨rfl,by simpa using z,rfl⟩
    simp_all
   ·rw[ne0 b h2] at e;cases e
 have hok:HOk P w H s₁.heap:=fun b u e=>by
  rcases tr b u e with ⟨rfl,rfl⟩|⟨rfl,_,rfl⟩
  ·exact⟨q,0,ln,cl,[],#[],by rw[earr],tT,.inl rfl⟩
  ·exact⟨ha,by rw[List.length_map];exact hl,vs,_,rv,ha⟩
 have hS:SqL K H a (ns.map V.int):=by
  cases z:K.lookup a with
  | none=>exact .inl (.inr ⟨_,by rw[HA,at0,z];rfl⟩)
  | some o=>
   have e:=KX a o z
   rw[ha] at e
   cases e
   exact .inr ⟨_,vs.toArray,_,z,rfl,rfl,rfl,by rwa [List.size_toArray,hi.length],by omega⟩
 have noA:∀ {b:Addr} {o:Obj} {es:Array DictEntry} {ep:Nat},s₁.heap.get? b=some o→o.data=.dict es ep→H b=none:=fun {b o es ep} e d=>by
  cases z:H b with
  | none=>rfl
  | some u=>
   rcases tr b u z with ⟨rfl,_⟩|⟨rfl,_,_⟩
   ·rw[tT] at e;cases e;cases d
   ·rw[ha] at e;cases e;cases d
 have nsK:∀ {b:Addr} {m:Str→Option Value},s₁.heap.Ns b m→(hidT s₁.heap H).Ns b m:=fun {b m} ⟨o,es,ep,e,d,r⟩=>⟨o,es,ep,zim e (noA e d),d,r⟩
 have hKb:K.In (hidT s₁.heap H):=fun b o e=>zim (KX b o e) (by
  cases z:H b with
  | none=>rfl
  | some u=>
   rcases tr b u z with ⟨rfl,_⟩|⟨rfl,y,_⟩
   ·rw[nT] at e;cases e
   ·rw[y] at e;cases e)
 have hM:Mod K mg (hidT s₁.heap H):=⟨hKb,nsK hns,⟨mb,nsK hb,hbb⟩,let ⟨mc,h1,h2⟩:=lim;⟨mc,nsK h1,h2⟩⟩
 have bm':BmAt mg (hidT s₁.heap H):=by
  obtain⟨m,o,b1,b2,b3,b4,b5,b6⟩:=bm
  refine⟨m,o,b1,b2,zim b3 ?_,b4,b5,b6⟩
  cases z:H m with
  | none=>rfl
  | some u=>
   rcases tr m u z with ⟨rfl,_⟩|⟨rfl,_,_⟩
   ·rw[tT] at b3;cases b3;cases b4
   ·rw[ha] at b3;cases b3;cases b6
 have tb:TbAt K H:=fun t e=>by
  rw[eT] at e;cases e
  exact⟨#[],by rw[HT];simp⟩
 have e0:Env0 P w K mg (hidT s₁.heap H) callerA [] s₁ H:=⟨rfl,hM,fun b o e=>zqx e,Nat.le_of_eq (znl _ _),trivial,fun b hb=>absurd (show b∈([]:List Addr) from hb) (by simp),hok,.of_eq hg,tb⟩
 refine codeAny_mono ((F _ hKb (nsK hns) bm').run callerA [] s₁ H ⟨[.ref a],[]⟩ [.ref a] [.ref a] _ _ hr e0 (bd s₁ (.ref a)) (.cons rfl .nil) (hsp H hS)) fun r s' h=>?_
 match r,h with
 | .error e,h=>exact (hCX H e s' h).elim
 | .ok (.ret u),h=>
  obtain⟨v,H',os,bare,un,hok',r',q'⟩:=h
  subst q'
  obtain rfl:u=Value.bool true:=r'
  have tabs:∃real,s'.heap.get? tP=some (PySem.W.tabObj real):=by
   obtain⟨more,z⟩:=un.tbls tP _ HT
   obtain⟨_,_,_,_,_,real,_,e,_⟩:=hok' tP _ z
   exact⟨real,e⟩
  obtain⟨real,hreal⟩:=tabs
  have kept:∀b o,b≠tP→s₁.heap.get? b=some o→s'.heap.get? b=some o:=fun b o hb e=>by
   cases z:H b with
   | none=>exact un.keep b o e z (by intro y;exact absurd (show b∈([]:List Addr) from y) (by simp)) (by simp)
   | some u=>
    rcases tr b u z with ⟨rfl,_⟩|⟨rfl,_,rfl⟩
    ·exact absurd rfl hb
    ·obtain⟨e2,_⟩:=hok' _ _ (un.frzs _ _ _ z)
     rw[ha] at e;cases e
     exact e2
  refine⟨rfl,⟨fun b o e=>?_,fun b o e=>?_⟩,os,bare⟩
  ·by_cases hb:b=tP
   ·subst hb
    rw[tT] at e;cases e
    exact .inr (.inl ⟨((PySem.W.codeHd_of_K KX cT).tab tT).isCodeTable,rfl,#[],real,rfl,by rw[hreal];simp⟩)
   ·exact .inl (kept b o hb e)
  ·by_cases hb:b=tP
   ·subst hb;exact⟨_,hreal⟩
   ·exact⟨o,kept b o hb e⟩
 | .ok .next,h=>exact False.elim h
 | .ok .brk,h=>exact False.elim h
 | .ok .cont,h=>exact False.elim h
end
theorem walk_ofT {l:PySem.W.OpenLaw} {n k:Nat} {q:Program} {loose:List Str} {XP:(Str→Option Value)→Heap→Prop} {YP:World→Heap→Prop} {d:DefRec} {K:Params→PySem.W.Frag} {CX:World→CXT} {sp:World→Sp} {x:Str} {tP:Addr}
  (hn:l.most=some n) (hn2:n≤sizeLine) (hdf:d.params.defaults=[]) (hr:Room k callerA) (hY:∀(w:World) (h:Heap),YP w h→(K w.params).In h) (hY2:∀(w:World) (h:Heap),YP w h→∀t∈[tP],h.get? t=some (PySem.W.tabObj #[]))
  (hT:∀w:World,zjh (K w.params) tP=true)
  (F:∀(w:World) (mg:Str→Option Value) (fa:Addr) (h:Heap),(K w.params).In h→h.Ns mainGlobals mg→mg d.name=some (.ref fa) →
   ∃fd:FuncData,(∀(s:Shared) (u:Value),BindsTo s fd ⟨[u],[]⟩ [(x,u)])∧∀B:Heap,(K w.params).In B→B.Ns mainGlobals mg→BmAt mg B→FnOk l.prog w (K w.params) mg B (CX w) k fa fd [x] (sp w))
  (hsp:∀(w:World) (H:Hp) (a:Addr) (ns:List Int),ns.length≤n→SqL (K w.params) H a (ns.map V.int)→sp w [.ref a] H (fun v _=>v=.bl true) fun _ _ _=>False)
  (hCX:∀(w:World) (H:Hp) (s:Shared) (e:Value) (s':Shared),CX w [] H s (fun _ _ _=>False) e s'→False):PySem.W.WalkO q loose XP YP l.row.toRowW d [] (fun f vs=>PySem.call f vs):=by
 refine Att.attach_call hn hdf fun w s₀ s₁ mg mb fa o pm cd doc a vs ns G Y ho hd hcd hmg hobj hints hlen hg=>?_
 obtain⟨fd,bd,hF⟩:=F w _ _ _ (hY w _ Y) G.T.g hmg
 exact zm1 (hY w _ Y) (hT w) (hY2 w _ Y _ List.mem_cons_self) G.T.g G.T.b G.T.builtins G.T.nolimit G.T.bmain hg hobj hints (Nat.le_trans hlen hn2) hr hF bd (fun H hS=>hsp w H a _ hlen hS) fun H e s'=>hCX w H _ e _
end L2
namespace PM
open PySem L2
section
variable {K:Kx}
def fInt:List D→Option D
 | [.int i]=>some (.int i)
 | [.bl b]=>some (.int (if b then 1 else 0))
 | _=>none
theorem zrz:SC K (fun xs H Q=>(∃i,xs=[.int i]∧Q (.int i) H)∨∃k,xs=[.bl k]∧Q (.int (if k then 1 else 0)) H) fInt:=by
 intro F H vs ds d Q s r e q
 unfold fInt at e
 split at e
 ·rename_i i
  cases e
  cases r with
  | cons r r'=>
   cases r'
   subst r
   exact .inl ⟨i,rfl,q _ F H (.refl s) rfl⟩
 ·rename_i b
  cases e
  cases r with
  | cons r r'=>
   cases r'
   subst r
   exact .inr ⟨b,rfl,q _ F H (.refl s) rfl⟩
 simp_all
end
end PM
namespace L2
open PySem PySem.Spec PyProof.Rows
structure HasD (P:Program) (w:World) (K:PySem.W.Frag) (mg:Str→Option Value) (base:Heap) (CX:CXT) (k:Nat) (x:Str) (ps:List Str) (sp:Sp) (d:V):Prop where
 ex:∃(f:Addr) (fd:FuncData),FnOk P w K mg base CX k f fd ps sp∧mg x=some (.ref f)∧PySem.W.keepIn K (.ref f)=true∧Binds K fd ps []∧∃u,RelV d u∧Binds K fd ps [u]
theorem zmj {K:PySem.W.Frag} {fd:FuncData} {ps:List Str} {T:Addr} {o:Obj} {u:Value} {n:Nat} (hd:fd.defaults=.ref T) (ho:K.lookup T=some o) (hs:o.data=.seq #[u] n)
  (h3:∀us:List Value,us.length=ps.length→∃kk,bindArgs fd ⟨us,[]⟩=seqItems? fd.defaults >>= kk∧kk (some #[u])=pure (ps.zip us))
  (h2:∀us:List Value,us.length+1=ps.length→∃kk,bindArgs fd ⟨us,[]⟩=seqItems? fd.defaults >>= kk∧kk (some #[u])=pure (ps.zip (us++[u]))):Binds K fd ps []∧Binds K fd ps [u]:=by
 constructor
 ·intro s us hK hl
  rw[List.append_nil] at hl ⊢
  obtain⟨kk,e1,e2⟩:=h3 _ hl
  exact .of_defaults hd (hK T o ho) hs e1 e2
 ·intro s us hK hl
  obtain⟨kk,e1,e2⟩:=h2 _ (by simpa using hl)
  exact .of_defaults hd (hK T o ho) hs e1 e2
structure FunD (K:PySem.W.Frag) (x qual:Str) (st:Stmt) (f:Addr) (fd:FuncData) (d:V):Prop where
 ex:∃(oc:Value) (od:Option Addr) (T:Addr) (kV doc pm:Value) (an:Option Addr) (cdv ct:Value) (osl:Array (Option Value)),
  fd=PySem.W.fnOf x qual (zcJ st) (zcd st) (zap st) (.ref T) kV doc pm an cdv ct∧K.lookup f=some ⟨oc,od,.func fd,osl⟩∧PySem.W.codeIn K cdv qual=true∧∃(o:Obj) (u:Value) (n:Nat),K.lookup T=some o∧o.data=.seq #[u] n∧RelV d u
 kp:PySem.W.keepIn K (.ref f)=true
section
variable {P:Program} {w:World} {K:PySem.W.Frag} {mg:Str→Option Value} {base:Heap} {d:V}
theorem FunD.binds {x qual:Str} {st:Stmt} {f:Addr} {fd:FuncData} {ps:List Str} (F:FunD K x qual st f fd d)
  (h3:∀(T:Addr) (kV doc pm:Value) (an:Option Addr) (cdv ct u:Value) (us:List Value),us.length=ps.length→∃kk,bindArgs (PySem.W.fnOf x qual (zcJ st) (zcd st) (zap st) (.ref T) kV doc pm an cdv ct) ⟨us,[]⟩=seqItems? (.ref T) >>= kk∧kk (some #[u])=pure (ps.zip us))
  (h2:∀(T:Addr) (kV doc pm:Value) (an:Option Addr) (cdv ct u:Value) (us:List Value),us.length+1=ps.length→∃kk,bindArgs (PySem.W.fnOf x qual (zcJ st) (zcd st) (zap st) (.ref T) kV doc pm an cdv ct) ⟨us,[]⟩=seqItems? (.ref T) >>= kk∧kk (some #[u])=pure (ps.zip (us++[u]))) :
  Binds K fd ps []∧∃u,RelV d u∧Binds K fd ps [u]:=by
 obtain⟨oc,od,T,kV,doc,pm,an,cdv,ct,osl,rfl,lk,hcd,o,u,n,ho,hs,ru⟩:=F.ex
 obtain⟨b1,b2⟩:=zmj rfl ho hs (fun us hl=>h3 T _ _ _ _ _ _ u _ hl) fun us hl=>h2 T _ _ _ _ _ _ u _ hl
 exact⟨b1,u,ru,b2⟩
end
structure DefAtD (K:PySem.W.Frag) (x:Str) (st:Stmt) (f:Addr) (fd:FuncData) (d:V):Prop where
 ns:PySem.W.nsIn K mainGlobals x=some (some (.ref f))
 fn:FunD K x x st f fd d
theorem defAtD_mk {K:PySem.W.Frag} {x:Str} {st:Stmt} {f T:Addr} {oc oc':Value} {od an od':Option Addr} {osl osl':Array (Option Value)} {kV doc pm cdv ct:Value} {i:Int} {tk:Tok} {n:Nat} (a:PySem.W.nsIn K mainGlobals x=some (some (.ref f)))
  (l:K.lookup f=some ⟨oc,od,.func (PySem.W.fnOf x x (zcJ st) (zcd st) (zap st) (.ref T) kV doc pm an cdv ct),osl⟩) (c:PySem.W.codeIn K cdv x=true) (k:PySem.W.keepIn K (.ref f)=true) (t:K.lookup T=some ⟨oc',od',.seq #[.int i tk] n,osl'⟩):∃f fd,DefAtD K x st f fd (.int i):=
 ⟨f,_,a,⟨⟨_,_,T,_,_,_,_,_,_,_,rfl,l,c,_,_,n,t,rfl,_,rfl⟩,k⟩⟩
theorem DefAtD.has {P:Program} {w:World} {K:PySem.W.Frag} {mg:Str→Option Value} {base h:Heap} {CX:CXT} {k:Nat} {x:Str} {st:Stmt} {f:Addr} {fd:FuncData} {ps:List Str} {sp:Sp} {d:V} (D:DefAtD K x st f fd d) (X:K.In h) (G:h.Ns mainGlobals mg)
  (ok:FnOk P w K mg base CX k f fd ps sp) (b:Binds K fd ps []∧∃u,RelV d u∧Binds K fd ps [u]):HasD P w K mg base CX k x ps sp d:=⟨f,_,ok,PySem.W.mg_of X G D.ns,D.fn.kp,b⟩
structure DefAs (K:PySem.W.Frag) (x y:Str) (st:Stmt) (f:Addr) (fd:FuncData):Prop where
 ns:PySem.W.nsIn K mainGlobals x=some (some (.ref f))
 fn:Fun K y y st f fd
theorem DefAs.has {P:Program} {w:World} {K:PySem.W.Frag} {mg:Str→Option Value} {base h:Heap} {CX:CXT} {k:Nat} {x y:Str} {st:Stmt} {f:Addr} {fd:FuncData} {ps:List Str} {sp:Sp} (D:DefAs K x y st f fd) (X:K.In h) (G:h.Ns mainGlobals mg)
  (ok:FnOk P w K mg base CX k f fd ps sp) (b:Binds K fd ps []):Has P w K mg base CX k x ps sp:=⟨f,fd,ok,PySem.W.mg_of X G D.ns,D.fn.kp,b⟩
section
variable {X:Cx}
def rAny:List V→Hp→VK→Prop:=fun xs H Q=>∃(p:Addr) (bs:List Bool),xs=[.ref p]∧Rd H p (.lst (bs.map V.bl))∧Q (.bl (bs.any id)) H
theorem zje:∀(bs:List Bool),((List.range bs.length).any fun i=>bs.getD i false)=bs.any id
 | []=>rfl
 | b::bs=>by
  rw[List.length_cons,List.range_succ_eq_map,List.any_cons,List.any_map,List.any_cons,← zje _]
  rfl
theorem znC (hc:X.calm=true):zgQ X (.builtin "any") rAny:=by
 rintro pins s σ H xs us Q I r ⟨p,bs,rfl,hq,q⟩
 obtain⟨u,rfl,rx⟩:=zhF r
 cases rx
 obtain⟨z,its,n,rv,e⟩:=hq.ok I.hok
 have ei:=zj6 rv
 subst ei
 have isl:s.heap.IsList p _:=⟨_,e,rfl,n,rfl⟩
 refine call_any_walk (wpAny_pyIter_list isl (⟨_,_,_,_,_,_,(fun i=>bs.getD i false),rfl,Walks.list (A:=X.A.in1) (I.ok.hd hc) _ p (Nat.ne_of_lt (Heap.lt_size e)) _,⟨⟨_,Heap.get?_push_size _ rfl,rfl,rfl⟩,isl.push _⟩,?_,?_⟩))
 ·intro i v s' Q' E' hi hQ
  have hi':=hi
  rw[List.getElem?_toArray,List.getElem?_map] at hi'
  cases z:bs[i]? with
  | none=>simp_all
  | some b=>
   rw[z] at hi'
   cases hi'
   refine wpAny_truthy_bool ?_
   (first|rfl|omega|simp|simp_all|grind)
 ·intro h' tk hk
  rw[List.size_toArray,List.length_map,zje]
  refine⟨.bl _,H,I.kept (fun b o eo=>hk b o (fun hm=>?_) (Heap.get?_push_of_some _ eo)),rfl,q⟩
  rw[List.mem_singleton.mp hm] at eo
  exact absurd (Heap.lt_size eo) (Nat.lt_irrefl _)
end
end L2
namespace PM
open PySem L2
section
variable {K:Kx}
def fAny:List D→Option D
 | [.lst l]=>(asBs l).map fun bs=>.bl (bs.any id)
 | _=>none
theorem zr1:SC K rAny fAny:=by
 intro F H vs ds d Q s r e q
 unfold fAny at e
 split at e
 ·rename_i l
  cases q2:asBs l with
  | none=>simp_all
  | some bs=>
   rw[q2] at e
   cases e
   cases r with
   | cons r r'=>
    cases r'
    obtain⟨p,xs,rfl,h1,h2⟩:=r
    rw[zgX q2] at h2
    have:=zgx h2
    subst this
    exact⟨p,_,rfl,h1,q _ F H (.refl s) rfl⟩
 simp_all
end
end PM
namespace PM
def lexB (eq lt:Nat→Bool):Nat→Nat→Bool
 | 0,0=>false
 | 0,_+1=>true
 | _+1,0=>false
 | n+1,m+1=>if eq 0=true then lexB (fun j=>eq (j+1)) (fun j=>lt (j+1)) n m else lt 0
end PM
namespace L2
open PySem PySem.Spec PyProof.Rows
def ltP:Nat→PyData→PyData→Bool
 | 0,.int i,.int j=>decide (i<j)
 | n+1,.int i,.int j=>decide (i<j)
 | n+1,.tuple l,.tuple r=>PM.lexB (fun j=>PyData.eqv (l.getD j .none) (r.getD j .none)) (fun j=>ltP n (l.getD j .none) (r.getD j .none)) l.length r.length
 | _,_,_=>false
end L2
namespace PM
open PySem L2
def ltD (x y:D):Bool:=ltP 8 (toPy 8 x) (toPy 8 y)
abbrev BP:=Int×List (Int×Int)
def encPr (p:Int×Int):D:=.tup [.int p.1,.int p.2]
def encB (b:BP):D:=.tup [.int b.1,.tup (b.2.map encPr)]
def minB:List BP→BP→BP
 | [],m=>m
 | t::l,m=>minB l (if ltD (encB t) (encB m)=true then t else m)
def least:List BP→BP
 | []=>(0,[])
 | b::l=>minB l b
end PM
namespace L2
open PySem PySem.Spec PyProof.Rows
section
variable {P:Program} {w:World} {K:PySem.W.Frag} {mg:Str→Option Value} {base:Heap} {d:V}
theorem FunD.ok1 {x qual:Str} {st:Stmt} {f:Addr} {fd:FuncData} {N ps:List Str} {k:Nat} {sp:Sp} (F:FunD K x qual st f fd d) (S:FnScope N ps (zap st)) (len:∀vs H Q E,sp vs H Q E→vs.length=ps.length)
  (hbody:∀(cdv:Value) (A:Around) (outer:List Env) (s:Shared) (H:Hp) (vs:List V) (Q:VK) (E:XK),Room k (A.deeper (envOfC qual (zap st) s.heap.objs.size f cdv))→sp vs H Q E →
   ∃t,PSs (cx1 P w K mg base N qual (zap st) f cdv A outer s H E) (zcd st) t∧t { nx:=fun _ H'=>Q .non H',rt:=Q } (start N vs) H):FnOk P w K mg base (CX1 P w) (k+1) f fd ps sp:=by
 obtain⟨oc,od,T,kV,doc,pm,an,cdv,ct,osl,rfl,lk,hcd,_⟩:=F.ex
 exact zqj lk hcd S len fun A outer s H vs Q E hr hsp=>hbody _ A _ s H _ Q E hr hsp
end
section
variable {X:Cx} {CX:CXT} {k:Nat} {x:Str} {ps:List Str} {sp:Sp} {p pos:Pos} {a:Expr} {ta:TE} {d:V}
theorem znG {E:St→XK} (G:HasD X.prog X.w X.K X.mg X.base CX k x ps sp d) (hr:Room k X.A) (hg:Gl X x) (hx:zgu CX X E) (ha:PE X a ta)
  (hdb:(x == ("__debug__" : Str))=false:=by decide) (h1:starEach [a] X.env=(false,eval a X.env)::starEach [] X.env:=by rfl) (hpl:(backTo pos (starEach [] X.env)).any (·.1)=false:=by rfl) :
  PE X (.Call (.Name x p) [a] [] pos) (zi9 sp E (ze3 ta (ze3 (tC d) tNil))):=by
 obtain⟨f,fd,F,hm,hk,_,u,ru,hb⟩:=G.ex
 intro pins s σ H Q I h
 have h':(ze3 _ tNil) _ H (fun vs H1=>sp (vs++[d]) H1 Q _):=h
 refine wpAny_Call_Name_kw (zfM I hg hm (PySem.W.callWith_K I.ok.mod.kin hk (thn (zaa ha zae h1 _ _ s _ H _ I h') fun us s1 ⟨_,_,I1,r,q⟩=>⟨I1.kIn,?_⟩) h1 hpl) hdb)
 have r2:=r.append (.cons ru .nil)
 have hl:(us++[u]).length=ps.length:=by rw[← r2.length];exact F.len _ _ _ _ q
 refine wpAny_call (codeAny_mono (F.run _ _ _ _ _ _ _ Q _ hr I1.env0 (hb _ _ I1.kIn hl) r2 q) fun rs s' hq=>?_)
 cases rs with
 | error e'=>exact hx _ _ _ _ _ _ I1 hq
 | ok fl=>
  cases fl with
  | ret u=>exact I1.after hq
  | next=>exact False.elim hq
  | brk=>exact False.elim hq
  | cont=>exact False.elim hq
end
end L2
namespace L2
open PySem PySem.Spec PyProof.Rows
open Builtin Builtin.Str
section
variable {X:Cx} {tg:Expr} {pos:Pos}
theorem zjc:∀(l:List (Str×Tok)),Vals (l.map fun p=>V.str p.1) (strValues l)
 | []=>.nil
 | p::l=>.cons ⟨_,rfl⟩ (zjc l)
theorem znY:∀ {l:List Str} {us:List Value},Vals (l.map V.str) us→∃ps:List (Str×Tok),us=strValues ps∧ps.map (·.1)=l
 | [],us,r=>by cases r;exact⟨[],rfl,rfl⟩
 | x::l,us,r=>by
  cases r with
  | cons h t=>
   obtain⟨k,rfl⟩:=h
   obtain⟨ps,rfl,e⟩:=znY t
   exact⟨(x,k)::ps,rfl,by simp_all⟩
def zp8:V→List V→Hp→VK→Prop:=fun x vs H Q=>∃z y,x=.str z∧vs=[.str y]∧(y.length == 0)=false∧z.length≤sizeLine∧(Txt.split z y).length≤sizeLine∧∀p,H p=none→Q (.ref p) (upd H p (.lst ((Txt.split z y).map V.str)))
theorem zf3:MtR X "str.split" zp8:=by
 rintro pins s σ H x vs v us Q I rx rv ⟨z,y,rfl,rfl,hy,hz,hn,q⟩
 obtain⟨t,rfl⟩:=rx
 obtain⟨u,rfl,ru⟩:=rv.one
 obtain⟨k,rfl⟩:=ru
 have fr:H s.heap.objs.size=none:=I.hok.fresh (Nat.le_refl _)
 have fin:∀(ps:List (Str×Tok)) (tk:Nat),ps.map (·.1)=Txt.split z y→EP X pins σ Q (.ref _) { s with heap:=s.heap.push _,toks:=tk }:=fun ps tk e=>by
  have r:=zjc ps
  rw[show (ps.map _)=(Txt.split z y).map _ by rw[← e,List.map_map];rfl] at r
  exact⟨.ref _,_,I.laid (o:=.lst _) (fun b ob q=>Heap.get?_push_of_some _ q) (Nat.le_refl _) ⟨by grind,_,0,r,Heap.get?_push_size _ rfl⟩,rfl,q _ fr⟩
 cases h1:(decide (z.length<y.length) || decide (strKind z<strKind y)) with
 | true=>exact call_meets F.slot_str_split rfl F.entry_str_split (F.args_str_split_2 _ _) (meets_str_split_cannot_occur z y t k h1) (fin [(z,t)] _ (by unfold Txt.split;simp_all))
 | false=>
  cases hf:(occurrences z y 0 _ _).isEmpty with
  | true=>exact call_meets F.slot_str_split rfl F.entry_str_split (F.args_str_split_2 _ _) (meets_str_split_not_found z y t k h1 hy hf) (fin [(z,t)] _ (by unfold Txt.split;rw[if_neg (by simp_all),if_pos hf];rfl))
  | false=>
   have e:Txt.split z y=partsBetween z (occurrences z y 0 z.length (z.length+1)) y.length:=by unfold Txt.split;rw[if_neg (by simp_all),if_neg (by grind)]
   refine call_meets F.slot_str_split rfl F.entry_str_split (F.args_str_split_2 _ _) (meets_str_split_sep z y t k h1 hy hf hz (by simp_all)) ?_
   rw[strsFrom_eq]
   exact fin _ _ ((numbered_texts _ _).trans e.symm)
def zrw (K:PySem.W.Frag):V→List V→Hp→VK→Prop:=fun x vs H Q=>∃z p l,x=.str z∧vs=[.ref p]∧SqL K H p (l.map V.str)∧JoinOk z l=true∧Q (.str (Txt.join z l)) H
theorem ziL:MtR X "str.join" (zrw X.K):=by
 rintro pins s σ H x vs v us Q I rx rv ⟨z,p,l,rfl,rfl,hq,hok,q⟩
 obtain⟨t,rfl⟩:=rx
 obtain⟨u,rfl,ru⟩:=rv.one
 cases ru
 obtain⟨its,r,pl,_⟩:=I.list hq
 obtain⟨ps,rfl,e⟩:=znY r
 subst e
 have hok':=hok
 unfold JoinOk at hok'
 rw[Bool.not_eq_true'] at hok'
 exact call_meets F.slot_str_join rfl F.entry_str_join (F.args_str_join_2 _ _) (meets_str_join_list z t p _ hok') ⟨pl.isList,post_join _ ⟨joinFit_length hok',fun t' k=>⟨.str _,H,I.kept fun _ _ e=>e,⟨_,rfl⟩,q⟩⟩⟩
def zrJ:List V→Hp→VK→Prop:=fun xs H Q=>∃i:Int,xs=[.int i]∧i.natAbs.log2<1920∧Q (.str (Str.ofString (toString i))) H
theorem zf4:zgQ X (.type "str") zrJ:=by
 rintro pins s σ H xs us Q I r ⟨i,rfl,hi,q⟩
 obtain⟨u,rfl,t,rfl⟩:=zhF r
 exact PySem.P.str_of_int hi ⟨.str _,H,I.tok _,⟨_,rfl⟩,q⟩
def zr9:List V→Hp→VK→Prop:=fun xs H Q=>∃(x:Str) (n:Int),xs=[.str x]∧PySem.intText? x=some n∧x.length≤640∧Q (.int n) H
theorem zhE:zgQ X (.type "int") zr9:=by
 rintro pins s σ H xs us Q I r ⟨x,n,rfl,hn,hl,q⟩
 obtain⟨u,rfl,t,rfl⟩:=zhF r
 exact PySem.W.KIN.call_text hn hl ⟨.int n,H,I.tok _,⟨_,rfl⟩,q⟩
def rInS (f:Bool→Bool):R2:=fun x y H Q=>∃a b,x=.str a∧y=.str b∧Q (.bl (f (Txt.contains b a))) H
theorem znR:OpR X (compareOp .NotIn) (rInS not):=by
 rintro pins s σ H x y v u Q I rx ry ⟨a,b,rfl,rfl,q⟩
 obtain⟨t,rfl⟩:=rx
 obtain⟨k,rfl⟩:=ry
 exact PySem.SB.notContains ⟨.bl _,H,I,rfl,q⟩
def ItS (x:Str):It:=⟨fun i _=>i<x.cps.size,fun i H v H'=>H'=H∧∃c,x.cps[i]?=some c∧v=.str ⟨#[c]⟩,fun i _=>x.cps.size≤i⟩
theorem zpf {P:Program} {w:World} {K:PySem.W.Frag} {tg:Expr} (x:Str) (t:Tok) (it:Addr):Turn P w K tg (ItS x) [it] it (fun i h=>h.IsStrIter it "str_ascii_iterator" x t i) where
 mem:=by simp
 obj:=fun i h st b hb=>by
  have e:b=it:=by simp_all
  subst e
  obtain⟨o,e,c,d⟩:=st
  exact⟨o,e,fun v z=>by simp_all⟩
 keep:=fun i h h' st k=>let ⟨o,e,c,d⟩:=st;⟨o,k _ (by simp) o e,c,d⟩
 item:=by
  intro X hP hw hK hc i pins s σ H E I hf st hg
  have hg':i<x.cps.size:=hg
  obtain⟨f0,f1,f2,f3,f4,f5⟩:=hf it (by simp)
  refine wpAny_pyNext_ascii_item st (c:=x.cps[i]) (by simp) fun h' st' sb=>?_
  have I1:Inv X _ _ H { s with heap:=h',toks:=s.toks+1 }:=I.turned (fun b o hb e=>(sb.2 b hb).trans e) f0 f1 f3 f4 f5
  obtain⟨o,e,c,d⟩:=id st'
  exact⟨_,rfl,zqN e c d rfl ⟨.str _,H,I1,⟨_,rfl⟩,⟨rfl,_,by simp,rfl⟩,st',fun b hb=>(hf b hb).1⟩⟩
 done:=by
  intro X hP hw hK hc i pins s σ H E I hf st hg
  have hg':x.cps.size≤i:=hg
  obtain⟨f0,f1,f2,f3,f4,f5⟩:=hf it (by simp)
  exact wpAny_pyNext_ascii_end (I.ok.hd hc) st (by simp[hg']) fun h' eb=>⟨rfl,I.turned (fun b o hb e=>eb b o hb e) f0 f1 f3 f4 f5⟩
 self:=fun _ _ _ _ _ st h=>wpAny_pyIter_striter_ascii st h
def iStr (tl:TE):TI:=fun σ H R=>tl σ H fun x H1=>∃z,x=.str z∧z.cps.all (· < 128)=true∧R (ItS z) H1
theorem zry {l:Expr} {tl:TE} (hl:PE X l tl):PI X tg l (iStr tl):=by
 intro pins s σ H R I h
 refine thn (hl _ s _ H _ I h) fun v s1 ⟨x,_,I1,r1,q1⟩=>?_
 obtain⟨z,rfl,ha,q⟩:=q1
 obtain⟨t,rfl⟩:=r1
 refine wpAny_pyIter_ascii ha (⟨_,_,_,_,_,rfl,I1.kept fun b o e=>Heap.get?_push_of_some _ e,zpf z t _,⟨_,Heap.get?_push_size _ rfl,rfl,rfl⟩,fun b hb=>?_,q⟩)
 have e:b=s1.heap.objs.size:=by simp_all
 subst e
 exact I1.fpOk (Nat.le_refl _) (I1.hok.fresh (Nat.le_refl _))
end
end L2
namespace PM
open PySem L2
section
variable {K:Kx} {XO:XOT} {E:L2.St→XK} {ta tb te:TE} {ma mb me:En→R D}
theorem zkG {F H:Hp} {z:Str} {v:V} (h:Top K F H (.str z) v):v=.str z:=by simpa[Top,Rep] using h
def zgO:List D→Option D
 | [.str z]=>ifC (z.length≤sizeLine) (some (.int z.length)) none
 | _=>none
theorem zn9:SC K (fun xs H Q=>∃z,xs=[.str z]∧z.length≤sizeLine∧Q (.int z.length) H) zgO:=by
 intro F H vs ds d Q s r e q
 unfold zgO at e
 split at e
 ·rename_i z
  unfold ifC at e
  split at e
  ·rename_i hz
   cases e
   cases r with
   | cons r r'=>
    cases r'
    rw[zkG r]
    exact⟨z,rfl,hz,q _ F H (.refl s) rfl⟩
  simp_all
 simp_all
def oIxS (x y:D):Option D:=match x,y with
 | .str z,.int i=>ifC (z.length≤sizeLine) ((atI z.cps.toList i).map fun c=>.str ⟨#[c]⟩) none
 | _,_=>none
theorem zrK:SR K rIxS oIxS:=by
 intro F H x y dx dy d Q s hx hy e q
 unfold oIxS at e
 split at e
 ·rename_i z i
  unfold ifC at e
  split at e
  ·rename_i hz
   cases ec:atI z.cps.toList i with
   | none=>simp_all
   | some c=>
    rw[ec] at e
    cases e
    exact⟨z,i,c,hx,hy,hz,ec,q _ F H (.refl s) rfl⟩
  simp_all
 simp_all
def oInS (f:Bool→Bool) (x y:D):Option D:=match x,y with
 | .str a,.str b=>some (.bl (f (Txt.contains b a)))
 | _,_=>none
theorem zrN {f:Bool→Bool}:SR K (rInS f) (oInS f):=by
 intro F H x y dx dy d Q s hx hy e q
 unfold oInS at e
 split at e
 ·rename_i a b
  cases e
  exact⟨a,b,hx,hy,q _ F H (.refl s) rfl⟩
 simp_all
def zd0 (x:D) (y:Str):R D:=match x with
 | .str z=>ifC ((y.length == 0)=false∧z.length≤sizeLine∧(Txt.split z y).length≤sizeLine) (.ok (.lst ((Txt.split z y).map .str))) .no
 | _=>.no
def zeJ (ma:En→R D) (y:Str) (δ:En):R D:=(ma δ).bind fun x=>zd0 x y
theorem zji {F:Hp}:∀(l:List Str),RepL K F (l.map .str) (l.map V.str)
 | []=>.nil
 | x::l=>.cons rfl (zji l)
theorem zeR {y:Str} (ha:SE K XO E ta ma):SEo K XO E (tBM K.f "str" zp8 ta (ze3 (tC (.str y)) tNil)) (zeJ ma y):=by
 intro Λ F0 H0 F H σ δ Q I a
 refine ha _ _ _ F H _ _ _ I (a.bind.imp fun x F1 H1 e1 a1 v rv=>?_)
 cases x with
 | str z=>
  subst rv
  refine⟨rfl,?_⟩
  unfold zd0 ifC at a1
  dsimp at a1
  split at a1
  ·rename_i hc
   exact⟨z,y,rfl,rfl,hc.1,hc.2.1,hc.2.2,fun p hp=>a1 _ _ (.newO e1.fh hp) p (e1.fh.free hp) (e1.hh.free hp) ⟨_,zaB,zji _⟩⟩
  ·exact a1.elim
 | _=>exact a1.elim
def asSs:List D→Option (List Str)
 | []=>some []
 | .str x::l=>(asSs l).map (x::·)
 | _=>none
theorem zj0:∀ {l:List D} {xs:List Str},asSs l=some xs→l=xs.map .str
 | [],xs,h=>by cases h;rfl
 | d::l,xs,h=>by
  cases d with
  | str x=>
   simp only[asSs] at h
   cases q:asSs l with
   | none=>simp_all
   | some r=>rw[q] at h;cases h;rw[zj0 q];rfl
  | _=>cases h
theorem ziD:∀(xs:List Str),asSs (xs.map .str)=some xs
 | []=>rfl
 | x::xs=>by rw[List.map_cons,asSs,ziD _];rfl
theorem zoi {F:Hp}:∀ {l:List Str} {vs:List V},RepL K F (l.map .str) vs→vs=l.map V.str
 | [],vs,h=>by simpa[RepL] using h
 | x::l,vs,h=>by
  obtain⟨v,r,rfl,rfl,h3⟩:=h
  rw[zoi h3];rfl
def zjH (z:Str) (y:D):R D:=match y with
 | .lst l=>(match asSs l with|some xs=>if JoinOk z xs=true then .ok (.str (Txt.join z xs)) else .no|none=>.no)
 | _=>.no
def zhT (z:Str) (mb:En→R D) (δ:En):R D:=(mb δ).bind fun y=>zjH z y
theorem ziC {z:Str} (hb:SE K XO E tb mb):SE K XO E (tBM K.f "str" (zrw K.f) (tC (.str z)) (ze3 tb tNil)) (zhT z mb):=by
 intro Λ F0 H0 F H σ δ Q I a
 refine⟨rfl,hb _ _ _ F H _ _ _ I (a.bind.imp fun y F1 H1 e1 a1 v rv=>?_)⟩
 unfold zjH at a1
 split at a1
 ·rename_i l
  cases q:asSs l with
  | none=>rw[q] at a1;exact a1.elim
  | some xs=>
   rw[q] at a1
   dsimp at a1
   split at a1
   ·rename_i hok
    rw[zj0 q] at rv
    obtain⟨p,vs,rfl,h1,h2⟩:=rv
    rw[zoi h2] at h1
    exact⟨z,p,_,rfl,rfl,.inl (PM.Same.rdp e1.fh h1),hok,a1 _ _ (.refl e1.fh) _ rfl⟩
   ·exact a1.elim
 ·exact a1.elim
def zeY:List D→Option D
 | [.int i]=>ifC (i.natAbs.log2<1920) (some (.str (Str.ofString (toString i)))) none
 | _=>none
theorem zi2:SC K zrJ zeY:=by
 intro F H vs ds d Q s r e q
 unfold zeY at e
 split at e
 ·rename_i i
  unfold ifC at e
  split at e
  ·rename_i hz
   cases e
   cases r with
   | cons r r'=>
    cases r'
    subst r
    exact⟨i,rfl,hz,q _ F H (.refl s) rfl⟩
  simp_all
 simp_all
def zg0:List D→Option D
 | [.str x]=>(PySem.intText? x).bind fun n=>ifC (x.length≤640) (some (.int n)) none
 | _=>none
theorem zkI:SC K zr9 zg0:=by
 intro F H vs ds d Q s r e q
 unfold zg0 at e
 split at e
 ·rename_i x
  cases hn:PySem.intText? x with
  | none=>simp_all
  | some n=>
   rw[hn] at e
   unfold ifC at e
   split at e
   ·rename_i hz
    cases e
    cases r with
    | cons r r'=>
     cases r'
     rw[zkG r]
     exact⟨x,n,rfl,hn,hz,q _ F H (.refl s) rfl⟩
   simp_all
 grind
def sgnD (z:Str):List D:=z.cps.toList.map fun c=>.str ⟨#[c]⟩
def mItS (me:En→R D) (δ:En):R (List D):=(me δ).bind fun d=>match d with
 | .str z=>if z.cps.all (· < 128)=true then .ok (sgnD z) else .no
 | _=>.no
theorem zsd (h:SE K XO E te me):SI K XO E (iStr te) (mItS me):=by
 intro Λ F0 H0 F H σ δ R I a
 refine h _ _ _ F H _ _ _ I (a.bind.imp fun d F1 H1 e1 a1 v r=>?_)
 cases d with
 | str z=>
  subst r
  dsimp at a1
  split at a1
  ·rename_i ha
   refine⟨z,rfl,ha,a1 _ _ (.refl e1.fh) _ fun F2 H2 p i=>⟨fun d hd=>?_,fun hn=>?_⟩⟩
   ·unfold sgnD at hd
    rw[List.getElem?_map] at hd
    cases q:z.cps.toList[i]? with
    | none=>rw[q] at hd;cases hd
    | some c=>
     rw[q] at hd
     cases hd
     rw[Array.getElem?_toList] at q
     refine⟨(Array.getElem?_eq_some_iff.mp q).1,fun x H' y=>?_⟩
     obtain⟨rfl,c',h1,rfl⟩:=y
     rw[q] at h1
     cases h1
     exact⟨_,.refl p.2,rfl⟩
   ·have:=by
     have:=List.getElem?_eq_none_iff.mp hn
     unfold sgnD at this
     rw[List.length_map] at this;omega
    exact this
  ·exact a1.elim
 | _=>exact a1.elim
end
end PM
namespace L2
open PySem PySem.Spec PyProof.Rows
section
variable {X:Cx} {x:Str} {pos:Pos}
theorem zcC {i:Int} (hg:Gl X x) (hm:∃t,X.mg x=some (.int i t)) (hd:(x == ("__debug__" : Str))=false:=by decide):PE X (.Name x pos) (tC (.int i)):=let ⟨t,hm⟩:=hm;zeU hg hm ⟨t,rfl⟩ hd
theorem zoF {z:Str} (hg:Gl X x) (hm:∃t,X.mg x=some (.str z t)) (hd:(x == ("__debug__" : Str))=false:=by decide):PE X (.Name x pos) (tC (.str z)):=let ⟨t,hm⟩:=hm;zeU hg hm ⟨t,rfl⟩ hd
end
end L2
namespace PM
open PySem L2
section
variable {K:Kx}
def zc0 (x y:D):Option D:=match x,y with
 | .str i,.str j=>ifC (i.length+j.length≤sizeLine) (some (.str (i++j))) none
 | _,_=>none
theorem zbV:SR K (fun x y H Q=>∃i j,x=.str i∧y=.str j∧i.length+j.length≤sizeLine∧Q (.str (i++j)) H) zc0:=by
 intro F H x y dx dy d Q s hx hy e q
 unfold zc0 at e
 split at e
 ·rename_i i j
  unfold ifC at e
  split at e
  ·rename_i hz
   cases e
   exact⟨i,j,hx,hy,hz,q _ F H (.refl s) rfl⟩
  simp_all
 ·cases e
end
end PM
namespace L2
open PySem PySem.Spec PyProof.Rows
theorem zlQ (l:Addr) (items:Array Value) (n:Nat) (b:Addr) (items2:Array Value) (n2:Nat) (dd:Option Addr) (sl:Array (Option Value)) (hs0:¬(!items.isEmpty && Builtin.List.listTooLong (items.size+items2.size))=true) (hs1:items.size≤sizeLine) (hs2:items.size+items2.size≤sizeLine+1) :
  Meets (Builtin.«list.extend» ⟨[.ref l,.ref b],[]⟩) (fun _ R s=>s.heap.get? l=some { cls:=.type "list",dict:=none,data:=.seq items n,slots:=#[] }∧s.heap.get? b=some { cls:=.type "tuple",dict:=dd,data:=.seq items2 n2,slots:=sl }∧R (.ok (.ret Value.none)) { s with heap:=s.heap.update l (Obj.mapSeq fun x=>x++items2),toks:=s.toks }):=
 .of_wp fun prog w A R s h=>by
  obtain⟨hl,hb,h⟩:=h;wp_walk using (wpAny_updateSeq hl rfl),wpAny_loadPart' hl,wpAny_loadPart' hb;simp_all
section
variable {X:Cx}
def zsp:V→List V→Hp→VK→Prop:=fun x vs H Q=>∃l b xs zs,x=.ref l∧vs=[.ref b]∧H l=some (.lst xs)∧(H b=some (.lst zs)∨H b=some (.tup zs))∧xs.length+zs.length≤sizeLine∧Q .non (upd H l (.lst (xs++zs)))
theorem zmE:MtM X "list.extend" zsp:=by
 rintro pins s σ H x vs v us Q I rx rv ⟨l,b,xs,zs,rfl,rfl,hH,hB,hz,q⟩
 rcases hB with hB|hB
 ·exact znw _ s _ H _ _ v _ Q I rx rv ⟨l,b,_,_,rfl,rfl,hH,hB,hz,q⟩
 cases rx
 obtain⟨u,rfl,ru⟩:=rv.one
 cases ru
 obtain⟨z,its,n,r,hl,e⟩:=I.lstM hH
 obtain⟨z2,its2,r2,e2⟩:=I.hok b _ hB
 have hl2:=r2.length
 obtain⟨⟨cls,dd,da,sl⟩,e2,hc,n2,hd⟩:=e2
 subst hc hd
 have hsz:its.toArray.size+its2.toArray.size≤sizeLine:=by rw[List.size_toArray,List.size_toArray];omega
 have hlong:¬ (!its.toArray.isEmpty && Builtin.List.listTooLong (its.toArray.size+its2.toArray.size))=true:=by
  rw[zlz hsz]
  simp
 refine call_meets F.slot_list_extend ⟨_,e,rfl⟩ F.entry_list_extend (F.args_list_extend_2 _ _)
  (zlQ l _ n b _ _ _ _ hlong (by omega) (by omega)) ⟨e,e2,(⟨.non,_,I.lset hH e (by simp) (r.append r2) ?_,rfl,q⟩)⟩
 simp_all
end
end L2
namespace PM
open PySem L2
section
variable {K:Kx} {XO:XOT} {E:L2.St→XK} {Λ:List (Nat×Addr×HO)} {F0 H0 F H F1 H1 F' H':Hp} {σ:L2.St} {δ:En}
def zi4 (i:Nat) (me:En→R D) (δ:En):O:=match δ[i]? with
 | some (.o (.lst l))=>(me δ).toO δ fun d=>(match d with|.lst r=>ifC (l.length+r.length≤sizeLine) (.nx (δ.set i (.o (.lst (l++r))))) .no|.tup r=>ifC (l.length+r.length≤sizeLine) (.nx (δ.set i (.o (.lst (l++r))))) .no|_=>.no)
 | _=>.no
theorem zmX {i:Nat} {te:TE} {me:En→R D} (h:SE K XO E te me):SS K XO E (zpC (tBM K.f "list" zsp (tVar i) (ze3 te tNil))) (zi4 i me):=by
 intro Λ F0 H0 F H σ δ Dn I a
 unfold zi4 at a
 split at a
 ·rename_i l q
  obtain⟨p,s1,vs,s2,s3⟩:=I.own q
  refine⟨_,s1,.inl ⟨rfl,_,.inl (.inl s2)⟩,(h _ _ _ F H _ _ _ I ((AftS.of I a).imp fun d F1 H1 e c x rx=>?_))⟩
  cases d with
  | lst r=>
   obtain⟨b,ws,rfl,b2,b3⟩:=rx
   dsimp at c
   unfold ifC at c
   split at c
   ·exact⟨p,b,_,_,rfl,rfl,e.hh _ _ s2,.inl (e.fh _ _ b2),by rwa [s3.length,b3.length],c _ _ _ ((I.grow e).chg q s1 ⟨_,zaB,(s3.mono e.ff).append b3⟩)⟩
   ·exact c.elim
  | tup r=>
   obtain⟨b,ws,rfl,b2,b3⟩:=rx
   dsimp at c
   unfold ifC at c
   split at c
   ·exact⟨p,b,_,_,rfl,rfl,e.hh _ _ s2,.inr (e.fh _ _ b2),by rwa [s3.length,b3.length],(c _ _ _ ((I.grow e).chg q s1 ⟨_,zaB,(s3.mono e.ff).append b3⟩))⟩
   ·exact c.elim
  | _=>exact c.elim
 ·exact a.elim
end
end PM
namespace L2
open PySem PySem.Spec PyProof.Rows
section
variable {X:Cx}
def rSlS:V→Option Int→Option Int→Hp→VK→Prop:=fun x lo hi H Q=>∃z,x=.str z∧z.length≤sizeLine∧Q (.str (Txt.slice z lo hi)) H
theorem zrd:SlR X rSlS:=by
 rintro pins s σ H x v vl vu lo hi sl Q I rx hs pl pu ⟨z,rfl,hz,q⟩
 obtain⟨t,rfl⟩:=rx
 refine⟨_,_,PySem.F.slot_str_getitem.lookup,rfl,?_⟩
 obtain⟨l,rfl,el⟩:∃l,vl=partValue l∧lo=l.map (·.1):=by
  cases pl with
  | none=>exact⟨none,rfl,rfl⟩
  | int i t=>exact⟨some (i,t),rfl,rfl⟩
 obtain⟨u,rfl,eu⟩:∃u,vu=partValue u∧hi=u.map (·.1):=by
  cases pu with
  | none=>exact⟨none,rfl,rfl⟩
  | int i t=>exact⟨some (i,t),rfl,rfl⟩
 refine wpAny_getItem_str_slice (st:=none) hs rfl ?_
 have key:=post_val_or_str (t:=t) (Q:=EP X _ _ Q)
  ⟨Nat.le_trans (Txt.slice_le z _ _) hz,fun t' k=>⟨.str _,H,I.kept fun _ _ q=>q,⟨_,rfl⟩,q⟩⟩
 rwa [el,eu] at key
end
end L2
namespace PM
open PySem L2
section
variable {K:Kx} {XO:XOT} {E:L2.St→XK} {te:TE} {me:En→R D}
def slS (d:D) (lo hi:Option Int):R D:=match d with
 | .str z=>ifC (z.length≤sizeLine) (.ok (.str (Txt.slice z lo hi))) .no
 | _=>.no
def mSlS (me:En→R D) (ml mh:En→R (Option Int)) (δ:En):R D:=(me δ).bind fun d=>(ml δ).bind fun lo=>(mh δ).bind fun hi=>slS d lo hi
theorem zrx {tl th:TO} {ml mh:En→R (Option Int)} (h:SEr K XO E te me) (hl:SO K XO E tl ml) (hh:SO K XO E th mh):SE K XO E (tSl rSlS te tl th) (mSlS me ml mh):=by
 intro Λ F0 H0 F H σ δ Q I a
 refine h _ _ _ F H _ _ _ I (a.bind.imp fun d F1 H1 e1 a1 v r=>?_)
 refine hl _ _ _ _ _ _ _ _ (I.grow e1) (a1.bind.imp fun lo F2 H2 e2 a2=>(hh _ _ _ _ _ _ _ _ ((I.grow e1).grow e2) (a2.bind.imp fun hi F3 H3 e3 a3=>?_)))
 cases d with
 | str z=>
  simp[slS] at a3
  unfold ifC at a3
  split at a3
  ·rename_i hz
   exact⟨z,zkG r,hz,a3 _ _ (.refl e3.fh) _ rfl⟩
  ·exact a3.elim
 | _=>exact a3.elim
end
end PM
namespace L2
open PySem PySem.Spec PyProof.Rows
section
variable {X:Cx} {CX:CXT} {k n:Nat} {x:Str} {ps:List Str} {sp:Sp} {E:XK} {p pos:Pos} {e:Expr} {es:List Expr} {t:TA}
theorem pe_h (G:Has X.prog X.w X.K X.mg X.base CX k x ps sp) (hr:Room n X.A) (hx:zh6 CX X E) (ha:PA X (e::es) t) (hk:k≤n:=by decide) (hg:Gl X x:=by rfl) (hdb:(x == ("__debug__" : Str))=false:=by decide)
  (he:starEach (e::es) X.env=(false,eval e X.env)::starEach es X.env:=by rfl) (hpl:(backTo pos (starEach es X.env)).any (·.1)=false:=by rfl):PE X (.Call (.Name x p) (e::es) [] pos) (zlT sp [] E t):=zsk G (hr.mono hk) hg hx ha hdb he hpl
theorem zbf {E:St→XK} (G:Has X.prog X.w X.K X.mg X.base CX k x ps sp) (hr:Room n X.A) (hx:zgu CX X E) (ha:PA X (e::es) t) (hk:k≤n:=by decide) (hg:Gl X x:=by rfl) (hdb:(x == ("__debug__" : Str))=false:=by decide)
  (he:starEach (e::es) X.env=(false,eval e X.env)::starEach es X.env:=by rfl) (hpl:(backTo pos (starEach es X.env)).any (·.1)=false:=by rfl):PE X (.Call (.Name x p) (e::es) [] pos) (zi9 sp E t):=zqQ G (hr.mono hk) hg hx ha hdb he hpl
theorem scMk {N P:List Str} {sc:Scope} (h1:sc.kind=.function:=by rfl) (h2:sc.isCoroutine=false:=by rfl) (h3:sc.isGenerator=false:=by rfl) (h4:N.Nodup:=by decide +kernel) (h5:N.take P.length=P:=by rfl)
  (h6:∀x∈P,sc.names.lookup x=some .local∨sc.names.lookup x=some .cell:=by decide +kernel) (h7:∀y∈sc.names,y.2≠.free:=by decide +kernel):FnScope N P sc:=⟨h1,h2,h3,h4,h5,h6,h7⟩
end
section
variable {X:Cx} {xe:Value→Shared→Prop} {pins:List (Addr×Obj)} {σ:St} {H:Hp} {s:Shared}
theorem zrR (I:Inv X pins σ H s):Inv { X with xe:=xe } pins σ H s:=
 ⟨⟨I.ok.mod,I.ok.kind,I.ok.glob,I.ok.blt,I.ok.above,I.ok.inj,I.ok.has,I.ok.cab,I.ok.hd,I.ok.frames,I.ok.stk,I.ok.exf,I.ok.bs,I.ok.bsz,I.ok.noex,I.ok.exfs,I.ok.funs,I.ok.frf,I.ok.tb⟩,I.os,I.bare,I.base,I.loc,I.cell,I.free,I.freeC,I.pin,I.hok,I.len⟩
theorem zpH (I:Inv { X with xe:=xe } pins σ H s):Inv X pins σ H s:=
 ⟨⟨I.ok.mod,I.ok.kind,I.ok.glob,I.ok.blt,I.ok.above,I.ok.inj,I.ok.has,I.ok.cab,I.ok.hd,I.ok.frames,I.ok.stk,I.ok.exf,I.ok.bs,I.ok.bsz,I.ok.noex,I.ok.exfs,I.ok.funs,I.ok.frf,I.ok.tb⟩,I.os,I.bare,I.base,I.loc,I.cell,I.free,I.freeC,I.pin,I.hok,I.len⟩
end
section
variable {M:Model} {A:Around} {E:Value→Shared→Prop} {s:Shared} {B:Heap} {env env2:Env} {outer l:List Env} {L e:Addr} {cls:Value} {dct:Option Addr} {fl:Value} {Q:Unit→Shared→Prop}
theorem zhi {x:Value} (h:env.frame=env2.frame):noteFrame x env=noteFrame x env2:=by
 unfold noteFrame PySem.frameOf
 rw[h]
theorem znb (hfr:A.frames=some (env::outer)) (hf:env.frame=some L) (F:FlyD B (env::outer) e cls dct fl s.heap)
  (k:∀h',FlyD B (env::outer) e cls dct (rawInt L) h'→s.heap.UpToSlots h'→Q () { s with heap:=h' }):wpAny M A (noteFrame (.ref e) env) Q E s:=by
 by_cases hfl:(fl == rawInt L)=true
 ·have e1:=eq_of_beq hfl
  subst e1
  exact zpv hf F (k _ F fun b o hb _=>⟨_,hb⟩)
 obtain⟨T,bT,⟨oe,vs,oT,ts,he,hc,hdc,hd,h1,hT,hdT,h3⟩,ne⟩:=F.tr
 have sz:=(Array.getElem?_eq_some_iff.mp h3).1
 have oth:∀b o,b≠T→s.heap.get? b=some o→(s.heap.update T (Obj.mapFields (·.setIfInBounds 3 Value.none))).get? b=some o:=fun b o hb q=>by
  rwa [Heap.get?_update_other _ _ (Ne.symm hb)]
 subst hc
 subst hdc
 unfold noteFrame
 simp only[hf]
 refine wpAny_bind (wpAny_field he hd h1 (wpAny_bind (wpAny_field hT hdT h3 ?_)))
 rw[if_neg hfl]
 refine wpAny_bind (wpAny_setField hT hdT sz (zlu hfr (F.fun'.of_keeps fun b o hb hn=>⟨o,oth b o (zbW hT hdT hb hn) hb,rfl⟩) hf (oth e _ (Ne.symm ne) he) hd (Array.getElem?_eq_some_iff.mp h1).1 (fun b o q=>oth b o (fun z=>by grind) (F.stays b o q)) F.out fun h' F' up=>?_))
 exact k _ F' fun b o hb hn=>up b o (oth b o (zbW hT hdT hb hn) hb) hn
theorem zqu {fr:Option Addr} (F:FlyD B l e cls dct fl s.heap) (h:∀fl2 h',FlyD B l e cls dct fl2 h'→s.heap.UpToSlots h'→Q () { s with heap:=h' }):wpAny M A (setFlight (.ref e) fr) Q E s:=by
 obtain⟨T,bT,⟨oe,vs,oT,ts,he,hc,hdc,hd,h1,hT,hdT,h3⟩,ne⟩:=F.tr
 have sz:=(Array.getElem?_eq_some_iff.mp h3).1
 generalize hv:(fr.elim _ _)=v
 have oth:∀b o,b≠T→s.heap.get? b=some o→(s.heap.update T (Obj.mapFields (·.setIfInBounds 3 v))).get? b=some o:=fun b o hb q=>by
  rwa [Heap.get?_update_other _ _ (Ne.symm hb)]
 refine wpAny_bind (wpAny_field he hd h1 ?_)
 rw[hv]
 exact wpAny_setField hT hdT sz (h v _ ⟨fun b o q=>oth b o (fun z=>by rw[z,bT] at q;cases q) (F.stays b o q),F.out,F.fun'.of_keeps fun b o hb hn=>⟨o,oth b o (zbW hT hdT hb hn) hb,rfl⟩,T,bT,⟨⟨_,_,_,_,oth e _ (Ne.symm ne) he,hc,hdc,hd,h1,Heap.get?_update_self _ hT (Obj.isFreed_of_fields (Obj.data_mapFields hdT _)),Obj.data_mapFields hdT _,by simp[sz]⟩,ne⟩⟩ fun b o hb hn=>⟨_,oth b o (zbW hT hdT hb hn) hb⟩)
end
theorem zk5 {fs:List Addr} {H0 H':Hp} {h0 h1 h2 B:Heap} (U:Un fs [] H0 H' h0 h1) (frf:∀b∈fs,H0 b=none) (up:∀b∈fs,∀o,h1.get? b=some o→∃sl,h2.get? b=some { o with slots:=sl }) (st:B.StaysIn h2)
  (third:∀b o,h0.get? b=some o→b∉fs→∃o',B.get? b=some o'∧(H0 b=none→o'=o)):Un fs [] H0 H' h0 h2:=by
 have slots:∀b o,h0.get? b=some o→b∈fs→∃sl,h2.get? b=some { o with slots:=sl }:=fun b o e hb=>by
  obtain⟨s1,e1⟩:=U.slot b o e (frf b hb) hb (by simp)
  obtain⟨s2,e2⟩:=up b hb _ e1
  simp_all
 refine⟨fun b o e n hb _=>?_,fun b o e n hb _=>slots b o e hb,fun b o e n h=>U.free b o e n h,fun b o e _=>?_,U.tups,U.frzs,U.tbls⟩
 ·obtain⟨o',e',z⟩:=third b o e hb
  rw[z n] at e'
  exact st b o e'
 ·by_cases hb:b∈fs
  ·obtain⟨sl,q⟩:=slots b o e hb
   exact⟨_,q⟩
  ·obtain⟨o',e',_⟩:=third b o e hb
   exact⟨_,st b _ e'⟩
def FlyA (X:Cx) (E:XK) (e:Value) (s':Shared) (B:Heap):Prop:=∃(ea Cc:Addr) (dct:Option Addr) (H':Hp) (fl:Value),e=.ref ea∧s'.os=X.s₀.os∧AllBare s'.gens∧FlyD B X.stack ea (.ref Cc) dct fl s'.heap∧HOk X.prog X.w H' B ∧
 Un X.fs [] X.H₀ H' X.s₀.heap s'.heap∧(∀b o,X.s₀.heap.get? b=some o→b∉X.fs→∃o',B.get? b=some o'∧(X.H₀ b=none→o'=o))∧E (.ref Cc) dct H'
def FlyB (X:Cx) (E:XK) (C:Addr) (e:Value) (s':Shared):Prop:=∃B,FlyA X E e s' B∧B.get? C=none∧C∉frs X.stack∧∃m,s'.heap.Ns C m
structure PassesB (X:Cx) (E:XK):Prop where
 ex:X.ex=[]
 stk:X.stack=X.env::X.outer
 fr:X.env.frame=some X.env.locals
 xe:∀(e:Value) (s':Shared) (B:Heap),X.Ok→FlyA X E e s' B→X.xe e s'
theorem zhZ {h h' B:Heap} {C:Addr} (hs:Heap.SameBut C h h'):∀ {l:List Env},C∉frs l→h.FunFrames B l→h'.FunFrames B l
 | [],_,_=>trivial
 | env::r,hC,⟨hk,⟨L,o,hf,hn,ho,hd⟩,hr⟩=>by
  have e:frs (env::r)=L::frs r:=by unfold frs;simp_all
  rw[e] at hC
  exact⟨hk,⟨L,o,hf,hn,(hs.2 L fun z=>hC (by simp_all)).trans ho,hd⟩,zhZ hs (fun z=>hC (.tail _ z)) hr⟩
theorem zhx {h B B1:Heap} (hb:∀b,B.get? b=none→B1.get? b=none):∀ {l:List Env},h.FunFrames B l→h.FunFrames B1 l
 | [],_=>trivial
 | _::_,⟨hk,⟨L,o,hf,hn,ho,hd⟩,hr⟩=>⟨hk,⟨L,o,hf,hb L hn,ho,hd⟩,zhx hb hr⟩
section
variable {X:Cx} {E:XK} {C:Addr} {e:Value} {s':Shared}
theorem FlyA.up {B:Heap} {ea Cc:Addr} {dct:Option Addr} {H':Hp} {fl:Value} {h':Heap} (ok:X.Ok) (hst:X.stack=X.env::X.outer) (os:s'.os=X.s₀.os) (bare:AllBare s'.gens) (F0:FlyD B X.stack ea (.ref Cc) dct fl s'.heap) (F:∃fl2,FlyD B X.stack ea (.ref Cc) dct fl2 h') (hok:HOk X.prog X.w H' B)
  (un:Un X.fs [] X.H₀ H' X.s₀.heap s'.heap) (third:∀b o,X.s₀.heap.get? b=some o→b∉X.fs→∃o',B.get? b=some o'∧(X.H₀ b=none→o'=o)) (q:E (.ref Cc) dct H') (up:∀b∈X.fs,∀o,s'.heap.get? b=some o→∃sl,h'.get? b=some { o with slots:=sl }) :
  FlyA X E (.ref ea) { s' with heap:=h' } B:=let ⟨_,F⟩:=F;⟨_,_,_,_,_,rfl,os,bare,F,hok,zk5 un ok.frf up F.stays third,third,q⟩
theorem zqG {B:Heap} {ea Cc:Addr} {dct:Option Addr} {fl:Value} {h':Heap} (hst:X.stack=X.env::X.outer) (F:FlyD B X.stack ea (.ref Cc) dct fl s'.heap) (up:s'.heap.UpToSlots h'):∀b∈X.fs,∀o,s'.heap.get? b=some o→∃sl,h'.get? b=some { o with slots:=sl }:=fun b hb o ho=>by
 have hb':b∈frs X.stack:=by
  rw[hst]
  unfold frs
  rw[List.filterMap_cons]
  split
  ·exact hb
  ·exact .tail _ hb
 obtain⟨_,o',ho',hn⟩:=F.fun'.mem hb'
 rw[ho] at ho'
 cases ho'
 exact up b o ho hn
theorem zs5 {M:Model} {env:Env} {E2:Value→Shared→Prop} (hX:PassesB X E) (ok:X.Ok) (hf:env.frame=X.env.frame) (h:FlyB X E C e s'):wpAny M X.A (noteFrame e env) (fun _ s2=>FlyB X E C e s2) E2 s':=by
 obtain⟨B,⟨ea,Cc,dct,H',fl,rfl,os,bare,F,hok,un,third,q⟩,hC,hCf,m,o,es,ep,ho,hd,hr⟩:=h
 rw[zhi hf]
 have F':=F
 rw[hX.stk] at F'
 refine znb (by rw[ok.frames,hX.stk]) hX.fr F' fun h' F1 up=>?_
 rw[← hX.stk] at F1
 obtain⟨sl,hs⟩:=up C o ho (fun vs z=>by simp_all)
 exact⟨B,FlyA.up ok hX.stk os bare F ⟨_,F1⟩ hok un third q (zqG hX.stk F up),hC,hCf,m,_,_,_,hs,hd,hr⟩
theorem endB {use:Option (Value→Sem Unit)} {Q:Value→Shared→Prop} {acc:Value} (hX:PassesB X E) (ok:X.Ok) (h:FlyB X E C e s'):compPost (model X.prog X.w) X.A X.xe use Q acc C (.error e) s':=by
 obtain⟨B,⟨ea,Cc,dct,H',fl,rfl,os,bare,F,hok,un,third,q⟩,hC,hCf,m,o,es,ep,ho,hd,hr⟩:=h
 have goal:∃m,s'.heap.Ns C m∧∀h',Heap.SameBut C s'.heap h'→∀cenv ,cenv.locals=C→wpAny (model X.prog X.w) X.A (PySem.passOn "comprehension.variables-let-go" (.ref ea) cenv:Sem Value) (fun _ _=>False) X.xe { s' with heap:=h' }:=by
  refine⟨m,⟨o,_,_,ho,hd,hr⟩,fun h' hs cenv _=>?_⟩
  have nC:∀vs,o.data≠.fields vs:=fun vs z=>by simp_all
  obtain⟨T,bT,⟨oe,vs,oT,ts,he,hc,hdc,hde,h1,hT,hdT,h3⟩,ne⟩:=F.tr
  have he':=(hs.2 _ (fun z=>zbW he hde ho nC z.symm)).trans he
  have F2:FlyD B _ _ _ _ _ _:=⟨fun b u q=>(hs.2 b (fun z=>by simp_all)).trans (F.stays b u q),F.out,zhZ hs hCf F.fun',T,bT,⟨⟨_,_,_,_,he',hc,hdc,hde,h1,((hs.2 T (fun z=>zbW hT hdT ho nC z.symm)).trans hT),hdT,h3⟩,ne⟩⟩
  obtain⟨ea2,Cc2,dct2,H2,fl2,e2,os2,bare2,F3,hok2,un2,third2,q2⟩:=(FlyA.up ok hX.stk os bare F ⟨_,F2⟩ hok un third q fun b hb u hu=>⟨_,(hs.2 b (fun z=>hCf (by
   rw[← z,hX.stk]
   unfold frs
   rw[List.filterMap_cons]
   split
   ·exact hb
   ·exact .tail _ hb))).trans hu⟩)
  cases e2
  refine wpAny_bind (wpAny_field he' hde h1 (wpAny_bind (zqu F3 fun fl3 h3 F4 up=>(wpAny_throw (hX.xe _ _ B ok (FlyA.up ok hX.stk os2 bare2 F3 ⟨_,F4⟩ hok2 un2 third2 q2 (zqG hX.stk F3 up)))))))
 cases use <;> exact goal
end
section
variable {prog:Program} {w:World} {A:Around} {R:Result→Shared→Prop} {s:Shared}
theorem ziB {elt target iter:Expr} {ifs:List Expr} {scope:Scope} {pos:Pos} {it acc:Value} {env:Env} {XE:Value→Shared→Prop} (hR:∀x s2,XE x s2→notedBy (model prog w) A env (fun e s3=>R (.error e) s3) x s2) (I:Nat→Shared→Prop)
  (turn:∀n s,I n s→wpAny (model prog w) A (pyNext it) (fun r s₁=>match r with
   | none=>R (.ok .next) s₁
   | some v=>wpAny (model prog w) A (letOwnedTupleGo target it v) (fun _ s₁'=>wpAny (model prog w) A (assign target env v) (fun _ s₂=>
     wpAny (model prog w) A (forIn ifs true fun c r=>if r=true then do let ok ← isTrue c env (eval c env);pure (ForInStep.yield ok) else pure (ForInStep.yield r)) (fun ok s₃=>
      if ok=true then wpAny (model prog w) A (eval elt env) (fun x s₄=>
       wpAny (model prog w) A (call (.builtin "list.append") [acc,x]) (fun _ s₅=>∃m,m<n∧I m s₅) XE s₄) XE s₃
      else ∃m,m<n∧I m s₃) XE s₂) XE s₁') XE s₁) XE s)
  (n:Nat) (h:I n s) :
  codeAny (model prog w) A (.compLoop (.ListComp elt [⟨target,iter,ifs,0⟩] scope pos) 0 it acc env) R s:=by
 refine codeAny_loop rfl I (fun n s hI=>?_) n h
 show wpAny _ A _ _ _ s
 refine wpAny_noted (wpAny_bind (wpAny_standAt (wpAny_bind (wpAny_mono (turn n s hI) (fun r s₁ h₁=>?_) fun x s2 h'=>hR x _ h'))))
 cases r with
 | none=>exact wpAny_pure h₁
 | some v=>
  refine wpAny_bind (wpAny_mono h₁ (fun _ s₁' h₁'=>(wpAny_bind (wpAny_mono h₁' (fun _ s₂ h₂=>wpAny_bind (wpAny_mono h₂ (fun ok s₃ h₃=>?_) fun x s2 h'=>hR x _ h')) fun x s2 h'=>hR x _ h'))) fun x s2 h'=>hR x _ h')
  cases ok with
  | false=>exact wpAny_pure ⟨rfl,h₃⟩
  | true=>
   exact wpAny_bind (wpAny_bind (wpAny_mono h₃ (fun x s₄ h₄=>wpAny_bind (wpAny_mono h₄ (fun _ s₅ h₅=>wpAny_pure (wpAny_pure ⟨rfl,h₅⟩)) fun x s2 h'=>hR x _ h')) fun x s2 h'=>hR x _ h'))
end
abbrev Cx.compX (X:Cx) (scope:Scope) (cl:List (Str×Addr)) (C:Addr) (N':List Str) (s:Shared) (H:Hp) (fp:List Addr) (pins:List (Addr×Obj)) (E:XK):Cx:={ X.comp scope cl C N' s H fp pins with xe:=FlyB X E C }
def zrl:TG:=fun _ _ _ _=>False
structure CompOkX (X:Cx) (scope:Scope) (N':List Str) (ix:List Nat) (n:Nat) (tg elt:Expr) (g:TG) (te:TE) (E:XK):Prop where
 base:CompOk X scope N' ix n tg elt [] zrl none zmV
 tgt:∀(cl:List (Str×Addr)) (C:Addr) (s:Shared) (H:Hp) (fp:List Addr) (pins:List (Addr×Obj)),PG (X.compX scope cl C N' s H fp pins E) tg g
 elt:∀(cl:List (Str×Addr)) (C:Addr) (s:Shared) (H:Hp) (fp:List Addr) (pins:List (Addr×Obj)) (σ:St),Inv X pins σ H s→(∀b∈fp,FpOk X pins H b)→PE (X.compX scope cl C N' s H fp pins E) elt te
section
variable {X:Cx} {scope:Scope} {N':List Str} {ix:List Nat} {n:Nat} {tg elt iter:Expr} {g:TG} {te:TE} {pos:Pos} {E0:XK}
theorem ziV (osc:Scope) (oN N':List Str) (ix:List Nat) (n:Nat) (hosc:X.env.scope=osc) (hoN:X.N=oN) (kind:scope.kind=.function) (nocell:(scope.names.all fun y=>y.2 != .free || scope.names.all fun z=>!(z.1 == y.1) || z.2 != .cell)=true) (names:∀y∈scope.names,y.2=.local→scope.names.lookup y.1=some .local)
  (free:(scope.names.all fun y=>y.2 != .free || (osc.names.lookup y.1 == some .cell || osc.names.lookup y.1 == some .free))=true) (len:ix.length+n=N'.length)
  (take:((List.range ix.length).all fun j=>match N'[j]?,oN[ix.getD j 0]? with|some x,some y=>x == y && scope.names.lookup x == some .free|_,_=>false)=true)
  (tgt:∀(cl:List (Str×Addr)) (C:Addr) (s:Shared) (H:Hp) (fp:List Addr) (pins:List (Addr×Obj)),PG (X.compX scope cl C N' s H fp pins E0) tg g)
  (elt':∀(cl:List (Str×Addr)) (C:Addr) (s:Shared) (H:Hp) (fp:List Addr) (pins:List (Addr×Obj)) (σ:St),Inv X pins σ H s→(∀b∈fp,FpOk X pins H b)→PE (X.compX scope cl C N' s H fp pins E0) elt te):CompOkX X scope N' ix n tg elt g te E0:=
 ⟨zf7 _ _ _ _ n hosc hoN kind nocell names free len take (fun _ _ _ _ _ _=>fun _ _ _ _ _ _ _ _ _ h=>h.elim) (fun _ _ _ _ _ _=>zoS) (.inl ⟨rfl,rfl⟩),tgt,elt'⟩
theorem zpx {cl:List (Str×Addr)} {C:Addr} {s:Shared} {H:Hp} {fp:List Addr} {pins:List (Addr×Obj)} {σ:St} (hX:PassesB X E0) (I:Inv X pins σ H s) (hf:∀b∈fp,FpOk X pins H b):zgu (CX1 X.prog X.w) (X.compX scope cl C N' s H fp pins E0) (fun _=>E0):=by
 rintro pins2 σ2 Hc sc e s' J ⟨ea,Cc,dct,H',rfl,F,q⟩
 have J1:Inv (X.comp scope cl C N' s H fp pins) [] σ2 Hc sc:=Inv.unpinned (pins:=[]) (pl:=pins2) (zpH J)
 have I':Inv X pins σ Hc sc:=zhf I hf J1
 obtain⟨B,fl,hok,third⟩:=F.lay
 have F':Un (frs X.stack) [] _ _ _ _:=F.un
 have stk:frs X.stack=X.env.locals::X.fs:=by
  rw[hX.stk]
  show List.filterMap _ _=_
  rw[List.filterMap_cons,hX.fr];rfl
 have bs:=I'.base
 rw[hX.ex] at bs
 have fl':FlyD B X.stack _ _ _ _ _:=fl
 obtain⟨u,third'⟩:=zjy bs F' I'.ok.above I'.stkSub (fun b hb=>by simp_all) I'.ok.frf (fun b hb o e=>by
   obtain⟨_,o',ho',hn⟩:=fl'.fun'.mem (show b∈frs _ by simp_all)
   simp_all) (fun b o hb _=>⟨_,hb⟩) fl.stays third
 have above:=J1.ok.above
 have hCf:C∉frs _:=fun z=>let ⟨_,o,ho,_⟩:=I.stack.mem z;absurd (Nat.lt_of_lt_of_le (Heap.lt_size ho) above) (Nat.lt_irrefl _)
 have fC:=J1.free
 obtain⟨m,⟨o,es,ep,ho,hd,hr⟩,_⟩:=J1.loc
 have ho1:=ho
 have ho2:=F'.keep C o ho1 fC hCf (by simp)
 have fC2:=F'.free C o ho1 fC (by simp)
 have hide:∀b,B.get? b=none→(PySem.W.hideAll B [C]).get? b=none:=fun b hb=>by
  cases z:(PySem.W.hideAll B _).get? b with
  | none=>rfl
  | some v=>have:=PySem.W.of_hideAll _ z;grind
 refine⟨_,⟨ea,_,dct,_,.none,rfl,F.os.trans I'.os,F.bare,⟨fun b v z=>fl.stays b v (PySem.W.of_hideAll _ z),hide _ fl.out,zhx hide fl'.fun',?_⟩,?_,u,?_,q⟩,PySem.W.hideAll_none _ (.head _),hCf,m,o,es,_,ho2,hd,hr⟩
 ·obtain⟨T,bT,tr⟩:=fl.tr
  exact⟨T,hide _ bT,tr⟩
 ·intro a v e
  refine (hok a v e).stay (fun b w hb z=>PySem.W.hideAll_get _ z fun y=>?_) (fun _ z=>z) fun _ _ z=>z
  have e1:=by simpa using y
  rcases hb with rfl|hb
  ·grind
  ·rw[e1,fC2] at hb;cases hb
 ·intro b v e hb
  obtain⟨o',e',z⟩:=third' b v e hb
  refine⟨_,PySem.W.hideAll_get _ e' fun y=>?_,z⟩
  have e1:=by simpa using y
  have:=Nat.lt_of_lt_of_le (Heap.lt_size e) (Nat.le_trans I.sz above)
  rw[e1] at this
  exact absurd this (Nat.lt_irrefl _)
theorem zjI {pins:List (Addr×Obj)} {σ:St} {H:Hp} {s:Shared} {Q:VK} {it:Addr} {fp:List Addr} {tn:Nat→Heap→Prop} {J:It} {cl:List (Str×Addr)} {RR:Value→Addr→Result→Shared→Prop} {E:Value→Shared→Prop}
  (hX:PassesB X E0) (B:CompOkX X scope N' ix n tg elt g te E0) (hc:X.calm=true) (I:Inv X pins σ H s) (T:Turn X.prog X.w X.K tg J fp it tn) (st:tn 0 s.heap) (hf:∀b∈fp,FpOk X pins H b)
  (hcl:∀x c,cl.lookup x=some c→X.env.cells.lookup x=some c) (hcf:∀y∈scope.names,y.2=.free→cl.lookup y.1=X.env.cells.lookup y.1)
  (body:∀D,H D=none→zqB D J g none te Q (zdt σ ix n) (upd H D (.lst [])))
  (hRR:∀D C H' s' m,Inv X pins σ H' s'→s'.heap.Ns C m→FpOk X pins H' C→Q (.ref D) H'→RR (.ref D) C (.ok .next) s')
  (hRE:∀D C e s',FlyB X E0 C e s'→RR (.ref D) C (.error e) s') :
  wpAny (model X.prog X.w) X.A (newList []) (fun acc s₃=>wpAny (model X.prog X.w) X.A (newFunctionEnv scope X.env.globals cl [] X.env.qual none .none (some X.env)) (fun cenv s₄=>
   codeAny (model X.prog X.w) X.A (.compStart (.ListComp elt [⟨tg,iter,[],0⟩] scope pos) 0 (.ref it) acc { cenv with scope:=relabel scope X.env }) (RR acc cenv.locals) s₄) E s₃) E s:=by
 refine wpAny_newObj_type (zgU ?_)
 dsimp only
 generalize hH2:s.heap.push { cls:=.type "list",dict:=none,data:=.seq ([]:List Value).toArray }=H2
 have hC:H2.objs.size=s.heap.objs.size+1:=by rw[← hH2,Heap.size_push]
 obtain⟨cs,ecs⟩:∃cs,cs=cellsFrom (H2.objs.size+1) scope.names cl:=⟨_,rfl⟩
 rw[← ecs]
 obtain⟨h₁,eh⟩:∃h₁,h₁=pushCells (H2.push { cls:=.type "dict",data:=.dict #[] }) scope.names:=⟨_,rfl⟩
 rw[← eh]
 have kp:∀b o,H2.get? b=some o→h₁.get? b=some o:=fun b o e=>by rw[eh];exact pushCells_keeps _ _ b o (Heap.get?_push_of_some _ e)
 have hns₁:h₁.Ns H2.objs.size fun _=>none:=by rw[eh];exact (Heap.Ns.new H2 (.type "dict")).keeps (pushCells_keeps _ _)
 have below:∀b,b<s.heap.objs.size→b≠H2.objs.size:=fun b hb=>by rw[hC];(omega)
 have old:∀b o,s.heap.get? b=some o→h₁.get? b=some o:=fun b o e=>kp b o (hH2 ▸ Heap.get?_push_of_some _ e)
 have hacc:h₁.get? s.heap.objs.size=some { cls:=.type "list",data:=.seq #[] 0 }:=kp _ _ (hH2 ▸ Heap.get?_push_size _ rfl)
 have clt:∀x c,cl.lookup x=some c→c<s.heap.objs.size:=fun x c e=>let ⟨v,o,ho,_⟩:=I.cell x c (hcl x c e);Heap.lt_size ho
 have own:∀x c,(x,NameKind.cell)∈scope.names→cs.lookup x=some c→s.heap.objs.size+1<c:=fun x c h e=>by
  rw[ecs] at e
  have:=zdx scope.names _ cl h e fun _ _=>.inr trivial
  omega
 have hcl2:∀x c,cs.lookup x=some c→X.env.cells.lookup x=some c∨(s.heap.objs.size+1<c∧∃v,h₁.IsCell c v):=fun x c e=>by
  by_cases hx:(x,NameKind.cell)∈scope.names
  ·refine .inr ⟨own x c hx e,none,?_⟩
   have okc:=cellsFrom_ok scope.names (H2.push { cls:=.type "dict",data:=.dict #[] }) 0 [] ⟨fun _ _ hm=>(nomatch hm),List.Pairwise.nil⟩ (Nat.zero_le _)
   have e2:(cellsFrom (H2.objs.size+1) scope.names []).lookup x=some c:=by
    have gen:∀(names:List (Str×NameKind)) (n:Nat) (acc:List (Str×Addr)),(x,NameKind.cell)∈names→(cellsFrom n names acc).lookup x=(cellsFrom n names []).lookup x:=by
     have gen2:∀(names:List (Str×NameKind)) (n:Nat) (acc acc':List (Str×Addr)),(x,NameKind.cell)∈names∨acc.lookup x=acc'.lookup x→(cellsFrom n names acc).lookup x=(cellsFrom n names acc').lookup x:=by
      intro names
      induction names with
      | nil=>intro n acc acc' h;exact h.elim (fun z=>by cases z) id
      | cons p r ih=>
       intro n acc acc' h
       obtain⟨y,k⟩:=p
       unfold cellsFrom
       split
       ·rename_i hk
        have hk':k=.cell:=by simpa using hk
        subst hk'
        refine ih _ _ _ ?_
        by_cases exy:x=y
        ·subst exy;(first|rfl|omega|simp|simp_all|grind)
        ·rcases h with z|z
         ·rcases List.mem_cons.mp z with w|w
          ·cases w;exact absurd rfl exy
          ·exact .inl w
         ·exact .inr (by simp only[List.lookup_cons,show (x == y)=false by simpa using exy];exact z)
       ·rename_i hk
        refine ih _ _ _ ?_
        rcases h with z|z
        ·rcases List.mem_cons.mp z with w|w
         ·cases w;exact absurd rfl hk
         ·exact .inl w
        ·exact .inr z
     exact fun names n acc h=>gen2 names n acc [] (.inl h)
    rwa [← gen scope.names _ cl hx,← ecs]
   rw[Heap.size_push] at okc
   rw[eh]
   exact (okc.empty x c (PySem.mem_of_lookup e2)).1
  ·rw[ecs,zcq _ _ _ hx] at e
   exact .inl (hcl x c e)
 have hcf2:∀y∈scope.names,y.2=.free→cs.lookup y.1=X.env.cells.lookup y.1:=fun y hy hf=>by
  rw[ecs,zcq _ _ _ (B.base.nocell y hy hf)]
  exact hcf y hy hf
 have hinj:∀x y c,cs.lookup x=some c→cs.lookup y=some c→x=y:=by
  rw[ecs]
  exact zdA scope.names _ cl (fun x c e=>Nat.lt_of_lt_of_le (clt x c e) (by rw[hC];omega)) fun x y c e1 e2=>I.ok.inj x y c (hcl x c e1) (hcl y c e2)
 have hown:∀x,scope.names.lookup x=some .cell→∃c,cs.lookup x=some c:=fun x h=>by
  rw[ecs]
  exact Option.isSome_iff_exists.mp (PySem.W.cellsFrom_some scope.names _ cl (.inl h))
 have hnew:∀x c,scope.names.lookup x=some .cell→cs.lookup x=some c→s.heap.objs.size+1<c:=fun x c h e=>own x c (PySem.mem_of_lookup h) e
 have cne:∀b,b<s.heap.objs.size→(∀x c,X.env.cells.lookup x=some c→c≠b)→∀x c,cs.lookup x=some c→c≠b:=fun b hb hold x c e z=>by
  rcases hcl2 x c e with w|⟨w,_⟩
  ·exact hold x c w z
  ·rw[z] at w;exact Nat.lt_irrefl _ (Nat.lt_trans (Nat.lt_trans (Nat.lt_succ_self _) w) hb)
 have hfo:∀b∈fp,∃o,s.heap.get? b=some o:=fun b hb=>let ⟨o,e,_⟩:=T.obj 0 _ st b hb;⟨o,e⟩
 have st1:tn 0 h₁:=T.keep 0 _ _ st fun b _ o e=>old b o e
 have hD0:H s.heap.objs.size=none:=I.hok.fresh (Nat.le_refl _)
 obtain⟨W,⟨m0,w0⟩,turn⟩:=body _ hD0
 have J0:Inv (X.compX scope cs H2.objs.size N' s H fp pins E0) [] (zdt σ ix n) (upd H s.heap.objs.size (.lst [])) { s with heap:=h₁ }:=by
  rw[hC] at hns₁ ⊢
  exact zrR (zif (tk:=s.toks) B.base I hf hfo hcl2 hcf2 hinj hown hnew old hacc hns₁)
 have fpOk:∀ {H':Hp},(∀b∈fp,H' b=none)→∀b∈fp,FpOk (X.compX scope cs H2.objs.size N' s H fp pins E0) [] H' b:=fun hn b hb=>by
  obtain⟨f0,f1,f2,f3,f4,f5⟩:=hf b hb
  obtain⟨o,e⟩:=hfo b hb
  refine⟨hn b hb,below b (Heap.lt_size e),fun z=>?_,.inl hb,cne b (Heap.lt_size e) f4,fun p hp=>f5 p ?_⟩
  ·rcases List.mem_cons.mp (I.stkSub b z) with q|q
   ·exact f1 q
   ·exact f2 q
  ·rwa [List.append_nil] at hp
 have fp0:∀b∈fp,upd H s.heap.objs.size (.lst []) b=none:=fun b hb=>by
  obtain⟨o,e⟩:=hfo b hb
  rw[zaz (Nat.ne_of_lt (Heap.lt_size e))]
  exact (hf b hb).1
 have loop:∀s₃:Shared,s₃ = { s with heap:=h₁ } →
   codeAny (model X.prog X.w) X.A (.compLoop (.ListComp elt [⟨tg,iter,[],0⟩] scope pos) 0 (.ref it) (.ref s.heap.objs.size) (compEnvC scope cs H2.objs.size X.env)) (RR (.ref s.heap.objs.size) H2.objs.size) s₃:=by
  rintro s₃ rfl
  refine ziB (XE:=FlyB X E0 H2.objs.size) (fun x s2 h2=>wpAny_mono (zs5 hX I.ok rfl h2) (fun _ s3 h3=>hRE _ _ _ _ h3) fun _ _ z=>z) (fun k s'=>∃i ys σ2 H3,Inv (X.compX scope cs H2.objs.size N' s H fp pins E0) [] σ2 H3 s'∧tn i s'.heap∧(∀b∈fp,H3 b=none)∧W i k ys σ2 H3) ?_ m0 ⟨0,[],_,_,J0,st1,fp0,w0⟩
  rintro k s3 ⟨i,ys,σ3,H3,I3,st3,fr3,w3⟩
  obtain⟨hD3,alt⟩:=turn i k ys σ3 H3 w3
  rcases alt with ⟨stop,q⟩|⟨go,N,hN,step⟩
  ·refine thn (T.done (X.compX scope cs H2.objs.size N' s H fp pins E0) rfl rfl rfl hc i [] s3 σ3 H3 _ I3 (fpOk fr3) st3 stop) fun r s4 ⟨hr,I4⟩=>?_
   subst hr
   obtain⟨m4,hn4,_⟩:=I4.loc
   refine hRR _ _ H3 s4 m4 (zhf I hf (zpH I4)) hn4 ⟨I4.free,fun z=>?_,fun z=>?_,.inr (Nat.le_trans I.sz (by omega)),fun x c e z=>?_,fun p hp z=>?_⟩ q
   ·have lt:=I.lt
    rw[← z,hC] at lt
    exact absurd lt (Nat.not_lt.mpr (Nat.le_succ _))
   ·exact I.nofs (show s.heap.objs.size≤H2.objs.size by omega) z
   ·obtain⟨v,o,ho,_⟩:=I.cell x c e
    have lt:=Heap.lt_size ho
    rw[z,hC] at lt
    exact absurd lt (Nat.not_lt.mpr (Nat.le_succ _))
   ·have lt:=Heap.lt_size (I.pin p hp).1
    rw[z,hC] at lt
    exact absurd lt (Nat.not_lt.mpr (Nat.le_succ _))
  ·refine thn (T.item (X.compX scope cs H2.objs.size N' s H fp pins E0) rfl rfl rfl hc i [] s3 σ3 H3 _ I3 (fpOk fr3) st3 go) fun r s4 ⟨u,hr,h4⟩=>?_
   subst hr
   refine thn h4 fun _ s5 ⟨x,H5,I5,r5,y5,st5,fr5⟩=>?_
   have back:∀ {σ7:St} {H7:Hp} {s7:Shared} {ys':List V},Inv (X.compX scope cs H2.objs.size N' s H fp pins E0) ([]++zgG fp s5.heap) σ7 H7 s7→N ys' σ7 H7 →
     ∃m,m<k∧∃i ys σ2 H3,Inv (X.compX scope cs H2.objs.size N' s H fp pins E0) [] σ2 H3 s7∧tn i s7.heap∧(∀b∈fp,H3 b=none)∧W i m ys σ2 H3:=fun {σ7 H7 s7 ys'} I7 n7=>by
    obtain⟨m',hm,w7⟩:=hN ys' σ7 H7 n7
    refine⟨m',hm,i+1,ys',σ7,H7,I7.unpinned,T.keep _ _ _ st5 fun b hb o e=>(I7.pin (b,o) (List.mem_append_right _ (List.mem_append_right _ (zcO hb e)))).1,fun b hb=>?_,w7⟩
    obtain⟨o,e,d⟩:=T.obj _ _ st5 b hb
    exact (I7.pin (b,o) (List.mem_append_right _ (List.mem_append_right _ (zcO hb e)))).2.1
   refine thn (B.tgt cs H2.objs.size s H fp pins _ s5 σ3 H5 x u _ (I5.pinned (fpOk fr5) (T.obj _ _ st5)) r5 (step x H5 y5)) fun _ s6 ⟨σ6,H6,I6,q6⟩=>?_
   have fin:∀(b:Bool) (s7:Shared),TP (X.compX scope cs H2.objs.size N' s H fp pins E0) ([]++zgG fp s5.heap) σ6
     (fun b H4=>if b=true then te σ6 H4 fun y H5=>H5 s.heap.objs.size=some (.lst ys)∧ys.length<sizeLine∧N (ys++[y]) σ6 (upd H5 s.heap.objs.size (.lst (ys++[y]))) else N ys σ6 H4) b s7 →
     if b=true then wpAny (model X.prog X.w) X.A (eval elt (compEnvC scope cs H2.objs.size X.env)) (fun x s₄=>
       wpAny (model X.prog X.w) X.A (call (.builtin "list.append") [.ref s.heap.objs.size,x]) (fun _ s₅=>∃m,m<k∧∃i ys σ2 H3,Inv (X.compX scope cs H2.objs.size N' s H fp pins E0) [] σ2 H3 s₅∧tn i s₅.heap∧(∀b∈fp,H3 b=none)∧W i m ys σ2 H3) (FlyB X E0 H2.objs.size) s₄) (FlyB X E0 H2.objs.size) s7
      else ∃m,m<k∧∃i ys σ2 H3,Inv (X.compX scope cs H2.objs.size N' s H fp pins E0) [] σ2 H3 s7∧tn i s7.heap∧(∀b∈fp,H3 b=none)∧W i m ys σ2 H3:=by
    rintro b s7 ⟨H7,I7,q7⟩
    cases b with
    | false=>
     exact back I7 q7
    | true=>
     rw[if_pos rfl] at q7 ⊢
     refine thn (B.elt cs H2.objs.size s H fp pins σ I hf _ s7 σ6 H7 _ I7 q7) fun y s8 ⟨yv,H8,I8,r8,hD8,hz,n8⟩=>?_
     exact thn (zdM _ s8 σ6 H8 (.ref s.heap.objs.size) [yv] (.ref s.heap.objs.size) [y] (fun _ H9=>N (ys++[yv]) σ6 H9) I8 rfl (.cons r8 .nil) ⟨_,ys,yv,rfl,rfl,hD8,hz,n8⟩) fun _ s9 ⟨_,H9,I9,_,n9⟩=>back I9 n9
   exact wpAny_tests_nil (fin true s6 ⟨H6,I6,q6⟩)
 exact codeAny_compStart_list (loop _ rfl) (T.self X.A 0 _ _ _ st1 (loop _ rfl))
theorem zpj {wi:TI} (hc:X.calm=true) (hi:PI X tg iter wi) (hX:PassesB X E0) (B:CompOkX X scope N' ix n tg elt g te E0) (hs:∀x,foldedSetIterable iter X.env x=pure x:=by intro _;rfl) :
  PE X (.ListComp elt [⟨tg,iter,[],0⟩] scope pos) (zl2 wi ix n g none te):=by
 intro pins s σ H Q I h
 obtain⟨cl,hclos,hcl,hcf⟩:=zdy fun y hy hf=>I.ok.has _ (B.base.free y hy hf)
 refine wpAny_comprehension_free rfl hs hclos B.base.kind B.base.names (thn (hi _ s _ H _ I h) fun v s1 h1=>thn h1 fun itv s2 h2=>?_)
 obtain⟨it,fp,tn,J,H2,rfl,I2,T,st2,f2,body⟩:=h2
 refine zjI hX B hc I2 T st2 f2 hcl hcf body (fun D C H' s' m I' hn hC q=>⟨m,hn,fun h' hs'=>?_⟩) fun D C e s' h=>endB hX I.ok h
 obtain⟨f0,f1,f2',f3,f4,f5⟩:=hC
 exact⟨.ref D,_,I'.turned (fun b o hb e=>(hs'.2 b hb).trans e) f0 f1 f3 f4 f5,rfl,q⟩
theorem zir {wi:TI} {i:Nat} {y:Str} {py spos:Pos} (hN:X.N.Nodup) (hiN:X.N[i]?=some y) (hy:Loc X.env.scope y) (hc:X.calm=true) (hi:PI X tg iter wi) (hX:PassesB X E0) (B:CompOkX X scope N' ix n tg elt g te E0)
  (hsw:swapsWith (.ListComp elt [⟨tg,iter,[],0⟩] scope pos) (some (.Name y py)) spos.line X.env=pure true) (hf:X.fn y=true∨X.env.scope.names.lookup y=some .local:=by first|exact .inl rfl|exact .inr rfl|assumption)
  (hs:∀x,foldedSetIterable iter X.env x=pure x:=by intro _;rfl) :
  PS X (.Assign [.Name y py] (.ListComp elt [⟨tg,iter,[],0⟩] scope pos) spos) (tAsg (zl2 wi ix n g none te) (zkm i)):=by
 intro pins s σ H D I h
 rw[exec_Assign_Name_used _ _ _ _ hsw]
 refine wpAny_bind (wpAny_standAt (wpAny_bind ?_))
 obtain⟨cl,hclos,hcl,hcf⟩:=zdy fun y hy hf=>I.ok.has _ (B.base.free y hy hf)
 refine wpAny_bind (wpAny_mono (wpAny_comprehension_free rfl hs hclos B.base.kind B.base.names
  (thn (hi _ s _ H _ I h) fun v s1 h1=>thn h1 fun itv s2 h2=>?_)) (fun _ s' hq=>wpAny_pure (wpAny_pure hq)) fun _ _ e=>e)
 obtain⟨it,fp,tn,J,H2,rfl,I2,T,st2,f2,body⟩:=h2
 refine zjI hX B hc I2 T st2 f2 hcl hcf body (fun D' C H' s' m I' hn hC q=>?_) fun D C e s' h=>endB hX I.ok h
 obtain⟨f0,f1,f2',f3,f4,f5⟩:=hC
 have Ip := I'.pinned (fp := [C]) (fun b hb => by have e : b = C := by simp_all
                                                  subst e;exact⟨f0,f1,f2',f3,f4,f5⟩) (fun b hb=>by
  have e:=by simpa using hb
  subst e
  obtain⟨o,es,ep,ho,hd,_⟩:=hn
  exact⟨o,ho,fun v z=>by rw[hd] at z;cases z⟩)
 refine wpAny_assign_Name (zff Ip hN hiN hy (v:=.ref _) rfl (fun s'' I''=>?_) hf)
 obtain⟨o,es,ep,ho,hd,hr⟩:=hn
 have pinC:=I''.pin _ (List.mem_append_right _ (List.mem_append_right _ (zcO (by simp) ho)))
 exact⟨m,⟨o,_,_,pinC.1,hd,hr⟩,fun h' hs'=>⟨_,_,I''.unpinned.turned (fun b o hb e=>(hs'.2 b hb).trans e) pinC.2.1 f1 f3 f4 f5,q⟩⟩
end
section
variable {P:Program} {w:World} {K:PySem.W.Frag} {mg:Str→Option Value} {base:Heap} {N:List Str} {qual:Str} {scope:Scope} {f:Addr} {cd:Value} {A:Around} {outer:List Env} {s0:Shared} {H0:Hp} {E:XK}
theorem zgH:PassesB (cx1 P w K mg base N qual scope f cd A outer s0 H0 E) E:=⟨rfl,rfl,rfl,fun e s' B ok h=>by
 obtain⟨ea,Cc,dct,H',fl,rfl,os,bare,F,hok,un,third,q⟩:=h
 exact wpAny_bind (znb ok.frames rfl F fun h1 F1 up1=>(zlN F1 fun h2 F2 up2=>⟨_,_,_,_,rfl,⟨os,bare,zk5 un ok.frf (zqG rfl F (up1.trans up2)) F2.stays third,B,F2.pop,hok,third⟩,q⟩))⟩
end
end L2
namespace PM
open PySem L2
section
variable {K:Kx} {XO:XOT} {E0:XK} {te:TE} {me:En→R D}
def zdr (b:D→En→Option En) (me:En→R D) (δ:En) (d:D):R (Option D):=match b d δ with
 | none=>.no
 | some δ1=>(me δ1).bind fun x=>.ok (some x)
def zga (mi:En→R (List D)) (ix:List Nat) (n:Nat) (b:D→En→Option En) (me:En→R D) (δ:En):R D:=
 (mi δ).bind fun ds=>ifC (ds.length≤sizeLine) ((zb1 (zdr b me (zaK δ ix n)) ds).bind fun l=>.ok (.lst l)) .no
theorem zms {α β γ:Type} (r:R α) (f:α→R β) (g:β→R γ):(r.bind f).bind g=r.bind fun a=>(f a).bind g:=by cases r <;> rfl
theorem zf9 {wi:TI} {mi:En→R (List D)} {ix:List Nat} {n:Nat} {g:TG} {b:D→En→Option En}
  (hi:SIc K XO (fun _=>E0) wi mi) (hix:ix.Nodup) (hg:SG K g b) (hw:BW b) (he:SE K XO (fun _=>E0) te me):SEo K XO (fun _=>E0) (zl2 wi ix n g none te) (zga mi ix n b me):=by
 intro Λ F0 H0 F H σ δ Q I a
 refine hi Λ F0 H0 F H σ δ _ I (a.bind.imp fun ds F1 H1 e1 a1 J hJ p hp=>?_)
 unfold ifC at a1
 split at a1
 case isFalse=>exact a1.elim
 have I1:=I.grow e1
 obtain⟨Λc,Ic,hown,hall⟩:=zjm (n:=n) I1 hix
 have hlent:∀x∈Λc,∃d,(zaK δ ix n)[x.1]?=some (.l d):=fun x hx=>(Ic.lent x hx).1
 have hpn:∀x∈Λc,x.2.1≠p:=fun x hx e=>by
  obtain⟨o,ho⟩:=hall x hx
  grind
 have p0:H0 p=none:=I1.ext.hh.free hp
 have f1:F1 p=none:=e1.fh.free hp
 obtain⟨G,eG⟩:∃G,G=zb1 (zdr b me (zaK δ ix n)) ds:=⟨_,rfl⟩
 rw[← eG] at a1
 refine⟨fun i k ys σ2 H2=>∃F2 l1,EnvOk K Λc F0 H0 F2 H2 σ2 (zaK δ ix n)∧Ext F1 H1 F2 H2∧H2 p=some (.lst ys)∧F2 p=none∧RepL K F2 l1 ys∧G=(zb1 (zdr b me (zaK δ ix n)) (ds.drop i)).bind (fun r=>.ok (l1++r))∧k=ds.length - i∧i≤ds.length∧ys.length≤i,
  ⟨_,F1,[],?_,.newO e1.fh hp,zaB,f1,.nil,?_,rfl,Nat.zero_le _,Nat.le_refl _⟩,?_⟩
 ·exact Ic.grow (.newO e1.fh hp)
 ·rw[eG]
  show _=(zb1 _ ds).bind _
  cases zb1 (zdr b me (zaK δ ix n)) ds <;> rfl
 rintro i k ys σ2 H2 ⟨F2,l1,I2,x2,hD,hF,r,qd,rfl,hil,hys⟩
 refine⟨hD,?_⟩
 by_cases hlt:i<ds.length
 ·have e:ds.drop i=ds[i]::ds.drop (i+1):=List.drop_eq_getElem_cons hlt
  rw[e] at qd
  obtain⟨h1,h2⟩:=(hJ F2 H2 x2 i).1 ds[i] (by simp)
  refine .inr ⟨h1,fun ys' σ' H'=>∃F' l1',EnvOk K Λc F0 H0 F' H' σ' (zaK δ ix n)∧Ext F1 H1 F' H'∧H' p=some (.lst ys')∧F' p=none∧RepL K F' l1' ys'∧G=(zb1 (zdr b me (zaK δ ix n)) (ds.drop (i+1))).bind (fun r=>.ok (l1'++r))∧ys'.length≤i+1,
   fun ys' σ' H' ⟨F',l1',w1,w2,w3,w4,w5,w6,w7⟩=>⟨_,by omega,F',l1',w1,w2,w3,w4,w5,w6,rfl,hlt,w7⟩,fun x H' y=>?_⟩
  obtain⟨F3,e3,rx⟩:=h2 x H' y
  have hp2:∀ {F5 H5:Hp},Ext F2 H2 F5 H5→H5 p=some (.lst ys)∧F5 p=none:=fun z=>⟨z.hh _ _ hD,z.nw p _ hF hD⟩
  unfold zb1 at qd
  cases qb:b ds[i] (zaK δ ix n) with
  | none=>
   have z:zdr b me (zaK δ ix n) ds[i]=.no:=by unfold zdr;rw[qb]
   rw[z] at qd
   rw[qd] at a1
   exact a1.elim
  | some δ1=>
   have z:zdr b me (zaK δ ix n) ds[i]=(me δ1).bind fun x=>.ok (some x):=by unfold zdr;rw[qb]
   rw[z] at qd
   refine hg Λc F0 H0 F3 H' σ2 _ _ x δ1 _ (I2.grow e3) rx qb fun σ3 I3=>?_
   unfold zpJ
   refine he Λc F0 H0 F3 H' σ3 δ1 _ I3 ?_
   cases qm:me δ1 with
   | no=>rw[qm] at qd;rw[qd] at a1;exact a1.elim
   | ex x2'=>
    rw[qm] at qd
    rw[qd] at a1
    intro C dct F5 H5 e5 xo
    exact a1 C dct F5 H5 (x2.trans (e3.trans e5)) xo
   | ok d=>
    rw[qm] at qd
    intro F5 H5 e5 v rv
    have z:=e3.trans e5
    obtain⟨z1,z2⟩:=hp2 z
    refine⟨z1,by omega,F5,_,((I3.grow e5).weakL (hw _ _ _ qb) hlent).side hown hpn p0 z2,?_,zaB,z2,(r.mono z.ff).append (.cons rv .nil),?_,by simpa using hys⟩
    ·have w:=x2.trans z
     exact⟨w.ff,fun c o q=>by rw[zaz (zaW q hp)];exact w.hh c o q,fun c o q=>by rw[zaz (zaW q z2)];exact w.fh c o q,w.nw⟩
    ·rw[qd,R.bind_ok,R.bind_ok,zms]
     congr 1
     simp
 ·have e:i=ds.length:=by omega
  subst e
  rw[List.drop_length] at qd
  have qd':G=.ok (l1++[]):=qd
  rw[qd',List.append_nil] at a1
  refine .inl ⟨(hJ _ _ x2 _).2 (by simp),a1 _ H2 x2 p hF (e1.hh.free hp) ⟨_,hD,r⟩⟩
end
end PM
namespace L2
open PySem PySem.Spec PyProof.Rows
section
variable {P:Program} {w:World} {K:PySem.W.Frag} {mg:Str→Option Value} {base:Heap} {x q:Str} {st:Stmt} {C:Addr} {CX:CXT} {k:Nat} {ps:List Str} {sp:Sp}
abbrev Das (K:PySem.W.Frag) (x y:Str) (st:Stmt):Prop:=∃f fd,DefAs K x y st f fd
abbrev Bd (x q:Str) (st:Stmt) (ps:List Str):Prop:=∀(kV doc pm:Value) (an:Option Addr) (cdv ct:Value) (us:List Value),us.length=ps.length→bindArgs (PySem.W.fnOf x q (zcJ st) (zcd st) (zap st) .none kV doc pm an cdv ct) ⟨us,[]⟩=pure (ps.zip us)
theorem hA {y:Str} (T:∃h:Heap,K.In h∧h.Ns mainGlobals mg) (d:Das K x y st) (h:∀f fd,Fun K y y st f fd→FnOk P w K mg base CX k f fd ps sp)
  (b:Bd y y st ps:=by intro _ _ _ _ _ _ us hl;first|exact (match us,hl with|[_],_=>rfl)|exact (match us,hl with|[_,_],_=>rfl)|exact (match us,hl with|[_,_,_],_=>rfl)|exact (match us,hl with|[_,_,_,_],_=>rfl)|exact (match us,hl with|[_,_,_,_,_],_=>rfl)):Has P w K mg base CX k x ps sp:=by
 obtain⟨f,fd,D⟩:=d
 obtain⟨_,X,G⟩:=T
 exact D.has X G (h f fd D.fn) (D.fn.binds b)
end
end L2
namespace My
open PySem L2 PM
def zeF:Nat→Bool
 | 2=>true
 | 4=>true
 | 5=>true
 | 6=>true
 | _=>false
def zcl (c:Nat):Bool:=zeF (c%16)
def zeZ:Nat→Option Bool
 | 2=>some false
 | 4=>some false
 | 5=>some false
 | 6=>some false
 | _=>none
def zet (c:Nat):Option Bool:=zeZ (c%16)
def zea:Nat→Option Bool
 | 2=>some true
 | 4=>some false
 | 5=>some false
 | 6=>some false
 | _=>none
def zdC (c:Nat):Option Bool:=zea (c%16)
def zeN:Nat→Option Bool
 | 2=>some false
 | 4=>some false
 | 5=>some false
 | 6=>some false
 | _=>none
def zeu (c:Nat):Option Bool:=zeN (c%16)
def zeQ:Nat→Option Bool
 | 2=>some false
 | 4=>some true
 | 5=>some false
 | 6=>some false
 | _=>none
def zez (c:Nat):Option Bool:=zeQ (c%16)
def zfw:Nat→Option Bool
 | 2=>some false
 | 4=>some false
 | 5=>some true
 | 6=>some false
 | _=>none
def zfc (c:Nat):Option Bool:=zfw (c%16)
def zfG:Nat→Option Bool
 | 2=>some false
 | 4=>some false
 | 5=>some false
 | 6=>some true
 | _=>none
def zfd (c:Nat):Option Bool:=zfG (c%16)
def zdH:Nat→Option Bool
 | 2=>some true
 | 4=>some true
 | 5=>some true
 | 6=>some true
 | _=>none
def zdg (c:Nat):Option Bool:=zdH (c%16)
def zlo:Nat→Bool
 | 6=>true
 | _=>false
def zfO (c:Nat):Bool:=zlo (c%16)
def zjv:Nat→Bool
 | 4=>true
 | 5=>true
 | _=>false
def zpe (c:Nat):Bool:=zjv (c%16)
def zoC:Nat→Option Bool
 | _=>none
def zpV:Nat→Option Bool
 | _=>none
def zlZ:Nat→Option Bool
 | _=>none
def zmf:Nat→Option Bool
 | _=>none
def zm5:Nat→Option Bool
 | _=>none
def zmz:Nat→Option Bool
 | _=>none
def zlP:Nat→Option Bool
 | _=>none
def zmm:Nat→Option Bool
 | _=>none
def zeO:En→O:=(mRet (m2 oMod (m2 oMul (m2 oAdd (m2 oAdd (m2 oMod (mRd 0) (m2 oPow (mC (.int 10)) (mC (.int 20)))) (m2 oMul (mRd 1) (mRd 1))) (mC (.int 1))) (m2 oAdd (mC (.int 48271)) (m2 oMul (mC (.int 2)) (mRd 1)))) (mC (.int 2147483647))))
def zbZ:List D→R D:=runF 2 0 zeO
def zhn:En→O:=(mSeq (mAsg (mCB zeY (zab (mRd 1) mNil)) (zax 3))
 (mSeq (mAsg (mCB zeY (zab (mRd 2) mNil)) (zax 4))
 (mSeq (mIfS (zaw (m2 oEq (mRd 0) (mC (.int 0))))
 (zdX (mLst (zab (mC (.str "cover 2")) (zab (m2 zc0 (mRd 3) (mC (.str " 0"))) (zab (m2 zc0 (mRd 4) (mC (.str " 1 0"))) mNil)))))
 zbi)
 (mSeq (mIfS (zaw (m2 oEq (mRd 0) (mC (.int 1))))
 (zdX (mLst (zab (m2 zc0 (m2 zc0 (m2 zc0 (mC (.str "touch ")) (mRd 3)) (mC (.str " "))) (mRd 4)) (zab (mC (.str "0 1")) mNil))))
 zbi)
 (mSeq (mIfS (zaw (m2 oEq (mRd 0) (mC (.int 2))))
 (zdX (mLst (zab (mC (.str "round")) (zab (m2 zc0 (mC (.str "0 ")) (mRd 3)) (zab (m2 zc0 (mRd 3) (mC (.str " 0"))) mNil)))))
 zbi)
 (mSeq (mIfS (zaw (m2 oEq (mRd 0) (mC (.int 3))))
 (zdX (mLst (zab (mC (.str "places 1")) (zab (m2 zc0 (mC (.str "0 ")) (mRd 3)) (zab (m2 zc0 (mRd 3) (mC (.str " 0"))) mNil)))))
 zbi)
 (mSeq (mIfS (zaw (m2 oEq (mRd 0) (mC (.int 4))))
 (zdX (mLst (zab (m2 zc0 (m2 zc0 (m2 zc0 (mC (.str "benches 2 ")) (mRd 3)) (mC (.str " "))) (mRd 4)) mNil)))
 zbi)
 (mSeq (mIfS (zaw (m2 oEq (mRd 0) (mC (.int 5))))
 (zdX (mLst (zab (m2 zc0 (m2 zc0 (m2 zc0 (mC (.str "bins 9 ")) (mRd 3)) (mC (.str " "))) (mRd 4)) mNil)))
 zbi)
 (zdX (mLst (zab (mC (.str "sack 9")) (zab (m2 zc0 (m2 zc0 (mRd 3) (mC (.str " "))) (mRd 4)) mNil))))))))))))
def zbt:List D→R D:=runO 3 2 zhn
def zhp:En→O:=(mSeq (mAsg (m2 oMod (mRd 2) (mC (.int 4))) (zax 3))
 (mSeq (mIfS (zaw (m2 oEq (mRd 3) (mC (.int 0))))
 (mRet (m2 oCat (mRd 1) (mSl (mLst (zab (mC (.str "1")) (zab (mC (.str "x")) (zab (mC (.str "1")) (zab (mC (.str "1")) (zab (mC (.str "0")) (zab (mC (.str "0")) (zab (mC (.str "1")) mNil)))))))) (zbq (mVar 0)) (zbq (m2 oAdd (mRd 0) (mC (.int 1)))))))
 zbi)
 (mSeq (mIfS (zaw (m2 oEq (mRd 3) (mC (.int 1))))
 (mRet (m2 oIxL (mLst (zab (mSl (mRd 1) mNoP (zbq (mC (.int 1)))) (zab (mLst (zab (mC (.str "rounds")) mNil)) mNil))) (mCB fInt (zab (m2 oEq (mRd 0) (mC (.int 2))) mNil))))
 zbi)
 (mSeq (mIfS (mAnd (zaw (m2 oEq (mRd 3) (mC (.int 2)))) (zaw (m2 oEq (mRd 0) (mC (.int 4)))))
 (mSeq (mAsg (m2 oAdd (mC (.int 2)) (m2 oMod (m2 oDiv (mRd 2) (mC (.int 4))) (mC (.int 3)))) (zax 4))
 (mRet (m2 oCat (m2 oCat (mSl (mRd 1) mNoP (zbq (mVar 4))) (mLst (zab (mC (.str "0")) mNil))) (mSl (mRd 1) (zbq (mVar 4)) mNoP))))
 zbi)
 (mSeq (mIfS (mAnd (zaw (m2 oEq (mRd 3) (mC (.int 2)))) (zaw (m2 oNe (mRd 0) (mC (.int 2)))))
 (mRet (m2 oCat (m2 oCat (mSl (mRd 1) mNoP (zbq (mC (.int 1)))) (mSl (mLst (zab (mC (.str "0")) (zab (mC (.str "1/1")) (zab (mC (.str "")) (zab (mC (.str "0")) (zab (mC (.str "")) (zab (mC (.str "0")) (zab (mC (.str "-1")) mNil)))))))) (zbq (mVar 0)) (zbq (m2 oAdd (mRd 0) (mC (.int 1)))))) (mSl (mRd 1) (zbq (mC (.int 2))) mNoP)))
 zbi)
 (mSeq (mAsg (m2 oAdd (mC (.int 1)) (m2 oMod (m2 oDiv (mRd 2) (mC (.int 4))) (mCB fLen (zab (mRd 1) mNil)))) (zax 4))
 (mRet (m2 oCat (m2 oCat (mSl (mRd 1) mNoP (zbq (mVar 4))) (mLst (zab (mC (.str "")) mNil))) (mSl (mRd 1) (zbq (mVar 4)) mNoP)))))))))
def zcI:List D→R D:=runF 3 2 zhp
def zex:En→O:=(mSeq (mAsg (m2 oMod (mRd 2) (mC (.int 6))) (zax 3))
 (mSeq (mAsg (m2 oDiv (mRd 2) (mC (.int 6))) (zax 4))
 (mSeq (mIfS (zaw (m2 oLt (mRd 3) (mC (.int 4))))
 (zdX (mLst (zab (m2 oCat (mLst (zab (zhT " " (zar zcI (zab (mVar 0) (zab (zeJ (m2 oIxL (mRd 1) (mC (.int 0))) " ") (zab (mVar 4) mNil))))) mNil)) (mSl (mRd 1) (zbq (mC (.int 1))) mNoP)) (zab (mC (.int 0)) mNil))))
 zbi)
 (mSeq (mIfS (mAnd (zaw (m2 oEq (mRd 3) (mC (.int 5)))) (zaw (m2 oEq (mRd 0) (mC (.int 3)))))
 (mSeq (mAsg (m2 zc0 (mC (.str "places ")) (mCB zeY (zab (m2 oAdd (mC (.int 3)) (m2 oMod (mRd 4) (mC (.int 10)))) mNil))) (zax 5))
 (mSeq (mIfS (zaw (m2 oEq (m2 oMod (m2 oDiv (mRd 4) (mC (.int 10))) (mC (.int 2))) (mC (.int 0))))
 (zdX (mLst (zab (m2 oCat (m2 oCat (mLst (zab (mVar 5) mNil)) (mSl (mRd 1) (zbq (mC (.int 1))) (zbq (m1 oNeg (mC (.int 1)))))) (mLst (zab (m2 zc0 (mSlS (m2 oIxL (mRd 1) (m1 oNeg (mC (.int 1)))) mNoP (zbq (m1 oNeg (mC (.int 1))))) (mC (.str "x"))) mNil))) (zab (mC (.int 2)) mNil))))
 zbi)
 (zdX (mLst (zab (mLst (zab (m2 zc0 (mC (.str "places ")) (mCB zeY (zab (m2 oAdd (mC (.int 4)) (m2 oMod (mRd 4) (mC (.int 9)))) mNil))) (zab (mC (.str "0 1 9")) (zab (mC (.str "1 0 1")) (zab (mC (.str "9 1 0")) mNil))))) (zab (mC (.int 0)) mNil))))))
 zbi)
 (mSeq (mAsg (zeJ (m2 oIxL (mRd 1) (m1 oNeg (mC (.int 1)))) " ") (bNew 6))
 (mSeq (zoP 6 (m1 oNeg (mC (.int 1))) (m2 oIxL (mLst (zab (mC (.str "1_0")) (zab (mC (.str "1/02")) (zab (mC (.str "0_0")) (zab (mC (.str "1/2_")) mNil))))) (m2 oMod (mRd 4) (mC (.int 4)))))
 (mFrz 6 (zdX (mLst (zab (m2 oCat (mSl (mRd 1) mNoP (zbq (m1 oNeg (mC (.int 1))))) (mLst (zab (zhT " " (mVar 6)) mNil))) (zab (m2 oSub (mCB fLen (zab (mRd 1) mNil)) (mC (.int 1))) mNil)))))))))))
def zbr:List D→R D:=runO 3 4 zex
def zd9:En→O:=(mIfS (zaw (mVar 0))
 (zgs 6 (zab (mVar 1) mNil))
 zbi)
def zah:List D→R D:=runF 2 0 zd9
def zcH:En→O:=(mDo (zaj zah (zab (mOrV (m2 oLt (mCB fLen (zab (mRd 0) mNil)) (mRd 1)) (m2 oGt (mCB fLen (zab (mRd 0) mNil)) (mRd 2))) (zab (mVar 3) mNil))))
def zaq:List D→R D:=runF 4 0 zcH
def zdh:En→R D:=zha (mItS (mVar 0)) [] 1 (zbh 0) none (m2 (oInS not) (mRd 0) (mC (.str "0123456789")))
def zhm:En→O:=(mSeq (mIfS (mOr (zaw (m2 oEq (mCB zgO (zab (mRd 0) mNil)) (mC (.int 0)))) (zaw (m2 oGt (mCB zgO (zab (mRd 0) mNil)) (mC (.int 12)))))
 (mRet (mC (.bl false)))
 zbi)
 (mSeq (mIfS (zaw (mCB fAny (zab zdh mNil)))
 (mRet (mC (.bl false)))
 zbi)
 (mRet (mOrV (m2 oNe (m2 oIxS (mRd 0) (mC (.int 0))) (mC (.str "0"))) (m2 oEq (mRd 0) (mC (.str "0")))))))
def zbB:List D→R D:=runF 1 0 zhm
def zhD:En→O:=(mSeq (mDo (zaj zah (zab (zgn (zar zbB (zab (mVar 0) mNil))) (zab (mVar 3) mNil))))
 (mSeq (mAsg (mCB zg0 (zab (mRd 0) mNil)) (zax 4))
 (mSeq (mDo (zaj zah (zab (mOrV (m2 oLt (mRd 4) (mRd 1)) (m2 oGt (mRd 4) (mRd 2))) (zab (mVar 3) mNil))))
 (mRet (mVar 4)))))
def zaC:List D→R D:=runF 4 1 zhD
def zc8:En→R Bool:=(zaw (m2 oGt (mRd 3) (mC (.int 0))))
def zdd:En→O:=(mSeq (mAsg (m2 oMod (mRd 2) (mRd 3)) (zax 4))
 (mSeq (mAsg (mVar 3) (zax 2))
 (mAsg (mVar 4) (zax 3))))
def zeI:En→O:=zid zc8 zdd
def zdW:En→O:=(mSeq (mAsg (mCB fAbs (zab (mRd 0) mNil)) (zax 2))
 (mSeq (mAsg (mCB fAbs (zab (mRd 1) mNil)) (zax 3))
 (mSeq zeI
 (mRet (mVar 2)))))
def zbw:List D→R D:=runF 2 3 zdW
def zb2:En→R D:=zha (mItL (mRd 2)) [] 1 (zbh 0) none (zar zbB (zab (mVar 0) mNil))
def zhB:En→O:=(mSeq (mAsg (zeJ (mVar 0) "/") (zax 2))
 (mSeq (mDo (zaj zah (zab (m2 oGt (mCB fLen (zab (mRd 2) mNil)) (mC (.int 2))) (zab (mVar 1) mNil))))
 (mSeq (mDo (zaj zah (zab (zgn (mCB fAll (zab zb2 mNil))) (zab (mVar 1) mNil))))
 (mSeq (mAsg (mCB zg0 (zab (m2 oIxL (mRd 2) (mC (.int 0))) mNil)) (zax 3))
 (mSeq (mIfS (zaw (m2 oEq (mCB fLen (zab (mRd 2) mNil)) (mC (.int 1))))
 (mRet (mTup (zab (mVar 3) (zab (mC (.int 1)) mNil))))
 zbi)
 (mSeq (mAsg (mCB zg0 (zab (m2 oIxL (mRd 2) (mC (.int 1))) mNil)) (zax 4))
 (mSeq (mDo (zaj zah (zab (mOrV (m2 oLt (mRd 4) (mC (.int 2))) (m2 oGt (mRd 4) (mC (.int 12)))) (zab (mVar 1) mNil))))
 (mSeq (mDo (zaj zah (zab (m2 oGt (zar zbw (zab (mVar 3) (zab (mVar 4) mNil))) (mC (.int 1))) (zab (mVar 1) mNil))))
 (mRet (mTup (zab (mVar 3) (zab (mVar 4) mNil))))))))))))
def zaO:List D→R D:=runF 2 3 zhB
def zgm:En→O:=(mSeq (mAsg (zaj zaC (zab (mVar 5) (zab (mC (.int 0)) (zab (m2 oSub (mRd 1) (mC (.int 1))) (zab (mVar 2) mNil))))) (zax 6))
 (mSeq (mDo (zaj zah (zab (m2 oIn (mRd 6) (mRd 4)) (zab (mVar 2) mNil))))
 (zbO 4 (mVar 6))))
def zow:En→O:=mFor (mItL (mSl (mRd 0) (zbq (mC (.int 1))) mNoP)) (zax 5) zgm
def zld:En→O:=(mSeq (mAsg (zaj zaO (zab (m2 oIxL (mRd 0) (mC (.int 0))) (zab (mVar 2) mNil))) (zax 3))
 (mSeq (mAsg (mLst mNil) (bNew 4))
 (mSeq zow
 (mFrz 4 (mRet (mTup (zab (mVar 3) (zab (mVar 4) mNil))))))))
def zcV:List D→R D:=runF 3 4 zld
def zc9:En→O:=(mRet (m2 oMul (mRd 0) (m2 oDiv (mRd 1) (zar zbw (zab (mVar 0) (zab (mVar 1) mNil))))))
def zbJ:List D→R D:=runF 2 0 zc9
def zg2:En→O:=(mAsg (zar zbJ (zab (mVar 1) (zab (m2 oIxT (mRd 2) (mC (.int 1))) mNil))) (zax 1))
def zig:En→O:=mFor (mItL (mVar 0)) (zax 2) zg2
def zjO:En→O:=(mSeq (mAsg (mC (.int 1)) (zax 1))
 (mSeq zig
 (mRet (mVar 1))))
def zbM:List D→R D:=runF 1 2 zjO
def zeC:En→O:=(mRet (m2 oMul (m2 oIxT (mRd 0) (mC (.int 0))) (m2 oDiv (mRd 1) (m2 oIxT (mRd 0) (mC (.int 1))))))
def zbj:List D→R D:=runF 2 0 zeC
def zd6:En→O:=(mSeq (mDo (zaj zah (zab (m2 oGt (mRd 3) (mC (.int 40))) (zab (mVar 3) mNil))))
 (zbO 2 (zaj zcV (zab (m2 oIxL (mRd 0) (mRd 3)) (zab (mVar 1) (zab (mVar 3) mNil))))))
def ziG:En→O:=mFor (mRng (zab (mC (.int 1)) (zab (mCB fLen (zab (mRd 0) mNil)) mNil))) (zax 3) zd6
def zf5:En→R D:=zha (mItL (mRd 2)) [] 2 (bTup 2 (zd4 (zbh 0) (zd4 (zbh 1) bNil))) none (mVar 0)
def zf6:En→R D:=zha (mItL (mRd 2)) [4] 2 (bTup 2 (zd4 (zbh 1) (zd4 (zbh 2) bNil))) none (mTup (zab (zar zbj (zab (mVar 1) (zab (mVar 0) mNil))) (zab (mVar 2) mNil)))
def zgE:En→O:=(mSeq (mDo (zaj zaq (zab (m2 oIxL (mRd 0) (mC (.int 0))) (zab (mC (.int 2)) (zab (mC (.int 2)) (zab (mC (.int 0)) mNil))))))
 (mSeq (mAsg (zaj zaC (zab (m2 oIxL (m2 oIxL (mRd 0) (mC (.int 0))) (mC (.int 1))) (zab (mC (.int 1)) (zab (mC (.int 40)) (zab (mC (.int 0)) mNil))))) (zax 1))
 (mSeq (mAsg (mLst mNil) (bNew 2))
 (mSeq ziG
 (mSeq (mAsg (zar zbM (zab zf5 mNil)) (zax 4))
 (mRet (mTup (zab (mVar 4) (zab (mTup (zab (mVar 1) (zab zf6 mNil))) mNil)))))))))
def zbI:List D→R D:=runF 1 4 zgE
def zkf:En→O:=(mSeq (mDo (zaj zaq (zab (mVar 0) (zab (mC (.int 2)) (zab (mC (.int 2)) (zab (mVar 2) mNil))))))
 (mSeq (mAsg (zaj zaC (zab (m2 oIxL (mRd 0) (mC (.int 0))) (zab (mC (.int 0)) (zab (m2 oSub (mRd 1) (mC (.int 1))) (zab (mVar 2) mNil))))) (zax 3))
 (mSeq (mAsg (zaj zaC (zab (m2 oIxL (mRd 0) (mC (.int 1))) (zab (mC (.int 0)) (zab (m2 oSub (mRd 1) (mC (.int 1))) (zab (mVar 2) mNil))))) (zax 4))
 (mSeq (mDo (zaj zah (zab (m2 oEq (mRd 3) (mRd 4)) (zab (mVar 2) mNil))))
 (mRet (mTup (zab (mVar 3) (zab (mVar 4) mNil))))))))
def zcX:List D→R D:=runF 3 2 zkf
def zc2:En→R D:=zha (mItL (mRd 0)) [1] 1 (zbh 1) none (zar zbj (zab (mVar 1) (zab (mVar 0) mNil)))
def zeg:En→O:=(zdX zc2)
def zaT:List D→R D:=runO 2 0 zeg
def zdz:En→R D:=zga (mItL (mSl (m2 oIxL (mRd 0) (mC (.int 0))) (zbq (mC (.int 1))) mNoP)) [] 1 (zbh 0) (zaj zaO (zab (mVar 0) (zab (mC (.int 0)) mNil)))
def zd5:En→O:=(mSeq (mDo (zaj zah (zab (m2 oGt (mRd 3) (mC (.int 80))) (zab (mVar 3) mNil))))
 (zbO 2 (zaj zcX (zab (m2 oIxL (mRd 0) (mRd 3)) (zab (mCB fLen (zab (mRd 1) mNil)) (zab (mVar 3) mNil))))))
def ziN:En→O:=mFor (mRng (zab (mC (.int 1)) (zab (mCB fLen (zab (mRd 0) mNil)) mNil))) (zax 3) zd5
def zgA:En→O:=(mSeq (mDo (zaj zaq (zab (m2 oIxL (mRd 0) (mC (.int 0))) (zab (mC (.int 2)) (zab (m2 oAdd (mC (.int 1)) (mC (.int 40))) (zab (mC (.int 0)) mNil))))))
 (mSeq (mAsg zdz (zax 1))
 (mSeq (mAsg (mLst mNil) (bNew 2))
 (mSeq ziN
 (mSeq (mAsg (zar zbM (zab (mVar 1) mNil)) (zax 4))
 (mFrz 2 (mRet (mTup (zab (mVar 4) (zab (mTup (zab (zar zaT (zab (mVar 1) (zab (mVar 4) mNil))) (zab (mVar 2) mNil))) mNil))))))))))
def zbH:List D→R D:=runF 1 4 zgA
def zdV:En→R D:=zga (mItL (m2 oIxL (mRd 0) (mRd 3))) [3] 1 (zbh 1) (zaj zaO (zab (mVar 1) (zab (mVar 0) mNil)))
def ze8:En→O:=(mSeq (mDo (zaj zah (zab (mOrV (m2 oGt (mRd 3) (mRd 1)) (m2 oNe (mCB fLen (zab (m2 oIxL (mRd 0) (mRd 3)) mNil)) (mRd 1))) (zab (mVar 3) mNil))))
 (zbO 2 zdV))
def zky:En→O:=mFor (mRng (zab (mC (.int 1)) (zab (mCB fLen (zab (mRd 0) mNil)) mNil))) (zax 3) ze8
def zhX:En→O:=(mSeq (mDo (zaj zah (zab (m2 oEq (mCB fLen (zab (mRd 0) mNil)) (mC (.int 1))) (zab (mC (.int 1)) mNil))))
 (mSeq (mAsg (mCB fLen (zab (m2 oIxL (mRd 0) (mC (.int 1))) mNil)) (zax 1))
 (mSeq (mDo (zaj zah (zab (m2 oGt (mRd 1) (mC (.int 12))) (zab (mC (.int 1)) mNil))))
 (mSeq (mAsg (mLst mNil) (bNew 2))
 (mSeq zky
 (mSeq (mDo (zaj zah (zab (m2 oLt (mCB fLen (zab (mRd 2) mNil)) (mRd 1)) (zab (mCB fLen (zab (mRd 0) mNil)) mNil))))
 (zrb 2)))))))
def zcc:List D→R D:=runO 1 3 zhX
def zeH:En→O:=(zi4 2 (mVar 3))
def zhy:En→O:=mFor (mItL (mVar 1)) (zax 3) zeH
def ze0:En→R D:=zha (mItL (mRd 1)) [4] 1 (zbh 1) none (zar zaT (zab (mVar 1) (zab (mVar 0) mNil)))
def zft:En→O:=(mSeq (mAsg (zaj zcc (zab (mVar 0) mNil)) (zax 1))
 (mSeq (mAsg (mLst mNil) (bNew 2))
 (mSeq zhy
 (mSeq (mAsg (zjo zbM (zab (mRd 2) mNil)) (zax 4))
 (mRet (mTup (zab (mVar 4) (zab ze0 mNil))))))))
def zbG:List D→R D:=runF 1 4 zft
def zgM:En→O:=(mSeq (mDo (zaj zaq (zab (m2 oIxL (mRd 0) (mC (.int 0))) (zab (mC (.int 1)) (zab (mC (.int 1)) (zab (mC (.int 0)) mNil))))))
 (mSeq (mAsg (zaj zbG (zab (mVar 0) mNil)) (zax 1))
 (mRet (mTup (zab (m2 oIxT (mRd 1) (mC (.int 0))) (zab (mTup (zab (m2 oIxT (mRd 1) (mC (.int 1))) mNil)) mNil))))))
def zbP:List D→R D:=runF 1 1 zgM
def zfR:En→O:=(mSeq (mDo (zaj zaq (zab (m2 oIxL (mRd 0) (mC (.int 0))) (zab (mC (.int 2)) (zab (mC (.int 2)) (zab (mC (.int 0)) mNil))))))
 (mSeq (mAsg (zaj zaC (zab (m2 oIxL (m2 oIxL (mRd 0) (mC (.int 0))) (mC (.int 1))) (zab (mC (.int 1)) (zab (mC (.int 12)) (zab (mC (.int 0)) mNil))))) (zax 1))
 (mSeq (mAsg (zaj zbG (zab (mVar 0) mNil)) (zax 2))
 (mSeq (mDo (zaj zah (zab (m2 oGt (mRd 1) (mCB fLen (zab (m2 oIxT (mRd 2) (mC (.int 1))) mNil))) (zab (mC (.int 0)) mNil))))
 (mRet (mTup (zab (m2 oIxT (mRd 2) (mC (.int 0))) (zab (mTup (zab (m2 oIxT (mRd 2) (mC (.int 1))) (zab (mVar 1) mNil))) mNil))))))))
def zbp:List D→R D:=runF 1 2 zfR
def zck:En→O:=(mSeq (mAsg (zaj zaO (zab (mVar 0) (zab (mVar 1) mNil))) (zax 2))
 (mSeq (mDo (zaj zah (zab (m2 oEq (m2 oIxT (mRd 2) (mC (.int 0))) (mC (.int 0))) (zab (mVar 1) mNil))))
 (mRet (mVar 2))))
def zav:List D→R D:=runF 2 1 zck
def zdF:En→R D:=zga (mItL (mSl (m2 oIxL (mRd 0) (mC (.int 0))) (zbq (mC (.int 2))) mNoP)) [] 1 (zbh 0) (zaj zav (zab (mVar 0) (zab (mC (.int 0)) mNil)))
def zfo:En→O:=(mSeq (mDo (zaj zaq (zab (m2 oIxL (mRd 0) (mC (.int 0))) (zab (mC (.int 2)) (zab (m2 oAdd (mC (.int 2)) (mC (.int 40))) (zab (mC (.int 0)) mNil))))))
 (mSeq (mAsg (zaj zaC (zab (m2 oIxL (m2 oIxL (mRd 0) (mC (.int 0))) (mC (.int 1))) (zab (mC (.int 1)) (zab (mC (.int 20)) (zab (mC (.int 0)) mNil))))) (zax 1))
 (mSeq (mAsg zdF (zax 2))
 (mSeq (mDo (zaj zah (zab (m2 oGt (mCB fLen (zab (mRd 0) mNil)) (mC (.int 1))) (zab (mC (.int 1)) mNil))))
 (mSeq (mAsg (zar zbM (zab (mVar 2) mNil)) (zax 3))
 (mRet (mTup (zab (mVar 3) (zab (mTup (zab (zar zaT (zab (mVar 2) (zab (mVar 3) mNil))) (zab (mVar 1) mNil))) mNil)))))))))
def zbo:List D→R D:=runF 1 3 zfo
def ze5:En→R D:=zga (mItL (mSl (m2 oIxL (mRd 0) (mC (.int 0))) (zbq (mC (.int 1))) mNoP)) [] 1 (zbh 0) (zaj zav (zab (mVar 0) (zab (mC (.int 0)) mNil)))
def zgW:En→O:=(mSeq (mDo (zaj zaq (zab (m2 oIxL (mRd 0) (mC (.int 0))) (zab (mC (.int 2)) (zab (m2 oAdd (mC (.int 2)) (mC (.int 40))) (zab (mC (.int 0)) mNil))))))
 (mSeq (mAsg ze5 (zax 1))
 (mSeq (mDo (zaj zah (zab (m2 oGt (mCB fLen (zab (mRd 0) mNil)) (mC (.int 1))) (zab (mC (.int 1)) mNil))))
 (mSeq (mAsg (zar zbM (zab (mVar 1) mNil)) (zax 2))
 (mSeq (mAsg (zar zaT (zab (mVar 1) (zab (mVar 2) mNil))) (bNew 3))
 (mSeq (zqT 3 (mC (.int 0)) (zax 4))
 (mFrz 3 (mRet (mTup (zab (mVar 2) (zab (mTup (zab (mVar 3) (zab (mVar 4) mNil))) mNil)))))))))))
def zb7:List D→R D:=runF 1 4 zgW
def zgw:En→O:=(mSeq (mDo (zaj zaq (zab (mVar 0) (zab (mC (.int 2)) (zab (mC (.int 2)) (zab (mVar 1) mNil))))))
 (mRet (mTup (zab (zaj zaO (zab (m2 oIxL (mRd 0) (mC (.int 0))) (zab (mVar 1) mNil))) (zab (zaj zav (zab (m2 oIxL (mRd 0) (mC (.int 1))) (zab (mVar 1) mNil))) mNil)))))
def zcu:List D→R D:=runF 2 0 zgw
def zdw:En→O:=(mSeq (mDo (zaj zah (zab (m2 oGt (mRd 4) (mC (.int 40))) (zab (mVar 4) mNil))))
 (mSeq (mAsg (zaj zcu (zab (m2 oIxL (mRd 0) (mRd 4)) (zab (mVar 4) mNil))) (zax 5))
 (mSeq (zbO 3 (mVar 5))
 (zi4 2 (mVar 5)))))
def zjP:En→O:=mFor (mRng (zab (mC (.int 1)) (zab (mCB fLen (zab (mRd 0) mNil)) mNil))) (zax 4) zdw
def zgF:En→R D:=zha (mItL (mRd 3)) [6] 2 (bTup 2 (zd4 (zbh 1) (zd4 (zbh 2) bNil))) none (mTup (zab (zar zbj (zab (mVar 1) (zab (mVar 0) mNil))) (zab (zar zbj (zab (mVar 2) (zab (mVar 0) mNil))) mNil)))
def zg9:En→O:=(mSeq (mDo (zaj zaq (zab (m2 oIxL (mRd 0) (mC (.int 0))) (zab (mC (.int 2)) (zab (mC (.int 2)) (zab (mC (.int 0)) mNil))))))
 (mSeq (mAsg (zaj zaO (zab (m2 oIxL (m2 oIxL (mRd 0) (mC (.int 0))) (mC (.int 1))) (zab (mC (.int 0)) mNil))) (zax 1))
 (mSeq (mAsg (mLst (zab (mVar 1) mNil)) (bNew 2))
 (mSeq (mAsg (mLst mNil) (bNew 3))
 (mSeq zjP
 (mSeq (mAsg (zjo zbM (zab (mRd 2) mNil)) (zax 6))
 (mSeq (mAsg zgF (zax 7))
 (mRet (mTup (zab (mVar 6) (zab (mTup (zab (zar zbj (zab (mVar 1) (zab (mVar 6) mNil))) (zab (mVar 7) mNil))) mNil)))))))))))
def zbR:List D→R D:=runF 1 7 zg9
def za7:En→O:=(mSeq (mIfS (zaw (m2 oEq (mRd 0) (mC (.str "cover"))))
 (mRet (zaj zbI (zab (mVar 1) mNil)))
 zbi)
 (mSeq (mIfS (zaw (m2 oEq (mRd 0) (mC (.str "touch"))))
 (mRet (zaj zbH (zab (mVar 1) mNil)))
 zbi)
 (mSeq (mIfS (zaw (m2 oEq (mRd 0) (mC (.str "round"))))
 (mRet (zaj zbP (zab (mVar 1) mNil)))
 zbi)
 (mSeq (mIfS (zaw (m2 oEq (mRd 0) (mC (.str "places"))))
 (mRet (zaj zbp (zab (mVar 1) mNil)))
 zbi)
 (mSeq (mIfS (zaw (m2 oEq (mRd 0) (mC (.str "benches"))))
 (mRet (zaj zbo (zab (mVar 1) mNil)))
 zbi)
 (mSeq (mIfS (zaw (m2 oEq (mRd 0) (mC (.str "bins"))))
 (mRet (zaj zb7 (zab (mVar 1) mNil)))
 zbi)
 (mSeq (mIfS (zaw (m2 oEq (mRd 0) (mC (.str "sack"))))
 (mRet (zaj zbR (zab (mVar 1) mNil)))
 zbi)
 (zgs 6 (zab (mC (.int 0)) mNil)))))))))
def zas:List D→R D:=runF 2 0 za7
def zd2:En→O:=(zkw 2 (mVar 4) (mC (.bl true)))
def zej:En→O:=mFor (mItL (m2 oIxT (mRd 3) (mC (.int 1)))) (zax 4) zd2
def zcU:En→O:=zej
def zee:En→O:=mFor (mItL (mVar 1)) (zax 3) zcU
def zcT:En→O:=(mIfS (zaw (m2 zkh (mVar 4) (mRd 2)))
 (zgs 4 (zab (mVar 4) mNil))
 zbi)
def zef:En→O:=mFor (mRng (zab (mVar 0) mNil)) (zax 4) zcT
def zeE:En→O:=(mSeq (mAsg (mC (.dct [] [])) (bNew 2))
 (mSeq zee
 zef))
def zbA:List D→R D:=runF 2 3 zeE
def zfN:En→O:=(mIfS (zaw (m2 oNe (m2 oIxL (m2 oIxL (mRd 0) (mRd 2)) (mRd 2)) (mC (.int 0))))
 (zlq 2 (zab (mC (.str "a place is away from itself")) mNil))
 zbi)
def zic:En→O:=mFor (mRng (zab (mVar 1) mNil)) (zax 2) zfN
def zfJ:En→O:=(mIfS (zaw (m2 oNe (m2 oIxL (m2 oIxL (mRd 0) (mRd 2)) (mRd 3)) (m2 oIxL (m2 oIxL (mRd 0) (mRd 3)) (mRd 2))))
 (zlq 2 (zab (mC (.str "two places have two unlike lengths")) mNil))
 zbi)
def zl0:En→O:=mFor (mRng (zab (mVar 2) mNil)) (zax 3) zfJ
def zg5:En→O:=zl0
def zh9:En→O:=mFor (mRng (zab (mVar 1) mNil)) (zax 2) zg5
def zfE:En→O:=(mIfS (zaw (m2 oLt (m2 oAdd (m2 oIxL (m2 oIxL (mRd 0) (mRd 2)) (mRd 3)) (m2 oIxL (m2 oIxL (mRd 0) (mRd 3)) (mRd 4))) (m2 oIxL (m2 oIxL (mRd 0) (mRd 2)) (mRd 4))))
 (zlq 2 (zab (mC (.str "a way by a third place is shorter than the straight one")) mNil))
 zbi)
def zmt:En→O:=mFor (mRng (zab (mVar 1) mNil)) (zax 4) zfE
def zhd:En→O:=zmt
def zl4:En→O:=mFor (mRng (zab (mVar 1) mNil)) (zax 3) zhd
def zgV:En→O:=zl4
def zib:En→O:=mFor (mRng (zab (mVar 1) mNil)) (zax 2) zgV
def zjY:En→O:=(mSeq (mAsg (mCB fLen (zab (mRd 0) mNil)) (zax 1))
 (mSeq zic
 (mSeq zh9
 zib)))
def zdj:List D→R D:=runF 1 4 zjY
def zcx:En→O:=(mIfS (zaw (m2 oGt (mRd 3) (mRd 1)))
 (zgs 5 (zab (mVar 2) mNil))
 zbi)
def zdU:En→O:=mFor (zku (zab (mVar 0) mNil)) (bTup 2 (zd4 (zax 2) (zd4 (zax 3) bNil))) zcx
def zdY:En→O:=zdU
def zbz:List D→R D:=runF 2 2 zdY
def zbv:En→O:=(mIfS (zaw (m2 oEq (mRd 0) (mC (.str "cover"))))
 (mDo (zaj zbA (zab (m2 oIxT (mRd 1) (mC (.int 0))) (zab (m2 oIxT (mRd 1) (mC (.int 1))) mNil))))
 (mIfS (mOr (zaw (m2 oEq (mRd 0) (mC (.str "round")))) (zaw (m2 oEq (mRd 0) (mC (.str "places")))))
 (mDo (zaj zdj (zab (m2 oIxT (mRd 1) (mC (.int 0))) mNil)))
 (mIfS (zaw (m2 oEq (mRd 0) (mC (.str "bins"))))
 (mDo (zaj zbz (zab (m2 oIxT (mRd 1) (mC (.int 0))) (zab (m2 oIxT (mRd 1) (mC (.int 1))) mNil))))
 zbi)))
def zay:List D→R D:=runF 2 0 zbv
def zko:En→R D:=zha (mItL (zeJ (mVar 0) "\n")) [] 1 (zbh 0) none (zeJ (mVar 0) " ")
def zp3:En→O:=(mSeq (mAsg zko (zax 1))
 (mSeq (mAsg (m2 oIxL (m2 oIxL (mRd 1) (mC (.int 0))) (mC (.int 0))) (zax 2))
 (mSeq (mAsg (zaj zas (zab (mVar 2) (zab (mVar 1) mNil))) (zax 3))
 (mSeq (mDo (zaj zay (zab (mVar 2) (zab (m2 oIxT (mRd 3) (mC (.int 1))) mNil))))
 (mRet (mTup (zab (mVar 2) (zab (m2 oIxT (mRd 3) (mC (.int 0))) (zab (m2 oIxT (mRd 3) (mC (.int 1))) mNil)))))))))
def zcP:List D→R D:=runF 1 3 zp3
def zfs:En→O:=(mSeq (mAsg (zaj zcP (zab (mVar 0) mNil)) (zax 1))
 (fun _=>.no))
def zcz:List D→R D:=runF 1 4 zfs
def zhA:En→O:=(mSeq (mAsg (zaj zcP (zab (mVar 0) mNil)) (zax 2))
 (fun _=>.no))
def zdI:List D→R D:=runF 2 3 zhA
def zg3:En→O:=(mSeq (mIfS (zaw (m2 oEq (mRd 1) (mC (.int 0))))
 (mRet (zaj zcP (zab (mVar 0) mNil)))
 zbi)
 (mSeq (mIfS (zaw (m2 oEq (mRd 1) (mC (.int 1))))
 (mRet (zaj zcz (zab (mVar 0) mNil)))
 zbi)
 (mRet (zaj zdI (zab (mVar 0) (zab (mC (.int 2000)) mNil))))))
def zcg:List D→R D:=runF 2 0 zg3
def zgD:En→O:=(mSeq (mAsg (mC .non) (zax 2))
 (mSeq (mTry (mDo (zaj zcg (zab (mVar 0) (zab (mVar 1) mNil)))) zcl 3 (mAsg (mVar 3) (zax 2)))
 (mRet (mVar 2))))
def zb3:List D→R D:=runF 2 2 zgD
def zf2:En→O:=(mSeq (mAsg (zar zb3 (zab (mVar 0) (zab (mVar 1) mNil))) (zax 3))
 (mSeq (mIfS (mOr (zaw (m2 oIs (mRd 3) (mC .non))) (mOr (mNot (zaw (m1 (zdK zfd) (mRd 3)))) (mNot (zaw (m1 (zdK zdg) (mRd 3))))))
 (mRet (mC (.bl false)))
 zbi)
 (mSeq (mIfS (mOr (zaw (m1 (zdK zez) (mRd 3))) (mOr (zaw (m1 (zdK zdC) (mRd 3))) (zaw (m1 (zdK zfc) (mRd 3)))))
 (mRet (mC (.bl false)))
 zbi)
 (mSeq (mIfS (mOr (zaw (m1 (zdK zet) (mRd 3))) (zaw (m1 (zdK zeu) (mRd 3))))
 (mRet (mC (.bl false)))
 zbi)
 (mRet (zoK (m1 (oIsi "int") (m1 (zkP zfO) (mRd 3))) (zoK (zgn (m1 (oIsi "bool") (m1 (zkP zfO) (mRd 3)))) (m2 oEq (m1 (zkP zfO) (mRd 3)) (mRd 2)))))))))
def zc1:List D→R D:=runF 3 1 zf2
def ziJ:En→O:=(mSeq (mAsg (zar zbZ (zab (mVar 2) (zab (mVar 1) mNil))) (zax 3))
 (mSeq (mAsg (m2 oMod (mRd 3) (mC (.int 7))) (zax 4))
 (mSeq (mAsg (zar zbt (zab (mVar 4) (zab (m2 oAdd (mC (.int 1)) (m2 oMod (m2 oDiv (mRd 3) (mC (.int 7))) (mC (.int 9)))) (zab (m2 oAdd (mC (.int 1)) (m2 oMod (m2 oDiv (mRd 3) (mC (.int 63))) (mC (.int 9)))) mNil)))) (zax 5))
 (mSeq (mAsg (zar zbr (zab (mVar 4) (zab (mVar 5) (zab (m2 oDiv (mRd 3) (mC (.int 567))) mNil)))) (bLst 2 (zd4 (zax 6) (zd4 (zax 7) bNil))))
 (mSeq (mIfS (mNot (zaw (zar zc1 (zab (zhT "\n" (mVar 6)) (zab (m2 oMod (zar zbZ (zab (mVar 2) (zab (m2 oAdd (mRd 1) (mC (.int 40))) mNil))) (mC (.int 3))) (zab (mVar 7) mNil))))))
 (mRet (mC (.bl false)))
 zbi)
 (mIfS (zaw (m2 zol (zar zb3 (zab (zhT "\n" (mVar 5)) (zab (mC (.int 0)) mNil))) (mC .non)))
 (mRet (mC (.bl false)))
 zbi))))))
def zrk:En→O:=mFor (zku (zab (m2 oCat (mLst (zab (mC (.int 0)) mNil)) (mSl (mRd 0) mNoP (zbq (mC (.int 20))))) mNil)) (bTup 2 (zd4 (zax 1) (zd4 (zax 2) bNil))) ziJ
def zrY:En→O:=(mSeq zrk
 (mRet (mC (.bl true))))
def zr5:List D→R D:=runF 1 7 zrY
def upt (n:Nat):List Int:=(List.range n).map fun (k:Nat)=>(k:Int)
theorem mem_upt {n:Nat} {t:Int}:t∈upt n↔0≤t∧t<(n:Int):=by
 unfold upt
 rw[List.mem_map]
 constructor
 ·rintro⟨a,h,rfl⟩
  simp_all
 ·rintro⟨h0,h1⟩
  exact⟨t.toNat,List.mem_range.mpr (by omega),by omega⟩
theorem zfK {n:Nat}:(upt n).length=n:=by simp[upt]
theorem rngT {n:Nat} (h:n≤1000):rng [.int (n:Int)]=some ((upt n).map .int):=by
 rw[rng1 (by omega) (by omega),znT,upt,List.map_map];rfl
theorem zia {i:Nat} {me:En→R D} {δ:En} {L:List Int} {y:Int} (h:δ[i]?=some (.o (iL L))) (hy:me δ=.ok (.int y)) (hl:L.length≤100000):zbO i me δ=.nx (δ.set i (.o (iL (L++[y])))):=by
 unfold zbO
 rw[h]
 simp only[iL,hy,R.toO_ok]
 rw[za3 (by rw[List.length_map];exact Nat.lt_of_le_of_lt hl (by decide))]
 simp
theorem p20:oPow (.int 10) (.int 20)=some (.int 100000000000000000000):=zrr ⟨by decide,by decide,by decide⟩
theorem ze9 {m n:En→O} {δ:En} {d:D} (h:m δ=.rt d):mSeq m n δ=.rt d:=by unfold mSeq;rw[h]
theorem zcF {i:Nat} {me:En→R D} {δ:En} {l:List D} {d:D} (h:δ[i]?=some (.o (.lst l))) (hy:me δ=.ok d) (hl:l.length≤100000):zbO i me δ=.nx (δ.set i (.o (.lst (l++[d])))):=by
 unfold zbO
 rw[h]
 simp only[hy,R.toO_ok]
 rw[za3 (Nat.lt_of_le_of_lt hl (by decide))]
theorem zgI (a:Int) {b:Int} (h:0<b):0≤a%b:=Int.emod_nonneg _ (by omega)
theorem zgB (a:Int) {b:Int} (h:0<b):a%b<b:=Int.emod_lt_of_pos _ h
theorem znU (a b:Str):(a++b).cps.toList=a.cps.toList++b.cps.toList:=by
 rw[Str.cps_append];simp
def jl (c:Nat):List (List Nat)→List Nat
 | []=>[]
 | [p]=>p
 | p::q::r=>p++c::jl c (q::r)
theorem zgf (c:Nat):∀(ps:List Str),(Str.join ⟨#[c]⟩ ps).cps.toList=jl c (ps.map fun p=>p.cps.toList)
 | []=>rfl
 | [p]=>rfl
 | p::q::r=>by
  have ih:=zgf c (q::r)
  show (p++⟨#[c]⟩++Str.join ⟨#[c]⟩ (q::r)).cps.toList=_
  rw[znU,znU,ih]
  simp[jl]
theorem zpW {c:Nat}:∀ {p q u v:List Nat},c∉p→c∉q→p++c::u=q++c::v→p=q∧u=v
 | [],[],u,v,_,_,h=>by simp at h;exact⟨rfl,h⟩
 | [],b::q,u,v,_,hq,h=>by
  simp at h
  exact absurd h.1 (fun e=>hq (by simp[e]))
 | a::p,[],u,v,hp,_,h=>by
  simp at h
  exact absurd h.1 (fun e=>hp (by simp[e]))
 | a::p,b::q,u,v,hp,hq,h=>by
  simp at h hp hq
  obtain⟨h1,h2⟩:=zpW hp.2 hq.2 h.2
  exact⟨by rw[h.1,h1],h2⟩
theorem zp0 {c:Nat}:∀ {ps qs:List (List Nat)},ps≠[]→qs≠[]→(∀p∈ps,c∉p)→(∀q∈qs,c∉q)→jl c ps=jl c qs→ps=qs
 | [],_,h,_,_,_,_=>absurd rfl h
 | _,[],_,h,_,_,_=>absurd rfl h
 | [p],[q],_,_,_,_,e=>by simp only[jl] at e;rw[e]
 | [p],q::q'::r,_,_,hp,_,e=>by
  simp only[jl] at e
  exact absurd (by rw[e];simp) (hp p (by simp))
 | p::p'::r,[q],_,_,_,hq,e=>by
  simp only[jl] at e
  exact absurd (by rw[← e];simp) (hq q (by simp))
 | p::p'::r,q::q'::s,_,_,hp,hq,e=>by
  simp only[jl] at e
  obtain⟨h1,h2⟩:=zpW (hp p (by simp)) (hq q (by simp)) e
  have:=zp0 (by simp) (by simp) (fun x hx=>hp x (by simp at hx ⊢;exact .inr hx)) (fun x hx=>hq x (by simp at hx ⊢;exact .inr hx)) h2
  rw[h1,this]
theorem zfb {c:Nat} {ws:List Str} (h0:ws≠[]) (h:∀w∈ws,c∉w.cps.toList):Txt.split (Str.join ⟨#[c]⟩ ws) ⟨#[c]⟩=ws:=by
 have e:=StrLaws.join_split (Str.join ⟨#[c]⟩ ws) ⟨#[c]⟩
 have f:=StrLaws.split_free (Str.join ⟨#[c]⟩ ws) c
 have p:=PyProof.Rows.split_pos (Str.join ⟨#[c]⟩ ws) ⟨#[c]⟩
 obtain⟨S,eS⟩:∃S,S=Txt.split (Str.join ⟨#[c]⟩ ws) ⟨#[c]⟩:=⟨_,rfl⟩
 rw[← eS] at e f p ⊢
 have e':(Str.join ⟨#[c]⟩ S).cps.toList=(Str.join ⟨#[c]⟩ ws).cps.toList:=by rw[e]
 rw[zgf,zgf] at e'
 have k:=zp0 (by intro z;have:=List.map_eq_nil_iff.mp z;rw[this] at p;simp at p) (by intro z;exact h0 (List.map_eq_nil_iff.mp z))
  (fun x hx=>by obtain⟨w,hw,rfl⟩:=List.mem_map.mp hx;exact f w hw) (fun x hx=>by obtain⟨w,hw,rfl⟩:=List.mem_map.mp hx;exact h w hw) e'
 refine List.ext_getElem? fun i=>?_
 have ki:(S.map fun p=>p.cps.toList)[i]?=(ws.map fun p=>p.cps.toList)[i]?:=by rw[k]
 rw[List.getElem?_map,List.getElem?_map] at ki
 cases a:S[i]? with
 | none=>rw[a] at ki;cases b:ws[i]? with
  | none=>rfl
  | some w=>rw[b] at ki;cases ki
 | some x=>rw[a] at ki;cases b:ws[i]? with
  | none=>rw[b] at ki;cases ki
  | some w=>
   rw[b] at ki
   simp at ki
   rw[Str.ext' ki]
theorem zn2 {c:Nat} {w:Str} (h:c∉w.cps.toList):Txt.split w ⟨#[c]⟩=[w]:=zfb (ws:=[w]) (by simp) (by simpa using h)
def dg (n:Int):Str:=Str.ofString (toString n)
theorem zkd (m:Nat):(dg (m:Int)).cps.toList=(Nat.toDigits 10 m).map Char.toNat:=PySem.W.KIN.signs_num m
theorem zk9 (m:Nat):PySem.NumText.AllDigits (dg (m:Int)).cps.toList:=by
 intro c hc
 rw[zkd] at hc
 obtain⟨ch,hch,e⟩:=List.mem_map.mp hc
 have r:=PyProof.Rows.digit_range (Nat.isDigit_of_mem_toDigits (by decide) (by decide) hch)
 rw[← e]
 exact r
theorem zjg {m:Nat} (h:¬ m<10):Nat.toDigits 10 m=Nat.toDigits 10 (m/10)++[Nat.digitChar (m%10)]:=by
 have hm:m%10<10:=Nat.mod_lt m (by decide)
 have t:Nat.toDigits 10 (m/10)++Nat.toDigits 10 (m%10)=Nat.toDigits 10 (10*(m/10)+m%10):=Nat.toDigits_append_toDigits (by decide) (by omega) hm
 rw[Nat.div_add_mod,Nat.toDigits_of_lt_base hm] at t
 exact t.symm
theorem zm3:∀(k m:Nat),m<10 ^ (k+1)→(Nat.toDigits 10 m).length≤k+1
 | 0,m,h=>by rw[Nat.toDigits_of_lt_base (by simpa using h)];simp
 | k+1,m,h=>by
  by_cases hm:m<10
  ·rw[Nat.toDigits_of_lt_base hm];simp
  ·rw[zjg hm,List.length_append]
   have:=zm3 k (m/10) (by rw[Nat.pow_succ] at h;omega)
   simp;omega
theorem zp9 (m:Nat):Nat.toDigits 10 m≠[]:=fun e=>by
 have h:=PySem.toDigits_len_ge 10 m
 rw[e] at h
 simp at h
theorem zpm (m:Nat):0<m→(Nat.toDigits 10 m).head?≠some '0':=by
 induction m using Nat.strongRecOn with
 | _ m ih=>
  intro h0
  by_cases hm:m<10
  ·rw[Nat.toDigits_of_lt_base hm]
   have key:∀d:Nat,d<10→0<d→Nat.digitChar d≠'0':=by decide
   intro e
   exact key m hm h0 (by simpa using e)
  ·rw[zjg hm]
   have ne:=zp9 (m/10)
   have:=ih (m/10) (by omega) (by omega)
   cases q:Nat.toDigits 10 (m/10) with
   | nil=>exact absurd q ne
   | cons a l=>rw[q] at this;simpa using this
theorem zom {m k:Nat} (h:m<10 ^ (k+1)):(dg (m:Int)).length≤k+1∧1≤(dg (m:Int)).length:=by
 have e:(dg (m:Int)).length=(Nat.toDigits 10 m).length:=by
  have:=congrArg List.length (zkd m)
  rw[List.length_map] at this
  rw[← this];simp[Str.length]
 rw[e]
 exact⟨zm3 k m h,PySem.toDigits_len_ge 10 m⟩
theorem zq4 {m:Nat} (h:m<10 ^ 60):PySem.intText? (dg (m:Int))=some (m:Int):=by
 have hl:=(zom (k:=59) h).1
 have hne:(dg (m:Int)).cps.toList≠[]:=by
  rw[zkd]
  exact fun e=>zp9 m (List.map_eq_nil_iff.mp e)
 have e:=PySem.intText_digits (zk9 m) hne (by omega)
 rw[zkd,PySem.W.KIN.val_back] at e
 exact e
theorem ziu {m c:Nat} (h:c<48∨57<c):c∉(dg (m:Int)).cps.toList:=fun hc=>by
 have:=zk9 m c hc
 omega
theorem zoe (a b:Str):(a++b).length=a.length+b.length:=Str.length_append a b
theorem zeG (a b:Int):zbw [.int a,.int b]=.ok (.int (Int.gcd a b)):=by
 have ab:∀z:Int,(if z<0 then -z else z)=(z.natAbs:Int):=fun z=>by split <;> omega
 let env:Nat×Nat×Option D→En:=fun p=>[.v (.int a),.v (.int b),.v (.int p.1),.v (.int p.2.1),sv p.2.2]
 obtain⟨⟨x,y,r⟩,h1,h2,h3,_⟩:=zoh (c:=zc8) (m:=zdd) env (fun p=>decide (0<p.2.1)) (fun p=>(p.2.1,p.1%p.2.1,some (.int ((p.1%p.2.1:Nat):Int)))) (fun p=>Nat.gcd p.1 p.2.1=Int.gcd a b) (fun p=>p.2.1)
  (fun p _=>by simp[env,zc8,zaw,mRd,mC]) (fun p hp hg=>by
   have hy:0<p.2.1:=by simpa using hg
   refine⟨?_,?_,Nat.mod_lt _ hy⟩
   ·have e:oMod (.int (p.1:Int)) (.int (p.2.1:Int))=some (.int ((p.1%p.2.1:Nat):Int)):=by rw[zdv (by omega)];simp
    have b4:∀d,zax 4 d (env p)=some ((env p).set 4 (.v d)):=fun d=>zaY rfl
    simp only[zdd,mSeq,mAsg,zcA,show mRd 2 (env p)=.ok (.int p.1) from rfl,show mRd 3 (env p)=.ok (.int p.2.1) from rfl,R.bind_ok,e,R.of_some,R.toO_ok,b4,O.of_some]
    rfl
   ·rw[Nat.gcd_comm,← hp,Nat.gcd_comm p.1,Nat.gcd_rec p.2.1 p.1]) (a.natAbs,b.natAbs,none) rfl
 have y0:y=0:=by simpa using h2
 subst y0
 have ex:(x:Int)=Int.gcd a b:=by
  have:Nat.gcd x 0=Int.gcd a b:=h1
  rw[Nat.gcd_zero_right] at this
  omega
 refine zbL ?_
 have e3:zeI [.v (.int a),.v (.int b),.v (.int a.natAbs),.v (.int b.natAbs),.no]=.nx [.v (.int a),.v (.int b),.v (.int x),.v (.int 0),sv r]:=h3
 simp[zdW,zbn,mSeq,mAsg,mCB,zab,mNil,mRd,fAbs,ab,zax,e3,mRet,mVar,ex]
theorem zsj {c:Nat} (h:48≤c∧c≤57):Txt.contains "0123456789" ⟨#[c]⟩=true:=by
 have key:∀k:Fin 10,Txt.contains "0123456789" ⟨#[48+k.val]⟩=true:=by decide +kernel
 have:=key ⟨c - 48,by omega⟩
 rwa [show 48+(c - 48)=c by omega] at this
theorem zmB {l:List Nat} (h:PySem.NumText.AllDigits l):(⟨l.toArray⟩:Str).cps.all (· < 128)=true:=by
 rw[Array.all_eq_true]
 intro i hi
 have:l[i]'(by simpa using hi)∈l:=List.getElem_mem _
 have:=h _ this
 simp
 omega
theorem zpz (m:Nat):(dg (m:Int)).cps.all (· < 128)=true:=by
 have:=zmB (zk9 m)
 simpa using this
theorem zaP {x:Int}:zah [.bl false,.int x]=.ok .non:=by
 simp[zah,runF,zbn,zd9,mIfS,zaw,mVar,zbi]
theorem ziv (bs:List Bool):fAny [.lst (bs.map .bl)]=some (.bl (bs.any id)):=by simp only[fAny,zlk,Option.map_some]
theorem zk8 (bs:List Bool):fAll [.lst (bs.map .bl)]=some (.bl (bs.all id)):=by simp only[fAll,zlk,Option.map_some]
theorem zeV {m:Nat} (h:m<10 ^ 12):zbB [.str (dg (m:Int))]=.ok (.bl true):=by
 obtain⟨w,ew⟩:∃w,w=dg (m:Int):=⟨_,rfl⟩
 have hl:=zom (k:=11) h
 have ha:=zpz m
 have hd:=zk9 m
 have hc:=zkd m
 rw[← ew] at hl ha hd hc ⊢
 have len:zgO [.str w]=some (.int w.length):=za3 (by rw[sizeLine_eq];omega)
 have wl:w.cps.toList.length=w.length:=by simp[Str.length]
 have l0:¬ (w.length:Int)=0:=by omega
 have l12:¬ (12:Int)<(w.length:Int):=by omega
 have k:zdh [.v (.str w)]=.ok (.lst ((w.cps.toList.map fun _=>false).map .bl)):=by
  refine Eq.trans (zcZ (l:=w.cps.toList.map fun c=>.str ⟨#[c]⟩) (r:=w.cps.toList.map fun _=>.bl false) ?_ (by rw[List.length_map];omega) ?_) (by rw[List.map_map];rfl)
  ·show (if w.cps.all (· < 128)=true then R.ok (sgnD w) else .no)=_
   rw[if_pos ha];rfl
  ·refine zbX (fun c:Nat=>D.str ⟨#[c]⟩) (fun _=>.bl false) _ fun c hcm=>?_
   have:=zsj (hd c hcm)
   simp[zeP,zaK,zbh,mRd,mC,oInS,this]
 have an:((w.cps.toList.map fun _=>false).any id)=false:=by
  generalize w.cps.toList=l
  induction l with
  | nil=>rfl
  | cons a l ih=>simpa using ih
 obtain⟨c0,e0⟩:∃c0,w.cps.toList[0]?=some c0:=⟨w.cps.toList[0]'(by omega),List.getElem?_eq_getElem (by omega)⟩
 have ix:oIxS (.str w) (.int 0)=some (.str ⟨#[c0]⟩):=by
  show ifC _ _ _=_
  rw[za3 (by rw[sizeLine_eq];omega),show atI w.cps.toList 0=some c0 by rw[show (0:Int)=((0:Nat):Int) from rfl];exact PM.atI_nat e0];rfl
 have fin:mOrV (m2 oNe (m2 oIxS (mRd 0) (mC (.int 0))) (mC (.str "0"))) (m2 oEq (mRd 0) (mC (.str "0"))) [.v (.str w)]=.ok (.bl true):=by
  by_cases hz:(⟨#[c0]⟩:Str) = "0"
  ·have hw:w = "0":=by
    have c48:c0=48:=by
     have:=congrArg (fun s:Str=>s.cps.toList) hz
     have e:("0" : Str).cps.toList=[48]:=by decide +kernel
     simp only[e] at this
     simpa using this
    have m0:m=0:=by
     rcases Nat.eq_zero_or_pos m with z|z
     ·exact z
     ·have hh:=zpm m z
      rw[hc,List.getElem?_map] at e0
      cases q:Nat.toDigits 10 m with
      | nil=>rw[q] at e0;cases e0
      | cons a l=>
       rw[q] at e0 hh
       simp at e0 hh
       exact absurd (Char.toNat_inj.mp (e0.trans (c48.trans (show (48:Nat) = '0'.toNat from rfl)))) hh
    rw[ew,m0]
    decide +kernel
   have e1:oNe (.str ⟨#[c0]⟩) (.str "0")=some (.bl false):=by rw[hz];rfl
   have e2:oEq (.str w) (.str "0")=some (.bl true):=by rw[hw];rfl
   simp[mOrV,mRd,mC,ix,e1,e2]
  ·have e1:oNe (.str ⟨#[c0]⟩) (.str "0")=some (.bl true):=by
    show (if scal (V.str ⟨#[c0]⟩) (V.str "0")=true then some (D.bl (!decide (V.str ⟨#[c0]⟩=V.str "0"))) else none)=_
    rw[if_pos (show scal (V.str ⟨#[c0]⟩) (V.str "0")=true from rfl),decide_eq_false (fun z=>hz (V.str.inj z))];rfl
   simp[mOrV,mRd,mC,ix,e1]
 refine zbL ?_
 show mSeq _ _ [.v (.str w)]=_
 have q1:mIfS (mOr (zaw (m2 oEq (mCB zgO (zab (mRd 0) mNil)) (mC (.int 0)))) (zaw (m2 oGt (mCB zgO (zab (mRd 0) mNil)) (mC (.int 12))))) (mRet (mC (.bl false))) zbi [.v (.str w)]=.nx [.v (.str w)]:=by
  have l0n:¬ w.length=0:=by omega
  simp[mIfS,mOr,zaw,mCB,zab,mNil,mRd,mC,len,l0n,l12,zbi]
 have q2:mIfS (zaw (mCB fAny (zab zdh mNil))) (mRet (mC (.bl false))) zbi [.v (.str w)]=.nx [.v (.str w)]:=by
  rw[zbe]
  ·rfl
  ·simp only[zaw,mCB,zab,mNil,k,R.bind_ok,ziv,R.of_some,an,zmc]
 refine (zaN q1).trans ((zaN q2).trans ?_)
 simp[mRet,fin]
abbrev Fr:=Int×Int
def encF (f:Fr):D:=.tup [.int f.1,.int f.2]
structure AmOk (f:Fr):Prop where
 lo:0≤f.1
 hi:f.1<1000000000000
 b0:1≤f.2
 b1:f.2≤12
 cop:Int.gcd f.1 f.2=1
def wr (f:Fr):Str:=if f.2=1 then dg f.1 else dg f.1++"/"++dg f.2
theorem zsX:("/" : Str)=⟨#[47]⟩:=by decide +kernel
theorem dg_i {i:Int} (h0:0≤i):dg i=dg ((i.toNat:Nat):Int):=by rw[show ((i.toNat:Nat):Int)=i by omega]
theorem zoL {f:Fr} (ok:AmOk f):Txt.split (wr f) "/"=if f.2=1 then [dg f.1] else [dg f.1,dg f.2]:=by
 have h1:=ok.lo
 have h2:=ok.b0
 have f1:47∉(dg f.1).cps.toList:=by rw[dg_i h1];exact ziu (.inl (by decide))
 have f2:47∉(dg f.2).cps.toList:=by rw[dg_i (by omega:0≤f.2)];exact ziu (.inl (by decide))
 unfold wr
 rw[zsX]
 split
 ·exact zn2 f1
 ·exact zfb (ws:=[dg f.1,dg f.2]) (by simp) (fun w hw=>by
   rcases List.mem_cons.mp hw with e|hw
   ·rw[e];exact f1
   ·rw[List.mem_singleton.mp hw];exact f2)
theorem dgl {i:Int} {k:Nat} (h0:0≤i) (h:i.toNat<10 ^ (k+1)):(dg i).length≤k+1:=by rw[dg_i h0];exact (zom h).1
theorem zsc {f:Fr} (ok:AmOk f):(wr f).length≤20:=by
 have h1:=ok.lo
 have h2:=ok.hi
 have h3:=ok.b0
 have h4:=ok.b1
 have l1:=dgl (i:=f.1) (k:=11) h1 (by omega)
 have l2:=dgl (i:=f.2) (k:=1) (by omega) (by omega)
 have ls:("/" : Str).length=1:=by decide +kernel
 unfold wr
 split
 ·omega
 ·rw[zoe,zoe];omega
theorem intS {i:Int} (h0:0≤i) (h:i.toNat<10 ^ 60):zg0 [.str (dg i)]=some (.int i):=by
 have r:=zq4 h
 rw[show ((i.toNat:Nat):Int)=i by omega] at r
 have l:=dgl (k:=59) h0 h
 show (PySem.intText? (dg i)).bind _=_
 rw[r]
 exact za3 (by omega)
theorem isn {i:Int} (h0:0≤i) (h:i<1000000000000):zbB [.str (dg i)]=.ok (.bl true):=by
 have:=zeV (m:=i.toNat) (by omega)
 rwa [show ((i.toNat:Nat):Int)=i by omega] at this
theorem zbg {f:Fr} (ok:AmOk f) (x:Int):zaO [.str (wr f),.int x]=.ok (encF f):=by
 have h1:=ok.lo
 have h2:=ok.hi
 have h3:=ok.b0
 have h4:=ok.b1
 have wl:=zsc ok
 have sp:=zoL ok
 obtain⟨ps,eps⟩:∃ps:List Str,ps=if f.2=1 then [dg f.1] else [dg f.1,dg f.2]:=⟨_,rfl⟩
 have pl:ps.length≤2:=by rw[eps];split <;> simp
 rw[← eps] at sp
 have i1:=intS h1 (show f.1.toNat<10 ^ 60 by omega)
 have i2:=intS (show 0≤f.2 by omega) (show f.2.toNat<10 ^ 60 by omega)
 have p0:oIxL (.lst (ps.map .str)) (.int 0)=some (.str (dg f.1)):=by rw[eps];split <;> rfl
 have pn:∀p∈ps,zbB [.str p]=.ok (.bl true):=fun p hp=>by
  rw[eps] at hp
  split at hp
  ·rw[List.mem_singleton.mp hp];exact isn h1 h2
  ·rcases List.mem_cons.mp hp with e|hp
   ·rw[e];exact isn h1 h2
   ·rw[List.mem_singleton.mp hp];exact isn (by omega) (by omega)
 have ls:("/" : Str).length=1:=by decide +kernel
 have q1:mAsg (zeJ (mVar 0) "/") (zax 2) [.v (.str (wr f)),.v (.int x),.no,.no,.no]=.nx [.v (.str (wr f)),.v (.int x),.v (.lst (ps.map .str)),.no,.no]:=by
  refine zcY (d:=.lst (ps.map .str)) ?_ rfl
  show zd0 (.str (wr f)) "/"=_
  unfold zd0
  dsimp only
  rw[sp,za3 ⟨by rw[ls];rfl,by rw[sizeLine_eq];omega,by rw[sizeLine_eq];omega⟩]
 have len:fLen [.lst (ps.map .str)]=some (.int ps.length):=by simp
 have t2:¬ (2:Int)<(ps.length:Int):=by omega
 have q2:mDo (zaj zah (zab (m2 oGt (mCB fLen (zab (mRd 2) mNil)) (mC (.int 2))) (zab (mVar 1) mNil))) [.v (.str (wr f)),.v (.int x),.v (.lst (ps.map .str)),.no,.no]=.nx [.v (.str (wr f)),.v (.int x),.v (.lst (ps.map .str)),.no,.no]:=by
  simp[mDo,zar,zaj,zab,mNil,mCB,mRd,mC,mVar,len,t2,zaP]
 have k:zb2 [.v (.str (wr f)),.v (.int x),.v (.lst (ps.map .str)),.no,.no]=.ok (.lst ((ps.map fun _=>true).map .bl)):=by
  refine Eq.trans (zcZ (l:=ps.map .str) (r:=ps.map fun _=>.bl true) (by simp[mItL,mRd]) (by rw[List.length_map];omega) ?_) (by rw[List.map_map];rfl)
  exact zbX D.str (fun _=>.bl true) _ fun p hp=>by simp[zeP,zaK,zbh,zar,zaj,zab,mNil,mVar,pn p hp]
 have al:((ps.map fun _=>true).all id)=true:=by
  generalize ps=l
  induction l with
  | nil=>rfl
  | cons a l ih=>simpa using ih
 have q3:mDo (zaj zah (zab (zgn (mCB fAll (zab zb2 mNil))) (zab (mVar 1) mNil))) [.v (.str (wr f)),.v (.int x),.v (.lst (ps.map .str)),.no,.no]=.nx [.v (.str (wr f)),.v (.int x),.v (.lst (ps.map .str)),.no,.no]:=by
  have e:mCB fAll (zab zb2 mNil) [.v (.str (wr f)),.v (.int x),.v (.lst (ps.map .str)),.no,.no]=.ok (.bl true):=by
   simp only[mCB,zab,mNil,k,R.bind_ok,zk8,R.of_some,al]
  simp[mDo,zar,zaj,zab,mNil,zgn,mVar,e,zaP]
 have q4:mAsg (mCB zg0 (zab (m2 oIxL (mRd 2) (mC (.int 0))) mNil)) (zax 3) [.v (.str (wr f)),.v (.int x),.v (.lst (ps.map .str)),.no,.no]=.nx [.v (.str (wr f)),.v (.int x),.v (.lst (ps.map .str)),.v (.int f.1),.no]:=by
  refine zcY (d:=.int f.1) ?_ rfl
  simp only[mCB,zab,mNil,zcA,mRd,mC,List.getElem?_cons_succ,List.getElem?_cons_zero,R.bind_ok,p0,R.of_some,i1]
 refine zbL ?_
 show mSeq _ _ [.v (.str (wr f)),.v (.int x),.no,.no,.no]=_
 refine (zaN q1).trans ((zaN q2).trans ((zaN q3).trans ((zaN q4).trans ?_)))
 by_cases hb:f.2=1
 ·have pl1:ps.length=1:=by rw[eps,if_pos hb];rfl
  refine ze9 ?_
  rw[zcN (by simp[zaw,mCB,zab,mNil,mRd,mC,len,pl1])]
  simp[mRet,mTup,zab,mNil,mVar,mC,sizeLine,encF,hb]
 ·have pl2:ps.length=2:=by rw[eps,if_neg hb];rfl
  have p1:oIxL (.lst (ps.map .str)) (.int 1)=some (.str (dg f.2)):=by rw[eps,if_neg hb];rfl
  have q5:mIfS (zaw (m2 oEq (mCB fLen (zab (mRd 2) mNil)) (mC (.int 1)))) (mRet (mTup (zab (mVar 3) (zab (mC (.int 1)) mNil)))) zbi [.v (.str (wr f)),.v (.int x),.v (.lst (ps.map .str)),.v (.int f.1),.no]=.nx [.v (.str (wr f)),.v (.int x),.v (.lst (ps.map .str)),.v (.int f.1),.no]:=by
   rw[zbe (by simp[zaw,mCB,zab,mNil,mRd,mC,len,pl2])];rfl
  have q6:mAsg (mCB zg0 (zab (m2 oIxL (mRd 2) (mC (.int 1))) mNil)) (zax 4) [.v (.str (wr f)),.v (.int x),.v (.lst (ps.map .str)),.v (.int f.1),.no]=.nx [.v (.str (wr f)),.v (.int x),.v (.lst (ps.map .str)),.v (.int f.1),.v (.int f.2)]:=by
   refine zcY (d:=.int f.2) ?_ rfl
   simp only[mCB,zab,mNil,zcA,mRd,mC,List.getElem?_cons_succ,List.getElem?_cons_zero,R.bind_ok,p1,R.of_some,i2]
  have t1:¬ f.2<2:=by omega
  have t3:¬ 12<f.2:=by omega
  have cf:=zeG f.1 f.2
  rw[ok.cop] at cf
  have q7:mDo (zaj zah (zab (mOrV (m2 oLt (mRd 4) (mC (.int 2))) (m2 oGt (mRd 4) (mC (.int 12)))) (zab (mVar 1) mNil))) [.v (.str (wr f)),.v (.int x),.v (.lst (ps.map .str)),.v (.int f.1),.v (.int f.2)]=.nx [.v (.str (wr f)),.v (.int x),.v (.lst (ps.map .str)),.v (.int f.1),.v (.int f.2)]:=by
   simp[mDo,zar,zaj,zab,mNil,mOrV,mRd,mC,mVar,t1,t3,zaP]
  have q8:mDo (zaj zah (zab (m2 oGt (zar zbw (zab (mVar 3) (zab (mVar 4) mNil))) (mC (.int 1))) (zab (mVar 1) mNil))) [.v (.str (wr f)),.v (.int x),.v (.lst (ps.map .str)),.v (.int f.1),.v (.int f.2)]=.nx [.v (.str (wr f)),.v (.int x),.v (.lst (ps.map .str)),.v (.int f.1),.v (.int f.2)]:=by
   simp[mDo,zar,zaj,zab,mNil,mC,mVar,cf,zaP]
  refine (zaN q5).trans ((zaN q6).trans ((zaN q7).trans ((zaN q8).trans ?_)))
  simp[mRet,mTup,zab,mNil,mVar,sizeLine,encF]
abbrev Ps:=Int×List Int
def encS (s:Ps):D:=.tup [.int s.1,iL s.2]
def encP (l:List Ps):D:=.lst (l.map encS)
structure Good (n:Nat) (s:Ps):Prop where
 lo:0≤s.1
 hi:s.1≤1000000000000000000
 nd:s.2.Nodup
 mem:∀t∈s.2,0≤t∧t<(n:Int)
theorem rngN {n:Nat} (h:n≤1000):rng [.int (n:Int)]=some (((List.range n).map fun (k:Nat)=>(k:Int)).map .int):=by
 rw[rng1 (by omega) (by omega),znT,List.map_map];rfl
def upto (n:Nat):List Int:=(List.range n).map fun (k:Nat)=>(k:Int)
theorem mem_upto {n:Nat} {t:Int}:t∈upto n↔0≤t∧t<(n:Int):=by
 unfold upto
 rw[List.mem_map]
 constructor
 ·rintro⟨a,h,rfl⟩
  simp_all
 ·rintro⟨h0,h1⟩
  exact⟨t.toNat,List.mem_range.mpr (by omega),by omega⟩
theorem zoG {n:Nat}:(upto n).length=n:=by simp[upto]
theorem rngU {n:Nat} (h:n≤1000):rng [.int (n:Int)]=some ((upto n).map .int):=rngN h
def ins (L:List Int) (t:Int):List Int:=if t∈L then L else L++[t]
def zcy (L ts:List Int):List Int:=ts.foldl ins L
theorem mem_insAll {ts:List Int}:∀ {L:List Int} {t:Int},t∈zcy L ts↔t∈L∨t∈ts:=by
 induction ts with
 | nil=>simp[zcy]
 | cons a l ih=>
  intro L t
  show t∈zcy _ l↔_
  rw[ih]
  unfold ins
  by_cases h:a∈L
  ·grind
  ·rw[if_neg h,List.mem_append,List.mem_singleton,List.mem_cons]
   grind
theorem zgJ {ts:List Int}:∀ {L:List Int},L.Nodup→(zcy L ts).Nodup:=by
 induction ts with
 | nil=>intro L h;exact h
 | cons a l ih=>
  intro L h
  refine ih ?_
  unfold ins
  by_cases z:a∈L
  ·simp_all
  ·rw[if_neg z,List.nodup_append]
   exact⟨h,by simp,fun x hx y hy e=>by
    simp_all⟩
theorem zmv {ts us L:List Int}:zcy L (ts++us)=zcy (zcy L ts) us:=by simp[zcy]
theorem zmg {n:Nat} {L:List Int} (h:L.Nodup) (hs:∀t∈L,t∈upto n):L.length≤n:=by
 have:=List.Nodup.length_le_of_subset h hs
 rwa [zoG] at this
theorem zlH {i j:Nat} (hij:i≠j) {n:Nat} (hn:n≤1000):∀(ts:List Int) (δ:En) (L:List Int) (o:Option D),δ[j]?=some (.o (dk L))→δ[i]?=some (sv o)→L.Nodup→(∀t∈L,t∈upto n)→(∀t∈ts,t∈upto n) →
  ∃o',zek (zax i) (zkw j (mVar i) (mC (.bl true))) (ts.map .int) δ=.nx ((δ.set j (.o (dk (zcy L ts)))).set i (sv o'))
 | [],δ,L,o,hj,hi,_,_,_=>by
  refine⟨o,?_⟩
  have e1:δ.set j (.o (dk L))=δ:=by
   apply List.ext_getElem?
   intro k
   by_cases e:j=k
   ·subst e;rw[List.getElem?_set_self (List.getElem?_eq_some_iff.mp hj).1,hj]
   simp_all
  have e2:δ.set i (sv o)=δ:=by
   apply List.ext_getElem?
   intro k
   by_cases e:i=k
   ·subst e;rw[List.getElem?_set_self (List.getElem?_eq_some_iff.mp hi).1,hi]
   simp_all
  show O.nx _=.nx ((δ.set j (.o (dk L))).set i _)
  grind
 | t::ts,δ,L,o,hj,hi,hL,hs,ht=>by
  have hil:=(List.getElem?_eq_some_iff.mp hi).1
  have hjl:=(List.getElem?_eq_some_iff.mp hj).1
  have b1:zax i (.int t) _=some _:=zaY hi
  have g1:(δ.set i (.v (.int t)))[j]?=some (.o (dk L)):=by simp_all
  have g2:mVar i (δ.set i (.v (.int t)))=.ok (.int t):=by unfold mVar;rw[List.getElem?_set_self hil]
  have len:=zmg hL hs
  have p:=zpo (me:=mC _) g1 g2 rfl (by omega)
  obtain⟨o',ih⟩:=zlH hij hn _ ((δ.set i (.v _)).set j (.o (dk (ins L t)))) _ (some _) (List.getElem?_set_self (by simpa using hjl)) (by rw[List.getElem?_set_ne (Ne.symm hij),List.getElem?_set_self hil];rfl)
   (zgJ (ts:=[t]) hL) (fun x hx=>by
    rcases (mem_insAll (ts:=[t])).mp hx with z|z
    ·simp_all
    ·have:=by simpa using z
     subst this;exact ht x List.mem_cons_self) (fun x hx=>ht x (List.mem_cons_of_mem _ hx))
  refine⟨o',?_⟩
  rw[List.map_cons]
  unfold zek
  rw[b1]
  simp only
  rw[show zkw j (mVar i) _ _=.nx ((δ.set i _).set j (.o (dk (ins L t)))) from p]
  simp only
  rw[ih]
  congr 1
  apply List.ext_getElem?
  intro k
  by_cases e1:i=k
  ·subst e1
   rw[List.getElem?_set_self (by simpa using hil),List.getElem?_set_self (by simpa using hil)]
  ·rw[List.getElem?_set_ne e1,List.getElem?_set_ne e1]
   by_cases e2:j=k
   ·subst e2
    rw[List.getElem?_set_self (by simpa using hjl),List.getElem?_set_self (by omega)]
    rfl
   ·rw[List.getElem?_set_ne e2,List.getElem?_set_ne e2,List.getElem?_set_ne e2,List.getElem?_set_ne e1]
structure SetsOk (n:Nat) (sets:List Ps):Prop where
 good:∀s∈sets,Good n s
 few:sets.length≤1000
 n1:n≤1000
def things (sets:List Ps):List Int:=sets.flatMap (·.2)
theorem zsK (u b:Nat):(u:Int)*((b:Int)/(Int.gcd (u:Int) (b:Int):Int))=(Nat.lcm u b:Int):=by
 rw[Int.gcd_natCast_natCast,← Int.natCast_ediv,← Int.natCast_mul,Nat.lcm,Nat.mul_div_assoc u (Nat.gcd_dvd_right u b)]
def un (l:List Fr):Nat:=l.foldl (fun u f=>Nat.lcm u f.2.toNat) 1
theorem zr4 (l:List Fr) (f:Fr):un (l++[f])=Nat.lcm (un l) f.2.toNat:=by simp[un]
theorem zs2 {b:Nat} (h0:1≤b) (h1:b≤12):b∣27720:=by
 have key:∀k:Fin 12,k.val+1∣27720:=by decide
 have:=key ⟨b - 1,by omega⟩
 rwa [show b - 1+1=b by omega] at this
theorem zn4:∀(l:List Fr) (u:Nat),u∣27720→(∀f∈l,AmOk f)→(l.foldl (fun u f=>Nat.lcm u f.2.toNat) u)∣27720∧u∣l.foldl (fun u f=>Nat.lcm u f.2.toNat) u∧∀f∈l,f.2.toNat∣l.foldl (fun u f=>Nat.lcm u f.2.toNat) u
 | [],u,h,_=>⟨h,Nat.dvd_refl u,fun f hf=>by cases hf⟩
 | f::l,u,h,ok=>by
  have o:=ok f (by simp)
  have b0:=o.b0
  have b1:=o.b1
  obtain⟨h1,h2,h3⟩:=zn4 l (Nat.lcm u f.2.toNat) (Nat.lcm_dvd h (zs2 (by omega) (by omega))) fun g hg=>ok g (by simp[hg])
  refine⟨h1,Nat.dvd_trans (Nat.dvd_lcm_left _ _) h2,fun g hg=>?_⟩
  rcases List.mem_cons.mp hg with rfl|hg
  ·exact Nat.dvd_trans (Nat.dvd_lcm_right _ _) h2
  ·exact h3 g hg
theorem zjT {l:List Fr} (ok:∀f∈l,AmOk f):(1≤un l∧un l≤27720)∧∀f∈l,f.2∣(un l:Int):=by
 obtain⟨h1,h2,h3⟩:=zn4 l 1 (by decide) ok
 have p:un l≤27720:=Nat.le_of_dvd (by decide) h1
 have q:1≤un l:=Nat.pos_of_dvd_of_pos h1 (by decide)
 refine⟨⟨q,p⟩,fun f hf=>?_⟩
 have b0:=(ok f hf).b0
 rw[show f.2=((f.2.toNat:Nat):Int) by omega]
 exact Int.natCast_dvd_natCast.mpr (h3 f hf)
def zaE (l:List Fr):D:=.lst (l.map encF)
theorem zdD {l:List Fr} (ok:∀f∈l,AmOk f):zbM [zaE l]=.ok (.int (un l)):=by
 obtain⟨δ,h1,o2,rfl⟩:=zbQ (b:=zax 2) (m:=zg2) encF (fun pre δ=>∃o2,δ=[.v (zaE l),.v (.int (un pre)),sv o2]) l
  (by
   rintro pre f post δ hall ⟨o2,rfl⟩
   have o:=ok f (by rw[hall];simp)
   have b0:=o.b0
   have b1:=o.b1
   have up:=(zjT (l:=pre) fun g hg=>ok g (by rw[hall];simp[hg])).1
   have cf:=zeG (un pre:Int) f.2
   obtain⟨b,eb⟩:∃b:Nat,f.2=(b:Int):=⟨f.2.toNat,by omega⟩
   have g0:0<Int.gcd (un pre:Int) f.2:=Int.gcd_pos_of_ne_zero_right _ (by omega)
   have g1:Int.gcd (un pre:Int) f.2≤f.2.natAbs:=Nat.le_of_dvd (by omega) (Int.natAbs_dvd_natAbs.mpr (Int.gcd_dvd_right ..))
   have fg:Fit (Int.gcd (un pre:Int) f.2:Int):=fitN 1000 (by rw[Int.natAbs_natCast];omega)
   have fu:Fit (un pre:Int):=fitN (10 ^ 6) (by rw[Int.natAbs_natCast];omega)
   have q0:0≤f.2/(Int.gcd (un pre:Int) f.2:Int):=Int.ediv_nonneg (by omega) (by omega)
   have q1:f.2/(Int.gcd (un pre:Int) f.2:Int)≤f.2:=Int.ediv_le_self _ (by omega)
   have fq:Fit (f.2/(Int.gcd (un pre:Int) f.2:Int)):=fitN 1000 (by omega)
   have lc:(un pre:Int)*(f.2/(Int.gcd (un pre:Int) f.2:Int))=(un (pre++[f]):Int):=by
    rw[zr4,eb,Int.toNat_natCast];exact zsK _ _
   refine⟨[.v (zaE l),.v (.int (un pre)),.v (encF f)],[.v (zaE l),.v (.int (un (pre++[f]))),.v (encF f)],zaY rfl,.inl ?_,some _,rfl⟩
   refine zcY (d:=.int (un (pre++[f]))) ?_ rfl
   have cm:zbJ [.int (un pre),.int f.2]=.ok (.int (un (pre++[f]))):=by
    rw[← lc]
    simp[zbJ,runF,zbn,zc9,mRet,mRd,zar,zaj,zab,mNil,mVar,cf,zeL (show (0:Int)<(Int.gcd (un pre:Int) f.2:Int) by omega) fg,zoo fu fq]
   have ix:oIxT (encF f) (.int 1)=some (.int f.2):=rfl
   simp[zar,zaj,zab,mNil,mVar,mRd,mC,ix,cm])
  [.v (zaE l),.v (.int (un [])),.no] ⟨none,rfl⟩
 refine zbL ?_
 show mSeq _ _ [.v (zaE l),.no,.no]=_
 have e1:mAsg (mC (.int 1)) (zax 1) [.v (zaE l),.no,.no]=.nx [.v (zaE l),.v (.int (un [])),.no]:=rfl
 have e2:zig [.v (zaE l),.v (.int (un [])),.no]=.nx [.v (zaE l),.v (.int (un l)),sv o2]:=(zce (by simp[mItL,mVar,zaE])).trans h1
 exact (zaN e1).trans ((zaN e2).trans rfl)
def by1 (u:Nat) (f:Fr):Int:=f.1*((u:Int)/f.2)
theorem znX {u:Nat} {f:Fr} (ok:AmOk f) (hu:u≤27720):zbj [encF f,.int u]=.ok (.int (by1 u f)):=by
 have h1:=ok.lo
 have h2:=ok.hi
 have h3:=ok.b0
 have h4:=ok.b1
 have fb:Fit f.2:=fitN 1000 (by omega)
 have ft:Fit f.1:=fitN (10 ^ 12) (by omega)
 have q0:0≤(u:Int)/f.2:=Int.ediv_nonneg (by omega) (by omega)
 have q1:(u:Int)/f.2≤u:=Int.ediv_le_self _ (by omega)
 have fq:Fit ((u:Int)/f.2):=fitN (10 ^ 6) (by omega)
 have i0:oIxT (encF f) (.int 0)=some (.int f.1):=rfl
 have i1:oIxT (encF f) (.int 1)=some (.int f.2):=rfl
 simp[zbj,runF,zbn,zeC,mRet,mRd,mC,i0,i1,zeL (show (0:Int)<f.2 by omega) fb,zoo ft fq,by1]
theorem zfZ {u:Nat} {l:List Fr} (ok:∀f∈l,AmOk f) (hu:u≤27720) (hl:l.length≤1000):zaT [zaE l,.int u]=.ok (iL (l.map (by1 u))):=by
 refine zda ?_
 show zdX zc2 [.v (zaE l),.v (.int u)]=_
 have k:zc2 [.v (zaE l),.v (.int u)]=.ok (iL (l.map (by1 u))):=by
  refine Eq.trans (zcZ (l:=l.map encF) (r:=l.map fun f=>.int (by1 u f)) (by simp[mItL,mRd,zaE]) (by rw[List.length_map];omega) ?_) (by simp[iL])
  exact zbX encF (fun f=>.int (by1 u f)) _ fun f hf=>by simp[zeP,zaK,zmK,zbh,zar,zaj,zab,mNil,mVar,znX (ok f hf) hu]
 simp[zdX,k]
theorem zpR {c s:Nat}:∀ {ps:List (List Nat)},c∈jl s ps→c=s∨∃p∈ps,c∈p
 | [],h=>by cases h
 | [p],h=>.inr ⟨p,by simp,h⟩
 | p::q::r,h=>by
  simp only[jl] at h
  rcases List.mem_append.mp h with h|h
  ·exact .inr ⟨p,by simp,h⟩
  ·rcases List.mem_cons.mp h with h|h
   ·exact .inl h
   ·rcases zpR h with z|⟨x,hx,hc⟩
    ·exact .inl z
    ·exact .inr ⟨x,by simp at hx ⊢;exact .inr hx,hc⟩
theorem zqZ:(" " : Str)=⟨#[32]⟩:=by decide +kernel
theorem nl:("\n" : Str)=⟨#[10]⟩:=by decide +kernel
def num (c k:Int):Int:=(c%100000000000000000000+k*k+1)*(48271+2*k)%2147483647
theorem zm2 (c k:Int) (h0:0≤k) (h1:k≤1000):zbZ [.int c,.int k]=.ok (.int (num c k)):=by
 have e1:=zgI c (show (0:Int)<100000000000000000000 by decide)
 have e2:=zgB c (show (0:Int)<100000000000000000000 by decide)
 have e3:0≤k*k:=Int.mul_nonneg h0 h0
 have e4:k*k≤1000*1000:=Int.mul_le_mul h1 h1 h0 (by decide)
 have f1:Fit k:=fitN 1000 (by omega)
 have f2:Fit 2:=fitN 1000 (by decide)
 have f3:Fit (c%100000000000000000000+k*k+1):=fitN (10 ^ 21) (by omega)
 have f4:Fit (48271+2*k):=fitN (10 ^ 21) (by omega)
 simp[zbZ,runF,zbn,zeO,mRet,mRd,mC,p20,zdv,zoo,f1,f2,f3,f4,num]
theorem zsx {i:Int} (h0:0≤i) (h:i.toNat<10 ^ 60):i.natAbs.log2<1920:=by
 have:i.natAbs<2 ^ 1920:=Nat.lt_of_lt_of_le (show i.natAbs<10 ^ 60 by omega) (by decide +kernel)
 by_cases z:i.natAbs=0
 ·rw[z];decide
 ·exact (Nat.log2_lt z).mpr this
structure Wd (w:Str):Prop where
 len:w.length≤20
 nb:32∉w.cps.toList
 nn:10∉w.cps.toList
theorem zns {i:Int} (h0:0≤i) (h1:i<1000000000000):Wd (dg i):=by
 refine⟨Nat.le_trans (dgl (k:=11) h0 (by omega)) (by decide),?_,?_⟩
 ·rw[dg_i h0];exact ziu (.inl (by decide))
 ·rw[dg_i h0];exact ziu (.inl (by decide))
def lnT (ws:List Str):Str:=Txt.join " " ws
structure Ln (ws:List Str):Prop where
 ne:ws≠[]
 le:ws.length≤60
 wd:∀w∈ws,Wd w
theorem zpT {c B:Nat}:∀ {ps:List (List Nat)},(∀p∈ps,p.length≤B)→(jl c ps).length≤ps.length*(B+1)
 | [],_=>by simp[jl]
 | [p],h=>by
  have:=h p (by simp)
  simp only[jl,List.length_cons,List.length_nil]
  omega
 | p::q::r,h=>by
  have h1:=h p (by simp)
  have h2:=zpT (c:=c) (ps:=q::r) fun x hx=>h x (by simp at hx ⊢;exact .inr hx)
  simp only[jl,List.length_append,List.length_cons] at h2 ⊢
  rw[Nat.add_mul]
  omega
theorem zoE (ws:List Str):lnT ws=Str.join ⟨#[32]⟩ ws:=by unfold lnT;rw[zqZ];exact StrLaws.glued_eq_join _ _
theorem zrT (a b:Str):lnT [a,b]=a++" "++b:=by rw[zoE,zqZ];rfl
theorem zk7 {ws:List Str} (h:Ln ws):Txt.split (lnT ws) " "=ws:=by
 rw[zoE,zqZ]
 exact zfb h.ne fun w hw=>(h.wd w hw).nb
theorem znk {ws:List Str} (h:Ln ws):(lnT ws).length≤1260:=by
 have e:(lnT ws).length=(lnT ws).cps.toList.length:=by simp[Str.length]
 rw[e,zoE,zgf]
 refine Nat.le_trans (zpT (B:=20) fun p hp=>?_) ?_
 ·obtain⟨w,hw,rfl⟩:=List.mem_map.mp hp
  have:=(h.wd w hw).len
  simpa[Str.length] using this
 ·have:=h.le
  rw[List.length_map];omega
theorem zqX {ws:List Str} (h:Ln ws):JoinOk " " ws=true:=by
 have b1:(" " : Str).length=1:=by decide +kernel
 have l:=h.le
 have j:=PySem.StrLaws.joinFits (sep:=" ") (B:=20) (fun y hy=>(h.wd y hy).len) (by rw[b1];omega)
 unfold JoinOk;rw[j];rfl
theorem zs4 {ws:List Str} (h:Ln ws):10∉(lnT ws).cps.toList:=fun z=>by
 rw[zoE,zgf] at z
 rcases zpR z with e|⟨p,hp,hc⟩
 ·exact absurd e (by decide)
 ·obtain⟨w,hw,rfl⟩:=List.mem_map.mp hp
  exact (h.wd w hw).nn hc
def txT (L:List (List Str)):Str:=Txt.join "\n" (L.map lnT)
structure Tx (L:List (List Str)):Prop where
 ne:L≠[]
 le:L.length≤60
 ln:∀ws∈L,Ln ws
theorem zpF {L:List (List Str)} (h:Tx L):Txt.split (txT L) "\n"=L.map lnT:=by
 unfold txT
 rw[nl,show Txt.join ⟨#[10]⟩ (L.map lnT)=Str.join ⟨#[10]⟩ (L.map lnT) from StrLaws.glued_eq_join _ _]
 refine zfb (fun z=>h.ne (List.map_eq_nil_iff.mp z)) fun w hw=>?_
 obtain⟨ws,hws,rfl⟩:=List.mem_map.mp hw
 exact zs4 (h.ln ws hws)
theorem zof {L:List (List Str)} (h:Tx L):JoinOk "\n" (L.map lnT)=true∧(txT L).length≤sizeLine:=by
 have b1:("\n" : Str).length=1:=by decide +kernel
 have l:=h.le
 have k:JoinOk "\n" (L.map lnT)=true:=by
  have j:=PySem.StrLaws.joinFits (sep:="\n") (texts:=L.map lnT) (B:=1260) (fun y hy=>by
   obtain⟨ws,hws,rfl⟩:=List.mem_map.mp hy
   exact znk (h.ln ws hws)) (by rw[b1,List.length_map];omega)
  unfold JoinOk;rw[j];rfl
 exact⟨k,joinOk_length k⟩
theorem zqC {ws:List Str} (h:Ln ws):zjH " " (.lst (ws.map .str))=.ok (.str (lnT ws)):=by
 unfold zjH
 dsimp only
 rw[ziD]
 dsimp only
 rw[if_pos (zqX h)];rfl
theorem zqh {L:List (List Str)} (h:Tx L):zjH "\n" (.lst ((L.map lnT).map .str))=.ok (.str (txT L)):=by
 unfold zjH
 dsimp only
 rw[ziD]
 dsimp only
 rw[if_pos (zof h).1];rfl
def rowD (ws:List Str):D:=.lst (ws.map .str)
def zaG (L:List (List Str)):D:=.lst (L.map rowD)
theorem zok {L:List (List Str)} (h:Tx L):zko [.v (.str (txT L)),.no,.no,.no]=.ok (zaG L):=by
 have fit:=(zof h).2
 have l:=h.le
 have s1:zd0 (.str (txT L)) "\n" = .ok (.lst ((L.map lnT).map .str)):=by
  unfold zd0
  dsimp only
  rw[zpF h,za3 ⟨by decide +kernel,fit,by rw[sizeLine_eq,List.length_map];omega⟩]
 refine Eq.trans (zcZ (l:=L.map fun ws=>.str (lnT ws)) (r:=L.map rowD) ?_ (by rw[List.length_map];omega) ?_) rfl
 ·simp only[mItL,zeJ,mVar,List.getElem?_cons_zero,R.bind_ok,s1]
  rw[List.map_map];rfl
 ·refine zbX (fun ws=>D.str (lnT ws)) rowD _ fun ws hws=>?_
  have hl:=h.ln ws hws
  have s2:zd0 (.str (lnT ws)) " " = .ok (rowD ws):=by
   unfold zd0
   dsimp only
   rw[zk7 hl,za3 ⟨by decide +kernel,Nat.le_trans (znk hl) (by rw[sizeLine_eq];decide),Nat.le_trans hl.le (by rw[sizeLine_eq];decide)⟩];rfl
  simp[zeP,zaK,zbh,zeJ,mVar,s2]
theorem zq0 {L:List (List Str)} (h:Tx L) {k:Str} {ws:List Str} {T:List (List Str)} (hL:L=(k::ws)::T) {u:Int} {G:D} (rr:zas [.str k,zaG L]=.ok (.tup [.int u,G])) (rg:zay [.str k,G]=.ok .non) :
  zcP [.str (txT L)]=.ok (.tup [.str k,.int u,G]):=by
 obtain⟨t,et⟩:∃t,t=txT L:=⟨_,rfl⟩
 have ke:=zok h
 obtain⟨Rw,eR⟩:∃Rw,Rw=zaG L:=⟨_,rfl⟩
 have i0:oIxL Rw (.int 0)=some (rowD (k::ws)):=by rw[eR,hL];exact zfu (Int.le_refl 0) rfl
 have i1:oIxL (rowD (k::ws)) (.int 0)=some (.str k):=zfu (Int.le_refl 0) rfl
 rw[← et] at ke ⊢
 rw[← eR] at ke rr
 have q1:mAsg zko (zax 1) [.v (.str t),.no,.no,.no]=.nx [.v (.str t),.v Rw,.no,.no]:=zcY ke rfl
 have q2:mAsg (m2 oIxL (m2 oIxL (mRd 1) (mC (.int 0))) (mC (.int 0))) (zax 2) [.v (.str t),.v Rw,.no,.no]=.nx [.v (.str t),.v Rw,.v (.str k),.no]:=by
  refine zcY (d:=.str k) ?_ rfl
  simp only[zcA,mRd,mC,List.getElem?_cons_succ,List.getElem?_cons_zero,R.bind_ok,i0,R.of_some,i1]
 have t0:oIxT (.tup [.int u,G]) (.int 0)=some (.int u):=rfl
 have t1:oIxT (.tup [.int u,G]) (.int 1)=some G:=rfl
 have q3:mAsg (zaj zas (zab (mVar 2) (zab (mVar 1) mNil))) (zax 3) [.v (.str t),.v Rw,.v (.str k),.no]=.nx [.v (.str t),.v Rw,.v (.str k),.v (.tup [.int u,G])]:=by
  refine zcY (d:=.tup [.int u,G]) ?_ rfl
  simp[zar,zaj,zab,mNil,mVar,rr]
 have q4:mDo (zaj zay (zab (mVar 2) (zab (m2 oIxT (mRd 3) (mC (.int 1))) mNil))) [.v (.str t),.v Rw,.v (.str k),.v (.tup [.int u,G])]=.nx [.v (.str t),.v Rw,.v (.str k),.v (.tup [.int u,G])]:=by
  simp[mDo,zar,zaj,zab,mNil,mVar,mRd,mC,t1,rg]
 refine zbL ?_
 show mSeq _ _ [.v (.str t),.no,.no,.no]=_
 refine (zaN q1).trans ((zaN q2).trans ((zaN q3).trans ((zaN q4).trans ?_)))
 simp[mRet,mTup,zab,mNil,mVar,mRd,mC,t0,t1,sizeLine]
theorem zbs {n lo hi line:Int} (h0:0≤n) (h1:n<1000000000000) (h2:lo≤n) (h3:n≤hi):zaC [.str (dg n),.int lo,.int hi,.int line]=.ok (.int n):=by
 have isn:=zeV (m:=n.toNat) (by omega)
 rw[← dg_i h0] at isn
 have it:=intS h0 (by omega)
 obtain⟨w,ew⟩:∃w,w=dg n:=⟨_,rfl⟩
 rw[← ew] at isn it ⊢
 have t1:¬ n<lo:=by omega
 have t2:¬ hi<n:=by omega
 refine zbL ?_
 show mSeq _ _ [.v (.str w),.v (.int lo),.v (.int hi),.v (.int line),.no]=_
 have q1:mDo (zaj zah (zab (zgn (zar zbB (zab (mVar 0) mNil))) (zab (mVar 3) mNil))) [.v (.str w),.v (.int lo),.v (.int hi),.v (.int line),.no]=.nx [.v (.str w),.v (.int lo),.v (.int hi),.v (.int line),.no]:=by
  simp[mDo,zar,zaj,zab,mNil,zgn,mVar,isn,zaP]
 have q2:mAsg (mCB zg0 (zab (mRd 0) mNil)) (zax 4) [.v (.str w),.v (.int lo),.v (.int hi),.v (.int line),.no]=.nx [.v (.str w),.v (.int lo),.v (.int hi),.v (.int line),.v (.int n)]:=zcY (d:=.int n) (by simp[mCB,zab,mNil,mRd,it]) rfl
 have q3:mDo (zaj zah (zab (mOrV (m2 oLt (mRd 4) (mRd 1)) (m2 oGt (mRd 4) (mRd 2))) (zab (mVar 3) mNil))) [.v (.str w),.v (.int lo),.v (.int hi),.v (.int line),.v (.int n)]=.nx [.v (.str w),.v (.int lo),.v (.int hi),.v (.int line),.v (.int n)]:=by
  simp[mDo,zar,zaj,zab,mNil,mOrV,mVar,mRd,t1,t2,zaP]
 exact (zaN q1).trans ((zaN q2).trans ((zaN q3).trans rfl))
theorem zdN {f:Fr} (ok:AmOk f) (h:f.1≠0) (line:Int):zav [.str (wr f),.int line]=.ok (encF f):=by
 have a:=zbg ok line
 have i0:oIxT (encF f) (.int 0)=some (.int f.1):=rfl
 simp[zav,runF,zbn,zck,mSeq,mAsg,zar,zaj,zab,mNil,mVar,a,zax,mDo,mRd,mC,i0,h,zaP,mRet]
theorem zbm {ws:List Str} {lo hi line:Int} (h1:lo≤ws.length) (h2:(ws.length:Int)≤hi):zaq [rowD ws,.int lo,.int hi,.int line]=.ok .non:=by
 have fl:fLen [rowD ws]=some (.int ws.length):=by simp[rowD]
 have t1:¬ (ws.length:Int)<lo:=by omega
 have t2:¬ hi<(ws.length:Int):=by omega
 simp[zaq,runF,zbn,zcH,mDo,zar,zaj,zab,mNil,mOrV,mCB,mRd,mVar,fl,t1,t2,zaP]
theorem zpy {ws:List Str} {k:Nat} (h:k≤ws.length):cutD (ws.map D.str) (some (k:Int)) none=(ws.drop k).map D.str:=by
 rw[ziz (by rw[List.length_map];exact h),List.map_drop]
theorem rngB {n:Nat} (h:n≤1000):rng [.int 1,.int ((n:Int)+1)]=some ((upt n).map fun k=>.int (k+1)):=by
 rw[rng2 (by omega) (by omega),show ((n:Int)+1 - 1).toNat=n by omega]
 unfold zfT upt
 simp[List.map_map,Function.comp,Int.add_comm]
theorem zjN (c:Int) {k:Int} (h0:0≤k) (h1:k≤1000):∃x:Int,zbZ [.int c,.int k]=.ok (.int x)∧0≤x∧x<2147483647:=
 ⟨num c k,zm2 c k h0 h1,zgI _ (by decide),zgB _ (by decide)⟩
def encE (q:Int×Nat):D:=.tup [.int (q.2:Int),.int q.1]
theorem zqD {δ:En} {i:Nat} {ps:List Int} (h:δ[i]?=some (.v (iL ps))):zku (zab (mVar i) mNil) δ=.ok (ps.zipIdx.map encE):=by
 have ee:zhS (ps.map D.int)=ps.zipIdx.map encE:=by rw[zls,List.zipIdx_map,List.map_map];rfl
 simp only[zku,zab,mNil,mVar,h,R.bind_ok]
 show R.of (some (zhS (ps.map D.int)))=_
 rw[ee,R.of_some]
theorem zgy {n:Nat} {sets:List Ps} (ok:SetsOk n sets) (hc:∀t∈upto n,∃s∈sets,t∈s.2):zbA [.int n,encP sets]=.ok .non:=by
 obtain⟨δ1,h1,o3,o4,rfl⟩:=zbQ (b:=zax 3) (m:=zcU) encS (fun pre δ=>∃o3 o4,δ=[.v (.int n),.v (encP sets),.o (dk (zcy [] (things pre))),sv o3,sv o4]) sets
  (by
   rintro pre s post δ hall ⟨o3,o4,rfl⟩
   have hs:s∈sets:=by rw[hall];simp
   have g:=ok.good s hs
   obtain⟨o',h⟩:=zlH (i:=4) (j:=2) (by decide) ok.n1 s.2 [.v (.int n),.v (encP sets),.o (dk (zcy [] (things pre))),.v (encS s),sv o4] (zcy [] (things pre)) o4 rfl rfl (zgJ (by simp))
    (fun t ht=>by
     rcases mem_insAll.mp ht with z|z
     ·cases z
     ·obtain⟨s',hs',h'⟩:=List.mem_flatMap.mp z
      exact mem_upto.mpr ((ok.good s' (by rw[hall];exact List.mem_append_left _ hs')).mem t h')) (fun t ht=>mem_upto.mpr (g.mem t ht))
   refine⟨[.v (.int n),.v (encP sets),.o (dk (zcy [] (things pre))),.v (encS s),sv o4],[.v (.int n),.v (encP sets),.o (dk (zcy (zcy [] (things pre)) s.2)),.v (encS s),sv o'],?_,.inl ?_,some (encS s),o',?_⟩
   ·rcases o3 with _|o3 <;> rfl
   ·unfold zcU zej zd2
    exact (zce (by simp[mItL,mRd,mC,encS])).trans h
   ·rw[← zmv]
    have e:things (pre++[s])=things pre++s.2:=by simp[things]
    rw[e];rfl)
  [.v (.int n),.v (encP sets),.o (dk []),.no,.no] ⟨none,none,rfl⟩
 obtain⟨δ2,h2,o4',rfl⟩:=zbQ (b:=zax 4) (m:=zcT) D.int (fun pre δ=>∃o4,δ=[.v (.int n),.v (encP sets),.o (dk (zcy [] (things sets))),sv o3,sv o4]) (upto n)
  (by
   rintro pre t post δ hall ⟨o4,rfl⟩
   have ht:t∈upto n:=by rw[hall];simp
   obtain⟨s,hs,hts⟩:=hc t ht
   have hm:t∈zcy [] (things sets):=mem_insAll.mpr (.inr (List.mem_flatMap.mpr ⟨s,hs,hts⟩))
   refine⟨_,_,zaY (o:=o4) rfl,.inl ?_,some (.int t),rfl⟩
   simp[zcT,mIfS,zaw,mVar,mRd,hm,zbi])
  _ ⟨o4,rfl⟩
 have l2:zee [.v (.int n),.v (encP sets),.o (dk []),.no,.no]=.nx [.v (.int n),.v (encP sets),.o (dk (zcy [] (things sets))),sv o3,sv o4]:=(zce (by simp[mItL,mVar,encP])).trans h1
 have l3:zef [.v (.int n),.v (encP sets),.o (dk (zcy [] (things sets))),sv o3,sv o4]=.nx [.v (.int n),.v (encP sets),.o (dk (zcy [] (things sets))),sv o3,sv o4']:=(zce (by simp[mRng,zab,mNil,mVar,rngU ok.n1])).trans h2
 refine zkj (δ:=[.v (.int n),.v (encP sets),.o (dk (zcy [] (things sets))),sv o3,sv o4']) ?_
 have e0:mAsg (mC (.dct [] [])) (bNew 2) [.v (.int n),.v (encP sets),.no,.no,.no]=.nx [.v (.int n),.v (encP sets),.o (dk []),.no,.no]:=rfl
 show mSeq _ _ [.v (.int n),.v (encP sets),.no,.no,.no]=_
 rw[zaN e0,zaN l2]
 exact l3
def tabF (n:Nat) (d:Int→Int→Int):List (List Int):=(upt n).map fun a=>(upt n).map (d a)
theorem zgz {m k:Nat} (h:k<m):(upt m)[k]?=some (k:Int):=by
 unfold upt;rw[List.getElem?_map,List.getElem?_range h];rfl
theorem zh7 {n:Nat} {f:Int→Int} {b:Int} (h0:0≤b) (h1:b<n):oIxL (iL ((upt n).map f)) (.int b)=some (.int (f b)):=by
 refine zfu h0 ?_
 rw[List.getElem?_map,List.getElem?_map,zgz (by omega)]
 simp[show (b.toNat:Int)=b by omega]
theorem zsu {n:Nat} {d:Int→Int→Int} {a:Int} (h0:0≤a) (h1:a<n):oIxL (tabD (tabF n d)) (.int a)=some (iL ((upt n).map (d a))):=by
 unfold tabD tabF
 refine zfu h0 ?_
 rw[List.getElem?_map,List.getElem?_map,zgz (by omega)]
 simp[show (a.toNat:Int)=a by omega]
theorem zqY {n:Nat} {d:Int→Int→Int}:fLen [tabD (tabF n d)]=some (.int n):=by
 simp[tabD,tabF,zfK]
structure LenOk (n:Nat) (B:Int) (d:Int→Int→Int):Prop where
 nn:∀a b:Int,0≤a→a<n→0≤b→b<n→0≤d a b∧d a b≤B
 self:∀a:Int,0≤a→a<n→d a a=0
 sym:∀a b:Int,0≤a→a<n→0≤b→b<n→d a b=d b a
 tri:∀a b c:Int,0≤a→a<n→0≤b→b<n→0≤c→c<n→d a c≤d a b+d b c
theorem zfh {mi:En→R (List D)} {b:D→En→Option En} {m:En→O} {δ:En} {n:Nat} (h:mi δ=.ok ((upt n).map .int)):mFor mi b m δ=zek b m ((upt n).map .int) δ:=zce h
theorem zlU {n:Nat} {B:Int} {d:Int→Int→Int} (hn:n≤100) (ok:LenOk n B d):zdj [tabD (tabF n d)]=.ok .non:=by
 obtain⟨T,eT⟩:∃T,T=tabD (tabF n d):=⟨_,rfl⟩
 have tix:∀a:Int,0≤a→a<n→oIxL T (.int a)=some (iL ((upt n).map (d a))):=fun a h0 h1=>by rw[eT];exact zsu h0 h1
 rw[← eT]
 have rn:=rngT (show n≤1000 by omega)
 have l1:∀o2 o3 o4:Option D,∃p2,zic [.v T,.v (.int n),sv o2,sv o3,sv o4]=.nx [.v T,.v (.int n),sv p2,sv o3,sv o4]:=fun o2 o3 o4=>by
  obtain⟨δ,h1,p2,rfl⟩:=zbQ (b:=zax 2) (m:=zfN) D.int (fun _ δ=>∃p2,δ=[.v T,.v (.int n),sv p2,sv o3,sv o4]) (upt n)
   (by
    rintro pre a post δ hall ⟨p2,rfl⟩
    obtain⟨a0,a1⟩:=mem_upt.mp (show a∈upt n by simp_all)
    have r:=zh7 (n:=n) (f:=d a) a0 a1
    rw[ok.self a a0 a1] at r
    refine⟨[.v T,.v (.int n),.v (.int a),sv o3,sv o4],[.v T,.v (.int n),.v (.int a),sv o3,sv o4],zaY rfl,.inl ?_,some _,rfl⟩
    unfold zfN
    rw[zbe (by simp[zaw,mRd,mC,tix a a0 a1,r])];rfl)
   [.v T,.v (.int n),sv o2,sv o3,sv o4] ⟨o2,rfl⟩
  exact⟨p2,(zfh (by simp[mRng,zab,mNil,mVar,rn])).trans h1⟩
 have l3:∀o2 o3 o4:Option D,∃p2 p3,zh9 [.v T,.v (.int n),sv o2,sv o3,sv o4]=.nx [.v T,.v (.int n),sv p2,sv p3,sv o4]:=fun o2 o3 o4=>by
  obtain⟨δ,h1,p2,p3,rfl⟩:=zbQ (b:=zax 2) (m:=zg5) D.int (fun _ δ=>∃p2 p3,δ=[.v T,.v (.int n),sv p2,sv p3,sv o4]) (upt n)
   (by
    rintro pre a post δ hall ⟨p2,p3,rfl⟩
    obtain⟨a0,a1⟩:=mem_upt.mp (show a∈upt n by simp_all)
    obtain⟨δ2,g1,r3,rfl⟩:=zbQ (b:=zax 3) (m:=zfJ) D.int (fun _ δ=>∃r3,δ=[.v T,.v (.int n),.v (.int a),sv r3,sv o4]) (upt a.toNat)
     (by
      rintro pre2 b post2 δ hall2 ⟨r3,rfl⟩
      obtain⟨b0,b1⟩:=mem_upt.mp (show b∈upt a.toNat by simp_all)
      have r1:=zh7 (n:=n) (f:=d a) b0 (by omega)
      have r2:=zh7 (n:=n) (f:=d b) a0 a1
      rw[ok.sym a b a0 a1 b0 (by omega)] at r1
      refine⟨[.v T,.v (.int n),.v (.int a),.v (.int b),sv o4],[.v T,.v (.int n),.v (.int a),.v (.int b),sv o4],zaY rfl,.inl ?_,some _,rfl⟩
      unfold zfJ
      rw[zbe (by simp[zaw,mRd,mC,tix a a0 a1,tix b b0 (by omega),r1,r2])];rfl)
     [.v T,.v (.int n),.v (.int a),sv p3,sv o4] ⟨p3,rfl⟩
    refine⟨[.v T,.v (.int n),.v (.int a),sv p3,sv o4],[.v T,.v (.int n),.v (.int a),sv r3,sv o4],zaY rfl,.inl ?_,some _,r3,rfl⟩
    have ra:=rngT (show a.toNat≤1000 by omega)
    rw[show ((a.toNat:Nat):Int)=a by omega] at ra
    exact (zfh (n:=a.toNat) (by simp[mRng,zab,mNil,mVar,ra])).trans g1)
   [.v T,.v (.int n),sv o2,sv o3,sv o4] ⟨o2,o3,rfl⟩
  exact⟨p2,p3,(zfh (by simp[mRng,zab,mNil,mVar,rn])).trans h1⟩
 have l6:∀o2 o3 o4:Option D,∃p2 p3 p4,zib [.v T,.v (.int n),sv o2,sv o3,sv o4]=.nx [.v T,.v (.int n),sv p2,sv p3,sv p4]:=fun o2 o3 o4=>by
  obtain⟨δ,h1,p2,p3,p4,rfl⟩:=zbQ (b:=zax 2) (m:=zgV) D.int (fun _ δ=>∃p2 p3 p4,δ=[.v T,.v (.int n),sv p2,sv p3,sv p4]) (upt n)
   (by
    rintro pre a post δ hall ⟨p2,p3,p4,rfl⟩
    obtain⟨a0,a1⟩:=mem_upt.mp (show a∈upt n by simp_all)
    obtain⟨δ2,g1,r3,r4,rfl⟩:=zbQ (b:=zax 3) (m:=zhd) D.int (fun _ δ=>∃r3 r4,δ=[.v T,.v (.int n),.v (.int a),sv r3,sv r4]) (upt n)
     (by
      rintro pre2 b post2 δ hall2 ⟨r3,r4,rfl⟩
      obtain⟨b0,b1⟩:=mem_upt.mp (show b∈upt n by rw[hall2];simp)
      obtain⟨δ3,k1,t4,rfl⟩:=zbQ (b:=zax 4) (m:=zfE) D.int (fun _ δ=>∃t4,δ=[.v T,.v (.int n),.v (.int a),.v (.int b),sv t4]) (upt n)
       (by
        rintro pre3 c post3 δ hall3 ⟨t4,rfl⟩
        obtain⟨c0,c1⟩:=mem_upt.mp (show c∈upt n by rw[hall3];simp)
        have r1:=zh7 (n:=n) (f:=d a) b0 b1
        have r2:=zh7 (n:=n) (f:=d b) c0 c1
        have r5:=zh7 (n:=n) (f:=d a) c0 c1
        have tr:¬ d a b+d b c<d a c:=by have:=ok.tri a b c a0 a1 b0 b1 c0 c1;omega
        refine⟨[.v T,.v (.int n),.v (.int a),.v (.int b),.v (.int c)],[.v T,.v (.int n),.v (.int a),.v (.int b),.v (.int c)],zaY rfl,.inl ?_,some _,rfl⟩
        unfold zfE
        rw[zbe (by simp[zaw,mRd,mC,tix a a0 a1,tix b b0 b1,r1,r2,r5,tr])];rfl)
       [.v T,.v (.int n),.v (.int a),.v (.int b),sv r4] ⟨r4,rfl⟩
      refine⟨[.v T,.v (.int n),.v (.int a),.v (.int b),sv r4],[.v T,.v (.int n),.v (.int a),.v (.int b),sv t4],zaY rfl,.inl ?_,some _,t4,rfl⟩
      exact (zfh (by simp[mRng,zab,mNil,mVar,rn])).trans k1)
     [.v T,.v (.int n),.v (.int a),sv p3,sv p4] ⟨p3,p4,rfl⟩
    refine⟨[.v T,.v (.int n),.v (.int a),sv p3,sv p4],[.v T,.v (.int n),.v (.int a),sv r3,sv r4],zaY rfl,.inl ?_,some _,r3,r4,rfl⟩
    exact (zfh (by simp[mRng,zab,mNil,mVar,rn])).trans g1)
   [.v T,.v (.int n),sv o2,sv o3,sv o4] ⟨o2,o3,o4,rfl⟩
  exact⟨p2,p3,p4,(zfh (by simp[mRng,zab,mNil,mVar,rn])).trans h1⟩
 have lT:fLen [T]=some (.int n):=by rw[eT];exact zqY
 obtain⟨p2,e1⟩:=l1 none none none
 obtain⟨q2,q3,e2⟩:=l3 p2 none none
 obtain⟨r2,r3,r4,e3⟩:=l6 q2 q3 none
 refine zkj (δ:=[.v T,.v (.int n),sv r2,sv r3,sv r4]) ?_
 show mSeq _ _ [.v T,.no,.no,.no,.no]=_
 have s1:mAsg (mCB fLen (zab (mRd 0) mNil)) (zax 1) [.v T,.no,.no,.no,.no]=.nx [.v T,.v (.int n),sv none,sv none,sv none]:=zcY (d:=.int n) (by simp[mCB,zab,mNil,mRd,lT]) rfl
 exact (zaN s1).trans ((zaN e1).trans ((zaN e2).trans e3))
theorem sq {me:En→R D} {b:D→En→Option En} {n:En→O} {δ δ2:En} {d:D} {r:O} (h:me δ=.ok d) (h2:b d δ=some δ2) (k:n δ2=r):mSeq (mAsg me b) n δ=r:=(zaN (zcY h h2)).trans k
theorem sd {me:En→R D} {n:En→O} {δ:En} {r:O} (h:me δ=.ok .non) (k:n δ=r):mSeq (mDo me) n δ=r:=(zaN (by unfold mDo;rw[h];rfl)).trans k
theorem sx {m n:En→O} {δ δ2:En} {r:O} (h:m δ=.nx δ2) (k:n δ2=r):mSeq m n δ=r:=(zaN h).trans k
theorem eqS (a:Str):oEq (.str a) (.str a)=some (.bl true):=by
 show (if scal (V.str a) (V.str a)=true then some (D.bl (decide (V.str a=V.str a))) else none)=_
 rw[if_pos (show scal (V.str a) (V.str a)=true from rfl),decide_eq_true rfl]
theorem neS {a b:Str} (h:a≠b):oEq (.str a) (.str b)=some (.bl false):=by
 show (if scal (V.str a) (V.str b)=true then some (D.bl (decide (V.str a=V.str b))) else none)=_
 rw[if_pos (show scal (V.str a) (V.str b)=true from rfl),decide_eq_false (fun z=>h (V.str.inj z))]
theorem znv {l r:List D} (h:l.length+r.length≤100000):oCat (.lst l) (.lst r)=some (.lst (l++r)):=za3 (by rw[sizeLine_eq];omega)
theorem zfm {i:Int} (h0:0≤i) (h:i<1000000000000):zeY [.int i]=some (.str (dg i)):=za3 (zsx h0 (by omega))
theorem zb5 {a b:Str} (h:a.length+b.length≤100000):zc0 (.str a) (.str b)=some (.str (a++b)):=za3 (by rw[sizeLine_eq];omega)
theorem zfU {ws:List Str} (k:Nat) (h:k≤ws.length) {m:En→R D} {δ:En} (hm:m δ=.ok (rowD ws)):mSl m (zbq (mC (.int k))) mNoP δ=.ok (.lst ((ws.drop k).map .str)):=by
 simp only[mSl,hm,R.bind_ok,mNoP,zbq,mC,zmG,R.of_some,rowD,asL,zpy h]
theorem zeh {f:D→R (Option D)} {l:List Fr} (h:∀g∈l,f (.str (wr g))=.ok (some (encF g))):zb1 f ((l.map wr).map .str)=.ok (l.map encF):=by
 rw[List.map_map];exact zbX (D.str ∘ wr) encF _ h
theorem row0 (w:List Str) (T:List (List Str)):oIxL (zaG (w::T)) (.int 0)=some (rowD w):=zfu (Int.le_refl 0) rfl
theorem rowN {L:List (List Str)} {k:Nat} {w:List Str} (h:L[k]?=some w):oIxL (zaG L) (.int k)=some (rowD w):=zfu (by omega) (by rw[Int.toNat_natCast,List.getElem?_map,h];rfl)
theorem zdS {ws:List Str} {k:Nat} {w:Str} (h:ws[k]?=some w):oIxL (rowD ws) (.int k)=some (.str w):=zfu (by omega) (by rw[Int.toNat_natCast,List.getElem?_map,h];rfl)
theorem zed (L:List (List Str)):fLen [zaG L]=some (.int L.length):=by simp[zaG]
theorem zhs (ws:List Str):fLen [rowD ws]=some (.int ws.length):=by simp[rowD]
theorem rngZ {α:Type} (l:List α) (h:l.length≤1000):rng [.int 1,.int ((l.length:Int)+1)]=some (l.zipIdx.map fun q=>.int ((q.2:Int)+1)):=by
 rw[rngB h]
 congr 1
 apply List.ext_getElem?
 intro i
 rw[List.getElem?_map,List.getElem?_map,List.getElem?_zipIdx]
 by_cases hi:i<l.length
 ·rw[zgz hi,List.getElem?_eq_getElem hi];simp
 ·rw[List.getElem?_eq_none_iff.mpr (by rw[zfK];omega),List.getElem?_eq_none_iff.mpr (show l.length≤i by omega)];rfl
theorem zsi {u:Nat} {f:Fr} (ok:AmOk f) (hu:u≤27720):0≤by1 u f∧by1 u f≤1000000000000000000:=by
 have h1:=ok.lo
 have h2:=ok.hi
 have h3:=ok.b0
 have q0:0≤(u:Int)/f.2:=Int.ediv_nonneg (by omega) (by omega)
 have q1:(u:Int)/f.2≤u:=Int.ediv_le_self _ (by omega)
 refine⟨Int.mul_nonneg h1 q0,?_⟩
 have:=Int.mul_le_mul (show f.1≤1000000000000 by omega) (show (u:Int)/f.2≤27720 by omega) q0 (by decide)
 show f.1*((u:Int)/f.2)≤_
 omega
theorem za5 {np nv:Nat} {m:En→O} {ds:List D} {δ:En} {x:Xc} (h:m (zbn nv ds)=.ex δ x) (hl:ds.length=np:=by rfl):runF np nv m ds=.ex x:=by unfold runF;rw[if_pos hl,h]
theorem zqs {np nv:Nat} {m:En→O} {ds:List D} {δ:En} {x:Xc} (h:m (zbn nv ds)=.ex δ x) (hl:ds.length=np:=by rfl):runO np nv m ds=.ex x:=by unfold runO;rw[if_pos hl,h]
theorem za2 {m n:En→O} {δ δ2:En} {x:Xc} (h:m δ=.ex δ2 x):mSeq m n δ=.ex δ2 x:=by unfold mSeq;rw[h]
theorem zdG {me:En→R D} {δ:En} {x:Xc} (h:me δ=.ex x):mDo me δ=.ex δ x:=by unfold mDo;rw[h];rfl
theorem zcp {me:En→R D} {b:D→En→Option En} {δ:En} {x:Xc} (h:me δ=.ex x):mAsg me b δ=.ex δ x:=by unfold mAsg;rw[h];rfl
theorem zgp {i:Nat} {me:En→R D} {δ:En} {l:List D} {x:Xc} (h:δ[i]?=some (.o (.lst l))) (hy:me δ=.ex x):zbO i me δ=.ex δ x:=by
 unfold zbO
 rw[h]
 simp only[hy,R.toO_ex]
theorem zih {me:En→R D} {δ:En} {x:Xc} (h:me δ=.ex x):mRet me δ=.ex δ x:=by unfold mRet;rw[h];rfl
theorem zem {mi:En→R (List D)} {ix:List Nat} {n:Nat} {b:D→En→Option En} {me:En→R D} {δ:En} {l r:List D} (h1:mi δ=.ok l) (hl:l.length≤100000) (h2:zb1 (zdr b me (zaK δ ix n)) l=.ok r):zga mi ix n b me δ=.ok (.lst r):=by
 unfold zga
 rw[h1,R.bind_ok,za3 (by rw[sizeLine_eq];omega),h2];rfl
theorem zfP {mi:En→R (List D)} {ix:List Nat} {n:Nat} {b:D→En→Option En} {me:En→R D} {δ:En} {l:List D} {x:Xc} (h1:mi δ=.ok l) (hl:l.length≤100000) (h2:zb1 (zdr b me (zaK δ ix n)) l=.ex x):zga mi ix n b me δ=.ex x:=by
 unfold zga
 rw[h1,R.bind_ok,za3 (by rw[sizeLine_eq];omega),h2];rfl
theorem ze1 {α:Type} {f:D→R (Option D)} (enc:α→D) (g:α→D) {d:D} {x:Xc} {post:List D}:∀(l:List α),(∀a∈l,f (enc a)=.ok (some (g a)))→f d=.ex x→zb1 f (l.map enc++d::post)=.ex x
 | [],_,h=>by
  show (f d).bind _=_
  rw[h];rfl
 | a::l,h,hd=>by
  rw[List.map_cons,List.cons_append,zb1,h a (by simp),R.bind_ok,ze1 enc g l (fun y hy=>h y (by simp[hy])) hd];rfl
theorem ziQ {β:Type} {b:D→En→Option En} {m:En→O} (enc:β→D) (P:List β→En→Prop) (all:List β) {d:D} {post:List D} {x:Xc}
  (step:∀pre y rest δ,all=pre++y::rest→P pre δ→∃δ1 δ2,b (enc y) δ=some δ1∧m δ1=.nx δ2∧P (pre++[y]) δ2) (δ:En) (h:P [] δ)
  (last:∀δ,P all δ→∃δ1 δ2,b d δ=some δ1∧m δ1=.ex δ2 x):∃δ2,zek b m (all.map enc++d::post) δ=.ex δ2 x:=by
 have key:∀(rest pre:List β) (δ:En),all=pre++rest→P pre δ→∃δ2,zek b m (rest.map enc++d::post) δ=.ex δ2 x:=by
  intro rest
  induction rest with
  | nil=>
   intro pre δ e hp
   obtain⟨δ1,δ2,h1,h2⟩:=last δ (by rw[e,List.append_nil];exact hp)
   refine⟨δ2,?_⟩
   show zek b m (d::post) δ=_
   rw[zek,h1]
   dsimp only
   rw[h2]
  | cons y rest ih=>
   intro pre δ e hp
   obtain⟨δ1,δ2,h1,h2,h3⟩:=step pre y rest δ e hp
   obtain⟨δ3,h4⟩:=ih (pre++[y]) δ2 (by rw[e];simp) h3
   refine⟨δ3,?_⟩
   rw[List.map_cons,List.cons_append,zek,h1]
   dsimp only
   rw[h2]
   exact h4
 exact key all [] δ rfl h
def exL (k:Int):Xc:=⟨6+16*(k.toNat+1)⟩
theorem zd3 {x:Int} (h:0≤x):zah [.bl true,.int x]=.ex (exL x):=by
 refine za5 (δ:=[.v (.bl true),.v (.int x)]) ?_
 show mIfS _ _ _ [.v (.bl true),.v (.int x)]=_
 rw[zcN rfl]
 exact za3 h
theorem zew {ws:List Str} {lo hi line:Int} (hl:0≤line) (h:(ws.length:Int)<lo∨hi<(ws.length:Int)):zaq [rowD ws,.int lo,.int hi,.int line]=.ex (exL line):=by
 have fl:=zhs ws
 obtain⟨W,eW⟩:∃W,W=rowD ws:=⟨_,rfl⟩
 rw[← eW] at fl ⊢
 refine za5 (δ:=[.v W,.v (.int lo),.v (.int hi),.v (.int line)]) ?_
 show mDo _ [.v W,.v (.int lo),.v (.int hi),.v (.int line)]=_
 refine zdG ?_
 have w:=zd3 hl
 by_cases h1:(ws.length:Int)<lo
 ·simp[zaj,zab,mNil,mOrV,mCB,mRd,mVar,fl,h1,w]
 ·have h2:=h.resolve_left h1
  simp[zaj,zab,mNil,mOrV,mCB,mRd,mVar,fl,h1,h2,w]
def isd (c:Nat):Bool:=decide (48≤c∧c≤57)
def isnB (w:Str):Bool:=decide (w.length≠0∧w.length≤12) && w.cps.toList.all isd && (decide (w.cps.toList[0]?≠some 48) || decide (w = "0"))
theorem zqn {c:Nat} (h:c<128):Txt.contains "0123456789" ⟨#[c]⟩=isd c:=by
 have key:∀k:Fin 128,Txt.contains "0123456789" ⟨#[k.val]⟩=isd k.val:=by decide +kernel
 exact key ⟨c,h⟩
theorem zse {w:Str} (ha:w.cps.all (· < 128)=true) (hl:w.length≤1000):zbB [.str w]=.ok (.bl (isnB w)):=by
 have len:zgO [.str w]=some (.int w.length):=za3 (by rw[sizeLine_eq];omega)
 have wl:w.cps.toList.length=w.length:=by simp[Str.length]
 refine zbL ?_
 show mSeq _ _ [.v (.str w)]=_
 by_cases h0:w.length≠0∧w.length≤12
 ·have l0:¬ (w.length:Int)=0:=by omega
  have l12:¬ (12:Int)<(w.length:Int):=by omega
  have q1:mIfS (mOr (zaw (m2 oEq (mCB zgO (zab (mRd 0) mNil)) (mC (.int 0)))) (zaw (m2 oGt (mCB zgO (zab (mRd 0) mNil)) (mC (.int 12))))) (mRet (mC (.bl false))) zbi [.v (.str w)]=.nx [.v (.str w)]:=by
   have l0n:¬ w.length=0:=by omega
   simp[mIfS,mOr,zaw,mCB,zab,mNil,mRd,mC,len,l0n,l12,zbi]
  refine (zaN q1).trans ?_
  have k:zdh [.v (.str w)]=.ok (.lst ((w.cps.toList.map fun c=>!isd c).map .bl)):=by
   refine Eq.trans (zcZ (l:=w.cps.toList.map fun c=>.str ⟨#[c]⟩) (r:=w.cps.toList.map fun c=>.bl (!isd c)) ?_ (by rw[List.length_map];omega) ?_) (by rw[List.map_map];rfl)
   ·show (if w.cps.all (· < 128)=true then R.ok (sgnD w) else .no)=_
    rw[if_pos ha];rfl
   ·refine zbX (fun c:Nat=>D.str ⟨#[c]⟩) (fun c=>.bl (!isd c)) _ fun c hcm=>?_
    have c128:c<128:=by
     have:=Array.all_eq_true.mp ha
     obtain⟨i,hi,e⟩:=List.getElem_of_mem hcm
     have h2:=this i (by simpa using hi)
     have e2:w.cps[i]'(by simpa using hi)=c:=by rw[← e];simp
     rw[e2] at h2
     simpa using h2
    have:=zqn c128
    simp[zeP,zaK,zbh,mRd,mC,oInS,this]
  by_cases hd:w.cps.toList.all isd=true
  ·have an:((w.cps.toList.map fun c=>!isd c).any id)=false:=by
    rw[List.any_map,List.any_eq_false]
    intro c hc
    simp[List.all_eq_true.mp hd c hc]
   have q2:mIfS (zaw (mCB fAny (zab zdh mNil))) (mRet (mC (.bl false))) zbi [.v (.str w)]=.nx [.v (.str w)]:=by
    rw[zbe]
    ·rfl
    ·simp only[zaw,mCB,zab,mNil,k,R.bind_ok,ziv,R.of_some,an,zmc]
   refine (zaN q2).trans ?_
   obtain⟨c0,e0⟩:∃c0,w.cps.toList[0]?=some c0:=⟨w.cps.toList[0]'(by omega),List.getElem?_eq_getElem (by omega)⟩
   have ix:oIxS (.str w) (.int 0)=some (.str ⟨#[c0]⟩):=by
    show ifC _ _ _=_
    rw[za3 (by rw[sizeLine_eq];omega),show atI w.cps.toList 0=some c0 by rw[show (0:Int)=((0:Nat):Int) from rfl];exact PM.atI_nat e0];rfl
   have zc:("0" : Str).cps.toList=[48]:=by decide +kernel
   have iff1:(⟨#[c0]⟩:Str) = "0"↔c0=48:=by
    constructor
    ·intro z
     have:=congrArg (fun s:Str=>s.cps.toList) z
     simp only[zc] at this
     simpa using this
    ·intro z;rw[z];decide +kernel
   have eqw:oEq (.str w) (.str "0")=some (.bl (decide (w = "0"))):=by
    by_cases z:w = "0"
    ·rw[z];rfl
    ·rw[neS z,decide_eq_false z]
   have fin:isnB w=(decide (c0≠48) || decide (w = "0")):=by
    unfold isnB
    rw[decide_eq_true h0,hd,e0]
    simp
   rw[fin]
   by_cases hz:c0=48
   ·subst hz
    have e1:oNe (.str ⟨#[48]⟩) (.str "0")=some (.bl false):=by rw[iff1.mpr rfl];rfl
    simp[mRet,mOrV,mRd,mC,ix,e1,eqw]
   ·have e1:oNe (.str ⟨#[c0]⟩) (.str "0")=some (.bl true):=by
     show (if scal (V.str ⟨#[c0]⟩) (V.str "0")=true then some (D.bl (!decide (V.str ⟨#[c0]⟩=V.str "0"))) else none)=_
     rw[if_pos (show scal (V.str ⟨#[c0]⟩) (V.str "0")=true from rfl),decide_eq_false (fun z=>hz (iff1.mp (V.str.inj z)))];rfl
    simp[mRet,mOrV,mRd,mC,ix,e1,hz]
  ·have hd':w.cps.toList.all isd=false:=by simpa using hd
   have an:((w.cps.toList.map fun c=>!isd c).any id)=true:=by
    rw[List.any_map,List.any_eq_true]
    rw[List.all_eq_false] at hd'
    obtain⟨c,hc,z⟩:=hd'
    exact⟨c,hc,by simpa using z⟩
   have fin:isnB w=false:=by unfold isnB;rw[hd'];simp
   rw[fin]
   refine ze9 ?_
   rw[zcN (by simp only[zaw,mCB,zab,mNil,k,R.bind_ok,ziv,R.of_some,an,zmc])]
   rfl
 ·have fin:isnB w=false:=by unfold isnB;rw[decide_eq_false h0];rfl
  rw[fin]
  refine ze9 ?_
  have tt:mOr (zaw (m2 oEq (mCB zgO (zab (mRd 0) mNil)) (mC (.int 0)))) (zaw (m2 oGt (mCB zgO (zab (mRd 0) mNil)) (mC (.int 12)))) [.v (.str w)]=.ok true:=by
   by_cases z:w.length=0
   ·simp[mOr,zaw,mCB,zab,mNil,mRd,mC,len,z]
   ·have l12:(12:Int)<(w.length:Int):=by omega
    simp[mOr,zaw,mCB,zab,mNil,mRd,mC,len,z,l12]
  rw[zcN tt];rfl
def okW (w:Str):Bool:=w.cps.all (· < 128) && decide (w.length≤20)
theorem zkM {w:Str} (h:okW w=true):zbB [.str w]=.ok (.bl (isnB w)):=by
 unfold okW at h
 rw[Bool.and_eq_true,decide_eq_true_eq] at h
 exact zse h.1 (by omega)
theorem zlR {w:Str} {lo hi line:Int} (hw:okW w=true) (hn:isnB w=false) (hl:0≤line):zaC [.str w,.int lo,.int hi,.int line]=.ex (exL line):=by
 have i:=zkM hw
 rw[hn] at i
 refine za5 (δ:=[.v (.str w),.v (.int lo),.v (.int hi),.v (.int line),.no]) ?_
 show mSeq _ _ [.v (.str w),.v (.int lo),.v (.int hi),.v (.int line),.no]=_
 refine za2 (zdG ?_)
 simp[zaj,zar,zab,mNil,zgn,mVar,i,zd3 hl]
theorem zmn {n lo hi line:Int} (h0:0≤n) (h1:n<1000000000000) (h:n<lo∨hi<n) (hl:0≤line):zaC [.str (dg n),.int lo,.int hi,.int line]=.ex (exL line):=by
 have isn:=zeV (m:=n.toNat) (by omega)
 rw[← dg_i h0] at isn
 have it:=intS h0 (by omega)
 obtain⟨w,ew⟩:∃w,w=dg n:=⟨_,rfl⟩
 rw[← ew] at isn it ⊢
 refine za5 (δ:=[.v (.str w),.v (.int lo),.v (.int hi),.v (.int line),.v (.int n)]) ?_
 show mSeq _ _ [.v (.str w),.v (.int lo),.v (.int hi),.v (.int line),.no]=_
 refine sd (by simp[zaj,zar,zab,mNil,zgn,mVar,isn,zaP]) ?_
 refine sq (d:=.int n) (by simp[mCB,zab,mNil,mRd,it]) rfl ?_
 refine za2 (zdG ?_)
 by_cases t1:n<lo
 ·simp[zaj,zab,mNil,mOrV,mRd,mVar,t1,zd3 hl]
 ·have t2:=h.resolve_left t1
  simp[zaj,zab,mNil,mOrV,mRd,mVar,t1,t2,zd3 hl]
theorem znS {w:Str} {ps:List Str} {line:Int} (hw:w.length≤1000) (hp:Txt.split w "/"=ps) (h2:ps.length≤2) (ho:∀p∈ps,okW p=true) (hn:ps.all isnB=false) (hl:0≤line):zaO [.str w,.int line]=.ex (exL line):=by
 have ls:("/" : Str).length=1:=by decide +kernel
 have len:fLen [.lst (ps.map .str)]=some (.int ps.length):=by simp
 have t2:¬ (2:Int)<(ps.length:Int):=by omega
 have k:∀δ:En,δ[2]?=some (.v (.lst (ps.map .str)))→zb2 δ=.ok (.lst ((ps.map isnB).map .bl)):=fun δ hd=>by
  refine Eq.trans (zcZ (l:=ps.map .str) (r:=ps.map fun p=>.bl (isnB p)) (by simp[mItL,mRd,hd]) (by rw[List.length_map];omega) ?_) (by rw[List.map_map];rfl)
  exact zbX D.str (fun p=>.bl (isnB p)) _ fun p hp=>by simp[zeP,zaK,zbh,zar,zab,mNil,mVar,zkM (ho p hp)]
 have al:((ps.map isnB).all id)=false:=by
  rw[List.all_map]
  exact hn
 refine za5 (δ:=[.v (.str w),.v (.int line),.v (.lst (ps.map .str)),.no,.no]) ?_
 show mSeq _ _ [.v (.str w),.v (.int line),.no,.no,.no]=_
 refine sq (d:=.lst (ps.map .str)) ?_ rfl ?_
 ·show zd0 (.str w) "/"=_
  unfold zd0
  dsimp only
  rw[hp,za3 ⟨by rw[ls];rfl,by rw[sizeLine_eq];omega,by rw[sizeLine_eq];omega⟩]
 show mSeq _ _ [.v (.str w),.v (.int line),.v (.lst (ps.map .str)),.no,.no]=_
 refine sd (by simp[zaj,zab,mNil,mCB,mRd,mC,mVar,len,t2,zaP]) ?_
 refine za2 (zdG ?_)
 have e:mCB fAll (zab zb2 mNil) [.v (.str w),.v (.int line),.v (.lst (ps.map .str)),.no,.no]=.ok (.bl false):=by
  simp only[mCB,zab,mNil,k [.v (.str w),.v (.int line),.v (.lst (ps.map .str)),.no,.no] rfl,R.bind_ok,zk8,R.of_some,al]
 simp[zaj,zab,mNil,zgn,mVar,e,zd3 hl]
theorem zpw {w:Str} {line:Int} (h:zaO [.str w,.int line]=.ex (exL line)):zav [.str w,.int line]=.ex (exL line):=by
 refine za5 (δ:=[.v (.str w),.v (.int line),.no]) ?_
 show mSeq _ _ [.v (.str w),.v (.int line),.no]=_
 refine za2 (zcp ?_)
 simp[zaj,zab,mNil,mVar,h]
theorem zn7 {f:Fr} {line:Int} (ok:AmOk f) (h:f.1=0) (hl:0≤line):zav [.str (wr f),.int line]=.ex (exL line):=by
 have a:=zbg ok line
 have i0:oIxT (encF f) (.int 0)=some (.int f.1):=rfl
 refine za5 (δ:=[.v (.str (wr f)),.v (.int line),.v (encF f)]) ?_
 show mSeq _ _ [.v (.str (wr f)),.v (.int line),.no]=_
 refine sq (d:=encF f) (by simp[zaj,zab,mNil,mVar,a]) rfl ?_
 refine za2 (zdG ?_)
 simp[zaj,zab,mNil,mVar,mRd,mC,i0,h,zd3 hl]
theorem zp5 {ws:List Str} (h:Ln ws):Tx [ws]:=⟨by simp,by simp,fun x hx=>by rw[List.mem_singleton.mp hx];exact h⟩
theorem zoY {X Y:D} (h:zbI [X]=.ok Y):zas [.str "cover",X]=.ok Y:=by
 simp[zas,runF,zbn,za7,mSeq,mIfS,zaw,mRd,mC,eqS,zbi,mRet,zar,zaj,zab,mNil,mVar,h]
theorem zoT {X Y:D} (h:zbH [X]=.ok Y):zas [.str "touch",X]=.ok Y:=by
 simp[zas,runF,zbn,za7,mSeq,mIfS,zaw,mRd,mC,neS (show ("touch" : Str)≠"cover" by decide +kernel),eqS,zbi,mRet,zar,zaj,zab,mNil,mVar,h]
theorem zo0 {X Y:D} (h:zbP [X]=.ok Y):zas [.str "round",X]=.ok Y:=by
 simp[zas,runF,zbn,za7,mSeq,mIfS,zaw,mRd,mC,neS (show ("round" : Str)≠"cover" by decide +kernel),neS (show ("round" : Str)≠"touch" by decide +kernel),eqS,zbi,mRet,zar,zaj,zab,mNil,mVar,h]
theorem znt {X Y:D} (h:zbp [X]=.ok Y):zas [.str "places",X]=.ok Y:=by
 simp[zas,runF,zbn,za7,mSeq,mIfS,zaw,mRd,mC,neS (show ("places" : Str)≠"cover" by decide +kernel),neS (show ("places" : Str)≠"touch" by decide +kernel),neS (show ("places" : Str)≠"round" by decide +kernel),eqS,zbi,mRet,zar,zaj,zab,mNil,mVar,h]
theorem zl6 {X Y:D} (h:zbo [X]=.ok Y):zas [.str "benches",X]=.ok Y:=by
 simp[zas,runF,zbn,za7,mSeq,mIfS,zaw,mRd,mC,neS (show ("benches" : Str)≠"cover" by decide +kernel),neS (show ("benches" : Str)≠"touch" by decide +kernel),neS (show ("benches" : Str)≠"round" by decide +kernel),neS (show ("benches" : Str)≠"places" by decide +kernel),eqS,zbi,mRet,zar,zaj,zab,mNil,mVar,h]
theorem zqo {X Y:D} (h:zb7 [X]=.ok Y):zas [.str "bins",X]=.ok Y:=by
 simp[zas,runF,zbn,za7,mSeq,mIfS,zaw,mRd,mC,neS (show ("bins" : Str)≠"cover" by decide +kernel),neS (show ("bins" : Str)≠"touch" by decide +kernel),neS (show ("bins" : Str)≠"round" by decide +kernel),neS (show ("bins" : Str)≠"places" by decide +kernel),neS (show ("bins" : Str)≠"benches" by decide +kernel),eqS,zbi,mRet,zar,zaj,zab,mNil,mVar,h]
theorem zqE {X Y:D} (h:zbR [X]=.ok Y):zas [.str "sack",X]=.ok Y:=by
 simp[zas,runF,zbn,za7,mSeq,mIfS,zaw,mRd,mC,neS (show ("sack" : Str)≠"cover" by decide +kernel),neS (show ("sack" : Str)≠"touch" by decide +kernel),neS (show ("sack" : Str)≠"round" by decide +kernel),neS (show ("sack" : Str)≠"places" by decide +kernel),neS (show ("sack" : Str)≠"benches" by decide +kernel),neS (show ("sack" : Str)≠"bins" by decide +kernel),eqS,zbi,mRet,zar,zaj,zab,mNil,mVar,h]
theorem zo3 {G:D}:zay [.str "touch",G]=.ok .non:=by
 simp[zay,runF,zbn,zbv,mIfS,mOr,zaw,mRd,mC,neS (show ("touch" : Str)≠"cover" by decide +kernel),neS (show ("touch" : Str)≠"round" by decide +kernel),neS (show ("touch" : Str)≠"places" by decide +kernel),neS (show ("touch" : Str)≠"bins" by decide +kernel),zbi]
theorem zlL {G:D}:zay [.str "benches",G]=.ok .non:=by
 simp[zay,runF,zbn,zbv,mIfS,mOr,zaw,mRd,mC,neS (show ("benches" : Str)≠"cover" by decide +kernel),neS (show ("benches" : Str)≠"round" by decide +kernel),neS (show ("benches" : Str)≠"places" by decide +kernel),neS (show ("benches" : Str)≠"bins" by decide +kernel),zbi]
theorem zq5 {G:D}:zay [.str "sack",G]=.ok .non:=by
 simp[zay,runF,zbn,zbv,mIfS,mOr,zaw,mRd,mC,neS (show ("sack" : Str)≠"cover" by decide +kernel),neS (show ("sack" : Str)≠"round" by decide +kernel),neS (show ("sack" : Str)≠"places" by decide +kernel),neS (show ("sack" : Str)≠"bins" by decide +kernel),zbi]
theorem zoM {a b:D} (h:zbA [a,b]=.ok .non):zay [.str "cover",.tup [a,b]]=.ok .non:=by
 have i0:oIxT (.tup [a,b]) (.int 0)=some a:=rfl
 have i1:oIxT (.tup [a,b]) (.int 1)=some b:=rfl
 simp[zay,runF,zbn,zbv,mIfS,mOr,zaw,mRd,mC,eqS,mDo,zar,zaj,zab,mNil,i0,i1,h]
theorem zo2 {a:D} (h:zdj [a]=.ok .non):zay [.str "round",.tup [a]]=.ok .non:=by
 have i0:oIxT (.tup [a]) (.int 0)=some a:=rfl
 simp[zay,runF,zbn,zbv,mIfS,mOr,zaw,mRd,mC,eqS,neS (show ("round" : Str)≠"cover" by decide +kernel),neS (show ("round" : Str)≠"places" by decide +kernel),neS (show ("round" : Str)≠"bins" by decide +kernel),mDo,zar,zaj,zab,mNil,i0,h]
theorem zoa {a b:D} (h:zdj [a]=.ok .non):zay [.str "places",.tup [a,b]]=.ok .non:=by
 have i0:oIxT (.tup [a,b]) (.int 0)=some a:=rfl
 simp[zay,runF,zbn,zbv,mIfS,mOr,zaw,mRd,mC,eqS,neS (show ("places" : Str)≠"cover" by decide +kernel),neS (show ("places" : Str)≠"round" by decide +kernel),neS (show ("places" : Str)≠"bins" by decide +kernel),mDo,zar,zaj,zab,mNil,i0,h]
theorem zqF {a b:D} (h:zbz [a,b]=.ok .non):zay [.str "bins",.tup [a,b]]=.ok .non:=by
 have i0:oIxT (.tup [a,b]) (.int 0)=some a:=rfl
 have i1:oIxT (.tup [a,b]) (.int 1)=some b:=rfl
 simp[zay,runF,zbn,zbv,mIfS,mOr,zaw,mRd,mC,eqS,neS (show ("bins" : Str)≠"cover" by decide +kernel),neS (show ("bins" : Str)≠"round" by decide +kernel),neS (show ("bins" : Str)≠"places" by decide +kernel),mDo,zar,zaj,zab,mNil,i0,i1,h]
theorem zgZ {fs:List Fr} {m:Int} (ok:∀f∈fs,AmOk f∧f.1≠0) (hl:fs.length≤40) (m0:1≤m) (m1:m≤20):zbo [zaG [("benches" : Str)::dg m::fs.map wr]]=.ok (.tup [.int (un fs),.tup [iL (fs.map (by1 (un fs))),.int m]]):=by
 have ok':∀f∈fs,AmOk f:=fun f hf=>(ok f hf).1
 have up:=(zjT ok').1
 obtain⟨ws,ews⟩:∃ws:List Str,ws=("benches" : Str)::dg m::fs.map wr:=⟨_,rfl⟩
 have wl:ws.length=fs.length+2:=by rw[ews];simp
 have r0:=row0 ws []
 have rl:=zed [ws]
 have w1:oIxL (rowD ws) (.int 1)=some (.str (dg m)):=zdS (k:=1) (by rw[ews];rfl)
 have dr:ws.drop 2=fs.map wr:=by rw[ews];rfl
 rw[← ews]
 obtain⟨Rs,eR⟩:∃Rs,Rs=zaG [ws]:=⟨_,rfl⟩
 rw[← eR] at r0 rl ⊢
 have wc:=zbm (ws:=ws) (lo:=2) (hi:=42) (line:=0) (by omega) (by omega)
 have nb:=zbs (n:=m) (lo:=1) (hi:=20) (line:=0) (by omega) (by omega) m0 m1
 have k:∀δ:En,δ[0]?=some (.v Rs)→zdF δ=.ok (zaE fs):=fun δ hd=>by
  have sl:mSl (m2 oIxL (mRd 0) (mC (.int 0))) (zbq (mC (.int 2))) mNoP δ=_:=zfU (ws:=ws) 2 (by omega) (by simp[mRd,mC,hd,r0])
  rw[dr] at sl
  refine Eq.trans (zem (l:=(fs.map wr).map .str) (r:=fs.map encF) (by simp only[mItL,sl,R.bind_ok];rfl) (by rw[List.length_map,List.length_map];omega) ?_) rfl
  exact zeh fun f hf=>by simp[zdr,zaK,zbh,zar,zaj,zab,mNil,mVar,mC,zdN (ok f hf).1 (ok f hf).2]
 have ab:=zfZ (u:=un fs) ok' up.2 (by omega)
 refine zbL ?_
 show mSeq _ _ [.v Rs,.no,.no,.no]=_
 refine sd (by
  simp[zar,zaj,zab,mNil,mRd,mC,r0,wc]) ?_
 refine sq (d:=.int m) (by simp[zar,zaj,zab,mNil,mRd,mC,r0,w1,nb]) rfl ?_
 try dsimp only[List.set]
 refine sq (d:=zaE fs) (k _ rfl) rfl ?_
 try dsimp only[List.set]
 refine sd (by
  simp[zar,zaj,zab,mNil,mRd,mC,mCB,rl,zaP]) ?_
 refine sq (d:=.int (un fs)) (by simp[zar,zaj,zab,mNil,mVar,zdD ok']) rfl ?_
 try dsimp only[List.set]
 simp[mRet,mTup,zar,zaj,zab,mNil,mVar,ab,sizeLine]
theorem zjr {fs:List Fr} {f0:Fr} (ok:∀f∈f0::fs,AmOk f∧f.1≠0) (hl:fs.length≤40):zb7 [zaG [("bins" : Str)::(f0::fs).map wr]]=.ok (.tup [.int (un (f0::fs)),.tup [iL (fs.map (by1 (un (f0::fs)))),.int (by1 (un (f0::fs)) f0)]]):=by
 have ok':∀f∈f0::fs,AmOk f:=fun f hf=>(ok f hf).1
 have up:=(zjT ok').1
 obtain⟨gs,eg⟩:∃gs,gs=f0::fs:=⟨_,rfl⟩
 have gl:gs.length=fs.length+1:=by rw[eg];simp
 obtain⟨ws,ews⟩:∃ws:List Str,ws=("bins" : Str)::gs.map wr:=⟨_,rfl⟩
 have wl:ws.length=fs.length+2:=by rw[ews];simp[gl]
 have r0:=row0 ws []
 have rl:=zed [ws]
 have dr:ws.drop 1=gs.map wr:=by rw[ews];rfl
 have cut:iL (gs.map (by1 (un gs)))=.lst (.int (by1 (un gs) f0)::(fs.map (by1 (un gs))).map .int):=by rw[eg];rfl
 rw[← eg] at ok ok' up ⊢
 rw[← ews]
 obtain⟨Rs,eR⟩:∃Rs,Rs=zaG [ws]:=⟨_,rfl⟩
 rw[← eR] at r0 rl ⊢
 have wc:=zbm (ws:=ws) (lo:=2) (hi:=42) (line:=0) (by omega) (by omega)
 have k:∀δ:En,δ[0]?=some (.v Rs)→ze5 δ=.ok (zaE gs):=fun δ hd=>by
  have sl:mSl (m2 oIxL (mRd 0) (mC (.int 0))) (zbq (mC (.int 1))) mNoP δ=_:=zfU (ws:=ws) 1 (by omega) (by simp[mRd,mC,hd,r0])
  rw[dr] at sl
  refine Eq.trans (zem (l:=(gs.map wr).map .str) (r:=gs.map encF) (by simp only[mItL,sl,R.bind_ok];rfl) (by rw[List.length_map,List.length_map];omega) ?_) rfl
  exact zeh fun f hf=>by simp[zdr,zaK,zbh,zar,zaj,zab,mNil,mVar,mC,zdN (ok f hf).1 (ok f hf).2]
 have ab:=zfZ (u:=un gs) ok' up.2 (by omega)
 obtain⟨u,eu⟩:∃u,u=un gs:=⟨_,rfl⟩
 have uo:=zdD ok'
 rw[← eu] at ab cut uo ⊢
 rw[cut] at ab
 have sz:iL (fs.map (by1 u))=.lst ((fs.map (by1 u)).map .int):=rfl
 rw[sz]
 obtain⟨x,ex⟩:∃x,x=by1 u f0:=⟨_,rfl⟩
 obtain⟨y,ey⟩:∃y,y=(fs.map (by1 u)).map D.int:=⟨_,rfl⟩
 rw[← ex,← ey] at ab
 rw[← ex,← ey]
 refine zbL ?_
 show mSeq _ _ [.v Rs,.no,.no,.no,.no]=_
 refine sd (by
  simp[zar,zaj,zab,mNil,mRd,mC,r0,wc]) ?_
 refine sq (d:=zaE gs) (k _ rfl) rfl ?_
 try dsimp only[List.set]
 refine sd (by
  simp[zar,zaj,zab,mNil,mRd,mC,mCB,rl,zaP]) ?_
 refine sq (d:=.int u) (by simp[zar,zaj,zab,mNil,mVar,uo]) rfl ?_
 try dsimp only[List.set]
 refine sq (d:=.lst (.int x::y)) (by simp[zar,zaj,zab,mNil,mVar,ab]) rfl ?_
 try dsimp only[List.set]
 refine sx (δ2:=[.v Rs,.v (zaE gs),.v (.int u),.o (.lst y),.v (.int x)]) rfl ?_
 simp[mFrz,mRet,mTup,zab,mNil,mVar,sizeLine]
theorem zke {l:List Int} {r:Int} (h:∀x∈l,x≤r):zbz [iL l,.int r]=.ok .non:=by
 obtain⟨δ,h1,o2,o3,rfl⟩:=zbQ (b:=bTup 2 (zd4 (zax 2) (zd4 (zax 3) bNil))) (m:=zcx) encE (fun _ δ=>∃o2 o3,δ=[.v (iL l),.v (.int r),sv o2,sv o3]) l.zipIdx
  (by
   rintro pre q post δ hall ⟨o2,o3,rfl⟩
   have hk:=(za8 hall).2.1
   have hq:=h q.1 (List.mem_of_getElem? hk)
   refine⟨[.v (iL l),.v (.int r),.v (.int q.2),.v (.int q.1)],[.v (iL l),.v (.int r),.v (.int q.2),.v (.int q.1)],by rcases o2 with _|o2 <;> rcases o3 with _|o3 <;> rfl,.inl ?_,some _,some _,rfl⟩
   unfold zcx
   have t:¬ r<q.1:=by omega
   rw[zbe (by simp[zaw,mRd,t])];rfl)
  [.v (iL l),.v (.int r),.no,.no] ⟨none,none,rfl⟩
 have lp:zdU [.v (iL l),.v (.int r),.no,.no]=_:=(zce (zqD (i:=0) rfl)).trans h1
 exact zkj lp
theorem zqz {i:Nat} {me:En→R D} {δ:En} {l r:List D} (h:δ[i]?=some (.o (.lst l))) (hy:me δ=.ok (.tup r)) (hl:l.length+r.length≤100000):zi4 i me δ=.nx (δ.set i (.o (.lst (l++r)))):=by
 unfold zi4
 rw[h]
 simp only[hy,R.toO_ok]
 rw[za3 (by rw[sizeLine_eq];omega)]
theorem zqk {i:Nat} {me:En→R D} {δ:En} {l r:List D} (h:δ[i]?=some (.o (.lst l))) (hy:me δ=.ok (.lst r)) (hl:l.length+r.length≤100000):zi4 i me δ=.nx (δ.set i (.o (.lst (l++r)))):=by
 unfold zi4
 rw[h]
 simp only[hy,R.toO_ok]
 rw[za3 (by rw[sizeLine_eq];omega)]
theorem rowS {w v:List Str} {T:List (List Str)} {k:Nat} (h:T[k]?=some v):oIxL (zaG (w::T)) (.int ((k:Int)+1))=some (rowD v):=by
 have:=rowN (L:=w::T) (k:=k+1) (w:=v) (by simpa using h)
 simpa using this
abbrev Pr:=Fr×Fr
def encPr (p:Pr):D:=.tup [encF p.1,encF p.2]
def zdn (ps:List Pr):List Fr:=ps.flatMap fun p=>[p.1,p.2]
theorem zn6 (ps:List Pr) (p:Pr):zdn (ps++[p])=zdn ps++[p.1,p.2]:=by simp[zdn]
theorem znq (ps:List Pr):(zdn ps).length=2*ps.length:=by
 induction ps with
 | nil=>rfl
 | cons a l ih=>simp only[zdn,List.flatMap_cons,List.length_append,List.length_cons,List.length_nil] at ih ⊢;omega
def PrOk (p:Pr):Prop:=AmOk p.1∧AmOk p.2∧p.2.1≠0
theorem zpc {ps:List Pr} (ok:∀p∈ps,PrOk p):∀f∈zdn ps,AmOk f:=fun f hf=>by
 obtain⟨p,hp,h⟩:=List.mem_flatMap.mp hf
 rcases List.mem_cons.mp h with e|e
 ·rw[e];exact (ok p hp).1
 ·rw[List.mem_singleton.mp e];exact (ok p hp).2.1
theorem zkp {p:Pr} (ok:PrOk p) (line:Int):zcu [rowD [wr p.1,wr p.2],.int line]=.ok (encPr p):=by
 have wc:=zbm (ws:=[wr p.1,wr p.2]) (lo:=2) (hi:=2) (line:=line) (by simp) (by simp)
 have w0:oIxL (rowD [wr p.1,wr p.2]) (.int 0)=some (.str (wr p.1)):=zdS (k:=0) rfl
 have w1:oIxL (rowD [wr p.1,wr p.2]) (.int 1)=some (.str (wr p.2)):=zdS (k:=1) rfl
 have a:=zbg ok.1 line
 have b:=zdN ok.2.1 ok.2.2 line
 obtain⟨Rs,eR⟩:∃Rs,Rs=rowD [wr p.1,wr p.2]:=⟨_,rfl⟩
 rw[← eR] at wc w0 w1 ⊢
 simp[zcu,runF,zbn,zgw,mSeq,mDo,zar,zaj,zab,mNil,mVar,mC,mRd,wc,w0,w1,a,b,mRet,mTup,sizeLine,encPr]
theorem zj5 {ps:List Pr} {r:Fr} (ok:∀p∈ps,PrOk p) (okr:AmOk r) (hl:ps.length≤40):zbR [zaG ([("sack" : Str),wr r]::ps.map fun p=>[wr p.1,wr p.2])]=.ok (.tup [.int (un (r::zdn ps)),.tup [.int (by1 (un (r::zdn ps)) r),.lst (ps.map fun p=>.tup [.int (by1 (un (r::zdn ps)) p.1),.int (by1 (un (r::zdn ps)) p.2)])]]):=by
 have okf:∀f∈r::zdn ps,AmOk f:=fun f hf=>by
  rcases List.mem_cons.mp hf with e|e
  ·rw[e];exact okr
  ·exact zpc ok f e
 obtain⟨⟨u0,u1⟩,ud⟩:=zjT okf
 have uo:=zdD okf
 obtain⟨L,eL⟩:∃L:List (List Str),L=[("sack" : Str),wr r]::ps.map fun p=>[wr p.1,wr p.2]:=⟨_,rfl⟩
 have ll:L.length=ps.length+1:=by rw[eL];simp
 rw[← eL]
 have r0:oIxL (zaG L) (.int 0)=some (rowD [("sack" : Str),wr r]):=by rw[eL];exact row0 _ _
 have rk:∀q∈ps.zipIdx,ps[q.2]?=some q.1→oIxL (zaG L) (.int ((q.2:Int)+1))=some (rowD [wr q.1.1,wr q.1.2]):=fun q _ h=>by rw[eL];exact rowS (by rw[List.getElem?_map,h];rfl)
 have rl:=zed L
 have w1:oIxL (rowD [("sack" : Str),wr r]) (.int 1)=some (.str (wr r)):=zdS (k:=1) rfl
 have wc:=zbm (ws:=[("sack" : Str),wr r]) (lo:=2) (hi:=2) (line:=0) (by simp) (by simp)
 have ar:=zbg okr 0
 obtain⟨W,eW⟩:∃W,W=rowD [("sack" : Str),wr r]:=⟨_,rfl⟩
 rw[← eW] at r0 w1 wc
 obtain⟨Rs,eR⟩:∃Rs,Rs=zaG L:=⟨_,rfl⟩
 rw[← eR] at r0 rk rl ⊢
 have rn:=rngZ ps (by omega)
 rw[ll] at rl
 obtain⟨u,eu⟩:∃u,u=un (r::zdn ps):=⟨_,rfl⟩
 rw[← eu] at uo u0 u1 ud ⊢
 obtain⟨δ,h1,o4,o5,rfl⟩:=zbQ (b:=zax 4) (m:=zdw) (fun q:Pr×Nat=>.int ((q.2:Int)+1)) (fun pre δ=>∃o4 o5,δ=[.v Rs,.v (encF r),.o (zaE (r::zdn (pre.map (·.1)))),.o (.lst ((pre.map (·.1)).map encPr)),sv o4,sv o5,.no,.no]) ps.zipIdx
  (by
   rintro pre q post δ hall ⟨o4,o5,rfl⟩
   have hk:=(za8 hall).2.1
   have pl:pre.length=q.2:=(za8 hall).1.symm
   have q40:q.2<40:=by have:=(List.getElem?_eq_some_iff.mp hk).1;omega
   have ri:=rk q (by rw[hall];simp) hk
   have okq:=ok q.1 (List.mem_of_getElem? hk)
   have ti:=zkp okq ((q.2:Int)+1)
   obtain⟨V,eV⟩:∃V,V=rowD [wr q.1.1,wr q.1.2]:=⟨_,rfl⟩
   rw[← eV] at ri ti
   have t1:¬ (40:Int)<(q.2:Int)+1:=by omega
   obtain⟨A,eA⟩:∃A:List Pr,A=pre.map (·.1):=⟨_,rfl⟩
   have al:A.length=q.2:=by rw[eA,List.length_map,pl]
   have fl:=znq A
   rw[← eA]
   have bs:zax 4 (.int ((q.2:Int)+1)) [.v Rs,.v (encF r),.o (zaE (r::zdn A)),.o (.lst (A.map encPr)),sv o4,sv o5,.no,.no]=some [.v Rs,.v (encF r),.o (zaE (r::zdn A)),.o (.lst (A.map encPr)),.v (.int ((q.2:Int)+1)),sv o5,.no,.no]:=zaY rfl
   have q1:mDo (zaj zah (zab (m2 oGt (mRd 4) (mC (.int 40))) (zab (mVar 4) mNil))) [.v Rs,.v (encF r),.o (zaE (r::zdn A)),.o (.lst (A.map encPr)),.v (.int ((q.2:Int)+1)),sv o5,.no,.no]=.nx [.v Rs,.v (encF r),.o (zaE (r::zdn A)),.o (.lst (A.map encPr)),.v (.int ((q.2:Int)+1)),sv o5,.no,.no]:=by simp[mDo,zar,zaj,zab,mNil,mRd,mC,mVar,t1,zaP]
   have q2:mAsg (zaj zcu (zab (m2 oIxL (mRd 0) (mRd 4)) (zab (mVar 4) mNil))) (zax 5) [.v Rs,.v (encF r),.o (zaE (r::zdn A)),.o (.lst (A.map encPr)),.v (.int ((q.2:Int)+1)),sv o5,.no,.no]=.nx [.v Rs,.v (encF r),.o (zaE (r::zdn A)),.o (.lst (A.map encPr)),.v (.int ((q.2:Int)+1)),.v (encPr q.1),.no,.no]:=zcY (d:=encPr q.1) (by simp[zar,zaj,zab,mNil,mRd,mVar,ri,ti]) (zaY rfl)
   have q3:zbO 3 (mVar 5) [.v Rs,.v (encF r),.o (zaE (r::zdn A)),.o (.lst (A.map encPr)),.v (.int ((q.2:Int)+1)),.v (encPr q.1),.no,.no]=.nx [.v Rs,.v (encF r),.o (zaE (r::zdn A)),.o (.lst ((A++[q.1]).map encPr)),.v (.int ((q.2:Int)+1)),.v (encPr q.1),.no,.no]:=(zcF (l:=A.map encPr) (d:=encPr q.1) rfl rfl (by rw[List.length_map];omega)).trans (by simp)
   have q4:zi4 2 (mVar 5) [.v Rs,.v (encF r),.o (zaE (r::zdn A)),.o (.lst ((A++[q.1]).map encPr)),.v (.int ((q.2:Int)+1)),.v (encPr q.1),.no,.no]=.nx [.v Rs,.v (encF r),.o (zaE (r::zdn (A++[q.1]))),.o (.lst ((A++[q.1]).map encPr)),.v (.int ((q.2:Int)+1)),.v (encPr q.1),.no,.no]:=(zqz (l:=(r::zdn A).map encF) (r:=[encF q.1.1,encF q.1.2]) rfl rfl (by rw[List.length_map,List.length_cons,fl];simp;omega)).trans (by rw[zn6];simp[zaE])
   refine⟨_,_,bs,.inl ((zaN q1).trans ((zaN q2).trans ((zaN q3).trans q4))),some (.int ((q.2:Int)+1)),some (encPr q.1),?_⟩
   have eA2:(pre++[q]).map (·.1)=A++[q.1]:=by rw[eA];simp
   rw[eA2];rfl)
  [.v Rs,.v (encF r),.o (zaE [r]),.o (.lst []),.no,.no,.no,.no] ⟨none,none,rfl⟩
 have zm:ps.zipIdx.map (·.1)=ps:=List.zipIdx_map_fst 0 ps
 rw[zm] at h1
 refine zbL ?_
 show mSeq _ _ [.v Rs,.no,.no,.no,.no,.no,.no,.no]=_
 refine sd (by
  simp[zar,zaj,zab,mNil,mRd,mC,r0,wc]) ?_
 refine sq (d:=encF r) (by simp[zar,zaj,zab,mNil,mRd,mC,r0,w1,ar]) rfl ?_
 try dsimp only[List.set]
 refine sq (d:=zaE [r]) (by simp[mLst,zab,mNil,mVar,sizeLine,zaE]) rfl ?_
 try dsimp only[List.set]
 refine sq (d:=.lst []) (by simp[mLst,mNil,sizeLine]) rfl ?_
 try dsimp only[List.set]
 refine sx ((zce (l:=ps.zipIdx.map fun q=>.int ((q.2:Int)+1)) (by simp[mRng,zab,mNil,mC,mCB,mRd,rl,rn])).trans h1) ?_
 refine sq (d:=.int u) (by simp[zjo,zab,mNil,mRd,uo,znH]) rfl ?_
 try dsimp only[List.set]
 have k:zgF [.v Rs,.v (encF r),.o (zaE (r::zdn ps)),.o (.lst (ps.map encPr)),sv o4,sv o5,.v (.int u),.no]=.ok (.lst (ps.map fun p=>.tup [.int (by1 u p.1),.int (by1 u p.2)])):=by
  refine zcZ (l:=ps.map encPr) (by simp[mItL,mRd]) (by rw[List.length_map];omega) ?_
  refine zbX encPr (fun p=>.tup [.int (by1 u p.1),.int (by1 u p.2)]) _ fun p hp=>?_
  have e:zaK [.v Rs,.v (encF r),.o (zaE (r::zdn ps)),.o (.lst (ps.map encPr)),sv o4,sv o5,.v (.int u),.no] [6] 2=[.v (.int u),.no,.no]:=rfl
  rw[e]
  simp[zeP,encPr,bTup,zd4,bNil,zbh,mTup,zar,zaj,zab,mNil,mVar,znX (ok p hp).1 u1,znX (ok p hp).2.1 u1,sizeLine]
 refine sq (d:=.lst (ps.map fun p=>.tup [.int (by1 u p.1),.int (by1 u p.2)])) (k) rfl ?_
 try dsimp only[List.set]
 simp[mRet,mTup,zar,zaj,zab,mNil,mVar,znX okr u1,sizeLine]
abbrev Ed:=Int×Int
def encN (l:Ed):D:=.tup [.int l.1,.int l.2]
def zdi (ls:List Ed):D:=.lst (ls.map encN)
structure EdOk (n:Nat) (l:Ed):Prop where
 a0:0≤l.1
 a1:l.1<n
 b0:0≤l.2
 b1:l.2<n
 ne:l.1≠l.2
theorem zh0 {n:Nat} {l:Ed} (hn:n≤100) (ok:EdOk n l) (line:Int):zcX [rowD [dg l.1,dg l.2],.int n,.int line]=.ok (encN l):=by
 have a0:=ok.a0
 have a1:=ok.a1
 have b0:=ok.b0
 have b1:=ok.b1
 have ne:=ok.ne
 have wc:=zbm (ws:=[dg l.1,dg l.2]) (lo:=2) (hi:=2) (line:=line) (by simp) (by simp)
 have w0:oIxL (rowD [dg l.1,dg l.2]) (.int 0)=some (.str (dg l.1)):=zdS (k:=0) rfl
 have w1:oIxL (rowD [dg l.1,dg l.2]) (.int 1)=some (.str (dg l.2)):=zdS (k:=1) rfl
 have n0:=zbs (n:=l.1) (lo:=0) (hi:=(n:Int) - 1) (line:=line) a0 (by omega) a0 (by omega)
 have n1:=zbs (n:=l.2) (lo:=0) (hi:=(n:Int) - 1) (line:=line) b0 (by omega) b0 (by omega)
 obtain⟨Rs,eR⟩:∃Rs,Rs=rowD [dg l.1,dg l.2]:=⟨_,rfl⟩
 rw[← eR] at wc w0 w1 ⊢
 obtain⟨s0,e0⟩:∃s,s=dg l.1:=⟨_,rfl⟩
 obtain⟨s1,e1⟩:∃s,s=dg l.2:=⟨_,rfl⟩
 rw[← e0] at w0 n0
 rw[← e1] at w1 n1
 refine zbL ?_
 show mSeq _ _ [.v Rs,.v (.int n),.v (.int line),.no,.no]=_
 refine sd (by
  simp[zar,zaj,zab,mNil,mRd,mVar,mC,wc]) ?_
 refine sq (d:=.int l.1) (by simp[zar,zaj,zab,mNil,mRd,mVar,mC,w0,n0]) rfl ?_
 try dsimp only[List.set]
 refine sq (d:=.int l.2) (by simp[zar,zaj,zab,mNil,mRd,mVar,mC,w1,n1]) rfl ?_
 try dsimp only[List.set]
 refine sd (by
  simp[zar,zaj,zab,mNil,mRd,mVar,mC,ne,zaP]) ?_
 simp[mRet,mTup,zab,mNil,mVar,sizeLine,encN]
theorem zio {fs:List Fr} {ls:List Ed} (ok:∀f∈fs,AmOk f) (h0:1≤fs.length) (hf:fs.length≤40) (okl:∀l∈ls,EdOk fs.length l) (hl:ls.length≤80):zbH [zaG ((("touch" : Str)::fs.map wr)::ls.map fun l=>[dg l.1,dg l.2])]=.ok (.tup [.int (un fs),.tup [iL (fs.map (by1 (un fs))),zdi ls]]):=by
 have up:=(zjT ok).1
 obtain⟨ws,ews⟩:∃ws:List Str,ws=("touch" : Str)::fs.map wr:=⟨_,rfl⟩
 have wl:ws.length=fs.length+1:=by rw[ews];simp
 have dr:ws.drop 1=fs.map wr:=by rw[ews];rfl
 rw[← ews]
 obtain⟨L,eL⟩:∃L:List (List Str),L=ws::ls.map fun l=>[dg l.1,dg l.2]:=⟨_,rfl⟩
 have ll:L.length=ls.length+1:=by rw[eL];simp
 rw[← eL]
 have r0:oIxL (zaG L) (.int 0)=some (rowD ws):=by rw[eL];exact row0 _ _
 have rk:∀q:Ed×Nat,ls[q.2]?=some q.1→oIxL (zaG L) (.int ((q.2:Int)+1))=some (rowD [dg q.1.1,dg q.1.2]):=fun q h=>by rw[eL];exact rowS (by rw[List.getElem?_map,h];rfl)
 have rl:=zed L
 have wc:=zbm (ws:=ws) (lo:=2) (hi:=41) (line:=0) (by omega) (by omega)
 obtain⟨Rs,eR⟩:∃Rs,Rs=zaG L:=⟨_,rfl⟩
 rw[← eR] at r0 rk rl ⊢
 have rn:=rngZ ls (by omega)
 rw[ll] at rl
 have k:∀δ:En,δ[0]?=some (.v Rs)→zdz δ=.ok (zaE fs):=fun δ hd=>by
  have sl:mSl (m2 oIxL (mRd 0) (mC (.int 0))) (zbq (mC (.int 1))) mNoP δ=_:=zfU (ws:=ws) 1 (by omega) (by simp[mRd,mC,hd,r0])
  rw[dr] at sl
  refine Eq.trans (zem (l:=(fs.map wr).map .str) (r:=fs.map encF) (by simp only[mItL,sl,R.bind_ok];rfl) (by rw[List.length_map,List.length_map];omega) ?_) rfl
  exact zeh fun f hf=>by simp[zdr,zaK,zbh,zar,zaj,zab,mNil,mVar,mC,zbg (ok f hf)]
 have ab:=zfZ (u:=un fs) ok up.2 (by omega)
 have fl:fLen [zaE fs]=some (.int fs.length):=by simp[zaE]
 obtain⟨δ,h1,o3,rfl⟩:=zbQ (b:=zax 3) (m:=zd5) (fun q:Ed×Nat=>.int ((q.2:Int)+1)) (fun pre δ=>∃o3,δ=[.v Rs,.v (zaE fs),.o (zdi (pre.map (·.1))),sv o3,.no]) ls.zipIdx
  (by
   rintro pre q post δ hall ⟨o3,rfl⟩
   have hk:=(za8 hall).2.1
   have pl:pre.length=q.2:=(za8 hall).1.symm
   have q40:q.2<80:=by have:=(List.getElem?_eq_some_iff.mp hk).1;omega
   have ri:=rk q hk
   have okq:=okl q.1 (List.mem_of_getElem? hk)
   have ti:=zh0 (by omega) okq ((q.2:Int)+1)
   obtain⟨V,eV⟩:∃V,V=rowD [dg q.1.1,dg q.1.2]:=⟨_,rfl⟩
   rw[← eV] at ri ti
   have t1:¬ (80:Int)<(q.2:Int)+1:=by omega
   obtain⟨A,eA⟩:∃A:List Ed,A=pre.map (·.1):=⟨_,rfl⟩
   have al:A.length=q.2:=by rw[eA,List.length_map,pl]
   have eA2:(pre++[q]).map (·.1)=A++[q.1]:=by rw[eA];simp
   rw[← eA]
   have bs:zax 3 (.int ((q.2:Int)+1)) [.v Rs,.v (zaE fs),.o (zdi A),sv o3,.no]=some [.v Rs,.v (zaE fs),.o (zdi A),.v (.int ((q.2:Int)+1)),.no]:=zaY rfl
   have q1:mDo (zaj zah (zab (m2 oGt (mRd 3) (mC (.int 80))) (zab (mVar 3) mNil))) [.v Rs,.v (zaE fs),.o (zdi A),.v (.int ((q.2:Int)+1)),.no]=.nx [.v Rs,.v (zaE fs),.o (zdi A),.v (.int ((q.2:Int)+1)),.no]:=by simp[mDo,zar,zaj,zab,mNil,mRd,mC,mVar,t1,zaP]
   have q2:zbO 2 (zaj zcX (zab (m2 oIxL (mRd 0) (mRd 3)) (zab (mCB fLen (zab (mRd 1) mNil)) (zab (mVar 3) mNil)))) [.v Rs,.v (zaE fs),.o (zdi A),.v (.int ((q.2:Int)+1)),.no]=.nx [.v Rs,.v (zaE fs),.o (zdi (A++[q.1])),.v (.int ((q.2:Int)+1)),.no]:=(zcF (l:=A.map encN) (d:=encN q.1) rfl (by simp[zar,zaj,zab,mNil,mRd,mVar,mCB,ri,fl,ti]) (by rw[List.length_map];omega)).trans (by simp[zdi])
   refine⟨_,_,bs,.inl ((zaN q1).trans q2),some (.int ((q.2:Int)+1)),?_⟩
   rw[eA2];rfl)
  [.v Rs,.v (zaE fs),.o (zdi []),.no,.no] ⟨none,rfl⟩
 have zm:ls.zipIdx.map (·.1)=ls:=List.zipIdx_map_fst 0 ls
 rw[zm] at h1
 refine zbL ?_
 show mSeq _ _ [.v Rs,.no,.no,.no,.no]=_
 refine sd (by
  simp[zar,zaj,zab,mNil,mRd,mC,r0,wc]) ?_
 refine sq (d:=zaE fs) (k _ rfl) rfl ?_
 try dsimp only[List.set]
 refine sq (d:=zdi []) (by simp[mLst,mNil,sizeLine,zdi]) rfl ?_
 try dsimp only[List.set]
 refine sx ((zce (l:=ls.zipIdx.map fun q=>.int ((q.2:Int)+1)) (by simp[mRng,zab,mNil,mC,mCB,mRd,rl,rn])).trans h1) ?_
 refine sq (d:=.int (un fs)) (by simp[zar,zaj,zab,mNil,mVar,zdD ok]) rfl ?_
 try dsimp only[List.set]
 simp[mFrz,mRet,mTup,zar,zaj,zab,mNil,mVar,ab,sizeLine]
structure TbOk (n:Nat) (fs:List (List Fr)):Prop where
 n0:1≤n
 n1:n≤12
 len:fs.length=n
 row:∀r∈fs,r.length=n
 am:∀r∈fs,∀f∈r,AmOk f
theorem zqp {n:Nat} {fs:List (List Fr)} (ok:TbOk n fs):∀f∈fs.flatten,AmOk f:=fun f hf=>by
 obtain⟨r,hr,h⟩:=List.mem_flatten.mp hf
 exact ok.am r hr f h
theorem zly:∀ {fs:List (List Fr)} {n:Nat},(∀r∈fs,r.length=n)→fs.flatten.length=fs.length*n
 | [],n,_=>by simp
 | r::fs,n,h=>by
  have h1:=h r (by simp)
  have h2:=zly (fs:=fs) (n:=n) fun x hx=>h x (by simp[hx])
  rw[List.flatten_cons,List.length_append,h1,h2,List.length_cons,Nat.add_mul];omega
def zbU (fs:List (List Fr)):D:=.lst (fs.map zaE)
def tabU (u:Nat) (fs:List (List Fr)):D:=tabD (fs.map fun r=>r.map (by1 u))
theorem zkS {n:Nat} {fs:List (List Fr)} (ok:TbOk n fs) (hd:List Str):zcc [zaG (hd::fs.map fun r=>r.map wr)]=.ok (zbU fs):=by
 have n0:=ok.n0
 have n1:=ok.n1
 have fl:=ok.len
 obtain⟨L,eL⟩:∃L:List (List Str),L=hd::fs.map fun r=>r.map wr:=⟨_,rfl⟩
 have ll:L.length=fs.length+1:=by rw[eL];simp
 rw[← eL]
 have rk:∀q:List Fr×Nat,fs[q.2]?=some q.1→oIxL (zaG L) (.int ((q.2:Int)+1))=some (rowD (q.1.map wr)):=fun q h=>by rw[eL];exact rowS (by rw[List.getElem?_map,h];rfl)
 have rl:=zed L
 rw[ll] at rl
 obtain⟨r1,hr1⟩:∃r,fs[0]?=some r:=⟨_,List.getElem?_eq_getElem (by omega)⟩
 have i1:oIxL (zaG L) (.int 1)=some (rowD (r1.map wr)):=rk (r1,0) hr1
 have c1:fLen [rowD (r1.map wr)]=some (.int n):=by rw[zhs,List.length_map,ok.row r1 (List.mem_of_getElem? hr1)]
 obtain⟨Rs,eR⟩:∃Rs,Rs=zaG L:=⟨_,rfl⟩
 rw[← eR] at rk rl i1 ⊢
 obtain⟨W,eW⟩:∃W,W=rowD (r1.map wr):=⟨_,rfl⟩
 rw[← eW] at i1 c1
 have rn:=rngZ fs (by omega)
 have ne1:¬ (fs.length:Int)+1=1:=by omega
 have t12:¬ (12:Int)<(n:Int):=by omega
 obtain⟨δ,h1,o3,rfl⟩:=zbQ (b:=zax 3) (m:=ze8) (fun q:List Fr×Nat=>.int ((q.2:Int)+1)) (fun pre δ=>∃o3,δ=[.v Rs,.v (.int n),.o (zbU (pre.map (·.1))),sv o3]) fs.zipIdx
  (by
   rintro pre q post δ hall ⟨o3,rfl⟩
   have hk:=(za8 hall).2.1
   have pl:pre.length=q.2:=(za8 hall).1.symm
   have qn:q.2<n:=by have:=(List.getElem?_eq_some_iff.mp hk).1;omega
   have ri:=rk q hk
   have okq:=ok.am q.1 (List.mem_of_getElem? hk)
   have ql:=ok.row q.1 (List.mem_of_getElem? hk)
   have lw:fLen [rowD (q.1.map wr)]=some (.int n):=by rw[zhs,List.length_map,ql]
   have t1:¬ (n:Int)<(q.2:Int)+1:=by omega
   obtain⟨V,eV⟩:∃V,V=rowD (q.1.map wr):=⟨_,rfl⟩
   rw[← eV] at ri lw
   obtain⟨A,eA⟩:∃A:List (List Fr),A=pre.map (·.1):=⟨_,rfl⟩
   have al:A.length=q.2:=by rw[eA,List.length_map,pl]
   have eA2:(pre++[q]).map (·.1)=A++[q.1]:=by rw[eA];simp
   rw[← eA]
   have bs:zax 3 (.int ((q.2:Int)+1)) [.v Rs,.v (.int n),.o (zbU A),sv o3]=some [.v Rs,.v (.int n),.o (zbU A),.v (.int ((q.2:Int)+1))]:=zaY rfl
   have k:zdV [.v Rs,.v (.int n),.o (zbU A),.v (.int ((q.2:Int)+1))]=.ok (zaE q.1):=by
    refine zem (l:=(q.1.map wr).map .str) (by simp only[mItL,zcA,mRd,List.getElem?_cons_succ,List.getElem?_cons_zero,R.bind_ok,ri,R.of_some];rw[eV];rfl) (by rw[List.length_map,List.length_map];omega) ?_
    refine zeh fun f hf=>?_
    have e:zaK [.v Rs,.v (.int n),.o (zbU A),.v (.int ((q.2:Int)+1))] [3] 1=[.v (.int ((q.2:Int)+1)),.no]:=rfl
    rw[e]
    simp[zdr,zbh,zar,zaj,zab,mNil,mVar,zbg (okq f hf)]
   have q1:mDo (zaj zah (zab (mOrV (m2 oGt (mRd 3) (mRd 1)) (m2 oNe (mCB fLen (zab (m2 oIxL (mRd 0) (mRd 3)) mNil)) (mRd 1))) (zab (mVar 3) mNil))) [.v Rs,.v (.int n),.o (zbU A),.v (.int ((q.2:Int)+1))]=.nx [.v Rs,.v (.int n),.o (zbU A),.v (.int ((q.2:Int)+1))]:=by simp[mDo,zar,zaj,zab,mNil,mOrV,mRd,mC,mCB,mVar,ri,lw,t1,zaP]
   have q2:zbO 2 zdV [.v Rs,.v (.int n),.o (zbU A),.v (.int ((q.2:Int)+1))]=.nx [.v Rs,.v (.int n),.o (zbU (A++[q.1])),.v (.int ((q.2:Int)+1))]:=(zcF (l:=A.map zaE) (d:=zaE q.1) rfl k (by rw[List.length_map];omega)).trans (by simp[zbU])
   refine⟨_,_,bs,.inl ((zaN q1).trans q2),some (.int ((q.2:Int)+1)),?_⟩
   rw[eA2];rfl)
  [.v Rs,.v (.int n),.o (zbU []),.no] ⟨none,rfl⟩
 have zm:fs.zipIdx.map (·.1)=fs:=List.zipIdx_map_fst 0 fs
 rw[zm] at h1
 have lT:fLen [zbU fs]=some (.int n):=by rw[← fl];simp[zbU]
 refine zda ?_
 show mSeq _ _ [.v Rs,.no,.no,.no]=_
 refine sd (by
  have tt:m2 oEq (mCB fLen (zab (mRd 0) mNil)) (mC (.int 1)) [.v Rs,.no,.no,.no]=.ok (.bl false):=by
   simp only[zcA,mCB,zab,mNil,mRd,mC,List.getElem?_cons_zero,R.bind_ok,rl,R.of_some,zsC]
   rw[decide_eq_false (by omega)]
  simp only[mDo,zar,zaj,zab,mNil,tt,mC,R.bind_ok,zaP]) ?_
 refine sq (d:=.int n) (by simp[mCB,zab,mNil,mRd,mC,i1,c1]) rfl ?_
 try dsimp only[List.set]
 refine sd (by
  simp[zar,zaj,zab,mNil,mRd,mC,t12,zaP]) ?_
 refine sq (d:=zbU []) (by simp[mLst,mNil,sizeLine,zbU]) rfl ?_
 try dsimp only[List.set]
 refine sx ((zce (l:=fs.zipIdx.map fun q=>.int ((q.2:Int)+1)) (by simp[mRng,zab,mNil,mC,mCB,mRd,rl,rn])).trans h1) ?_
 refine sd (by
  simp[zar,zaj,zab,mNil,mRd,mCB,lT,rl,zaP]) ?_
 rfl
theorem zdP {n:Nat} {fs:List (List Fr)} (ok:TbOk n fs) (hd:List Str):zbG [zaG (hd::fs.map fun r=>r.map wr)]=.ok (.tup [.int (un fs.flatten),tabU (un fs.flatten) fs]):=by
 have n1:=ok.n1
 have fl:=ok.len
 have ti:=zkS ok hd
 have okf:=zqp ok
 have up:=(zjT okf).1
 have uo:=zdD okf
 obtain⟨Rs,eR⟩:∃Rs,Rs=zaG (hd::fs.map fun r=>r.map wr):=⟨_,rfl⟩
 rw[← eR] at ti ⊢
 obtain⟨u,eu⟩:∃u,u=un fs.flatten:=⟨_,rfl⟩
 rw[← eu] at uo up ⊢
 obtain⟨δ,h1,o3,rfl⟩:=zbQ (b:=zax 3) (m:=zeH) zaE (fun pre δ=>∃o3,δ=[.v Rs,.v (zbU fs),.o (zaE pre.flatten),sv o3,.no]) fs
  (by
   rintro pre r post δ hall ⟨o3,rfl⟩
   have rl:=ok.row r (by rw[hall];simp)
   have pl:pre.length≤12:=by have:=congrArg List.length hall;simp at this;omega
   have fl:=zly (fs:=pre) (n:=n) fun x hx=>ok.row x (by rw[hall];exact List.mem_append_left _ hx)
   have fb:pre.flatten.length≤144:=by rw[fl];exact Nat.le_trans (Nat.mul_le_mul pl n1) (by decide)
   refine⟨[.v Rs,.v (zbU fs),.o (zaE pre.flatten),.v (zaE r),.no],[.v Rs,.v (zbU fs),.o (zaE (pre++[r]).flatten),.v (zaE r),.no],zaY rfl,.inl ((zqk (l:=pre.flatten.map encF) (r:=r.map encF) rfl rfl (by rw[List.length_map,List.length_map];omega)).trans ?_),some (zaE r),rfl⟩
   simp[zaE])
  [.v Rs,.v (zbU fs),.o (zaE []),.no,.no] ⟨none,rfl⟩
 refine zbL ?_
 show mSeq _ _ [.v Rs,.no,.no,.no,.no]=_
 refine sq (d:=zbU fs) (by simp[zar,zaj,zab,mNil,mVar,ti]) rfl ?_
 try dsimp only[List.set]
 refine sq (d:=zaE []) (by simp[mLst,mNil,sizeLine,zaE]) rfl ?_
 try dsimp only[List.set]
 refine sx ((zce (by simp[mItL,mVar,zbU])).trans h1) ?_
 refine sq (d:=.int u) (by simp[zjo,zab,mNil,mRd,uo,znH]) rfl ?_
 try dsimp only[List.set]
 have k:ze0 [.v Rs,.v (zbU fs),.o (zaE fs.flatten),sv o3,.v (.int u)]=.ok (tabU u fs):=by
  refine Eq.trans (zcZ (l:=fs.map zaE) (r:=fs.map fun r=>iL (r.map (by1 u))) (by simp[mItL,mRd,zbU]) (by rw[List.length_map];omega) ?_) (by simp[tabU,tabD])
  refine zbX zaE (fun r=>iL (r.map (by1 u))) _ fun r hr=>?_
  have e:zaK [.v Rs,.v (zbU fs),.o (zaE fs.flatten),sv o3,.v (.int u)] [4] 1=[.v (.int u),.no]:=rfl
  rw[e]
  have:=ok.row r hr
  simp[zeP,zbh,zar,zaj,zab,mNil,mVar,zfZ (ok.am r hr) up.2 (by omega)]
 simp[mRet,mTup,zab,mNil,mVar,k,sizeLine]
theorem ziR {n:Nat} {fs:List (List Fr)} (ok:TbOk n fs):zbP [zaG ([("round" : Str)]::fs.map fun r=>r.map wr)]=.ok (.tup [.int (un fs.flatten),.tup [tabU (un fs.flatten) fs]]):=by
 have rl:=zdP ok [("round" : Str)]
 have r0:=row0 [("round" : Str)] (fs.map fun r=>r.map wr)
 have wc:=zbm (ws:=[("round" : Str)]) (lo:=1) (hi:=1) (line:=0) (by simp) (by simp)
 obtain⟨W,eW⟩:∃W,W=rowD [("round" : Str)]:=⟨_,rfl⟩
 obtain⟨Rs,eR⟩:∃Rs,Rs=zaG ([("round" : Str)]::fs.map fun r=>r.map wr):=⟨_,rfl⟩
 rw[← eR] at rl r0 ⊢
 rw[← eW] at r0 wc
 obtain⟨T,eT⟩:∃T,T=tabU (un fs.flatten) fs:=⟨_,rfl⟩
 rw[← eT] at rl ⊢
 obtain⟨u,eu⟩:∃u,u=un fs.flatten:=⟨_,rfl⟩
 rw[← eu] at rl ⊢
 have i0:oIxT (.tup [.int u,T]) (.int 0)=some (.int u):=rfl
 have i1:oIxT (.tup [.int u,T]) (.int 1)=some T:=rfl
 refine zbL ?_
 show mSeq _ _ [.v Rs,.no]=_
 refine sd (by
  simp[zar,zaj,zab,mNil,mRd,mC,r0,wc]) ?_
 refine sq (d:=.tup [.int u,T]) (by simp[zar,zaj,zab,mNil,mVar,rl]) rfl ?_
 try dsimp only[List.set]
 simp[mRet,mTup,zab,mNil,mRd,mC,i0,i1,sizeLine]
theorem zhU {n:Nat} {m:Int} {fs:List (List Fr)} (ok:TbOk n fs) (m0:1≤m) (m1:m≤n):zbp [zaG ([("places" : Str),dg m]::fs.map fun r=>r.map wr)]=.ok (.tup [.int (un fs.flatten),.tup [tabU (un fs.flatten) fs,.int m]]):=by
 have n1:=ok.n1
 have rl:=zdP ok [("places" : Str),dg m]
 have r0:=row0 [("places" : Str),dg m] (fs.map fun r=>r.map wr)
 have w1:oIxL (rowD [("places" : Str),dg m]) (.int 1)=some (.str (dg m)):=zdS (k:=1) rfl
 have wc:=zbm (ws:=[("places" : Str),dg m]) (lo:=2) (hi:=2) (line:=0) (by simp) (by simp)
 have nb:=zbs (n:=m) (lo:=1) (hi:=12) (line:=0) (by omega) (by omega) m0 (by omega)
 obtain⟨W,eW⟩:∃W,W=rowD [("places" : Str),dg m]:=⟨_,rfl⟩
 obtain⟨Rs,eR⟩:∃Rs,Rs=zaG ([("places" : Str),dg m]::fs.map fun r=>r.map wr):=⟨_,rfl⟩
 rw[← eR] at rl r0 ⊢
 rw[← eW] at r0 wc w1
 have lT:fLen [tabU (un fs.flatten) fs]=some (.int n):=by rw[← ok.len];simp[tabU,tabD]
 obtain⟨T,eT⟩:∃T,T=tabU (un fs.flatten) fs:=⟨_,rfl⟩
 rw[← eT] at rl lT ⊢
 obtain⟨u,eu⟩:∃u,u=un fs.flatten:=⟨_,rfl⟩
 rw[← eu] at rl ⊢
 have i0:oIxT (.tup [.int u,T]) (.int 0)=some (.int u):=rfl
 have i1:oIxT (.tup [.int u,T]) (.int 1)=some T:=rfl
 have t1:¬ (n:Int)<m:=by omega
 refine zbL ?_
 show mSeq _ _ [.v Rs,.no,.no]=_
 refine sd (by
  simp[zar,zaj,zab,mNil,mRd,mC,r0,wc]) ?_
 refine sq (d:=.int m) (by simp[zar,zaj,zab,mNil,mRd,mC,r0,w1,nb]) rfl ?_
 try dsimp only[List.set]
 refine sq (d:=.tup [.int u,T]) (by simp[zar,zaj,zab,mNil,mVar,rl]) rfl ?_
 try dsimp only[List.set]
 refine sd (by
  simp[zar,zaj,zab,mNil,mRd,mC,mCB,i1,lT,t1,zaP]) ?_
 simp[mRet,mTup,zab,mNil,mRd,mVar,mC,i0,i1,sizeLine]
theorem zjA {n:Nat} {f:Fr} {ts:List Int} (ok:AmOk f) (hn:n≤40) (nd:ts.Nodup) (hm:∀t∈ts,0≤t∧t<(n:Int)) (line:Int):zcV [rowD (wr f::ts.map dg),.int n,.int line]=.ok (.tup [encF f,iL ts]):=by
 have a:=zbg ok line
 have w0:oIxL (rowD (wr f::ts.map dg)) (.int 0)=some (.str (wr f)):=zdS (k:=0) rfl
 have sl:∀δ:En,δ[0]?=some (.v (rowD (wr f::ts.map dg)))→mSl (mRd 0) (zbq (mC (.int 1))) mNoP δ=.ok (.lst ((ts.map dg).map .str)):=fun δ h=>zfU (ws:=wr f::ts.map dg) 1 (by simp) (by simp[mRd,h])
 obtain⟨Rs,eR⟩:∃Rs,Rs=rowD (wr f::ts.map dg):=⟨_,rfl⟩
 rw[← eR] at w0 sl ⊢
 have tl:ts.length≤n:=by
  have h:=List.Nodup.length_le_of_subset (l₂:=upt n) nd (fun t ht=>mem_upt.mpr (hm t ht))
  rwa [zfK] at h
 obtain⟨δ,h1,o5,o6,rfl⟩:=zbQ (b:=zax 5) (m:=zgm) (fun t=>D.str (dg t)) (fun pre δ=>∃o5 o6,δ=[.v Rs,.v (.int n),.v (.int line),.v (encF f),.o (iL pre),sv o5,sv o6]) ts
  (by
   rintro pre t post δ hall ⟨o5,o6,rfl⟩
   have ht:=hm t (by rw[hall];simp)
   have nt:t∉pre:=by
    rw[hall] at nd
    intro z
    exact (List.nodup_append.mp nd).2.2 t z t (by simp) rfl
   have pl:pre.length≤40:=by have:=congrArg List.length hall;simp at this;omega
   have nb:=zbs (n:=t) (lo:=0) (hi:=(n:Int) - 1) (line:=line) ht.1 (by omega) ht.1 (by omega)
   have ni:oIn (.int t) (iL pre)=some (.bl false):=by simp[oIn,iL,zlj,nt]
   have q1:mAsg (zaj zaC (zab (mVar 5) (zab (mC (.int 0)) (zab (m2 oSub (mRd 1) (mC (.int 1))) (zab (mVar 2) mNil))))) (zax 6) [.v Rs,.v (.int n),.v (.int line),.v (encF f),.o (iL pre),.v (.str (dg t)),sv o6]=.nx [.v Rs,.v (.int n),.v (.int line),.v (encF f),.o (iL pre),.v (.str (dg t)),.v (.int t)]:=zcY (d:=.int t) (by simp[zar,zaj,zab,mNil,mVar,mRd,mC,nb]) (zaY rfl)
   have q2:mDo (zaj zah (zab (m2 oIn (mRd 6) (mRd 4)) (zab (mVar 2) mNil))) [.v Rs,.v (.int n),.v (.int line),.v (encF f),.o (iL pre),.v (.str (dg t)),.v (.int t)]=.nx [.v Rs,.v (.int n),.v (.int line),.v (encF f),.o (iL pre),.v (.str (dg t)),.v (.int t)]:=by simp[mDo,zar,zaj,zab,mNil,mRd,mVar,ni,zaP]
   have q3:zbO 4 (mVar 6) [.v Rs,.v (.int n),.v (.int line),.v (encF f),.o (iL pre),.v (.str (dg t)),.v (.int t)]=.nx [.v Rs,.v (.int n),.v (.int line),.v (encF f),.o (iL (pre++[t])),.v (.str (dg t)),.v (.int t)]:=zia rfl rfl (by omega)
   exact⟨_,_,zaY rfl,.inl ((zaN q1).trans ((zaN q2).trans q3)),some (.str (dg t)),some (.int t),rfl⟩)
  [.v Rs,.v (.int n),.v (.int line),.v (encF f),.o (iL []),.no,.no] ⟨none,none,rfl⟩
 refine zbL ?_
 show mSeq _ _ [.v Rs,.v (.int n),.v (.int line),.no,.no,.no,.no]=_
 refine sq (d:=encF f) (by simp[zar,zaj,zab,mNil,mVar,mRd,mC,w0,a]) rfl ?_
 try dsimp only[List.set]
 refine sq (d:=iL []) (by simp[mLst,mNil,sizeLine,iL]) rfl ?_
 try dsimp only[List.set]
 refine sx ((zce (l:=ts.map fun t=>.str (dg t)) (by simp only[mItL,sl [.v Rs,.v (.int n),.v (.int line),.v (encF f),.o (iL []),.no,.no] rfl,R.bind_ok];rw[List.map_map];rfl)).trans h1) ?_
 simp[mFrz,mRet,mTup,zab,mNil,mVar,sizeLine]
abbrev Zs:=Fr×Ps
structure ZsOk (n:Nat) (z:Zs):Prop where
 am:AmOk z.1
 nd:z.2.2.Nodup
 mem:∀t∈z.2.2,0≤t∧t<(n:Int)
def encZ (z:Zs):D:=.tup [encF z.1,iL z.2.2]
def wsZ (z:Zs):List Str:=wr z.1::z.2.2.map dg
def byZ (u:Nat) (z:Zs):Ps:=(by1 u z.1,z.2.2)
theorem zi8 {n:Nat} {zs:List Zs} (n0:1≤n) (hn:n≤40) (ok:∀z∈zs,ZsOk n z) (hl:zs.length≤40):zbI [zaG ([("cover" : Str),dg n]::zs.map wsZ)]=.ok (.tup [.int (un (zs.map (·.1))),.tup [.int n,encP (zs.map (byZ (un (zs.map (·.1)))))]]):=by
 have okf:∀f∈zs.map (·.1),AmOk f:=fun f hf=>by
  obtain⟨z,hz,rfl⟩:=List.mem_map.mp hf
  exact (ok z hz).am
 have up:=(zjT okf).1
 have uo:=zdD okf
 have r0:=row0 [("cover" : Str),dg n] (zs.map wsZ)
 have rk:∀q:Zs×Nat,zs[q.2]?=some q.1→oIxL (zaG ([("cover" : Str),dg n]::zs.map wsZ)) (.int ((q.2:Int)+1))=some (rowD (wsZ q.1)):=fun q h=>rowS (by rw[List.getElem?_map,h];rfl)
 have rl:=zed ([("cover" : Str),dg n]::zs.map wsZ)
 rw[List.length_cons,List.length_map] at rl
 have w1:oIxL (rowD [("cover" : Str),dg n]) (.int 1)=some (.str (dg n)):=zdS (k:=1) rfl
 have wc:=zbm (ws:=[("cover" : Str),dg n]) (lo:=2) (hi:=2) (line:=0) (by simp) (by simp)
 have nb:=zbs (n:=(n:Int)) (lo:=1) (hi:=40) (line:=0) (by omega) (by omega) (by omega) (by omega)
 obtain⟨W,eW⟩:∃W,W=rowD [("cover" : Str),dg n]:=⟨_,rfl⟩
 obtain⟨Rs,eR⟩:∃Rs,Rs=zaG ([("cover" : Str),dg n]::zs.map wsZ):=⟨_,rfl⟩
 rw[← eR] at r0 rk rl ⊢
 rw[← eW] at r0 w1 wc
 have rn:=rngZ zs (by omega)
 obtain⟨u,eu⟩:∃u,u=un (zs.map (·.1)):=⟨_,rfl⟩
 rw[← eu] at uo up ⊢
 obtain⟨δ,h1,o3,rfl⟩:=zbQ (b:=zax 3) (m:=zd6) (fun q:Zs×Nat=>.int ((q.2:Int)+1)) (fun pre δ=>∃o3,δ=[.v Rs,.v (.int n),.o (.lst ((pre.map (·.1)).map encZ)),sv o3,.no]) zs.zipIdx
  (by
   rintro pre q post δ hall ⟨o3,rfl⟩
   have hk:=(za8 hall).2.1
   have pl:pre.length=q.2:=(za8 hall).1.symm
   have q40:q.2<40:=by have:=(List.getElem?_eq_some_iff.mp hk).1;omega
   have ri:=rk q hk
   have okq:=ok q.1 (List.mem_of_getElem? hk)
   have si:zcV [rowD (wsZ q.1),.int n,.int ((q.2:Int)+1)]=.ok (encZ q.1):=zjA okq.am hn okq.nd okq.mem _
   obtain⟨V,eV⟩:∃V,V=rowD (wsZ q.1):=⟨_,rfl⟩
   rw[← eV] at ri si
   have t1:¬ (40:Int)<(q.2:Int)+1:=by omega
   obtain⟨A,eA⟩:∃A:List Zs,A=pre.map (·.1):=⟨_,rfl⟩
   have al:A.length=q.2:=by rw[eA,List.length_map,pl]
   have eA2:(pre++[q]).map (·.1)=A++[q.1]:=by rw[eA];simp
   rw[← eA]
   have bs:zax 3 (.int ((q.2:Int)+1)) [.v Rs,.v (.int n),.o (.lst (A.map encZ)),sv o3,.no]=some [.v Rs,.v (.int n),.o (.lst (A.map encZ)),.v (.int ((q.2:Int)+1)),.no]:=zaY rfl
   have q1:mDo (zaj zah (zab (m2 oGt (mRd 3) (mC (.int 40))) (zab (mVar 3) mNil))) [.v Rs,.v (.int n),.o (.lst (A.map encZ)),.v (.int ((q.2:Int)+1)),.no]=.nx [.v Rs,.v (.int n),.o (.lst (A.map encZ)),.v (.int ((q.2:Int)+1)),.no]:=by simp[mDo,zar,zaj,zab,mNil,mRd,mC,mVar,t1,zaP]
   have q2:zbO 2 (zaj zcV (zab (m2 oIxL (mRd 0) (mRd 3)) (zab (mVar 1) (zab (mVar 3) mNil)))) [.v Rs,.v (.int n),.o (.lst (A.map encZ)),.v (.int ((q.2:Int)+1)),.no]=.nx [.v Rs,.v (.int n),.o (.lst ((A++[q.1]).map encZ)),.v (.int ((q.2:Int)+1)),.no]:=(zcF (l:=A.map encZ) (d:=encZ q.1) rfl (by simp[zar,zaj,zab,mNil,mRd,mVar,ri,si]) (by rw[List.length_map];omega)).trans (by simp)
   refine⟨_,_,bs,.inl ((zaN q1).trans q2),some (.int ((q.2:Int)+1)),?_⟩
   rw[eA2];rfl)
  [.v Rs,.v (.int n),.o (.lst []),.no,.no] ⟨none,rfl⟩
 have zm:zs.zipIdx.map (·.1)=zs:=List.zipIdx_map_fst 0 zs
 rw[zm] at h1
 refine zbL ?_
 show mSeq _ _ [.v Rs,.no,.no,.no,.no]=_
 refine sd (by
  simp[zar,zaj,zab,mNil,mRd,mC,r0,wc]) ?_
 refine sq (d:=.int n) (by simp[zar,zaj,zab,mNil,mRd,mC,r0,w1,nb]) rfl ?_
 try dsimp only[List.set]
 refine sq (d:=.lst []) (by simp[mLst,mNil,sizeLine]) rfl ?_
 try dsimp only[List.set]
 refine sx ((zce (l:=zs.zipIdx.map fun q=>.int ((q.2:Int)+1)) (by simp[mRng,zab,mNil,mC,mCB,mRd,rl,rn])).trans h1) ?_
 have k1:zf5 [.v Rs,.v (.int n),.o (.lst (zs.map encZ)),sv o3,.no]=.ok (zaE (zs.map (·.1))):=by
  refine Eq.trans (zcZ (l:=zs.map encZ) (r:=zs.map fun z=>encF z.1) (by simp[mItL,mRd]) (by rw[List.length_map];omega) ?_) (by simp[zaE])
  refine zbX encZ (fun z=>encF z.1) _ fun z hz=>?_
  simp[zeP,zaK,encZ,bTup,zd4,bNil,zbh,mVar]
 refine sq (d:=.int u) (by simp only[zar,zaj,zab,mNil,k1,R.bind_ok,uo];rfl) rfl ?_
 try dsimp only[List.set]
 have k2:zf6 [.v Rs,.v (.int n),.o (.lst (zs.map encZ)),sv o3,.v (.int u)]=.ok (encP (zs.map (byZ u))):=by
  refine Eq.trans (zcZ (l:=zs.map encZ) (r:=zs.map fun z=>encS (byZ u z)) (by simp[mItL,mRd]) (by rw[List.length_map];omega) ?_) (by simp[encP])
  refine zbX encZ (fun z=>encS (byZ u z)) _ fun z hz=>?_
  have e:zaK [.v Rs,.v (.int n),.o (.lst (zs.map encZ)),sv o3,.v (.int u)] [4] 2=[.v (.int u),.no,.no]:=rfl
  rw[e]
  simp[zeP,encZ,bTup,zd4,bNil,zbh,mTup,zar,zaj,zab,mNil,mVar,znX (ok z hz).am up.2,sizeLine,encS,byZ]
 simp[mRet,mTup,zab,mNil,mVar,k2,sizeLine]
theorem zfX {w:List Str} {T:List (List Str)} (h:(w.length:Int)<2∨2<(w.length:Int)):zbI [zaG (w::T)]=.ex (exL 0):=by
 have r0:=row0 w T
 have c:=zew (line:=0) (by decide) h
 obtain⟨Rs,eR⟩:∃Rs,Rs=zaG (w::T):=⟨_,rfl⟩
 rw[← eR] at r0 ⊢
 refine za5 (δ:=[.v Rs,.no,.no,.no,.no]) ?_
 show mSeq _ _ [.v Rs,.no,.no,.no,.no]=_
 refine za2 (zdG ?_)
 simp[zaj,zab,mNil,mRd,mC,r0,c]
theorem znn {w:List Str} {T:List (List Str)} (h:(w.length:Int)<2∨41<(w.length:Int)):zbH [zaG (w::T)]=.ex (exL 0):=by
 have r0:=row0 w T
 have c:=zew (line:=0) (by decide) h
 obtain⟨Rs,eR⟩:∃Rs,Rs=zaG (w::T):=⟨_,rfl⟩
 rw[← eR] at r0 ⊢
 refine za5 (δ:=[.v Rs,.no,.no,.no,.no]) ?_
 show mSeq _ _ [.v Rs,.no,.no,.no,.no]=_
 refine za2 (zdG ?_)
 simp[zaj,zab,mNil,mRd,mC,r0,c]
theorem zja {w:List Str} {T:List (List Str)} (h:(w.length:Int)<1∨1<(w.length:Int)):zbP [zaG (w::T)]=.ex (exL 0):=by
 have r0:=row0 w T
 have c:=zew (line:=0) (by decide) h
 obtain⟨Rs,eR⟩:∃Rs,Rs=zaG (w::T):=⟨_,rfl⟩
 rw[← eR] at r0 ⊢
 refine za5 (δ:=[.v Rs,.no]) ?_
 show mSeq _ _ [.v Rs,.no]=_
 refine za2 (zdG ?_)
 simp[zaj,zab,mNil,mRd,mC,r0,c]
theorem zfe {w:List Str} {T:List (List Str)} (h:(w.length:Int)<2∨2<(w.length:Int)):zbp [zaG (w::T)]=.ex (exL 0):=by
 have r0:=row0 w T
 have c:=zew (line:=0) (by decide) h
 obtain⟨Rs,eR⟩:∃Rs,Rs=zaG (w::T):=⟨_,rfl⟩
 rw[← eR] at r0 ⊢
 refine za5 (δ:=[.v Rs,.no,.no]) ?_
 show mSeq _ _ [.v Rs,.no,.no]=_
 refine za2 (zdG ?_)
 simp[zaj,zab,mNil,mRd,mC,r0,c]
theorem zkY {w:List Str} {T:List (List Str)} (h:(w.length:Int)<2∨42<(w.length:Int)):zbo [zaG (w::T)]=.ex (exL 0):=by
 have r0:=row0 w T
 have c:=zew (line:=0) (by decide) h
 obtain⟨Rs,eR⟩:∃Rs,Rs=zaG (w::T):=⟨_,rfl⟩
 rw[← eR] at r0 ⊢
 refine za5 (δ:=[.v Rs,.no,.no,.no]) ?_
 show mSeq _ _ [.v Rs,.no,.no,.no]=_
 refine za2 (zdG ?_)
 simp[zaj,zab,mNil,mRd,mC,r0,c]
theorem zpa {w:List Str} {T:List (List Str)} (h:(w.length:Int)<2∨42<(w.length:Int)):zb7 [zaG (w::T)]=.ex (exL 0):=by
 have r0:=row0 w T
 have c:=zew (line:=0) (by decide) h
 obtain⟨Rs,eR⟩:∃Rs,Rs=zaG (w::T):=⟨_,rfl⟩
 rw[← eR] at r0 ⊢
 refine za5 (δ:=[.v Rs,.no,.no,.no,.no]) ?_
 show mSeq _ _ [.v Rs,.no,.no,.no,.no]=_
 refine za2 (zdG ?_)
 simp[zaj,zab,mNil,mRd,mC,r0,c]
theorem zgS {w:List Str} {T:List (List Str)} (h:(w.length:Int)<2∨2<(w.length:Int)):zbR [zaG (w::T)]=.ex (exL 0):=by
 have r0:=row0 w T
 have c:=zew (line:=0) (by decide) h
 obtain⟨Rs,eR⟩:∃Rs,Rs=zaG (w::T):=⟨_,rfl⟩
 rw[← eR] at r0 ⊢
 refine za5 (δ:=[.v Rs,.no,.no,.no,.no,.no,.no,.no]) ?_
 show mSeq _ _ [.v Rs,.no,.no,.no,.no,.no,.no,.no]=_
 refine za2 (zdG ?_)
 simp[zaj,zab,mNil,mRd,mC,r0,c]
theorem znM {w:List Str} {v:Str} {T:List (List Str)} (h1:2≤(w.length:Int)) (h2:(w.length:Int)≤2) (hv:w[1]?=some v) (h:zaC [.str v,.int 1,.int 40,.int 0]=.ex (exL 0)):zbI [zaG (w::T)]=.ex (exL 0):=by
 have r0:=row0 w T
 have c:=zbm (line:=0) h1 h2
 have w1:oIxL (rowD w) (.int 1)=some (.str v):=zdS (k:=1) hv
 obtain⟨Rs,eR⟩:∃Rs,Rs=zaG (w::T):=⟨_,rfl⟩
 rw[← eR] at r0 ⊢
 refine za5 (δ:=[.v Rs,.no,.no,.no,.no]) ?_
 show mSeq _ _ [.v Rs,.no,.no,.no,.no]=_
 refine sd (by simp[zaj,zab,mNil,mRd,mC,r0,c]) ?_
 refine za2 (zcp ?_)
 simp[zaj,zab,mNil,mRd,mC,r0,w1,h]
theorem zma {w:List Str} {v:Str} {T:List (List Str)} (h1:2≤(w.length:Int)) (h2:(w.length:Int)≤2) (hv:w[1]?=some v) (h:zaC [.str v,.int 1,.int 12,.int 0]=.ex (exL 0)):zbp [zaG (w::T)]=.ex (exL 0):=by
 have r0:=row0 w T
 have c:=zbm (line:=0) h1 h2
 have w1:oIxL (rowD w) (.int 1)=some (.str v):=zdS (k:=1) hv
 obtain⟨Rs,eR⟩:∃Rs,Rs=zaG (w::T):=⟨_,rfl⟩
 rw[← eR] at r0 ⊢
 refine za5 (δ:=[.v Rs,.no,.no]) ?_
 show mSeq _ _ [.v Rs,.no,.no]=_
 refine sd (by simp[zaj,zab,mNil,mRd,mC,r0,c]) ?_
 refine za2 (zcp ?_)
 simp[zaj,zab,mNil,mRd,mC,r0,w1,h]
theorem zkT {w:List Str} {v:Str} {T:List (List Str)} (h1:2≤(w.length:Int)) (h2:(w.length:Int)≤42) (hv:w[1]?=some v) (h:zaC [.str v,.int 1,.int 20,.int 0]=.ex (exL 0)):zbo [zaG (w::T)]=.ex (exL 0):=by
 have r0:=row0 w T
 have c:=zbm (line:=0) h1 h2
 have w1:oIxL (rowD w) (.int 1)=some (.str v):=zdS (k:=1) hv
 obtain⟨Rs,eR⟩:∃Rs,Rs=zaG (w::T):=⟨_,rfl⟩
 rw[← eR] at r0 ⊢
 refine za5 (δ:=[.v Rs,.no,.no,.no]) ?_
 show mSeq _ _ [.v Rs,.no,.no,.no]=_
 refine sd (by simp[zaj,zab,mNil,mRd,mC,r0,c]) ?_
 refine za2 (zcp ?_)
 simp[zaj,zab,mNil,mRd,mC,r0,w1,h]
theorem zpk {w:List Str} {v:Str} {T:List (List Str)} (h1:w.length=2) (hv:w[1]?=some v) (h:zaO [.str v,.int 0]=.ex (exL 0)):zbR [zaG (w::T)]=.ex (exL 0):=by
 have r0:=row0 w T
 have c:=zbm (ws:=w) (lo:=2) (hi:=2) (line:=0) (by omega) (by omega)
 have w1:oIxL (rowD w) (.int 1)=some (.str v):=zdS (k:=1) hv
 obtain⟨Rs,eR⟩:∃Rs,Rs=zaG (w::T):=⟨_,rfl⟩
 rw[← eR] at r0 ⊢
 refine za5 (δ:=[.v Rs,.no,.no,.no,.no,.no,.no,.no]) ?_
 show mSeq _ _ [.v Rs,.no,.no,.no,.no,.no,.no,.no]=_
 refine sd (by simp[zaj,zab,mNil,mRd,mC,r0,c]) ?_
 refine za2 (zcp ?_)
 simp[zaj,zab,mNil,mRd,mC,r0,w1,h]
theorem zna {fs:List Fr} {v:Str} {post:List Str} {T:List (List Str)} (ok:∀f∈fs,AmOk f∧True) (hl:fs.length+post.length≤39) (h:zaO [.str v,.int 0]=.ex (exL 0)):zbH [zaG ((("touch" : Str)::(fs.map wr++v::post))::T)]=.ex (exL 0):=by
 obtain⟨ws,ews⟩:∃ws:List Str,ws=("touch" : Str)::(fs.map wr++v::post):=⟨_,rfl⟩
 have wl:ws.length=fs.length+post.length+2:=by rw[ews];simp;omega
 have r0:=row0 ws T
 have dr:ws.drop 1=fs.map wr++v::post:=by rw[ews];rfl
 have c:=zbm (ws:=ws) (lo:=2) (hi:=41) (line:=0) (by omega) (by omega)
 rw[← ews]
 obtain⟨Rs,eR⟩:∃Rs,Rs=zaG (ws::T):=⟨_,rfl⟩
 rw[← eR] at r0 ⊢
 have k:∀δ:En,δ[0]?=some (.v Rs)→zdz δ=.ex (exL 0):=fun δ hd=>by
  have sl:mSl (m2 oIxL (mRd 0) (mC (.int 0))) (zbq (mC (.int 1))) mNoP δ=_:=zfU (ws:=ws) 1 (by omega) (by simp[mRd,mC,hd,r0])
  rw[dr,List.map_append,List.map_cons,List.map_map] at sl
  refine zfP (l:=fs.map (D.str ∘ wr)++.str v::post.map .str) (by simp only[mItL,sl,R.bind_ok];rfl) (by simp;omega) ?_
  refine ze1 (D.str ∘ wr) encF fs (fun g hg=>?_) ?_
  ·simp[zdr,zaK,zbh,zaj,zab,mNil,mVar,mC,zbg (ok g hg).1]
  ·simp[zdr,zaK,zbh,zaj,zab,mNil,mVar,mC,h]
 refine za5 (δ:=[.v Rs,.no,.no,.no,.no]) ?_
 show mSeq _ _ [.v Rs,.no,.no,.no,.no]=_
 refine sd (by simp[zaj,zab,mNil,mRd,mC,r0,c]) ?_
 exact za2 (zcp (k _ rfl))
theorem zpA {fs:List Fr} {v:Str} {post:List Str} {T:List (List Str)} (ok:∀f∈fs,AmOk f∧f.1≠0) (hl:fs.length+post.length≤39) (h:zav [.str v,.int 0]=.ex (exL 0)):zb7 [zaG ((("bins" : Str)::(fs.map wr++v::post))::T)]=.ex (exL 0):=by
 obtain⟨ws,ews⟩:∃ws:List Str,ws=("bins" : Str)::(fs.map wr++v::post):=⟨_,rfl⟩
 have wl:ws.length=fs.length+post.length+2:=by rw[ews];simp;omega
 have r0:=row0 ws T
 have dr:ws.drop 1=fs.map wr++v::post:=by rw[ews];rfl
 have c:=zbm (ws:=ws) (lo:=2) (hi:=42) (line:=0) (by omega) (by omega)
 rw[← ews]
 obtain⟨Rs,eR⟩:∃Rs,Rs=zaG (ws::T):=⟨_,rfl⟩
 rw[← eR] at r0 ⊢
 have k:∀δ:En,δ[0]?=some (.v Rs)→ze5 δ=.ex (exL 0):=fun δ hd=>by
  have sl:mSl (m2 oIxL (mRd 0) (mC (.int 0))) (zbq (mC (.int 1))) mNoP δ=_:=zfU (ws:=ws) 1 (by omega) (by simp[mRd,mC,hd,r0])
  rw[dr,List.map_append,List.map_cons,List.map_map] at sl
  refine zfP (l:=fs.map (D.str ∘ wr)++.str v::post.map .str) (by simp only[mItL,sl,R.bind_ok];rfl) (by simp;omega) ?_
  refine ze1 (D.str ∘ wr) encF fs (fun g hg=>?_) ?_
  ·simp[zdr,zaK,zbh,zaj,zab,mNil,mVar,mC,zdN (ok g hg).1 (ok g hg).2]
  ·simp[zdr,zaK,zbh,zaj,zab,mNil,mVar,mC,h]
 refine za5 (δ:=[.v Rs,.no,.no,.no,.no]) ?_
 show mSeq _ _ [.v Rs,.no,.no,.no,.no]=_
 refine sd (by simp[zaj,zab,mNil,mRd,mC,r0,c]) ?_
 exact za2 (zcp (k _ rfl))
theorem zks {fs:List Fr} {v:Str} {post:List Str} {T:List (List Str)} {m:Int} (m0:1≤m) (m1:m≤20) (ok:∀f∈fs,AmOk f∧f.1≠0) (hl:fs.length+post.length≤39) (h:zav [.str v,.int 0]=.ex (exL 0)):zbo [zaG ((("benches" : Str)::dg m::(fs.map wr++v::post))::T)]=.ex (exL 0):=by
 obtain⟨ws,ews⟩:∃ws:List Str,ws=("benches" : Str)::dg m::(fs.map wr++v::post):=⟨_,rfl⟩
 have wl:ws.length=fs.length+post.length+3:=by rw[ews];simp;omega
 have r0:=row0 ws T
 have dr:ws.drop 2=fs.map wr++v::post:=by rw[ews];rfl
 have c:=zbm (ws:=ws) (lo:=2) (hi:=42) (line:=0) (by omega) (by omega)
 have w1:oIxL (rowD ws) (.int 1)=some (.str (dg m)):=zdS (k:=1) (by rw[ews];rfl)
 have nb:=zbs (n:=m) (lo:=1) (hi:=20) (line:=0) (by omega) (by omega) m0 m1
 rw[← ews]
 obtain⟨Rs,eR⟩:∃Rs,Rs=zaG (ws::T):=⟨_,rfl⟩
 rw[← eR] at r0 ⊢
 have k:∀δ:En,δ[0]?=some (.v Rs)→zdF δ=.ex (exL 0):=fun δ hd=>by
  have sl:mSl (m2 oIxL (mRd 0) (mC (.int 0))) (zbq (mC (.int 2))) mNoP δ=_:=zfU (ws:=ws) 2 (by omega) (by simp[mRd,mC,hd,r0])
  rw[dr,List.map_append,List.map_cons,List.map_map] at sl
  refine zfP (l:=fs.map (D.str ∘ wr)++.str v::post.map .str) (by simp only[mItL,sl,R.bind_ok];rfl) (by simp;omega) ?_
  refine ze1 (D.str ∘ wr) encF fs (fun g hg=>?_) ?_
  ·simp[zdr,zaK,zbh,zaj,zab,mNil,mVar,mC,zdN (ok g hg).1 (ok g hg).2]
  ·simp[zdr,zaK,zbh,zaj,zab,mNil,mVar,mC,h]
 refine za5 (δ:=[.v Rs,.v (.int m),.no,.no]) ?_
 show mSeq _ _ [.v Rs,.no,.no,.no]=_
 refine sd (by simp[zaj,zab,mNil,mRd,mC,r0,c]) ?_
 refine sq (d:=.int m) (by simp[zaj,zab,mNil,mRd,mC,r0,w1,nb]) rfl ?_
 try dsimp only[List.set]
 exact za2 (zcp (k _ rfl))
theorem ziW {L:List (List Str)} (h:Tx L) {k:Str} {ws:List Str} {T:List (List Str)} (hL:L=(k::ws)::T) {x:Xc} (rr:zas [.str k,zaG L]=.ex x):zcP [.str (txT L)]=.ex x:=by
 obtain⟨t,et⟩:∃t,t=txT L:=⟨_,rfl⟩
 have ke:=zok h
 obtain⟨Rw,eR⟩:∃Rw,Rw=zaG L:=⟨_,rfl⟩
 have i0:oIxL Rw (.int 0)=some (rowD (k::ws)):=by rw[eR,hL];exact zfu (Int.le_refl 0) rfl
 have i1:oIxL (rowD (k::ws)) (.int 0)=some (.str k):=zfu (Int.le_refl 0) rfl
 rw[← et] at ke ⊢
 rw[← eR] at ke rr
 refine za5 (δ:=[.v (.str t),.v Rw,.v (.str k),.no]) ?_
 show mSeq _ _ [.v (.str t),.no,.no,.no]=_
 refine sq ke rfl ?_
 refine sq (d:=.str k) (by simp only[List.set,zcA,mRd,mC,List.getElem?_cons_succ,List.getElem?_cons_zero,R.bind_ok,i0,R.of_some,i1]) rfl ?_
 refine za2 (zcp ?_)
 simp[zaj,zab,mNil,mVar,rr]
theorem zfD {L:List (List Str)} (h:Tx L) {k:Str} {ws:List Str} {T:List (List Str)} (hL:L=(k::ws)::T) {u:Int} {G:D} (rr:zas [.str k,zaG L]=.ok (.tup [.int u,G])) (rg:zay [.str k,G]=.ok .non):∃d,zcP [.str (txT L)]=.ok d:=⟨_,zq0 h hL rr rg⟩
theorem zfa {X:D} {x:Xc} (h:zbI [X]=.ex x):zas [.str "cover",X]=.ex x:=by
 simp[zas,runF,zbn,za7,mSeq,mIfS,zaw,mRd,mC,eqS,zbi,mRet,zaj,zab,mNil,mVar,h]
theorem ziy {X:D} {x:Xc} (h:zbH [X]=.ex x):zas [.str "touch",X]=.ex x:=by
 simp[zas,runF,zbn,za7,mSeq,mIfS,zaw,mRd,mC,neS (show ("touch" : Str)≠"cover" by decide +kernel),eqS,zbi,mRet,zaj,zab,mNil,mVar,h]
theorem ziS {X:D} {x:Xc} (h:zbP [X]=.ex x):zas [.str "round",X]=.ex x:=by
 simp[zas,runF,zbn,za7,mSeq,mIfS,zaw,mRd,mC,neS (show ("round" : Str)≠"cover" by decide +kernel),neS (show ("round" : Str)≠"touch" by decide +kernel),eqS,zbi,mRet,zaj,zab,mNil,mVar,h]
theorem zdm {X:D} {x:Xc} (h:zbp [X]=.ex x):zas [.str "places",X]=.ex x:=by
 simp[zas,runF,zbn,za7,mSeq,mIfS,zaw,mRd,mC,neS (show ("places" : Str)≠"cover" by decide +kernel),neS (show ("places" : Str)≠"touch" by decide +kernel),neS (show ("places" : Str)≠"round" by decide +kernel),eqS,zbi,mRet,zaj,zab,mNil,mVar,h]
theorem zgl {X:D} {x:Xc} (h:zbo [X]=.ex x):zas [.str "benches",X]=.ex x:=by
 simp[zas,runF,zbn,za7,mSeq,mIfS,zaw,mRd,mC,neS (show ("benches" : Str)≠"cover" by decide +kernel),neS (show ("benches" : Str)≠"touch" by decide +kernel),neS (show ("benches" : Str)≠"round" by decide +kernel),neS (show ("benches" : Str)≠"places" by decide +kernel),eqS,zbi,mRet,zaj,zab,mNil,mVar,h]
theorem zn8 {X:D} {x:Xc} (h:zb7 [X]=.ex x):zas [.str "bins",X]=.ex x:=by
 simp[zas,runF,zbn,za7,mSeq,mIfS,zaw,mRd,mC,neS (show ("bins" : Str)≠"cover" by decide +kernel),neS (show ("bins" : Str)≠"touch" by decide +kernel),neS (show ("bins" : Str)≠"round" by decide +kernel),neS (show ("bins" : Str)≠"places" by decide +kernel),neS (show ("bins" : Str)≠"benches" by decide +kernel),eqS,zbi,mRet,zaj,zab,mNil,mVar,h]
theorem zgr {X:D} {x:Xc} (h:zbR [X]=.ex x):zas [.str "sack",X]=.ex x:=by
 simp[zas,runF,zbn,za7,mSeq,mIfS,zaw,mRd,mC,neS (show ("sack" : Str)≠"cover" by decide +kernel),neS (show ("sack" : Str)≠"touch" by decide +kernel),neS (show ("sack" : Str)≠"round" by decide +kernel),neS (show ("sack" : Str)≠"places" by decide +kernel),neS (show ("sack" : Str)≠"benches" by decide +kernel),neS (show ("sack" : Str)≠"bins" by decide +kernel),eqS,zbi,mRet,zaj,zab,mNil,mVar,h]
theorem zsT {X:D} {k:Str} (h0:k≠"cover") (h1:k≠"touch") (h2:k≠"round") (h3:k≠"places") (h4:k≠"benches") (h5:k≠"bins") (h6:k≠"sack"):zas [.str k,X]=.ex (exL 0):=by
 simp[zas,runF,zbn,za7,mSeq,mIfS,zaw,mRd,mC,neS h0,neS h1,neS h2,neS h3,neS h4,neS h5,neS h6,zbi,zgs,zab,mNil,asI1,exL]
theorem zqK (a m:Nat):∃post:List Int,upt (a+1+m)=upt a++(a:Int)::post:=by
 refine⟨(upt (a+1+m)).drop (a+1),?_⟩
 apply List.ext_getElem?
 intro i
 by_cases h1:i<a
 ·rw[zgz (by omega),List.getElem?_append_left (by rw[zfK];exact h1),zgz h1]
 ·rw[List.getElem?_append_right (by rw[zfK];omega),zfK]
  by_cases h2:i=a
  ·rw[h2,zgz (by omega),Nat.sub_self];rfl
  ·obtain⟨j,rfl⟩:∃j,i=a+1+j:=⟨i - (a+1),by omega⟩
   rw[show a+1+j - a=j+1 by omega,List.getElem?_cons_succ,List.getElem?_drop]
theorem rngX {α:Type} (l:List α) (m:Nat) (h:l.length+1+m≤1000):∃post:List D,rng [.int 1,.int (((l.length+1+m:Nat):Int)+1)]=some (l.zipIdx.map (fun q=>.int ((q.2:Int)+1))++.int ((l.length:Int)+1)::post):=by
 obtain⟨post,e⟩:=zqK l.length m
 refine⟨post.map fun k=>.int (k+1),?_⟩
 rw[rngB h,e,List.map_append,List.map_cons]
 congr 2
 have z:=rngZ l (by omega)
 rw[rngB (by omega)] at z
 exact Option.some.inj z
theorem rowX {hd w:List Str} {A T:List (List Str)}:oIxL (zaG (hd::(A++w::T))) (.int ((A.length:Int)+1))=some (rowD w):=rowS (by rw[List.getElem?_append_right (Nat.le_refl _),Nat.sub_self];rfl)
theorem rowY {hd w v:List Str} {A T:List (List Str)} {k:Nat} (h:A[k]?=some v):oIxL (zaG (hd::(A++w::T))) (.int ((k:Int)+1))=some (rowD v):=rowS (by rw[List.getElem?_append_left (List.getElem?_eq_some_iff.mp h).1,h])
theorem zmI {n:Nat} {f:Fr} {ts:List Int} {v:Str} {post:List Str} {line:Int} (ok:AmOk f) (hn:n≤40) (nd:ts.Nodup) (hm:∀t∈ts,0≤t∧t<(n:Int)) (hp:post.length≤100) (h:zaC [.str v,.int 0,.int ((n:Int) - 1),.int line]=.ex (exL line)):zcV [rowD (wr f::(ts.map dg++v::post)),.int n,.int line]=.ex (exL line):=by
 have a:=zbg ok line
 have w0:oIxL (rowD (wr f::(ts.map dg++v::post))) (.int 0)=some (.str (wr f)):=zdS (k:=0) rfl
 have sl:∀δ:En,δ[0]?=some (.v (rowD (wr f::(ts.map dg++v::post))))→mSl (mRd 0) (zbq (mC (.int 1))) mNoP δ=.ok (.lst ((ts.map dg++v::post).map .str)):=fun δ h=>zfU (ws:=wr f::(ts.map dg++v::post)) 1 (by simp) (by simp[mRd,h])
 obtain⟨Rs,eR⟩:∃Rs,Rs=rowD (wr f::(ts.map dg++v::post)):=⟨_,rfl⟩
 rw[← eR] at w0 sl ⊢
 have tl:ts.length≤n:=by
  have h:=List.Nodup.length_le_of_subset (l₂:=upt n) nd (fun t ht=>mem_upt.mpr (hm t ht))
  rwa [zfK] at h
 obtain⟨δ,h1⟩:=ziQ (b:=zax 5) (m:=zgm) (fun t=>D.str (dg t)) (fun pre δ=>∃o5 o6,δ=[.v Rs,.v (.int n),.v (.int line),.v (encF f),.o (iL pre),sv o5,sv o6]) ts (d:=.str v) (post:=post.map .str) (x:=exL line)
  (by
   rintro pre t post δ hall ⟨o5,o6,rfl⟩
   have ht:=hm t (by rw[hall];simp)
   have nt:t∉pre:=by
    rw[hall] at nd
    intro z
    exact (List.nodup_append.mp nd).2.2 t z t (by simp) rfl
   have pl:pre.length≤40:=by have:=congrArg List.length hall;simp at this;omega
   have nb:=zbs (n:=t) (lo:=0) (hi:=(n:Int) - 1) (line:=line) ht.1 (by omega) ht.1 (by omega)
   have ni:oIn (.int t) (iL pre)=some (.bl false):=by simp[oIn,iL,zlj,nt]
   have q1:mAsg (zaj zaC (zab (mVar 5) (zab (mC (.int 0)) (zab (m2 oSub (mRd 1) (mC (.int 1))) (zab (mVar 2) mNil))))) (zax 6) [.v Rs,.v (.int n),.v (.int line),.v (encF f),.o (iL pre),.v (.str (dg t)),sv o6]=.nx [.v Rs,.v (.int n),.v (.int line),.v (encF f),.o (iL pre),.v (.str (dg t)),.v (.int t)]:=zcY (d:=.int t) (by simp[zaj,zab,mNil,mVar,mRd,mC,nb]) (zaY rfl)
   have q2:mDo (zaj zah (zab (m2 oIn (mRd 6) (mRd 4)) (zab (mVar 2) mNil))) [.v Rs,.v (.int n),.v (.int line),.v (encF f),.o (iL pre),.v (.str (dg t)),.v (.int t)]=.nx [.v Rs,.v (.int n),.v (.int line),.v (encF f),.o (iL pre),.v (.str (dg t)),.v (.int t)]:=by simp[mDo,zaj,zab,mNil,mRd,mVar,ni,zaP]
   have q3:zbO 4 (mVar 6) [.v Rs,.v (.int n),.v (.int line),.v (encF f),.o (iL pre),.v (.str (dg t)),.v (.int t)]=.nx [.v Rs,.v (.int n),.v (.int line),.v (encF f),.o (iL (pre++[t])),.v (.str (dg t)),.v (.int t)]:=zia rfl rfl (by omega)
   exact⟨_,_,zaY rfl,(zaN q1).trans ((zaN q2).trans q3),some (.str (dg t)),some (.int t),rfl⟩)
  [.v Rs,.v (.int n),.v (.int line),.v (encF f),.o (iL []),.no,.no] ⟨none,none,rfl⟩
  (by
   rintro δ ⟨o5,o6,rfl⟩
   refine⟨[.v Rs,.v (.int n),.v (.int line),.v (encF f),.o (iL ts),.v (.str v),sv o6],[.v Rs,.v (.int n),.v (.int line),.v (encF f),.o (iL ts),.v (.str v),sv o6],zaY rfl,za2 (zcp ?_)⟩
   simp[zaj,zab,mNil,mVar,mRd,mC,h])
 refine za5 (δ:=δ) ?_
 show mSeq _ _ [.v Rs,.v (.int n),.v (.int line),.no,.no,.no,.no]=_
 refine sq (d:=encF f) (by simp[zaj,zab,mNil,mVar,mRd,mC,w0,a]) rfl ?_
 refine sq (d:=iL []) (by simp[mLst,mNil,sizeLine,iL]) rfl ?_
 refine za2 ((zce (l:=(ts.map fun t=>D.str (dg t))++.str v::post.map .str) ?_).trans h1)
 show mItL _ [.v Rs,.v (.int n),.v (.int line),.v (encF f),.o (iL []),.no,.no]=_
 simp only[mItL,sl [.v Rs,.v (.int n),.v (.int line),.v (encF f),.o (iL []),.no,.no] rfl,R.bind_ok,List.map_append,List.map_cons,List.map_map]
 rfl
theorem zi7 {n:Nat} {zs:List Zs} {w:List Str} {T:List (List Str)} {x:Xc} (n0:1≤n) (hn:n≤40) (ok:∀z∈zs,ZsOk n z) (hl:zs.length≤39) (hT:T.length≤200) (h:zcV [rowD w,.int n,.int ((zs.length:Int)+1)]=.ex x):zbI [zaG ([("cover" : Str),dg n]::(zs.map wsZ++w::T))]=.ex x:=by
 have r0:=row0 [("cover" : Str),dg n] (zs.map wsZ++w::T)
 have rk:∀q:Zs×Nat,zs[q.2]?=some q.1→oIxL (zaG ([("cover" : Str),dg n]::(zs.map wsZ++w::T))) (.int ((q.2:Int)+1))=some (rowD (wsZ q.1)):=fun q h=>rowY (by rw[List.getElem?_map,h];rfl)
 have rx:oIxL (zaG ([("cover" : Str),dg n]::(zs.map wsZ++w::T))) (.int ((zs.length:Int)+1))=some (rowD w):=by
  have:=rowX (hd:=[("cover" : Str),dg n]) (w:=w) (A:=zs.map wsZ) (T:=T)
  rwa [List.length_map] at this
 have rl:=zed ([("cover" : Str),dg n]::(zs.map wsZ++w::T))
 have ll:([("cover" : Str),dg n]::(zs.map wsZ++w::T)).length=zs.length+1+T.length+1:=by simp;omega
 rw[ll] at rl
 have w1:oIxL (rowD [("cover" : Str),dg n]) (.int 1)=some (.str (dg n)):=zdS (k:=1) rfl
 have wc:=zbm (ws:=[("cover" : Str),dg n]) (lo:=2) (hi:=2) (line:=0) (by simp) (by simp)
 have nb:=zbs (n:=(n:Int)) (lo:=1) (hi:=40) (line:=0) (by omega) (by omega) (by omega) (by omega)
 obtain⟨W,eW⟩:∃W,W=rowD [("cover" : Str),dg n]:=⟨_,rfl⟩
 obtain⟨Rs,eR⟩:∃Rs,Rs=zaG ([("cover" : Str),dg n]::(zs.map wsZ++w::T)):=⟨_,rfl⟩
 rw[← eR] at r0 rk rx rl ⊢
 rw[← eW] at r0 w1 wc
 obtain⟨post,rn⟩:=rngX zs T.length (by omega)
 obtain⟨δ,h1⟩:=ziQ (b:=zax 3) (m:=zd6) (fun q:Zs×Nat=>.int ((q.2:Int)+1)) (fun pre δ=>∃o3,δ=[.v Rs,.v (.int n),.o (.lst ((pre.map (·.1)).map encZ)),sv o3,.no]) zs.zipIdx (d:=.int ((zs.length:Int)+1)) (post:=post) (x:=x)
  (by
   rintro pre q post δ hall ⟨o3,rfl⟩
   have hk:=(za8 hall).2.1
   have pl:pre.length=q.2:=(za8 hall).1.symm
   have q40:q.2<40:=by have:=(List.getElem?_eq_some_iff.mp hk).1;omega
   have ri:=rk q hk
   have okq:=ok q.1 (List.mem_of_getElem? hk)
   have si:zcV [rowD (wsZ q.1),.int n,.int ((q.2:Int)+1)]=.ok (encZ q.1):=zjA okq.am hn okq.nd okq.mem _
   obtain⟨V,eV⟩:∃V,V=rowD (wsZ q.1):=⟨_,rfl⟩
   rw[← eV] at ri si
   have t1:¬ (40:Int)<(q.2:Int)+1:=by omega
   obtain⟨A,eA⟩:∃A:List Zs,A=pre.map (·.1):=⟨_,rfl⟩
   have al:A.length=q.2:=by rw[eA,List.length_map,pl]
   have eA2:(pre++[q]).map (·.1)=A++[q.1]:=by rw[eA];simp
   rw[← eA]
   have bs:zax 3 (.int ((q.2:Int)+1)) [.v Rs,.v (.int n),.o (.lst (A.map encZ)),sv o3,.no]=some [.v Rs,.v (.int n),.o (.lst (A.map encZ)),.v (.int ((q.2:Int)+1)),.no]:=zaY rfl
   have q1:mDo (zaj zah (zab (m2 oGt (mRd 3) (mC (.int 40))) (zab (mVar 3) mNil))) [.v Rs,.v (.int n),.o (.lst (A.map encZ)),.v (.int ((q.2:Int)+1)),.no]=.nx [.v Rs,.v (.int n),.o (.lst (A.map encZ)),.v (.int ((q.2:Int)+1)),.no]:=by simp[mDo,zaj,zab,mNil,mRd,mC,mVar,t1,zaP]
   have q2:zbO 2 (zaj zcV (zab (m2 oIxL (mRd 0) (mRd 3)) (zab (mVar 1) (zab (mVar 3) mNil)))) [.v Rs,.v (.int n),.o (.lst (A.map encZ)),.v (.int ((q.2:Int)+1)),.no]=.nx [.v Rs,.v (.int n),.o (.lst ((A++[q.1]).map encZ)),.v (.int ((q.2:Int)+1)),.no]:=(zcF (l:=A.map encZ) (d:=encZ q.1) rfl (by simp[zaj,zab,mNil,mRd,mVar,ri,si]) (by rw[List.length_map];omega)).trans (by simp)
   refine⟨_,_,bs,(zaN q1).trans q2,some (.int ((q.2:Int)+1)),?_⟩
   rw[eA2];rfl)
  [.v Rs,.v (.int n),.o (.lst []),.no,.no] ⟨none,rfl⟩
  (by
   rintro δ ⟨o3,rfl⟩
   have t1:¬ (40:Int)<(zs.length:Int)+1:=by omega
   obtain⟨V,eV⟩:∃V,V=rowD w:=⟨_,rfl⟩
   rw[← eV] at rx h
   refine⟨[.v Rs,.v (.int n),.o (.lst ((zs.zipIdx.map (·.1)).map encZ)),.v (.int ((zs.length:Int)+1)),.no],[.v Rs,.v (.int n),.o (.lst ((zs.zipIdx.map (·.1)).map encZ)),.v (.int ((zs.length:Int)+1)),.no],zaY rfl,?_⟩
   show mSeq _ _ _=_
   refine sd (by simp[zaj,zab,mNil,mRd,mC,mVar,t1,zaP]) (zgp (l:=(zs.zipIdx.map (·.1)).map encZ) rfl ?_)
   simp[zaj,zab,mNil,mRd,mVar,rx,h])
 refine za5 (δ:=δ) ?_
 show mSeq _ _ [.v Rs,.no,.no,.no,.no]=_
 refine sd (by simp[zaj,zab,mNil,mRd,mC,r0,wc]) ?_
 refine sq (d:=.int n) (by simp[zaj,zab,mNil,mRd,mC,r0,w1,nb]) rfl ?_
 refine sq (d:=.lst []) (by simp[mLst,mNil,sizeLine]) rfl ?_
 refine za2 ((zce ?_).trans h1)
 show mRng _ [.v Rs,.v (.int n),.o (.lst []),.no,.no]=_
 rw[Int.natCast_add (zs.length+1+T.length) 1] at rl
 simp only[mRng,zab,mNil,mC,mCB,mRd,List.getElem?_cons_zero,R.bind_ok,rl,R.of_some]
 show R.of (rng [.int 1,.int (((zs.length+1+T.length:Nat):Int)+1)])=_
 rw[rn,R.of_some]
theorem zmw {n:Nat} {a:Int} {v:Str} {line:Int} (hn:n≤100) (a0:0≤a) (a1:a<n) (h:zaC [.str v,.int 0,.int ((n:Int) - 1),.int line]=.ex (exL line)):zcX [rowD [dg a,v],.int n,.int line]=.ex (exL line):=by
 have wc:=zbm (ws:=[dg a,v]) (lo:=2) (hi:=2) (line:=line) (by simp) (by simp)
 have w0:oIxL (rowD [dg a,v]) (.int 0)=some (.str (dg a)):=zdS (k:=0) rfl
 have w1:oIxL (rowD [dg a,v]) (.int 1)=some (.str v):=zdS (k:=1) rfl
 have n0:=zbs (n:=a) (lo:=0) (hi:=(n:Int) - 1) (line:=line) a0 (by omega) a0 (by omega)
 obtain⟨Rs,eR⟩:∃Rs,Rs=rowD [dg a,v]:=⟨_,rfl⟩
 rw[← eR] at wc w0 w1 ⊢
 refine za5 (δ:=[.v Rs,.v (.int n),.v (.int line),.v (.int a),.no]) ?_
 show mSeq _ _ [.v Rs,.v (.int n),.v (.int line),.no,.no]=_
 refine sd (by simp[zaj,zab,mNil,mRd,mVar,mC,wc]) ?_
 refine sq (d:=.int a) (by simp[zaj,zab,mNil,mRd,mVar,mC,w0,n0]) rfl ?_
 refine za2 (zcp ?_)
 simp[zaj,zab,mNil,mRd,mVar,mC,w1,h]
theorem ziI {fs:List Fr} {ls:List Ed} {w:List Str} {T:List (List Str)} {x:Xc} (ok:∀f∈fs,AmOk f) (h0:1≤fs.length) (hf:fs.length≤40) (okl:∀l∈ls,EdOk fs.length l) (hl:ls.length≤79) (hT:T.length≤200) (h:zcX [rowD w,.int fs.length,.int ((ls.length:Int)+1)]=.ex x):zbH [zaG ((("touch" : Str)::fs.map wr)::((ls.map fun l=>[dg l.1,dg l.2])++w::T))]=.ex x:=by
 obtain⟨ws,ews⟩:∃ws:List Str,ws=("touch" : Str)::fs.map wr:=⟨_,rfl⟩
 have wl:ws.length=fs.length+1:=by rw[ews];simp
 have dr:ws.drop 1=fs.map wr:=by rw[ews];rfl
 rw[← ews]
 have r0:=row0 ws ((ls.map fun l=>[dg l.1,dg l.2])++w::T)
 have rk:∀q:Ed×Nat,ls[q.2]?=some q.1→oIxL (zaG (ws::((ls.map fun l=>[dg l.1,dg l.2])++w::T))) (.int ((q.2:Int)+1))=some (rowD [dg q.1.1,dg q.1.2]):=fun q h=>rowY (by rw[List.getElem?_map,h];rfl)
 have rx:oIxL (zaG (ws::((ls.map fun l=>[dg l.1,dg l.2])++w::T))) (.int ((ls.length:Int)+1))=some (rowD w):=by
  have:=rowX (hd:=ws) (w:=w) (A:=ls.map fun l=>[dg l.1,dg l.2]) (T:=T)
  rwa [List.length_map] at this
 have rl:=zed (ws::((ls.map fun l=>[dg l.1,dg l.2])++w::T))
 have ll:(ws::((ls.map fun l=>[dg l.1,dg l.2])++w::T)).length=ls.length+1+T.length+1:=by simp;omega
 rw[ll] at rl
 have wc:=zbm (ws:=ws) (lo:=2) (hi:=41) (line:=0) (by omega) (by omega)
 obtain⟨Rs,eR⟩:∃Rs,Rs=zaG (ws::((ls.map fun l=>[dg l.1,dg l.2])++w::T)):=⟨_,rfl⟩
 rw[← eR] at r0 rk rx rl ⊢
 obtain⟨post,rn⟩:=rngX ls T.length (by omega)
 have k:∀δ:En,δ[0]?=some (.v Rs)→zdz δ=.ok (zaE fs):=fun δ hd=>by
  have sl:mSl (m2 oIxL (mRd 0) (mC (.int 0))) (zbq (mC (.int 1))) mNoP δ=_:=zfU (ws:=ws) 1 (by omega) (by simp[mRd,mC,hd,r0])
  rw[dr] at sl
  refine Eq.trans (zem (l:=(fs.map wr).map .str) (r:=fs.map encF) (by simp only[mItL,sl,R.bind_ok];rfl) (by rw[List.length_map,List.length_map];omega) ?_) rfl
  exact zeh fun f hf=>by simp[zdr,zaK,zbh,zaj,zab,mNil,mVar,mC,zbg (ok f hf)]
 have fl:fLen [zaE fs]=some (.int fs.length):=by simp[zaE]
 obtain⟨δ,h1⟩:=ziQ (b:=zax 3) (m:=zd5) (fun q:Ed×Nat=>.int ((q.2:Int)+1)) (fun pre δ=>∃o3,δ=[.v Rs,.v (zaE fs),.o (zdi (pre.map (·.1))),sv o3,.no]) ls.zipIdx (d:=.int ((ls.length:Int)+1)) (post:=post) (x:=x)
  (by
   rintro pre q post δ hall ⟨o3,rfl⟩
   have hk:=(za8 hall).2.1
   have pl:pre.length=q.2:=(za8 hall).1.symm
   have q40:q.2<80:=by have:=(List.getElem?_eq_some_iff.mp hk).1;omega
   have ri:=rk q hk
   have okq:=okl q.1 (List.mem_of_getElem? hk)
   have ti:=zh0 (by omega) okq ((q.2:Int)+1)
   obtain⟨V,eV⟩:∃V,V=rowD [dg q.1.1,dg q.1.2]:=⟨_,rfl⟩
   rw[← eV] at ri ti
   have t1:¬ (80:Int)<(q.2:Int)+1:=by omega
   obtain⟨A,eA⟩:∃A:List Ed,A=pre.map (·.1):=⟨_,rfl⟩
   have al:A.length=q.2:=by rw[eA,List.length_map,pl]
   have eA2:(pre++[q]).map (·.1)=A++[q.1]:=by rw[eA];simp
   rw[← eA]
   have bs:zax 3 (.int ((q.2:Int)+1)) [.v Rs,.v (zaE fs),.o (zdi A),sv o3,.no]=some [.v Rs,.v (zaE fs),.o (zdi A),.v (.int ((q.2:Int)+1)),.no]:=zaY rfl
   have q1:mDo (zaj zah (zab (m2 oGt (mRd 3) (mC (.int 80))) (zab (mVar 3) mNil))) [.v Rs,.v (zaE fs),.o (zdi A),.v (.int ((q.2:Int)+1)),.no]=.nx [.v Rs,.v (zaE fs),.o (zdi A),.v (.int ((q.2:Int)+1)),.no]:=by simp[mDo,zaj,zab,mNil,mRd,mC,mVar,t1,zaP]
   have q2:zbO 2 (zaj zcX (zab (m2 oIxL (mRd 0) (mRd 3)) (zab (mCB fLen (zab (mRd 1) mNil)) (zab (mVar 3) mNil)))) [.v Rs,.v (zaE fs),.o (zdi A),.v (.int ((q.2:Int)+1)),.no]=.nx [.v Rs,.v (zaE fs),.o (zdi (A++[q.1])),.v (.int ((q.2:Int)+1)),.no]:=(zcF (l:=A.map encN) (d:=encN q.1) rfl (by simp[zaj,zab,mNil,mRd,mVar,mCB,ri,fl,ti]) (by rw[List.length_map];omega)).trans (by simp[zdi])
   refine⟨_,_,bs,(zaN q1).trans q2,some (.int ((q.2:Int)+1)),?_⟩
   rw[eA2];rfl)
  [.v Rs,.v (zaE fs),.o (zdi []),.no,.no] ⟨none,rfl⟩
  (by
   rintro δ ⟨o3,rfl⟩
   have t1:¬ (80:Int)<(ls.length:Int)+1:=by omega
   obtain⟨V,eV⟩:∃V,V=rowD w:=⟨_,rfl⟩
   rw[← eV] at rx h
   refine⟨[.v Rs,.v (zaE fs),.o (zdi (ls.zipIdx.map (·.1))),.v (.int ((ls.length:Int)+1)),.no],[.v Rs,.v (zaE fs),.o (zdi (ls.zipIdx.map (·.1))),.v (.int ((ls.length:Int)+1)),.no],zaY rfl,?_⟩
   show mSeq _ _ _=_
   refine sd (by simp[zaj,zab,mNil,mRd,mC,mVar,t1,zaP]) (zgp (l:=(ls.zipIdx.map (·.1)).map encN) rfl ?_)
   simp[zaj,zab,mNil,mRd,mVar,mCB,rx,fl,h])
 refine za5 (δ:=δ) ?_
 show mSeq _ _ [.v Rs,.no,.no,.no,.no]=_
 refine sd (by simp[zaj,zab,mNil,mRd,mC,r0,wc]) ?_
 refine sq (d:=zaE fs) (k _ rfl) rfl ?_
 refine sq (d:=zdi []) (by simp[mLst,mNil,sizeLine,zdi]) rfl ?_
 refine za2 ((zce ?_).trans h1)
 show mRng _ [.v Rs,.v (zaE fs),.o (zdi []),.no,.no]=_
 rw[Int.natCast_add (ls.length+1+T.length) 1] at rl
 simp only[mRng,zab,mNil,mC,mCB,mRd,List.getElem?_cons_zero,R.bind_ok,rl,R.of_some]
 show R.of (rng [.int 1,.int (((ls.length+1+T.length:Nat):Int)+1)])=_
 rw[rn,R.of_some]
theorem zk0 {f:Fr} {v:Str} {line:Int} (ok:AmOk f) (h:zav [.str v,.int line]=.ex (exL line)):zcu [rowD [wr f,v],.int line]=.ex (exL line):=by
 have wc:=zbm (ws:=[wr f,v]) (lo:=2) (hi:=2) (line:=line) (by simp) (by simp)
 have w0:oIxL (rowD [wr f,v]) (.int 0)=some (.str (wr f)):=zdS (k:=0) rfl
 have w1:oIxL (rowD [wr f,v]) (.int 1)=some (.str v):=zdS (k:=1) rfl
 have a:=zbg ok line
 obtain⟨Rs,eR⟩:∃Rs,Rs=rowD [wr f,v]:=⟨_,rfl⟩
 rw[← eR] at wc w0 w1 ⊢
 refine za5 (δ:=[.v Rs,.v (.int line)]) ?_
 show mSeq _ _ [.v Rs,.v (.int line)]=_
 refine sd (by simp[zaj,zab,mNil,mRd,mVar,mC,wc]) ?_
 refine zih ?_
 simp[mTup,zaj,zab,mNil,mRd,mVar,mC,w0,w1,a,h]
theorem zka {r:Fr} {w:List Str} {T:List (List Str)} {x:Xc} (okr:AmOk r) (hT:T.length≤200) (h:zcu [rowD w,.int 1]=.ex x):zbR [zaG ([("sack" : Str),wr r]::w::T)]=.ex x:=by
 have r0:=row0 [("sack" : Str),wr r] (w::T)
 have rx:oIxL (zaG ([("sack" : Str),wr r]::w::T)) (.int 1)=some (rowD w):=rowX (hd:=[("sack" : Str),wr r]) (w:=w) (A:=[]) (T:=T)
 have rl:=zed ([("sack" : Str),wr r]::w::T)
 have ll:([("sack" : Str),wr r]::w::T).length=0+1+T.length+1:=by simp;omega
 rw[ll] at rl
 have w1:oIxL (rowD [("sack" : Str),wr r]) (.int 1)=some (.str (wr r)):=zdS (k:=1) rfl
 have wc:=zbm (ws:=[("sack" : Str),wr r]) (lo:=2) (hi:=2) (line:=0) (by simp) (by simp)
 have ar:=zbg okr 0
 obtain⟨W,eW⟩:∃W,W=rowD [("sack" : Str),wr r]:=⟨_,rfl⟩
 obtain⟨V,eV⟩:∃V,V=rowD w:=⟨_,rfl⟩
 obtain⟨Rs,eR⟩:∃Rs,Rs=zaG ([("sack" : Str),wr r]::w::T):=⟨_,rfl⟩
 rw[← eR] at r0 rx rl ⊢
 rw[← eW] at r0 w1 wc
 rw[← eV] at rx h
 obtain⟨post,rn⟩:=rngX ([]:List Nat) T.length (by simp;omega)
 have lp:zek (zax 4) zdw (.int 1::post) [.v Rs,.v (encF r),.o (zaE [r]),.o (.lst []),.no,.no,.no,.no]=.ex [.v Rs,.v (encF r),.o (zaE [r]),.o (.lst []),.v (.int 1),.no,.no,.no] x:=by
  rw[zek,show zax 4 (.int 1) [.v Rs,.v (encF r),.o (zaE [r]),.o (.lst []),.no,.no,.no,.no]=some [.v Rs,.v (encF r),.o (zaE [r]),.o (.lst []),.v (.int 1),.no,.no,.no] from rfl]
  dsimp only
  have z:zdw [.v Rs,.v (encF r),.o (zaE [r]),.o (.lst []),.v (.int 1),.no,.no,.no]=.ex [.v Rs,.v (encF r),.o (zaE [r]),.o (.lst []),.v (.int 1),.no,.no,.no] x:=by
   show mSeq _ _ _=_
   refine sd (by simp[zaj,zab,mNil,mRd,mC,mVar,zaP]) ?_
   refine za2 (zcp ?_)
   simp[zaj,zab,mNil,mRd,mVar,rx,h]
  rw[z]
 refine za5 (δ:=[.v Rs,.v (encF r),.o (zaE [r]),.o (.lst []),.v (.int 1),.no,.no,.no]) ?_
 show mSeq _ _ [.v Rs,.no,.no,.no,.no,.no,.no,.no]=_
 refine sd (by simp[zaj,zab,mNil,mRd,mC,r0,wc]) ?_
 refine sq (d:=encF r) (by simp[zaj,zab,mNil,mRd,mC,r0,w1,ar]) rfl ?_
 refine sq (d:=zaE [r]) (by simp[mLst,zab,mNil,mVar,sizeLine,zaE]) rfl ?_
 refine sq (d:=.lst []) (by simp[mLst,mNil,sizeLine]) rfl ?_
 refine za2 ((zce ?_).trans lp)
 show mRng _ [.v Rs,.v (encF r),.o (zaE [r]),.o (.lst []),.no,.no,.no,.no]=_
 rw[Int.natCast_add (0+1+T.length) 1] at rl
 simp only[mRng,zab,mNil,mC,mCB,mRd,List.getElem?_cons_zero,R.bind_ok,rl,R.of_some]
 show R.of (rng [.int 1,.int (((0+1+T.length:Nat):Int)+1)])=_
 have rn':rng [.int 1,.int (((0+1+T.length:Nat):Int)+1)]=_:=rn
 rw[rn',R.of_some];rfl
theorem zkk {n:Nat} {fs:List (List Fr)} {gs:List Fr} {v:Str} {post:List Str} {T:List (List Str)} (hd:List Str) (n1:n≤12) (f0:1≤fs.length) (f1:fs.length+1≤n) (row:∀r∈fs,r.length=n) (am:∀r∈fs,∀f∈r,AmOk f) (ag:∀f∈gs,AmOk f) (gl:gs.length+1+post.length=n) (hT:T.length≤200)
  (h:zaO [.str v,.int ((fs.length:Int)+1)]=.ex (exL ((fs.length:Int)+1))):zcc [zaG (hd::((fs.map fun r=>r.map wr)++(gs.map wr++v::post)::T))]=.ex (exL ((fs.length:Int)+1)):=by
 obtain⟨w,ew⟩:∃w,w=gs.map wr++v::post:=⟨_,rfl⟩
 have wl:w.length=n:=by rw[ew];simp;omega
 rw[← ew]
 have rk:∀q:List Fr×Nat,fs[q.2]?=some q.1→oIxL (zaG (hd::((fs.map fun r=>r.map wr)++w::T))) (.int ((q.2:Int)+1))=some (rowD (q.1.map wr)):=fun q h=>rowY (by rw[List.getElem?_map,h];rfl)
 have rx:oIxL (zaG (hd::((fs.map fun r=>r.map wr)++w::T))) (.int ((fs.length:Int)+1))=some (rowD w):=by
  have:=rowX (hd:=hd) (w:=w) (A:=fs.map fun r=>r.map wr) (T:=T)
  rwa [List.length_map] at this
 have rl:=zed (hd::((fs.map fun r=>r.map wr)++w::T))
 have ll:(hd::((fs.map fun r=>r.map wr)++w::T)).length=fs.length+1+T.length+1:=by simp;omega
 rw[ll] at rl
 obtain⟨r1,hr1⟩:∃r,fs[0]?=some r:=⟨_,List.getElem?_eq_getElem (by omega)⟩
 have i1:oIxL (zaG (hd::((fs.map fun r=>r.map wr)++w::T))) (.int 1)=some (rowD (r1.map wr)):=rk (r1,0) hr1
 have c1:fLen [rowD (r1.map wr)]=some (.int n):=by rw[zhs,List.length_map,row r1 (List.mem_of_getElem? hr1)]
 have cw:fLen [rowD w]=some (.int n):=by rw[zhs,wl]
 obtain⟨Rs,eR⟩:∃Rs,Rs=zaG (hd::((fs.map fun r=>r.map wr)++w::T)):=⟨_,rfl⟩
 rw[← eR] at rk rx rl i1 ⊢
 obtain⟨W,eW⟩:∃W,W=rowD (r1.map wr):=⟨_,rfl⟩
 rw[← eW] at i1 c1
 obtain⟨post2,rn⟩:=rngX fs T.length (by omega)
 have t12:¬ (12:Int)<(n:Int):=by omega
 obtain⟨δ,h1⟩:=ziQ (b:=zax 3) (m:=ze8) (fun q:List Fr×Nat=>.int ((q.2:Int)+1)) (fun pre δ=>∃o3,δ=[.v Rs,.v (.int n),.o (zbU (pre.map (·.1))),sv o3]) fs.zipIdx (d:=.int ((fs.length:Int)+1)) (post:=post2) (x:=exL ((fs.length:Int)+1))
  (by
   rintro pre q post δ hall ⟨o3,rfl⟩
   have hk:=(za8 hall).2.1
   have pl:pre.length=q.2:=(za8 hall).1.symm
   have qn:q.2<n:=by have:=(List.getElem?_eq_some_iff.mp hk).1;omega
   have ri:=rk q hk
   have okq:=am q.1 (List.mem_of_getElem? hk)
   have ql:=row q.1 (List.mem_of_getElem? hk)
   have lw:fLen [rowD (q.1.map wr)]=some (.int n):=by rw[zhs,List.length_map,ql]
   have t1:¬ (n:Int)<(q.2:Int)+1:=by omega
   obtain⟨V,eV⟩:∃V,V=rowD (q.1.map wr):=⟨_,rfl⟩
   rw[← eV] at ri lw
   obtain⟨A,eA⟩:∃A:List (List Fr),A=pre.map (·.1):=⟨_,rfl⟩
   have al:A.length=q.2:=by rw[eA,List.length_map,pl]
   have eA2:(pre++[q]).map (·.1)=A++[q.1]:=by rw[eA];simp
   rw[← eA]
   have bs:zax 3 (.int ((q.2:Int)+1)) [.v Rs,.v (.int n),.o (zbU A),sv o3]=some [.v Rs,.v (.int n),.o (zbU A),.v (.int ((q.2:Int)+1))]:=zaY rfl
   have k:zdV [.v Rs,.v (.int n),.o (zbU A),.v (.int ((q.2:Int)+1))]=.ok (zaE q.1):=by
    refine zem (l:=(q.1.map wr).map .str) (by simp only[mItL,zcA,mRd,List.getElem?_cons_succ,List.getElem?_cons_zero,R.bind_ok,ri,R.of_some];rw[eV];rfl) (by rw[List.length_map,List.length_map];omega) ?_
    refine zeh fun f hf=>?_
    have e:zaK [.v Rs,.v (.int n),.o (zbU A),.v (.int ((q.2:Int)+1))] [3] 1=[.v (.int ((q.2:Int)+1)),.no]:=rfl
    rw[e]
    simp[zdr,zbh,zaj,zab,mNil,mVar,zbg (okq f hf)]
   have q1:mDo (zaj zah (zab (mOrV (m2 oGt (mRd 3) (mRd 1)) (m2 oNe (mCB fLen (zab (m2 oIxL (mRd 0) (mRd 3)) mNil)) (mRd 1))) (zab (mVar 3) mNil))) [.v Rs,.v (.int n),.o (zbU A),.v (.int ((q.2:Int)+1))]=.nx [.v Rs,.v (.int n),.o (zbU A),.v (.int ((q.2:Int)+1))]:=by simp[mDo,zaj,zab,mNil,mOrV,mRd,mC,mCB,mVar,ri,lw,t1,zaP]
   have q2:zbO 2 zdV [.v Rs,.v (.int n),.o (zbU A),.v (.int ((q.2:Int)+1))]=.nx [.v Rs,.v (.int n),.o (zbU (A++[q.1])),.v (.int ((q.2:Int)+1))]:=(zcF (l:=A.map zaE) (d:=zaE q.1) rfl k (by rw[List.length_map];omega)).trans (by simp[zbU])
   refine⟨_,_,bs,(zaN q1).trans q2,some (.int ((q.2:Int)+1)),?_⟩
   rw[eA2];rfl)
  [.v Rs,.v (.int n),.o (zbU []),.no] ⟨none,rfl⟩
  (by
   rintro δ ⟨o3,rfl⟩
   have t1:¬ (n:Int)<(fs.length:Int)+1:=by omega
   obtain⟨V,eV⟩:∃V,V=rowD w:=⟨_,rfl⟩
   rw[← eV] at rx cw
   refine⟨[.v Rs,.v (.int n),.o (zbU (fs.zipIdx.map (·.1))),.v (.int ((fs.length:Int)+1))],[.v Rs,.v (.int n),.o (zbU (fs.zipIdx.map (·.1))),.v (.int ((fs.length:Int)+1))],zaY rfl,?_⟩
   show mSeq _ _ _=_
   refine sd (by simp[zaj,zab,mNil,mOrV,mRd,mC,mCB,mVar,rx,cw,t1,zaP]) (zgp (l:=(fs.zipIdx.map (·.1)).map zaE) rfl ?_)
   refine zfP (l:=gs.map (D.str ∘ wr)++.str v::post.map .str) (by
    simp only[mItL,zcA,mRd,List.getElem?_cons_succ,List.getElem?_cons_zero,R.bind_ok,rx,R.of_some]
    rw[eV,ew]
    show R.ok ((gs.map wr++v::post).map D.str)=_
    rw[List.map_append,List.map_cons,List.map_map]) (by simp;omega) ?_
   have e:zaK [.v Rs,.v (.int n),.o (zbU (fs.zipIdx.map (·.1))),.v (.int ((fs.length:Int)+1))] [3] 1=[.v (.int ((fs.length:Int)+1)),.no]:=rfl
   rw[e]
   refine ze1 (D.str ∘ wr) encF gs (fun g hg=>?_) ?_
   ·simp[zdr,zbh,zaj,zab,mNil,mVar,zbg (ag g hg)]
   ·simp[zdr,zbh,zaj,zab,mNil,mVar,h])
 refine zqs (δ:=δ) ?_
 show mSeq _ _ [.v Rs,.no,.no,.no]=_
 refine sd (by
  have tt:m2 oEq (mCB fLen (zab (mRd 0) mNil)) (mC (.int 1)) [.v Rs,.no,.no,.no]=.ok (.bl false):=by
   simp only[zcA,mCB,zab,mNil,mRd,mC,List.getElem?_cons_zero,R.bind_ok,rl,R.of_some,zsC]
   rw[decide_eq_false (by omega)]
  simp only[zaj,zab,mNil,tt,mC,R.bind_ok,zaP]) ?_
 refine sq (d:=.int n) (by simp[mCB,zab,mNil,mRd,mC,i1,c1]) rfl ?_
 try dsimp only[List.set]
 refine sd (by simp[zaj,zab,mNil,mRd,mC,t12,zaP]) ?_
 refine sq (d:=zbU []) (by simp[mLst,mNil,sizeLine,zbU]) rfl ?_
 refine za2 ((zce ?_).trans h1)
 show mRng _ [.v Rs,.v (.int n),.o (zbU []),.no]=_
 rw[Int.natCast_add (fs.length+1+T.length) 1] at rl
 simp only[mRng,zab,mNil,mC,mCB,mRd,List.getElem?_cons_zero,R.bind_ok,rl,R.of_some]
 show R.of (rng [.int 1,.int (((fs.length+1+T.length:Nat):Int)+1)])=_
 rw[rn,R.of_some]
theorem zhY {X:D} {x:Xc} (h:zcc [X]=.ex x):zbG [X]=.ex x:=by
 refine za5 (δ:=[.v X,.no,.no,.no,.no]) ?_
 show mSeq _ _ [.v X,.no,.no,.no,.no]=_
 refine za2 (zcp ?_)
 simp[zaj,zab,mNil,mVar,h]
theorem zoN {T:List (List Str)} {x:Xc} (h:zcc [zaG ([("round" : Str)]::T)]=.ex x):zbP [zaG ([("round" : Str)]::T)]=.ex x:=by
 have rl:=zhY h
 have r0:=row0 [("round" : Str)] T
 have wc:=zbm (ws:=[("round" : Str)]) (lo:=1) (hi:=1) (line:=0) (by simp) (by simp)
 obtain⟨W,eW⟩:∃W,W=rowD [("round" : Str)]:=⟨_,rfl⟩
 obtain⟨Rs,eR⟩:∃Rs,Rs=zaG ([("round" : Str)]::T):=⟨_,rfl⟩
 rw[← eR] at rl r0 ⊢
 rw[← eW] at r0 wc
 refine za5 (δ:=[.v Rs,.no]) ?_
 show mSeq _ _ [.v Rs,.no]=_
 refine sd (by simp[zaj,zab,mNil,mRd,mC,r0,wc]) ?_
 refine za2 (zcp ?_)
 simp[zaj,zab,mNil,mVar,rl]
theorem zj4 {T:List (List Str)} {m:Int} {x:Xc} (m0:1≤m) (m1:m≤12) (h:zcc [zaG ([("places" : Str),dg m]::T)]=.ex x):zbp [zaG ([("places" : Str),dg m]::T)]=.ex x:=by
 have rl:=zhY h
 have r0:=row0 [("places" : Str),dg m] T
 have w1:oIxL (rowD [("places" : Str),dg m]) (.int 1)=some (.str (dg m)):=zdS (k:=1) rfl
 have wc:=zbm (ws:=[("places" : Str),dg m]) (lo:=2) (hi:=2) (line:=0) (by simp) (by simp)
 have nb:=zbs (n:=m) (lo:=1) (hi:=12) (line:=0) (by omega) (by omega) m0 m1
 obtain⟨W,eW⟩:∃W,W=rowD [("places" : Str),dg m]:=⟨_,rfl⟩
 obtain⟨Rs,eR⟩:∃Rs,Rs=zaG ([("places" : Str),dg m]::T):=⟨_,rfl⟩
 rw[← eR] at rl r0 ⊢
 rw[← eW] at r0 wc w1
 refine za5 (δ:=[.v Rs,.v (.int m),.no]) ?_
 show mSeq _ _ [.v Rs,.no,.no]=_
 refine sd (by simp[zaj,zab,mNil,mRd,mC,r0,wc]) ?_
 refine sq (d:=.int m) (by simp[zaj,zab,mNil,mRd,mC,r0,w1,nb]) rfl ?_
 refine za2 (zcp ?_)
 simp[zaj,zab,mNil,mVar,rl]
theorem zkK {n:Nat} {m:Int} {fs:List (List Fr)} (ok:TbOk n fs) (m0:(n:Int)<m) (m1:m≤12):zbp [zaG ([("places" : Str),dg m]::fs.map fun r=>r.map wr)]=.ex (exL 0):=by
 have rl:=zdP ok [("places" : Str),dg m]
 have r0:=row0 [("places" : Str),dg m] (fs.map fun r=>r.map wr)
 have w1:oIxL (rowD [("places" : Str),dg m]) (.int 1)=some (.str (dg m)):=zdS (k:=1) rfl
 have wc:=zbm (ws:=[("places" : Str),dg m]) (lo:=2) (hi:=2) (line:=0) (by simp) (by simp)
 have nb:=zbs (n:=m) (lo:=1) (hi:=12) (line:=0) (by omega) (by omega) (by omega) m1
 obtain⟨W,eW⟩:∃W,W=rowD [("places" : Str),dg m]:=⟨_,rfl⟩
 obtain⟨Rs,eR⟩:∃Rs,Rs=zaG ([("places" : Str),dg m]::fs.map fun r=>r.map wr):=⟨_,rfl⟩
 rw[← eR] at rl r0 ⊢
 rw[← eW] at r0 wc w1
 have lT:fLen [tabU (un fs.flatten) fs]=some (.int n):=by rw[← ok.len];simp[tabU,tabD]
 obtain⟨T,eT⟩:∃T,T=tabU (un fs.flatten) fs:=⟨_,rfl⟩
 rw[← eT] at rl lT
 obtain⟨u,eu⟩:∃u,u=un fs.flatten:=⟨_,rfl⟩
 rw[← eu] at rl
 have i1:oIxT (.tup [.int u,T]) (.int 1)=some T:=rfl
 have w:=zd3 (x:=0) (by decide)
 refine za5 (δ:=[.v Rs,.v (.int m),.v (.tup [.int u,T])]) ?_
 show mSeq _ _ [.v Rs,.no,.no]=_
 refine sd (by simp[zaj,zab,mNil,mRd,mC,r0,wc]) ?_
 refine sq (d:=.int m) (by simp[zaj,zab,mNil,mRd,mC,r0,w1,nb]) rfl ?_
 refine sq (d:=.tup [.int u,T]) (by simp[zaj,zab,mNil,mVar,rl]) rfl ?_
 try dsimp only[List.set]
 refine za2 (zdG ?_)
 simp[zaj,zab,mNil,mRd,mC,mCB,i1,lT,m0,w]
def lsD (L:List (List Str)):D:=.lst ((L.map lnT).map .str)
theorem zpD {t:Str} {x:Xc} (h:zcP [.str t]=.ex x):zcz [.str t]=.ex x:=by
 refine za5 (δ:=[.v (.str t),.no,.no,.no,.no]) ?_
 show mSeq _ _ [.v (.str t),.no,.no,.no,.no]=_
 exact za2 (zcp (by simp[zaj,zab,mNil,mVar,h]))
theorem zqA {t:Str} {x:Xc} (h:zcP [.str t]=.ex x):zdI [.str t,.int 2000]=.ex x:=by
 refine za5 (δ:=[.v (.str t),.v (.int 2000),.no,.no,.no]) ?_
 show mSeq _ _ [.v (.str t),.v (.int 2000),.no,.no,.no]=_
 exact za2 (zcp (by simp[zaj,zab,mNil,mVar,h]))
theorem zpd {t:Str} {w:Int} {x:Xc} (w0:0≤w) (w1:w<3) (h:zcP [.str t]=.ex x):zcg [.str t,.int w]=.ex x:=by
 refine za5 (δ:=[.v (.str t),.v (.int w)]) ?_
 show mSeq _ _ [.v (.str t),.v (.int w)]=_
 have h1:=zpD h
 have h2:=zqA h
 rcases (show w=0∨w=1∨w=2 by omega) with rfl|rfl|rfl
 ·refine za2 ((zcN rfl).trans (zih ?_))
  simp[zaj,zab,mNil,mVar,h]
 ·refine sx (δ2:=[.v (.str t),.v (.int 1)]) ((zbe rfl).trans rfl) (za2 ((zcN rfl).trans (zih ?_)))
  simp[zaj,zab,mNil,mVar,h1]
 ·refine sx (δ2:=[.v (.str t),.v (.int 2)]) ((zbe rfl).trans rfl) (sx (δ2:=[.v (.str t),.v (.int 2)]) ((zbe rfl).trans rfl) (zih ?_))
  simp[zaj,zab,mNil,mVar,mC,h2]
theorem mod6 (k:Nat):(6+16*(k+1))%16=6:=by omega
theorem zmA {t:Str} {w line:Int} (w0:0≤w) (w1:w<3) (h:zcP [.str t]=.ex (exL line)):zb3 [.str t,.int w]=.ok (.exc (6+16*(line.toNat+1))):=by
 have a:=zpd w0 w1 h
 have sb:zcl (6+16*(line.toNat+1))=true:=by unfold zcl;rw[mod6];rfl
 refine zbL ?_
 show mSeq _ _ [.v (.str t),.v (.int w),.no,.no]=_
 refine sq (d:=.non) rfl rfl ?_
 show mSeq _ _ [.v (.str t),.v (.int w),.v .non,.no]=_
 refine sx (δ2:=[.v (.str t),.v (.int w),.v (.exc (6+16*(line.toNat+1))),.no]) ?_ rfl
 have b:mDo (zaj zcg (zab (mVar 0) (zab (mVar 1) mNil))) [.v (.str t),.v (.int w),.v .non,.no]=.ex [.v (.str t),.v (.int w),.v .non,.no] (exL line):=zdG (by simp[zaj,zab,mNil,mVar,a])
 unfold mTry
 rw[b]
 dsimp only
 rw[if_pos (show zcl (exL line).c=true from sb)]
 rfl
theorem zot {t:Str} {d:D} (h:zcP [.str t]=.ok d):zb3 [.str t,.int 0]=.ok .non:=by
 have a:zcg [.str t,.int 0]=.ok d:=by
  refine zbL ?_
  show mSeq _ _ [.v (.str t),.v (.int 0)]=_
  refine ze9 ((zcN rfl).trans ?_)
  simp[mRet,zaj,zab,mNil,mVar,h]
 refine zbL ?_
 show mSeq _ _ [.v (.str t),.v (.int 0),.no,.no]=_
 refine sq (d:=.non) rfl rfl ?_
 show mSeq _ _ [.v (.str t),.v (.int 0),.v .non,.no]=_
 refine sx (δ2:=[.v (.str t),.v (.int 0),.v .non,.no]) ?_ rfl
 have b:mDo (zaj zcg (zab (mVar 0) (zab (mVar 1) mNil))) [.v (.str t),.v (.int 0),.v .non,.no]=.nx [.v (.str t),.v (.int 0),.v .non,.no]:=by simp[mDo,zaj,zab,mNil,mVar,a]
 unfold mTry
 rw[b]
theorem zmi {t:Str} {w line:Int} (w0:0≤w) (w1:w<3) (hl:0≤line) (h:zcP [.str t]=.ex (exL line)):zc1 [.str t,.int w,.int line]=.ok (.bl true):=by
 have a:=zmA w0 w1 h
 obtain⟨c,ec⟩:∃c,c=6+16*(line.toNat+1):=⟨_,rfl⟩
 have cm:c%16=6:=by rw[ec];omega
 rw[← ec] at a
 have x1:zdK zfd (.exc c)=some (.bl true):=by simp[zdK,zfd,cm,zfG]
 have x2:zdK zdg (.exc c)=some (.bl true):=by simp[zdK,zdg,cm,zdH]
 have x3:zdK zez (.exc c)=some (.bl false):=by simp[zdK,zez,cm,zeQ]
 have x4:zdK zdC (.exc c)=some (.bl false):=by simp[zdK,zdC,cm,zea]
 have x5:zdK zfc (.exc c)=some (.bl false):=by simp[zdK,zfc,cm,zfw]
 have x6:zdK zet (.exc c)=some (.bl false):=by simp[zdK,zet,cm,zeZ]
 have x7:zdK zeu (.exc c)=some (.bl false):=by simp[zdK,zeu,cm,zeN]
 have al:zfO c=true:=by unfold zfO;rw[cm];rfl
 have at':zkP zfO (.exc c)=some (.int line):=by
  unfold zkP
  dsimp only
  rw[if_pos ⟨by omega,al⟩]
  congr 2
  omega
 have is0:oIs (.exc c) .non=some (.bl false):=rfl
 refine zbL ?_
 show mSeq _ _ [.v (.str t),.v (.int w),.v (.int line),.no]=_
 refine sq (d:=.exc c) (by simp[zar,zab,mNil,mVar,a]) rfl ?_
 show mSeq _ _ [.v (.str t),.v (.int w),.v (.int line),.v (.exc c)]=_
 refine sx ((zbe (by simp only[mOr,mNot,zaw,zoj,zcA,mRd,mC,List.getElem?_cons_succ,List.getElem?_cons_zero,R.bind_ok,is0,x1,x2,R.of_some,zmc];rfl)).trans rfl) ?_
 refine sx ((zbe (by simp only[mOr,mNot,zaw,zoj,zcA,mRd,mC,List.getElem?_cons_succ,List.getElem?_cons_zero,R.bind_ok,x3,x4,x5,R.of_some,zmc];rfl)).trans rfl) ?_
 refine sx ((zbe (by simp only[mOr,mNot,zaw,zoj,zcA,mRd,mC,List.getElem?_cons_succ,List.getElem?_cons_zero,R.bind_ok,x6,x7,R.of_some,zmc];rfl)).trans rfl) ?_
 simp[mRet,zoK,zgn,mRd,at',oIsi,isiB]
theorem zkO {ws:List Str} {k:Nat} {m:En→R D} {mh:En→R (Option Int)} {δ:En} (hm:m δ=.ok (rowD ws)) (hh:mh δ=.ok (some (k:Int))) (h:k≤ws.length):mSl m mNoP mh δ=.ok (rowD (ws.take k)):=by
 have c:=zoR (l:=ws.map D.str) (k:=k) (by rw[List.length_map];exact h)
 simp only[mSl,hm,hh,R.bind_ok,mNoP,R.of_some,rowD,asL,c,List.map_take]
theorem zm8 {ws:List Str} {k:Nat} {m:En→R D} {ml:En→R (Option Int)} {δ:En} (hm:m δ=.ok (rowD ws)) (hh:ml δ=.ok (some (k:Int))) (h:k≤ws.length):mSl m ml mNoP δ=.ok (rowD (ws.drop k)):=by
 have c:=ziz (l:=ws.map D.str) (k:=k) (by rw[List.length_map];exact h)
 simp only[mSl,hm,hh,R.bind_ok,mNoP,R.of_some,rowD,asL,c,List.map_drop]
theorem zqH {l:List D} {k:Nat} {d:D} (h:l[k]?=some d):cutD l (some (k:Int)) (some ((k:Int)+1))=[d]:=by
 have hk:=(List.getElem?_eq_some_iff.mp h).1
 have e:HT.sIx l.length 0 (some (k:Int))=k:=by
  show (if (k:Int)<0 then ((k:Int)+(l.length:Int)).toNat else min (k:Int).toNat l.length)=k
  rw[if_neg (by omega)];omega
 have e2:HT.sIx l.length l.length (some ((k:Int)+1))=k+1:=by
  show (if ((k:Int)+1)<0 then (((k:Int)+1)+(l.length:Int)).toNat else min ((k:Int)+1).toNat l.length)=k+1
  rw[if_neg (by omega)];omega
 unfold cutD
 rw[e,e2,show k+1 - k=1 by omega,List.drop_eq_getElem_cons hk]
 have:=(List.getElem?_eq_some_iff.mp h).2
 simp[this]
theorem zhC {a b:List Str} (h:a.length+b.length≤100000):oCat (rowD a) (rowD b)=some (rowD (a++b)):=by
 have:=znv (l:=a.map D.str) (r:=b.map D.str) (by rw[List.length_map,List.length_map];exact h)
 rw[← List.map_append] at this
 exact this
theorem zlw {A B:List (List Str)} (h:A.length+B.length≤100000):oCat (lsD A) (lsD B)=some (lsD (A++B)):=by
 have:=znv (l:=(A.map lnT).map D.str) (r:=(B.map lnT).map D.str) (by simp;omega)
 rw[← List.map_append,← List.map_append] at this
 exact this
def moreW:List Str:=["1","x","1","1","0","0","1"]
def elseW:List Str:=["0","1/1","","0","","0","-1"]
def zel (k:Nat) (ws:List Str) (p:Int):List Str:=
 if p%4=0 then ws++[moreW.getD k ""] else if p%4=1 then (if k=2 then [("rounds" : Str)] else ws.take 1) else
 if p%4=2∧k=4 then ws.take (2+p/4%3).toNat++[("0" : Str)]++ws.drop (2+p/4%3).toNat else if p%4=2∧k≠2 then ws.take 1++[elseW.getD k ""]++ws.drop 2 else
 ws.take (1+p/4%(ws.length:Int)).toNat++[("" : Str)]++ws.drop (1+p/4%(ws.length:Int)).toNat
theorem sl7 {l:List Str} {k:Nat} {v:Str} {m:En→R D} {δ:En} (hm:m δ=.ok (rowD l)) (hv:l[k]?=some v) (hd:δ[0]?=some (.v (.int k))):mSl m (zbq (mVar 0)) (zbq (m2 oAdd (mRd 0) (mC (.int 1)))) δ=.ok (rowD [v]):=by
 have c:=zqH (l:=l.map D.str) (k:=k) (d:=.str v) (by rw[List.getElem?_map,hv];rfl)
 have v0:mVar 0 δ=.ok (.int k):=by unfold mVar;rw[hd]
 have r0:mRd 0 δ=.ok (.int k):=by unfold mRd;rw[hd]
 simp only[mSl,hm,R.bind_ok,zbq,zcA,v0,r0,mC,zmL,zmG,R.of_some,rowD,asL,c];rfl
theorem zpu {k:Nat} {ws:List Str} {p:Int} (hk:k<7) (p0:0≤p) (h1:1≤ws.length) (h2:k≠2→2≤ws.length) (h4:k=4→4≤ws.length) (hl:ws.length≤50):zcI [.int k,rowD ws,.int p]=.ok (rowD (zel k ws p)):=by
 have f4:Fit 4:=fitN 100 (by decide)
 have lw:=zhs ws
 obtain⟨W,eW⟩:∃W,W=rowD ws:=⟨_,rfl⟩
 have more:mLst (zab (mC (.str "1")) (zab (mC (.str "x")) (zab (mC (.str "1")) (zab (mC (.str "1")) (zab (mC (.str "0")) (zab (mC (.str "0")) (zab (mC (.str "1")) mNil))))))) [.v (.int k),.v W,.v (.int p),.v (.int (p%4)),.no]=.ok (rowD moreW):=by simp[mLst,zab,mNil,mC,sizeLine,rowD,moreW]
 have els:mLst (zab (mC (.str "0")) (zab (mC (.str "1/1")) (zab (mC (.str "")) (zab (mC (.str "0")) (zab (mC (.str "")) (zab (mC (.str "0")) (zab (mC (.str "-1")) mNil))))))) [.v (.int k),.v W,.v (.int p),.v (.int (p%4)),.no]=.ok (rowD elseW):=by simp[mLst,zab,mNil,mC,sizeLine,rowD,elseW]
 have gm:moreW[k]?=some (moreW.getD k ""):=by rw[List.getD_eq_getElem?_getD,List.getElem?_eq_getElem (show k<moreW.length from hk)];rfl
 have ge:elseW[k]?=some (elseW.getD k ""):=by rw[List.getD_eq_getElem?_getD,List.getElem?_eq_getElem (show k<elseW.length from hk)];rfl
 have te:∀j:Int,zaw (m2 oEq (mRd 3) (mC (.int j))) [.v (.int k),.v W,.v (.int p),.v (.int (p%4)),.no]=.ok (decide (p%4=j)):=fun j=>by simp[zaw,mRd,mC]
 have tk:∀j:Int,zaw (m2 oEq (mRd 0) (mC (.int j))) [.v (.int k),.v W,.v (.int p),.v (.int (p%4)),.no]=.ok (decide ((k:Int)=j)):=fun j=>by simp[zaw,mRd,mC]
 have tn:zaw (m2 oNe (mRd 0) (mC (.int 2))) [.v (.int k),.v W,.v (.int p),.v (.int (p%4)),.no]=.ok (!decide ((k:Int)=2)):=by simp[zaw,mRd,mC]
 have w1:∀δ:En,δ[1]?=some (.v W)→mRd 1 δ=.ok (rowD ws):=fun δ h=>by rw[← eW];unfold mRd;rw[h]
 refine zbL ?_
 rw[← eW]
 show mSeq _ _ [.v (.int k),.v W,.v (.int p),.no,.no]=_
 refine sq (d:=.int (p%4)) (by simp[mRd,mC,zdv]) rfl ?_
 show mSeq _ _ [.v (.int k),.v W,.v (.int p),.v (.int (p%4)),.no]=_
 unfold zel
 by_cases c0:p%4=0
 ·rw[if_pos c0]
  refine ze9 ((zcN (by rw[te,decide_eq_true c0])).trans ?_)
  have s:=sl7 more gm rfl
  have ct:=zhC (a:=ws) (b:=[moreW.getD k ""]) (by simp;omega)
  simp only[mRet,zcA,w1 [.v (.int k),.v W,.v (.int p),.v (.int (p%4)),.no] rfl,s,R.bind_ok,ct,R.of_some,R.toO_ok]
 rw[if_neg c0]
 refine sx ((zbe (by rw[te,decide_eq_false c0])).trans rfl) ?_
 by_cases c1:p%4=1
 ·rw[if_pos c1]
  refine ze9 ((zcN (by rw[te,decide_eq_true c1])).trans ?_)
  have s:=zkO (k:=1) (mh:=zbq (mC (.int 1))) (w1 [.v (.int k),.v W,.v (.int p),.v (.int (p%4)),.no] rfl) rfl h1
  have ix:∀j:Int,j=(if k=2 then 1 else 0)→oIxL (.lst [rowD (ws.take 1),rowD [("rounds" : Str)]]) (.int j)=some (rowD (if k=2 then [("rounds" : Str)] else ws.take 1)):=fun j hj=>by
   rw[hj]
   by_cases z:k=2
   ·rw[if_pos z,if_pos z];rfl
   ·rw[if_neg z,if_neg z];rfl
  have i1:=ix (if ((k:Int)=2) then 1 else 0) (by split <;> split <;> omega)
  have rd:mLst (zab (mC (.str "rounds")) mNil) [.v (.int k),.v W,.v (.int p),.v (.int (p%4)),.no]=.ok (rowD [("rounds" : Str)]):=by simp[mLst,zab,mNil,mC,sizeLine,rowD]
  have ll:mLst (zab (mSl (mRd 1) mNoP (zbq (mC (.int 1)))) (zab (mLst (zab (mC (.str "rounds")) mNil)) mNil)) [.v (.int k),.v W,.v (.int p),.v (.int (p%4)),.no]=.ok (.lst [rowD (ws.take 1),rowD [("rounds" : Str)]]):=by
   simp only[mLst,zab,mNil,mC,R.bind_ok] at rd s ⊢
   rw[s,R.bind_ok,rd,R.bind_ok,R.bind_ok]
   exact za3 (by simp[sizeLine])
  have ii:mCB fInt (zab (m2 oEq (mRd 0) (mC (.int 2))) mNil) [.v (.int k),.v W,.v (.int p),.v (.int (p%4)),.no]=.ok (.int (if ((k:Int)=2) then 1 else 0)):=by simp[mCB,zab,mNil,mRd,mC,fInt]
  simp only[mRet,zcA (f:=oIxL),ll,ii,R.bind_ok,i1,R.of_some,R.toO_ok]
 rw[if_neg c1]
 refine sx ((zbe (by rw[te,decide_eq_false c1])).trans rfl) ?_
 have cats:∀(δ:En) (a:Nat) (v:Str) (mv:En→R D),δ[1]?=some (.v W)→δ[4]?=some (.v (.int (a:Int)))→a≤ws.length→mv δ=.ok (rowD [v])→m2 oCat (m2 oCat (mSl (mRd 1) mNoP (zbq (mVar 4))) mv) (mSl (mRd 1) (zbq (mVar 4)) mNoP) δ=.ok (rowD (ws.take a++[v]++ws.drop a)):=fun δ a v mv hW ha hle hv=>by
  have v4:zbq (mVar 4) δ=.ok (some (a:Int)):=by simp[zbq,mVar,ha]
  have s1:=zkO (w1 δ hW) v4 hle
  have s2:=zm8 (w1 δ hW) v4 hle
  have c1:=zhC (a:=ws.take a) (b:=[v]) (by simp;omega)
  have c2:=zhC (a:=ws.take a++[v]) (b:=ws.drop a) (by simp;omega)
  simp only[zcA,s1,s2,hv,R.bind_ok,c1,c2,R.of_some]
 by_cases c2:p%4=2∧k=4
 ·rw[if_pos c2]
  have m0:=zgI (p/4) (show (0:Int)<3 by decide)
  have m1:=zgB (p/4) (show (0:Int)<3 by decide)
  have l4:=h4 c2.2
  obtain⟨a,ea⟩:∃a:Nat,(a:Int)=2+p/4%3:=⟨(2+p/4%3).toNat,by omega⟩
  rw[show (2+p/4%3).toNat=a by omega]
  refine ze9 ((zcN (by simp only[mAnd,te,tk,R.bind_ok];rw[decide_eq_true c2.1,if_pos rfl,decide_eq_true (by omega)])).trans ?_)
  refine sq (d:=.int (a:Int)) (by simp[mRd,mC,zeL,f4,zdv,ea]) rfl ?_
  show mRet _ [.v (.int k),.v W,.v (.int p),.v (.int (p%4)),.v (.int a)]=_
  have cc:=cats [.v (.int k),.v W,.v (.int p),.v (.int (p%4)),.v (.int a)] a "0" (mLst (zab (mC (.str "0")) mNil)) rfl rfl (by omega) (by simp[mLst,zab,mNil,mC,sizeLine,rowD])
  simp only[mRet,cc,R.toO_ok]
 rw[if_neg c2]
 refine sx ((zbe (by
  simp only[mAnd,te,tk,R.bind_ok]
  by_cases z:p%4=2
  ·rw[decide_eq_true z,if_pos rfl,decide_eq_false (fun y=>c2 ⟨z,by omega⟩)]
  ·rw[decide_eq_false z,if_neg Bool.false_ne_true])).trans rfl) ?_
 by_cases c3:p%4=2∧k≠2
 ·rw[if_pos c3]
  have l2:=h2 c3.2
  refine ze9 ((zcN (by simp only[mAnd,te,tn,R.bind_ok];rw[decide_eq_true c3.1,if_pos rfl,decide_eq_false (fun y=>c3.2 (by omega))];rfl)).trans ?_)
  have s1:=zkO (k:=1) (mh:=zbq (mC (.int 1))) (w1 [.v (.int k),.v W,.v (.int p),.v (.int (p%4)),.no] rfl) rfl h1
  have s2:=zm8 (k:=2) (ml:=zbq (mC (.int 2))) (w1 [.v (.int k),.v W,.v (.int p),.v (.int (p%4)),.no] rfl) rfl l2
  have s:=sl7 els ge rfl
  have d1:=zhC (a:=ws.take 1) (b:=[elseW.getD k ""]) (by simp;omega)
  have d2:=zhC (a:=ws.take 1++[elseW.getD k ""]) (b:=ws.drop 2) (by simp;omega)
  simp only[mRet,zcA (f:=oCat),s1,s2,s,R.bind_ok,d1,d2,R.of_some,R.toO_ok]
 rw[if_neg c3]
 refine sx ((zbe (by
  simp only[mAnd,te,tn,R.bind_ok]
  by_cases z:p%4=2
  ·rw[decide_eq_true z,if_pos rfl,decide_eq_true (show (k:Int)=2 by have:¬ k≠2:=fun y=>c3 ⟨z,y⟩;omega)];rfl
  ·rw[decide_eq_false z,if_neg Bool.false_ne_true])).trans rfl) ?_
 have np:(0:Int)<(ws.length:Int):=by omega
 have m0:=zgI (p/4) np
 have m1:=zgB (p/4) np
 obtain⟨a,ea⟩:∃a:Nat,(a:Int)=1+p/4%(ws.length:Int):=⟨(1+p/4%(ws.length:Int)).toNat,by omega⟩
 rw[show (1+p/4%(ws.length:Int)).toNat=a by omega]
 rw[← eW] at lw
 refine sq (d:=.int (a:Int)) (by simp[mRd,mC,mCB,zab,mNil,lw,zeL,f4,zdv np,ea]) rfl ?_
 show mRet _ [.v (.int k),.v W,.v (.int p),.v (.int (p%4)),.v (.int a)]=_
 have cc:=cats [.v (.int k),.v W,.v (.int p),.v (.int (p%4)),.v (.int a)] a "" (mLst (zab (mC (.str "")) mNil)) rfl rfl (by omega) (by simp[mLst,zab,mNil,mC,sizeLine,rowD])
 simp only[mRet,cc,R.toO_ok]
def BadA (v:Str):Prop:=∀line:Int,0≤line→zaO [.str v,.int line]=.ex (exL line)
def BadP (v:Str):Prop:=∀line:Int,0≤line→zav [.str v,.int line]=.ex (exL line)
def BadN (v:Str):Prop:=∀lo hi line:Int,0≤line→zaC [.str v,.int lo,.int hi,.int line]=.ex (exL line)
theorem badP {v:Str} (h:BadA v):BadP v:=fun line hl=>zpw (h line hl)
def chkA (v:Str) (ps:List Str):Bool:=decide (v.length≤20) && decide (Txt.split v "/"=ps) && decide (ps.length≤2) && ps.all okW && !ps.all isnB
theorem badA {v:Str} (ps:List Str) (h:chkA v ps=true):BadA v:=fun line hl=>by
 unfold chkA at h
 simp only[Bool.and_eq_true,decide_eq_true_eq,Bool.not_eq_true'] at h
 obtain⟨⟨⟨⟨h1,h2⟩,h3⟩,h4⟩,h5⟩:=h
 exact znS (by omega) h2 h3 (fun p hp=>List.all_eq_true.mp h4 p hp) h5 hl
theorem badN {v:Str} (h:(okW v && !isnB v)=true):BadN v:=fun lo hi line hl=>by
 simp only[Bool.and_eq_true,Bool.not_eq_true'] at h
 exact zlR h.1 h.2 hl
structure BadW (v:Str):Prop where
 a:BadA v
 n:BadN v
 w:Wd v
def xs4:List Str:=["1_0","1/02","0_0","1/2_"]
theorem zeW:∀v∈xs4,BadW v:=fun v hv=>by
 have key:v = "1_0"∨v = "1/02"∨v = "0_0"∨v = "1/2_":=by
  unfold xs4 at hv
  simpa using hv
 rcases key with rfl|rfl|rfl|rfl
 ·exact⟨badA ["1_0"] (by decide +kernel),badN (by decide +kernel),⟨by decide +kernel,by decide +kernel,by decide +kernel⟩⟩
 ·exact⟨badA ["1","02"] (by decide +kernel),badN (by decide +kernel),⟨by decide +kernel,by decide +kernel,by decide +kernel⟩⟩
 ·exact⟨badA ["0_0"] (by decide +kernel),badN (by decide +kernel),⟨by decide +kernel,by decide +kernel,by decide +kernel⟩⟩
 ·exact⟨badA ["1","2_"] (by decide +kernel),badN (by decide +kernel),⟨by decide +kernel,by decide +kernel,by decide +kernel⟩⟩
theorem zri:BadA "x":=badA ["x"] (by decide +kernel)
theorem zhI:BadA "":=badA [""] (by decide +kernel)
theorem zsw:BadN "":=badN (by decide +kernel)
theorem zsL:BadA "-1":=badA ["-1"] (by decide +kernel)
theorem dg0:dg 0 = "0":=by decide +kernel
theorem dg1:dg 1 = "1":=by decide +kernel
theorem dg2:dg 2 = "2":=by decide +kernel
theorem dg9:dg 9 = "9":=by decide +kernel
theorem am_i {a:Int} (h0:0≤a) (h1:a<1000000000000):AmOk (a,1):=⟨h0,h1,by show (1:Int)≤1;decide,by show (1:Int)≤12;decide,by simp⟩
theorem wr_i (a:Int):wr (a,1)=dg a:=if_pos rfl
theorem zmb:BadP "0":=fun line hl=>by
 have:=zn7 (f:=(0,1)) (am_i (by decide) (by decide)) rfl hl
 rwa [wr_i,dg0] at this
theorem zrF:BadA "1/1":=fun line hl=>by
 have sp:Txt.split ("1/1" : Str) "/" = [("1" : Str),"1"]:=by decide +kernel
 have ls:("/" : Str).length=1:=by decide +kernel
 have l3:("1/1" : Str).length=3:=by decide +kernel
 have i1:=zkM (w:="1") (by decide +kernel)
 rw[show isnB "1"=true by decide +kernel] at i1
 have t1:=intS (i:=1) (by decide) (by decide)
 rw[dg1] at t1
 obtain⟨w,ew⟩:∃w:Str,w = "1":=⟨_,rfl⟩
 have k:zb2 [.v (.str "1/1"),.v (.int line),.v (.lst [.str "1",.str "1"]),.no,.no]=.ok (.lst [.bl true,.bl true]):=by
  refine zcZ (l:=[.str "1",.str "1"]) rfl (by simp) ?_
  simp[zb1,zeP,zaK,zbh,zar,zab,mNil,mVar,i1]
 refine za5 (δ:=[.v (.str "1/1"),.v (.int line),.v (.lst [.str "1",.str "1"]),.v (.int 1),.v (.int 1)]) ?_
 show mSeq _ _ [.v (.str "1/1"),.v (.int line),.no,.no,.no]=_
 refine sq (d:=.lst [.str "1",.str "1"]) ?_ rfl ?_
 ·show zd0 (.str "1/1") "/"=_
  unfold zd0
  dsimp only
  rw[sp,za3 ⟨by rw[ls];rfl,by rw[sizeLine_eq];omega,by rw[sizeLine_eq];simp⟩];rfl
 show mSeq _ _ [.v (.str "1/1"),.v (.int line),.v (.lst [.str "1",.str "1"]),.no,.no]=_
 refine sd (by simp[zaj,zab,mNil,mCB,mRd,mC,mVar,zaP]) ?_
 refine sd (by
  have e:mCB fAll (zab zb2 mNil) [.v (.str "1/1"),.v (.int line),.v (.lst [.str "1",.str "1"]),.no,.no]=.ok (.bl true):=by
   simp only[mCB,zab,mNil,k,R.bind_ok];rfl
  simp[zaj,zab,mNil,zgn,mVar,e,zaP]) ?_
 refine sq (d:=.int 1) (by
  show R.of (zg0 [.str "1"])=_
  rw[t1];rfl) rfl ?_
 show mSeq _ _ [.v (.str "1/1"),.v (.int line),.v (.lst [.str "1",.str "1"]),.v (.int 1),.no]=_
 refine sx ((zbe (by simp[zaw,mCB,zab,mNil,mRd,mC])).trans rfl) ?_
 refine sq (d:=.int 1) (by
  show R.of (zg0 [.str "1"])=_
  rw[t1];rfl) rfl ?_
 show mSeq _ _ [.v (.str "1/1"),.v (.int line),.v (.lst [.str "1",.str "1"]),.v (.int 1),.v (.int 1)]=_
 refine za2 (zdG ?_)
 simp[zaj,zab,mNil,mOrV,mRd,mC,mVar,zd3 hl]
theorem zes {m n:En→O} {δ:En} {d:D} (h:m δ=.ro d):mSeq m n δ=.ro d:=by unfold mSeq;rw[h]
theorem zlG {ws:List Str} (h:Ln ws):zd0 (.str (lnT ws)) " " = .ok (rowD ws):=by
 unfold zd0
 dsimp only
 rw[zk7 h,za3 ⟨by decide +kernel,Nat.le_trans (znk h) (by rw[sizeLine_eq];decide),Nat.le_trans h.le (by rw[sizeLine_eq];decide)⟩];rfl
theorem zlD {ws:List Str} (h:Ln ws):zjH " " (rowD ws)=.ok (.str (lnT ws)):=zqC h
theorem zsU {L:List (List Str)} {k:Nat} {w:List Str} (h:L[k]?=some w):oIxL (lsD L) (.int k)=some (.str (lnT w)):=zfu (by omega) (by rw[Int.toNat_natCast,List.getElem?_map,List.getElem?_map,h];rfl)
theorem zsB (L:List (List Str)):fLen [lsD L]=some (.int L.length):=by simp[lsD]
theorem zon {A:List (List Str)} {w:List Str}:oIxL (lsD (A++[w])) (.int (-1))=some (.str (lnT w)):=by
 have e:ixN ((A++[w]).map lnT |>.map D.str).length (-1)=some A.length:=by
  unfold ixN
  rw[if_neg (by decide)]
  simp
  omega
 show atI _ _=_
 unfold atI
 rw[e]
 simp
theorem zqO {A:List (List Str)} {w:List Str} {m:En→R D} {mh:En→R (Option Int)} {δ:En} (hm:m δ=.ok (lsD (A++[w]))) (hh:mh δ=.ok (some (-1))):mSl m mNoP mh δ=.ok (lsD A):=by
 have c:cutD (((A++[w]).map lnT).map D.str) none (some (-1))=(A.map lnT).map D.str:=by
  unfold cutD
  have e:HT.sIx (((A++[w]).map lnT).map D.str).length (((A++[w]).map lnT).map D.str).length (some (-1))=A.length:=by
   show (if (-1:Int)<0 then ((-1:Int)+((((A++[w]).map lnT).map D.str).length:Int)).toNat else min (-1:Int).toNat (((A++[w]).map lnT).map D.str).length)=_
   rw[if_pos (by decide)]
   simp
   omega
  rw[e]
  show (List.drop 0 _).take (A.length - 0)=_
  simp
 simp only[mSl,hm,hh,R.bind_ok,mNoP,R.of_some,lsD,asL,c]
theorem zq1 {w:List Str} {T:List (List Str)} {m:En→R D} {δ:En} (hm:m δ=.ok (lsD (w::T))):mSl m (zbq (mC (.int 1))) mNoP δ=.ok (lsD T):=by
 have c:=ziz (l:=((w::T).map lnT).map D.str) (k:=1) (by simp)
 simp only[mSl,hm,zbq,mC,R.bind_ok,mNoP,zmG,R.of_some,lsD,asL]
 rw[show (1:Int)=((1:Nat):Int) from rfl,c];rfl
theorem zij {m:En→R D} {δ:En} {w:List Str} (h:m δ=.ok (.str (lnT w))):mLst (zab m mNil) δ=.ok (lsD [w]):=by
 simp only[mLst,zab,mNil,h,R.bind_ok]
 exact za3 (by simp[sizeLine])
theorem zeS {f:D→D→Option D} {a b:En→R D} {δ:En} {x y z:D} (h1:a δ=.ok x) (h2:b δ=.ok y) (h:f x y=some z):m2 f a b δ=.ok z:=by
 simp only[zcA,h1,h2,R.bind_ok,h,R.of_some]
theorem ziZ {a b:En→R D} {δ:En} {x y:D} (h1:a δ=.ok x) (h2:b δ=.ok y):zdX (mLst (zab a (zab b mNil))) δ=.ro (.lst [x,y]):=by
 simp only[zdX,mLst,zab,mNil,h1,h2,R.bind_ok]
 rw[za3 (by simp[sizeLine])];rfl
theorem zkW {k:Nat} {w w2:List Str} {T:List (List Str)} {n:Int} (n0:0≤n) (h:n%6<4) (hf:zcI [.int k,rowD w,.int (n/6)]=.ok (rowD w2)) (l1:Ln w) (l2:Ln w2) (hT:T.length≤50):zbr [.int k,lsD (w::T),.int n]=.ok (.lst [lsD (w2::T),.int 0]):=by
 have f6:Fit 6:=fitN 100 (by decide)
 have i0:oIxL (lsD (w::T)) (.int 0)=some (.str (lnT w)):=zsU (k:=0) rfl
 have s0:=zlG l1
 have j0:=zlD l2
 have tl:∀δ:En,δ[1]?=some (.v (lsD (w::T)))→mSl (mRd 1) (zbq (mC (.int 1))) mNoP δ=.ok (lsD T):=fun δ hd=>zq1 (by unfold mRd;rw[hd])
 have ct:oCat (lsD [w2]) (lsD T)=some (lsD (w2::T)):=zlw (A:=[w2]) (B:=T) (by simp;omega)
 obtain⟨Ls,eL⟩:∃Ls,Ls=lsD (w::T):=⟨_,rfl⟩
 rw[← eL] at i0 tl ⊢
 refine zda ?_
 show mSeq _ _ [.v (.int k),.v Ls,.v (.int n),.no,.no,.no,.no]=_
 refine sq (d:=.int (n%6)) (by simp[mRd,mC,zdv]) rfl ?_
 refine sq (d:=.int (n/6)) (by simp[mRd,mC,zeL,f6]) rfl ?_
 show mSeq _ _ [.v (.int k),.v Ls,.v (.int n),.v (.int (n%6)),.v (.int (n/6)),.no,.no]=_
 refine zes ((zcN (by simp[zaw,mRd,mC,h])).trans ?_)
 have jn:zhT " " (zar zcI (zab (mVar 0) (zab (zeJ (m2 oIxL (mRd 1) (mC (.int 0))) " ") (zab (mVar 4) mNil)))) [.v (.int k),.v Ls,.v (.int n),.v (.int (n%6)),.v (.int (n/6)),.no,.no]=.ok (.str (lnT w2)):=by
  simp only[zhT,zar,zab,mNil,zeJ,zcA,mVar,mRd,mC,List.getElem?_cons_succ,List.getElem?_cons_zero,R.bind_ok,i0,R.of_some,s0,hf,R.nev_ok,j0]
 exact ziZ (zeS (zij jn) (tl _ rfl) ct) rfl
theorem zj3 {ws:List Str} {y v:Str}:((ws++[y]).map D.str).set ws.length (.str v)=(ws++[v]).map D.str:=by
 rw[List.map_append,List.map_append,List.set_append_right _ _ (by simp)]
 simp
theorem zme {k:Nat} {A:List (List Str)} {ws:List Str} {y:Str} {n:Int} (n0:0≤n) (h:¬ n%6<4) (h3:¬ (n%6=5∧k=3)) (l1:Ln (ws++[y])) (l2:∀v∈xs4,Ln (ws++[v])) (hA:A.length≤50):∃v∈xs4,zbr [.int k,lsD (A++[ws++[y]]),.int n]=.ok (.lst [lsD (A++[ws++[v]]),.int A.length]):=by
 have f6:Fit 6:=fitN 100 (by decide)
 have q0:=zgI (n/6) (show (0:Int)<4 by decide)
 have q1:=zgB (n/6) (show (0:Int)<4 by decide)
 obtain⟨v,hv,iv⟩:∃v∈xs4,oIxL (.lst [.str "1_0",.str "1/02",.str "0_0",.str "1/2_"]) (.int (n/6%4))=some (.str v):=by
  rcases (show n/6%4=0∨n/6%4=1∨n/6%4=2∨n/6%4=3 by omega) with e|e|e|e <;> rw[e]
  ·exact⟨"1_0",by simp[xs4],rfl⟩
  ·exact⟨"1/02",by simp[xs4],rfl⟩
  ·exact⟨"0_0",by simp[xs4],rfl⟩
  ·exact⟨"1/2_",by simp[xs4],rfl⟩
 refine⟨v,hv,zda ?_⟩
 have i0:=zon (A:=A) (w:=ws++[y])
 have s0:=zlG l1
 have j0:=zlD (l2 v hv)
 have len:=zsB (A++[ws++[y]])
 have ini:∀δ:En,δ[1]?=some (.v (lsD (A++[ws++[y]])))→mSl (mRd 1) mNoP (zbq (m1 oNeg (mC (.int 1)))) δ=.ok (lsD A):=fun δ hd=>zqO (by unfold mRd;rw[hd]) rfl
 have ct:oCat (lsD A) (lsD [ws++[v]])=some (lsD (A++[ws++[v]])):=zlw (by simp;omega)
 obtain⟨Ls,eL⟩:∃Ls,Ls=lsD (A++[ws++[y]]):=⟨_,rfl⟩
 rw[← eL] at i0 len ini ⊢
 show mSeq _ _ [.v (.int k),.v Ls,.v (.int n),.no,.no,.no,.no]=_
 refine sq (d:=.int (n%6)) (by simp[mRd,mC,zdv]) rfl ?_
 refine sq (d:=.int (n/6)) (by simp[mRd,mC,zeL,f6]) rfl ?_
 show mSeq _ _ [.v (.int k),.v Ls,.v (.int n),.v (.int (n%6)),.v (.int (n/6)),.no,.no]=_
 refine sx ((zbe (by simp[zaw,mRd,mC];omega)).trans rfl) ?_
 refine sx ((zbe (by
  have t1:zaw (m2 oEq (mRd 3) (mC (.int 5))) [.v (.int k),.v Ls,.v (.int n),.v (.int (n%6)),.v (.int (n/6)),.no,.no]=.ok (decide (n%6=5)):=by simp[zaw,mRd,mC]
  have t2:zaw (m2 oEq (mRd 0) (mC (.int 3))) [.v (.int k),.v Ls,.v (.int n),.v (.int (n%6)),.v (.int (n/6)),.no,.no]=.ok (decide ((k:Int)=3)):=by simp[zaw,mRd,mC]
  simp only[mAnd,t1,t2,R.bind_ok]
  by_cases z:n%6=5
  ·rw[decide_eq_true z,if_pos rfl,decide_eq_false (fun w=>h3 ⟨z,by omega⟩)]
  ·rw[decide_eq_false z,if_neg Bool.false_ne_true])).trans rfl) ?_
 refine sq (d:=rowD (ws++[y])) (by simp only[zeJ,zcA,zoj,mRd,mC,List.getElem?_cons_succ,List.getElem?_cons_zero,R.bind_ok,zpK,R.of_some,i0,s0]) rfl ?_
 show mSeq _ _ [.v (.int k),.v Ls,.v (.int n),.v (.int (n%6)),.v (.int (n/6)),.no,.o (rowD (ws++[y]))]=_
 refine sx (δ2:=[.v (.int k),.v Ls,.v (.int n),.v (.int (n%6)),.v (.int (n/6)),.no,.o (rowD (ws++[v]))]) ?_ ?_
 ·have ix:ixN ((ws++[y]).map D.str).length (-1)=some ws.length:=by
   unfold ixN
   rw[if_neg (by decide)]
   simp
   omega
  have e1:m2 oIxL (mLst (zab (mC (.str "1_0")) (zab (mC (.str "1/02")) (zab (mC (.str "0_0")) (zab (mC (.str "1/2_")) mNil))))) (m2 oMod (mRd 4) (mC (.int 4))) [.v (.int k),.v Ls,.v (.int n),.v (.int (n%6)),.v (.int (n/6)),.no,.o (rowD (ws++[y]))]=.ok (.str v):=zeS (x:=.lst [.str "1_0",.str "1/02",.str "0_0",.str "1/2_"]) (y:=.int (n/6%4)) (by simp[mLst,zab,mNil,mC,sizeLine]) (by simp[mRd,mC,zdv]) iv
  unfold zoP
  rw[show ([.v (.int k),.v Ls,.v (.int n),.v (.int (n%6)),.v (.int (n/6)),.no,.o (rowD (ws++[y]))]:En)[6]?=some (.o (.lst ((ws++[y]).map D.str))) from rfl]
  dsimp only
  rw[e1,R.toO_ok,show m1 oNeg (mC (.int 1)) [.v (.int k),.v Ls,.v (.int n),.v (.int (n%6)),.v (.int (n/6)),.no,.o (rowD (ws++[y]))]=.ok (.int (-1)) from rfl,R.toO_ok]
  dsimp only
  rw[ix]
  dsimp only
  rw[zj3];rfl
 show zdX _ [.v (.int k),.v Ls,.v (.int n),.v (.int (n%6)),.v (.int (n/6)),.no,.v (rowD (ws++[v]))]=_
 refine ziZ (zeS (ini _ rfl) (zij ?_) ct) (zeS (x:=.int ((A++[ws++[y]]).length:Int)) (y:=.int 1) ?_ rfl ?_)
 ·simp only[zhT,mVar,List.getElem?_cons_succ,List.getElem?_cons_zero,R.bind_ok,j0]
 ·simp only[mCB,zab,mNil,mRd,List.getElem?_cons_succ,List.getElem?_cons_zero,R.bind_ok,len,R.of_some]
 ·rw[zrL]
  simp
theorem zs9 {a:Int} (a0:1≤a) (a1:a≤9):Txt.slice (lnT [dg a,"0"]) none (some (-1))++"x"=lnT [dg a,"x"]∧(lnT [dg a,"0"]).length=3∧(Txt.slice (lnT [dg a,"0"]) none (some (-1))).length=2:=by
 have key:∀i:Fin 9,Txt.slice (lnT [dg ((i.val:Int)+1),"0"]) none (some (-1))++"x"=lnT [dg ((i.val:Int)+1),"x"]∧(lnT [dg ((i.val:Int)+1),"0"]).length=3∧(Txt.slice (lnT [dg ((i.val:Int)+1),"0"]) none (some (-1))).length=2:=by decide +kernel
 have:=key ⟨(a - 1).toNat,by omega⟩
 rwa [show (((a - 1).toNat:Nat):Int)+1=a by omega] at this
theorem zh8 {m:Int} (h0:0≤m) (h1:m≤100):zc0 (.str "places ") (.str (dg m))=some (.str (lnT [("places" : Str),dg m])):=by
 have wl:=(zns (i:=m) h0 (by omega)).len
 have sk:("places " : Str) = "places"++" ":=by decide +kernel
 have sl4:("places " : Str).length=7:=by decide +kernel
 rw[zb5 (by omega),zrT,sk]
theorem zjl {a n:Int} (a0:1≤a) (a1:a≤9) (n0:0≤n) (h:n%6=5):∃m:Int,(3≤m∧m≤12∧zbr [.int 3,lsD [[("places" : Str),"1"],["0",dg a],[dg a,"0"]],.int n]=.ok (.lst [lsD [[("places" : Str),dg m],["0",dg a],[dg a,"x"]],.int 2]))∨(4≤m∧m≤12∧zbr [.int 3,lsD [[("places" : Str),"1"],["0",dg a],[dg a,"0"]],.int n]=.ok (.lst [lsD [[("places" : Str),dg m],["0","1","9"],["1","0","1"],["9","1","0"]],.int 0])):=by
 have f6:Fit 6:=fitN 100 (by decide)
 have f10:Fit 10:=fitN 100 (by decide)
 have a2:=zgI (n/6) (show (0:Int)<10 by decide)
 have a3:=zgB (n/6) (show (0:Int)<10 by decide)
 have a4:=zgI (n/6) (show (0:Int)<9 by decide)
 have a5:=zgB (n/6) (show (0:Int)<9 by decide)
 obtain⟨Ls,eL⟩:∃Ls,Ls=lsD [[("places" : Str),"1"],["0",dg a],[dg a,"0"]]:=⟨_,rfl⟩
 have pre:∀r:O,mSeq (mAsg (m2 zc0 (mC (.str "places ")) (mCB zeY (zab (m2 oAdd (mC (.int 3)) (m2 oMod (mRd 4) (mC (.int 10)))) mNil))) (zax 5)) (mSeq (mIfS (zaw (m2 oEq (m2 oMod (m2 oDiv (mRd 4) (mC (.int 10))) (mC (.int 2))) (mC (.int 0)))) (zdX (mLst (zab (m2 oCat (m2 oCat (mLst (zab (mVar 5) mNil)) (mSl (mRd 1) (zbq (mC (.int 1))) (zbq (m1 oNeg (mC (.int 1)))))) (mLst (zab (m2 zc0 (mSlS (m2 oIxL (mRd 1) (m1 oNeg (mC (.int 1)))) mNoP (zbq (m1 oNeg (mC (.int 1))))) (mC (.str "x"))) mNil))) (zab (mC (.int 2)) mNil)))) zbi) (zdX (mLst (zab (mLst (zab (m2 zc0 (mC (.str "places ")) (mCB zeY (zab (m2 oAdd (mC (.int 4)) (m2 oMod (mRd 4) (mC (.int 9)))) mNil))) (zab (mC (.str "0 1 9")) (zab (mC (.str "1 0 1")) (zab (mC (.str "9 1 0")) mNil))))) (zab (mC (.int 0)) mNil))))) [.v (.int 3),.v Ls,.v (.int n),.v (.int (n%6)),.v (.int (n/6)),.no,.no]=r→(∃d,r=.ro d)→zex (zbn 4 [.int 3,Ls,.int n])=r:=fun r hr hd=>by
  show mSeq _ _ [.v (.int 3),.v Ls,.v (.int n),.no,.no,.no,.no]=_
  refine sq (d:=.int (n%6)) (by simp[mRd,mC,zdv]) rfl ?_
  refine sq (d:=.int (n/6)) (by simp[mRd,mC,zeL,f6]) rfl ?_
  show mSeq _ _ [.v (.int 3),.v Ls,.v (.int n),.v (.int (n%6)),.v (.int (n/6)),.no,.no]=_
  refine sx ((zbe (by simp[zaw,mRd,mC];omega)).trans rfl) ?_
  obtain⟨d,rfl⟩:=hd
  refine zes ((zcN ?_).trans hr)
  simp[mAnd,zaw,mRd,mC,h]
 have st:∀m:Int,m=3+n/6%10→mAsg (m2 zc0 (mC (.str "places ")) (mCB zeY (zab (m2 oAdd (mC (.int 3)) (m2 oMod (mRd 4) (mC (.int 10)))) mNil))) (zax 5) [.v (.int 3),.v Ls,.v (.int n),.v (.int (n%6)),.v (.int (n/6)),.no,.no]=.nx [.v (.int 3),.v Ls,.v (.int n),.v (.int (n%6)),.v (.int (n/6)),.v (.str (lnT [("places" : Str),dg m])),.no]:=fun m hm=>by
  have s:=zfm (i:=m) (by omega) (by omega)
  have p:=zh8 (m:=m) (by omega) (by omega)
  refine zcY (d:=.str (lnT [("places" : Str),dg m])) ?_ rfl
  rw[hm] at s p ⊢
  simp[mC,mCB,zab,mNil,mRd,zdv,s,p]
 by_cases c:n/6/10%2=0
 ·refine⟨3+n/6%10,.inl ⟨by omega,by omega,?_⟩⟩
  obtain⟨m,em⟩:∃m,m=3+n/6%10:=⟨_,rfl⟩
  obtain⟨x1,x2,x3⟩:=zs9 a0 a1
  have i0:oIxL Ls (.int (-1))=some (.str (lnT [dg a,"0"])):=by rw[eL];exact zon (A:=[[("places" : Str),"1"],["0",dg a]])
  have mid:mSl (mRd 1) (zbq (mC (.int 1))) (zbq (m1 oNeg (mC (.int 1)))) [.v (.int 3),.v Ls,.v (.int n),.v (.int (n%6)),.v (.int (n/6)),.v (.str (lnT [("places" : Str),dg m])),.no]=.ok (lsD [["0",dg a]]):=by
   have r1:mRd 1 [.v (.int 3),.v Ls,.v (.int n),.v (.int (n%6)),.v (.int (n/6)),.v (.str (lnT [("places" : Str),dg m])),.no]=.ok (lsD [[("places" : Str),"1"],["0",dg a],[dg a,"0"]]):=by rw[← eL];rfl
   simp only[mSl,r1,R.bind_ok]
   rfl
  have l1:mLst (zab (mVar 5) mNil) [.v (.int 3),.v Ls,.v (.int n),.v (.int (n%6)),.v (.int (n/6)),.v (.str (lnT [("places" : Str),dg m])),.no]=.ok (lsD [[("places" : Str),dg m]]):=zij rfl
  have cut:mSlS (m2 oIxL (mRd 1) (m1 oNeg (mC (.int 1)))) mNoP (zbq (m1 oNeg (mC (.int 1)))) [.v (.int 3),.v Ls,.v (.int n),.v (.int (n%6)),.v (.int (n/6)),.v (.str (lnT [("places" : Str),dg m])),.no]=.ok (.str (Txt.slice (lnT [dg a,"0"]) none (some (-1)))):=by
   simp only[mSlS,zcA,zoj,mRd,mC,List.getElem?_cons_succ,List.getElem?_cons_zero,R.bind_ok,zpK,R.of_some,i0,mNoP,zbq,zmG]
   exact za3 (by rw[x2,sizeLine_eq];omega)
  have xl:("x" : Str).length=1:=by decide +kernel
  have lx:m2 zc0 (mSlS (m2 oIxL (mRd 1) (m1 oNeg (mC (.int 1)))) mNoP (zbq (m1 oNeg (mC (.int 1))))) (mC (.str "x")) [.v (.int 3),.v Ls,.v (.int n),.v (.int (n%6)),.v (.int (n/6)),.v (.str (lnT [("places" : Str),dg m])),.no]=.ok (.str (lnT [dg a,"x"])):=zeS (y:=.str "x") cut rfl (by rw[zb5 (by omega),x1])
  rw[← em,← eL]
  refine zda (pre _ ?_ ⟨_,rfl⟩)
  refine sx (st m em) ?_
  refine zes ((zcN (by simp[zaw,mRd,mC,zeL,f10,zdv,c])).trans ?_)
  exact ziZ (zeS (zeS l1 mid (zlw (A:=[[("places" : Str),dg m]]) (B:=[["0",dg a]]) (by simp))) (zij lx) (zlw (A:=[[("places" : Str),dg m],["0",dg a]]) (B:=[[dg a,"x"]]) (by simp))) rfl
 ·refine⟨4+n/6%9,.inr ⟨by omega,by omega,?_⟩⟩
  obtain⟨m,em⟩:∃m,m=4+n/6%9:=⟨_,rfl⟩
  rw[← em,← eL]
  refine zda (pre _ ?_ ⟨_,rfl⟩)
  refine sx (st _ rfl) ?_
  refine sx ((zbe (by simp[zaw,mRd,mC,zeL,f10,zdv,c])).trans rfl) ?_
  have s:=zfm (i:=m) (by omega) (by omega)
  have p:=zh8 (m:=m) (by omega) (by omega)
  have t1:("0 1 9" : Str)=lnT ["0","1","9"]:=by decide +kernel
  have t2:("1 0 1" : Str)=lnT ["1","0","1"]:=by decide +kernel
  have t3:("9 1 0" : Str)=lnT ["9","1","0"]:=by decide +kernel
  refine ziZ ?_ rfl
  rw[em] at s p ⊢
  simp only[mLst,zab,mNil,zcA,mC,mCB,mRd,List.getElem?_cons_succ,List.getElem?_cons_zero,R.bind_ok,zdv (show (0:Int)<9 by decide),R.of_some,zmL,s,p]
  rw[za3 (by simp[sizeLine]),t1,t2,t3];rfl
def wdB (w:Str):Bool:=decide (w.length≤20) && !w.cps.toList.contains 32 && !w.cps.toList.contains 10
theorem zsb {w:Str} (h:wdB w=true):Wd w:=by
 unfold wdB at h
 simp only[Bool.and_eq_true,decide_eq_true_eq,Bool.not_eq_true'] at h
 refine⟨h.1.1,fun z=>?_,fun z=>?_⟩
 ·have:=List.contains_iff_mem.mpr z
  rw[h.1.2] at this;cases this
 ·have:=List.contains_iff_mem.mpr z
  rw[h.2] at this;cases this
def sure:List Str:=["","0","1","2","9","x","1/1","-1","rounds","cover","touch","round","places","benches","bins","sack","1_0","1/02","0_0","1/2_"]
theorem zec:∀w∈sure,Wd w:=fun w hw=>zsb (List.all_eq_true.mp (show sure.all wdB=true by decide +kernel) w hw)
def Wds (ws:List Str):Prop:=∀w∈ws,Wd w
theorem zbY:Wds []:=fun _ h=>nomatch h
theorem zbD {v:Str} {ws:List Str} (hv:v∈sure) (h:Wds ws):Wds (v::ws):=fun w hw=>by
 rcases List.mem_cons.mp hw with e|e
 ·rw[e];exact zec v hv
 ·exact h w e
theorem zcB {a:Int} {ws:List Str} (a0:0≤a) (a1:a≤100) (h:Wds ws):Wds (dg a::ws):=fun w hw=>by
 rcases List.mem_cons.mp hw with e|e
 ·rw[e];exact zns a0 (by omega)
 ·exact h w e
theorem zpr {v:Str} {ws:List Str} (hv:Wd v) (h:Wds ws):Wds (v::ws):=fun w hw=>by
 rcases List.mem_cons.mp hw with e|e
 ·rw[e];exact hv
 ·exact h w e
theorem ziU {a b:List Str} (h1:Wds a) (h2:Wds b):Wds (a++b):=fun w hw=>(List.mem_append.mp hw).elim (h1 w) (h2 w)
theorem zpb {a:List Str} (k:Nat) (h:Wds a):Wds (a.take k):=fun w hw=>h w (List.mem_of_mem_take hw)
theorem zo6 {a:List Str} (k:Nat) (h:Wds a):Wds (a.drop k):=fun w hw=>h w (List.mem_of_mem_drop hw)
theorem zb0 {w:Str} {ws:List Str} (h:Wds (w::ws)) (hl:ws.length≤50):Ln (w::ws):=⟨by simp,by simp;omega,h⟩
theorem zrf {ws:List Str} {v:Str} (h:Wds ws) (hv:Wd v) (hl:ws.length≤50):Ln (ws++[v]):=⟨by simp,by simp;omega,ziU h (zpr hv zbY)⟩
theorem zpL {l:List Str} (hl:Wds l) (k:Nat):Wd (l.getD k ""):=by
 rw[List.getD_eq_getElem?_getD]
 rcases h:l[k]? with _|v
 ·exact zec _ (by simp[sure])
 ·exact hl v (List.mem_of_getElem? h)
theorem zoV {k:Nat} {w:Str} {ws:List Str} {p:Int} (h:Wds (w::ws)) (hl:ws.length≤40):Ln (zel k (w::ws) p):=by
 have s0:Wd "":=zec _ (by simp[sure])
 have s1:Wd "0":=zec _ (by simp[sure])
 have m:Wds moreW:=fun v hv=>zec v ((show ∀v∈moreW,v∈sure by decide +kernel) v hv)
 have e:Wds elseW:=fun v hv=>zec v ((show ∀v∈elseW,v∈sure by decide +kernel) v hv)
 have app:∀(v:Str) (i j:Nat),i≤j→Wd v→Ln ((w::ws).take i++[v]++(w::ws).drop j):=fun v i j hij hv=>⟨by simp,by
  simp only[List.length_append,List.length_take,List.length_drop,List.length_cons,List.length_nil];omega,ziU (ziU (zpb _ h) (zpr hv zbY)) (zo6 _ h)⟩
 unfold zel
 split
 ·exact⟨by simp,by simp;omega,ziU h (zpr (zpL m k) zbY)⟩
 split
 ·split
  ·exact zb0 (zbD (by simp[sure]) zbY) (by simp)
  ·exact zb0 (ws:=[]) (zpr (h w (by simp)) zbY) (by simp)
 split
 ·exact app _ _ _ (Nat.le_refl _) s1
 split
 ·exact app _ _ _ (by decide) (zpL e k)
 ·exact app _ _ _ (Nat.le_refl _) s0
theorem ziM {L:List (List Str)} (h0:L≠[]) (h1:L.length≤50) (h:∀ws∈L,Ln ws):Tx L:=⟨h0,by omega,h⟩
structure Fine (k:Nat) (a b:Int) (L:List (List Str)):Prop where
 lines:zbt [.int k,.int a,.int b]=.ok (lsD L)
 tx:Tx L
 ok:∃d,zcP [.str (txT L)]=.ok d
def zgh (k:Nat) (L:List (List Str)):Prop:=∀n:Int,0≤n→∃(B:List (List Str)) (line:Int),0≤line∧zbr [.int k,lsD L,.int n]=.ok (.lst [lsD B,.int line])∧Tx B∧zcP [.str (txT B)]=.ex (exL line)
theorem zdT {k:Nat} {w:Str} {ws0:List Str} {T A:List (List Str)} {ws:List Str} {y:Str} (hk:k<7) (eL:(w::ws0)::T=A++[ws++[y]]) (h0:Wds (w::ws0)) (l0:ws0.length≤40) (h2:k≠2→1≤ws0.length) (h4:k=4→3≤ws0.length) (hT:T.length≤40) (lT:∀v∈T,Ln v)
  (hw:Wds ws) (hy:Wd y) (lw:ws.length≤40)
  (first:∀p:Int,0≤p→∃(k2:Str) (v:List Str),zel k (w::ws0) p=k2::v∧zas [.str k2,zaG ((k2::v)::T)]=.ex (exL 0))
  (last:∀v∈xs4,∃(k2:Str) (u:List Str) (T2:List (List Str)),A++[ws++[v]]=(k2::u)::T2∧zas [.str k2,zaG ((k2::u)::T2)]=.ex (exL (A.length:Int)))
  (many:k=3→∀n:Int,0≤n→n%6=5→∃(B:List (List Str)) (line:Int),0≤line∧zbr [.int k,lsD ((w::ws0)::T),.int n]=.ok (.lst [lsD B,.int line])∧Tx B∧zcP [.str (txT B)]=.ex (exL line)):zgh k ((w::ws0)::T):=fun n n0=>by
 by_cases c:n%6<4
 ·obtain⟨k2,v,e,r⟩:=first (n/6) (by omega)
  have l2:=zoV (k:=k) (p:=n/6) h0 l0
  have f:=zpu (k:=k) (ws:=w::ws0) (p:=n/6) hk (by omega) (by simp) (fun z=>by have:=h2 z;simp;omega) (fun z=>by have:=h4 z;simp;omega) (by simp;omega)
  refine⟨zel k (w::ws0) (n/6)::T,0,by omega,zkW n0 c f (zb0 h0 (by omega)) l2 (by omega),ziM (by simp) (by simp;omega) fun x hx=>?_,?_⟩
  ·rcases List.mem_cons.mp hx with z|z
   ·rw[z];exact l2
   ·exact lT x z
  ·rw[e] at l2 ⊢
   refine ziW (ziM (by simp) (by simp;omega) fun x hx=>?_) rfl r
   rcases List.mem_cons.mp hx with z|z
   ·rw[z];exact l2
   ·exact lT x z
 ·by_cases c3:n%6=5∧k=3
  ·exact many c3.2 n n0 c3.1
  ·have hA:A.length=T.length:=by
    have:=congrArg List.length eL
    simp at this;omega
   have lA:∀x∈A,Ln x:=fun x hx=>by
    have:x∈(w::ws0)::T:=by rw[eL];exact List.mem_append_left _ hx
    rcases List.mem_cons.mp this with z|z
    ·rw[z];exact zb0 h0 (by omega)
    ·exact lT x z
   have lv:∀v∈xs4,Ln (ws++[v]):=fun v hv=>zrf hw (zeW v hv).w (by omega)
   obtain⟨v,hv,e⟩:=zme (k:=k) (A:=A) (ws:=ws) (y:=y) n0 c c3 (zrf hw hy (by omega)) lv (by omega)
   obtain⟨k2,u,T2,e2,r⟩:=last v hv
   have tx:Tx (A++[ws++[v]]):=ziM (by simp) (by simp;omega) fun x hx=>by
    rcases List.mem_append.mp hx with z|z
    ·exact lA x z
    ·rw[List.mem_singleton.mp z];exact lv v hv
   refine⟨A++[ws++[v]],A.length,by omega,by rw[eL];exact e,tx,?_⟩
   rw[e2] at tx ⊢
   exact ziW tx rfl r
theorem fin9 {P:Int→Prop} (h:∀i:Fin 9,P ((i.val:Int)+1)) {a:Int} (a0:1≤a) (a1:a≤9):P a:=by
 have:=h ⟨(a - 1).toNat,by omega⟩
 rwa [show (((a - 1).toNat:Nat):Int)+1=a by omega] at this
theorem st_1 {a:Int} (a0:1≤a) (a1:a≤9):dg a++" 0"=lnT [dg a,"0"]∧dg a++" 1 0"=lnT [dg a,"1","0"]∧"0 "++dg a=lnT ["0",dg a]∧(dg a).length=1:=fin9 (P:=fun a=>dg a++" 0"=lnT [dg a,"0"]∧dg a++" 1 0"=lnT [dg a,"1","0"]∧"0 "++dg a=lnT ["0",dg a]∧(dg a).length=1) (by decide +kernel) a0 a1
theorem st_2 {a b:Int} (a0:1≤a) (a1:a≤9) (b0:1≤b) (b1:b≤9) : "touch "++dg a++" "++dg b=lnT ["touch",dg a,dg b]∧"benches 2 "++dg a++" "++dg b=lnT ["benches","2",dg a,dg b]∧"bins 9 "++dg a++" "++dg b=lnT ["bins","9",dg a,dg b]∧dg a++" "++dg b=lnT [dg a,dg b]:=by
 refine fin9 (P:=fun a=>"touch "++dg a++" "++dg b=lnT ["touch",dg a,dg b]∧"benches 2 "++dg a++" "++dg b=lnT ["benches","2",dg a,dg b]∧"bins 9 "++dg a++" "++dg b=lnT ["bins","9",dg a,dg b]∧dg a++" "++dg b=lnT [dg a,dg b]) (fun i=>?_) a0 a1
 refine fin9 (P:=fun b=>"touch "++dg ((i.val:Int)+1)++" "++dg b=lnT ["touch",dg ((i.val:Int)+1),dg b]∧"benches 2 "++dg ((i.val:Int)+1)++" "++dg b=lnT ["benches","2",dg ((i.val:Int)+1),dg b]∧"bins 9 "++dg ((i.val:Int)+1)++" "++dg b=lnT ["bins","9",dg ((i.val:Int)+1),dg b]∧dg ((i.val:Int)+1)++" "++dg b=lnT [dg ((i.val:Int)+1),dg b]) (fun j=>?_) b0 b1
 revert i j
 decide +kernel
theorem zho {a:Int} (a0:1≤a) (a1:a≤9):("touch "++dg a).length=7∧("touch "++dg a++" ").length=8∧("benches 2 "++dg a).length=11∧("benches 2 "++dg a++" ").length=12∧("bins 9 "++dg a).length=8∧("bins 9 "++dg a++" ").length=9∧(dg a++" ").length=2:=fin9 (P:=fun a=>("touch "++dg a).length=7∧("touch "++dg a++" ").length=8∧("benches 2 "++dg a).length=11∧("benches 2 "++dg a++" ").length=12∧("bins 9 "++dg a).length=8∧("bins 9 "++dg a++" ").length=9∧(dg a++" ").length=2) (by decide +kernel) a0 a1
theorem st_c:("cover 2" : Str)=lnT ["cover","2"]∧("0 1" : Str)=lnT ["0","1"]∧("round" : Str)=lnT ["round"]∧("places 1" : Str)=lnT ["places","1"]∧("sack 9" : Str)=lnT ["sack","9"]:=by decide +kernel
theorem st_l:(" 0" : Str).length=2∧(" 1 0" : Str).length=4∧("0 " : Str).length=2∧(" " : Str).length=1∧("touch " : Str).length=6∧("benches 2 " : Str).length=10∧("bins 9 " : Str).length=7:=by decide +kernel
theorem zhw {m:En→R (List D)} {δ:En} {l:List D} (h:m δ=.ok l) (hl:l.length≤100):zdX (mLst m) δ=.ro (.lst l):=by
 simp only[zdX,mLst,h,R.bind_ok]
 rw[za3 (by rw[sizeLine_eq];omega)];rfl
theorem zkN {a b:Int} (a0:1≤a) (a1:a≤9) (b0:1≤b) (b1:b≤9):zbt [.int 0,.int a,.int b]=.ok (lsD [[("cover" : Str),"2"],[dg a,"0"],[dg b,"1","0"]]):=by
 obtain⟨p1,p2,p3,p4⟩:=st_1 a0 a1
 obtain⟨q1,q2,q3,q4⟩:=st_1 b0 b1
 obtain⟨r1,r2,r3,r4⟩:=st_2 a0 a1 b0 b1
 obtain⟨c1,c2,c3,c4,c5⟩:=st_c
 obtain⟨l1,l2,l3,l4,l5,l6,l7⟩:=st_l
 obtain⟨g1,g2,g3,g4,g5,g6,g7⟩:=zho a0 a1
 have sa:=zfm (i:=a) (by omega) (by omega)
 have sb:=zfm (i:=b) (by omega) (by omega)
 refine zda ?_
 show mSeq _ _ [.v (.int 0),.v (.int a),.v (.int b),.no,.no]=_
 refine sq (d:=.str (dg a)) (by simp only[mCB,zab,mNil,mRd,List.getElem?_cons_succ,List.getElem?_cons_zero,R.bind_ok,sa,R.of_some]) rfl ?_
 refine sq (d:=.str (dg b)) (by
  show mCB zeY (zab (mRd 2) mNil) [.v (.int 0),.v (.int a),.v (.int b),.v (.str (dg a)),.no]=_
  simp only[mCB,zab,mNil,mRd,List.getElem?_cons_succ,List.getElem?_cons_zero,R.bind_ok,sb,R.of_some]) rfl ?_
 show mSeq _ _ [.v (.int 0),.v (.int a),.v (.int b),.v (.str (dg a)),.v (.str (dg b))]=_
 refine zes ((zcN (by simp[zaw,mRd,mC])).trans (zhw ?_ (by simp)))
 show _=R.ok [D.str (lnT [("cover" : Str),"2"]),D.str (lnT [dg a,"0"]),D.str (lnT [dg b,"1","0"])]
 rw[← c1,← p1,← q2]
 simp only[zab,mNil,zcA,mC,mRd,List.getElem?_cons_succ,List.getElem?_cons_zero,R.bind_ok,zb5 (a:=dg a) (b:=" 0") (by omega),zb5 (a:=dg b) (b:=" 1 0") (by omega),R.of_some]
theorem zkn {a b:Int} (a0:1≤a) (a1:a≤9) (b0:1≤b) (b1:b≤9):zbt [.int 1,.int a,.int b]=.ok (lsD [[("touch" : Str),dg a,dg b],["0","1"]]):=by
 obtain⟨p1,p2,p3,p4⟩:=st_1 a0 a1
 obtain⟨q1,q2,q3,q4⟩:=st_1 b0 b1
 obtain⟨r1,r2,r3,r4⟩:=st_2 a0 a1 b0 b1
 obtain⟨c1,c2,c3,c4,c5⟩:=st_c
 obtain⟨l1,l2,l3,l4,l5,l6,l7⟩:=st_l
 obtain⟨g1,g2,g3,g4,g5,g6,g7⟩:=zho a0 a1
 have sa:=zfm (i:=a) (by omega) (by omega)
 have sb:=zfm (i:=b) (by omega) (by omega)
 refine zda ?_
 show mSeq _ _ [.v (.int 1),.v (.int a),.v (.int b),.no,.no]=_
 refine sq (d:=.str (dg a)) (by simp only[mCB,zab,mNil,mRd,List.getElem?_cons_succ,List.getElem?_cons_zero,R.bind_ok,sa,R.of_some]) rfl ?_
 refine sq (d:=.str (dg b)) (by
  show mCB zeY (zab (mRd 2) mNil) [.v (.int 1),.v (.int a),.v (.int b),.v (.str (dg a)),.no]=_
  simp only[mCB,zab,mNil,mRd,List.getElem?_cons_succ,List.getElem?_cons_zero,R.bind_ok,sb,R.of_some]) rfl ?_
 show mSeq _ _ [.v (.int 1),.v (.int a),.v (.int b),.v (.str (dg a)),.v (.str (dg b))]=_
 refine sx ((zbe (by simp[zaw,mRd,mC])).trans rfl) ?_
 refine zes ((zcN (by simp[zaw,mRd,mC])).trans (zhw ?_ (by simp)))
 show _=R.ok [D.str (lnT [("touch" : Str),dg a,dg b]),D.str (lnT ["0","1"])]
 rw[← r1,← c2]
 simp only[zab,mNil,zcA,mC,mRd,List.getElem?_cons_succ,List.getElem?_cons_zero,R.bind_ok,zb5 (a:="touch ") (b:=dg a) (by omega),zb5 (a:="touch "++dg a) (b:=" ") (by omega),zb5 (a:="touch "++dg a++" ") (b:=dg b) (by omega),R.of_some]
theorem zkt {a b:Int} (a0:1≤a) (a1:a≤9) (b0:1≤b) (b1:b≤9):zbt [.int 2,.int a,.int b]=.ok (lsD [[("round" : Str)],["0",dg a],[dg a,"0"]]):=by
 obtain⟨p1,p2,p3,p4⟩:=st_1 a0 a1
 obtain⟨q1,q2,q3,q4⟩:=st_1 b0 b1
 obtain⟨r1,r2,r3,r4⟩:=st_2 a0 a1 b0 b1
 obtain⟨c1,c2,c3,c4,c5⟩:=st_c
 obtain⟨l1,l2,l3,l4,l5,l6,l7⟩:=st_l
 obtain⟨g1,g2,g3,g4,g5,g6,g7⟩:=zho a0 a1
 have sa:=zfm (i:=a) (by omega) (by omega)
 have sb:=zfm (i:=b) (by omega) (by omega)
 refine zda ?_
 show mSeq _ _ [.v (.int 2),.v (.int a),.v (.int b),.no,.no]=_
 refine sq (d:=.str (dg a)) (by simp only[mCB,zab,mNil,mRd,List.getElem?_cons_succ,List.getElem?_cons_zero,R.bind_ok,sa,R.of_some]) rfl ?_
 refine sq (d:=.str (dg b)) (by
  show mCB zeY (zab (mRd 2) mNil) [.v (.int 2),.v (.int a),.v (.int b),.v (.str (dg a)),.no]=_
  simp only[mCB,zab,mNil,mRd,List.getElem?_cons_succ,List.getElem?_cons_zero,R.bind_ok,sb,R.of_some]) rfl ?_
 show mSeq _ _ [.v (.int 2),.v (.int a),.v (.int b),.v (.str (dg a)),.v (.str (dg b))]=_
 refine sx ((zbe (by simp[zaw,mRd,mC])).trans rfl) ?_
 refine sx ((zbe (by simp[zaw,mRd,mC])).trans rfl) ?_
 refine zes ((zcN (by simp[zaw,mRd,mC])).trans (zhw ?_ (by simp)))
 show _=R.ok [D.str (lnT [("round" : Str)]),D.str (lnT ["0",dg a]),D.str (lnT [dg a,"0"])]
 rw[← c3,← p3,← p1]
 simp only[zab,mNil,zcA,mC,mRd,List.getElem?_cons_succ,List.getElem?_cons_zero,R.bind_ok,zb5 (a:="0 ") (b:=dg a) (by omega),zb5 (a:=dg a) (b:=" 0") (by omega),R.of_some]
theorem zjE {a b:Int} (a0:1≤a) (a1:a≤9) (b0:1≤b) (b1:b≤9):zbt [.int 3,.int a,.int b]=.ok (lsD [[("places" : Str),"1"],["0",dg a],[dg a,"0"]]):=by
 obtain⟨p1,p2,p3,p4⟩:=st_1 a0 a1
 obtain⟨q1,q2,q3,q4⟩:=st_1 b0 b1
 obtain⟨r1,r2,r3,r4⟩:=st_2 a0 a1 b0 b1
 obtain⟨c1,c2,c3,c4,c5⟩:=st_c
 obtain⟨l1,l2,l3,l4,l5,l6,l7⟩:=st_l
 obtain⟨g1,g2,g3,g4,g5,g6,g7⟩:=zho a0 a1
 have sa:=zfm (i:=a) (by omega) (by omega)
 have sb:=zfm (i:=b) (by omega) (by omega)
 refine zda ?_
 show mSeq _ _ [.v (.int 3),.v (.int a),.v (.int b),.no,.no]=_
 refine sq (d:=.str (dg a)) (by simp only[mCB,zab,mNil,mRd,List.getElem?_cons_succ,List.getElem?_cons_zero,R.bind_ok,sa,R.of_some]) rfl ?_
 refine sq (d:=.str (dg b)) (by
  show mCB zeY (zab (mRd 2) mNil) [.v (.int 3),.v (.int a),.v (.int b),.v (.str (dg a)),.no]=_
  simp only[mCB,zab,mNil,mRd,List.getElem?_cons_succ,List.getElem?_cons_zero,R.bind_ok,sb,R.of_some]) rfl ?_
 show mSeq _ _ [.v (.int 3),.v (.int a),.v (.int b),.v (.str (dg a)),.v (.str (dg b))]=_
 refine sx ((zbe (by simp[zaw,mRd,mC])).trans rfl) ?_
 refine sx ((zbe (by simp[zaw,mRd,mC])).trans rfl) ?_
 refine sx ((zbe (by simp[zaw,mRd,mC])).trans rfl) ?_
 refine zes ((zcN (by simp[zaw,mRd,mC])).trans (zhw ?_ (by simp)))
 show _=R.ok [D.str (lnT [("places" : Str),"1"]),D.str (lnT ["0",dg a]),D.str (lnT [dg a,"0"])]
 rw[← c4,← p3,← p1]
 simp only[zab,mNil,zcA,mC,mRd,List.getElem?_cons_succ,List.getElem?_cons_zero,R.bind_ok,zb5 (a:="0 ") (b:=dg a) (by omega),zb5 (a:=dg a) (b:=" 0") (by omega),R.of_some]
theorem zi1 {a b:Int} (a0:1≤a) (a1:a≤9) (b0:1≤b) (b1:b≤9):zbt [.int 4,.int a,.int b]=.ok (lsD [[("benches" : Str),"2",dg a,dg b]]):=by
 obtain⟨p1,p2,p3,p4⟩:=st_1 a0 a1
 obtain⟨q1,q2,q3,q4⟩:=st_1 b0 b1
 obtain⟨r1,r2,r3,r4⟩:=st_2 a0 a1 b0 b1
 obtain⟨c1,c2,c3,c4,c5⟩:=st_c
 obtain⟨l1,l2,l3,l4,l5,l6,l7⟩:=st_l
 obtain⟨g1,g2,g3,g4,g5,g6,g7⟩:=zho a0 a1
 have sa:=zfm (i:=a) (by omega) (by omega)
 have sb:=zfm (i:=b) (by omega) (by omega)
 refine zda ?_
 show mSeq _ _ [.v (.int 4),.v (.int a),.v (.int b),.no,.no]=_
 refine sq (d:=.str (dg a)) (by simp only[mCB,zab,mNil,mRd,List.getElem?_cons_succ,List.getElem?_cons_zero,R.bind_ok,sa,R.of_some]) rfl ?_
 refine sq (d:=.str (dg b)) (by
  show mCB zeY (zab (mRd 2) mNil) [.v (.int 4),.v (.int a),.v (.int b),.v (.str (dg a)),.no]=_
  simp only[mCB,zab,mNil,mRd,List.getElem?_cons_succ,List.getElem?_cons_zero,R.bind_ok,sb,R.of_some]) rfl ?_
 show mSeq _ _ [.v (.int 4),.v (.int a),.v (.int b),.v (.str (dg a)),.v (.str (dg b))]=_
 refine sx ((zbe (by simp[zaw,mRd,mC])).trans rfl) ?_
 refine sx ((zbe (by simp[zaw,mRd,mC])).trans rfl) ?_
 refine sx ((zbe (by simp[zaw,mRd,mC])).trans rfl) ?_
 refine sx ((zbe (by simp[zaw,mRd,mC])).trans rfl) ?_
 refine zes ((zcN (by simp[zaw,mRd,mC])).trans (zhw ?_ (by simp)))
 show _=R.ok [D.str (lnT [("benches" : Str),"2",dg a,dg b])]
 rw[← r2]
 simp only[zab,mNil,zcA,mC,mRd,List.getElem?_cons_succ,List.getElem?_cons_zero,R.bind_ok,zb5 (a:="benches 2 ") (b:=dg a) (by omega),zb5 (a:="benches 2 "++dg a) (b:=" ") (by omega),zb5 (a:="benches 2 "++dg a++" ") (b:=dg b) (by omega),R.of_some]
theorem zmk {a b:Int} (a0:1≤a) (a1:a≤9) (b0:1≤b) (b1:b≤9):zbt [.int 5,.int a,.int b]=.ok (lsD [[("bins" : Str),"9",dg a,dg b]]):=by
 obtain⟨p1,p2,p3,p4⟩:=st_1 a0 a1
 obtain⟨q1,q2,q3,q4⟩:=st_1 b0 b1
 obtain⟨r1,r2,r3,r4⟩:=st_2 a0 a1 b0 b1
 obtain⟨c1,c2,c3,c4,c5⟩:=st_c
 obtain⟨l1,l2,l3,l4,l5,l6,l7⟩:=st_l
 obtain⟨g1,g2,g3,g4,g5,g6,g7⟩:=zho a0 a1
 have sa:=zfm (i:=a) (by omega) (by omega)
 have sb:=zfm (i:=b) (by omega) (by omega)
 refine zda ?_
 show mSeq _ _ [.v (.int 5),.v (.int a),.v (.int b),.no,.no]=_
 refine sq (d:=.str (dg a)) (by simp only[mCB,zab,mNil,mRd,List.getElem?_cons_succ,List.getElem?_cons_zero,R.bind_ok,sa,R.of_some]) rfl ?_
 refine sq (d:=.str (dg b)) (by
  show mCB zeY (zab (mRd 2) mNil) [.v (.int 5),.v (.int a),.v (.int b),.v (.str (dg a)),.no]=_
  simp only[mCB,zab,mNil,mRd,List.getElem?_cons_succ,List.getElem?_cons_zero,R.bind_ok,sb,R.of_some]) rfl ?_
 show mSeq _ _ [.v (.int 5),.v (.int a),.v (.int b),.v (.str (dg a)),.v (.str (dg b))]=_
 refine sx ((zbe (by simp[zaw,mRd,mC])).trans rfl) ?_
 refine sx ((zbe (by simp[zaw,mRd,mC])).trans rfl) ?_
 refine sx ((zbe (by simp[zaw,mRd,mC])).trans rfl) ?_
 refine sx ((zbe (by simp[zaw,mRd,mC])).trans rfl) ?_
 refine sx ((zbe (by simp[zaw,mRd,mC])).trans rfl) ?_
 refine zes ((zcN (by simp[zaw,mRd,mC])).trans (zhw ?_ (by simp)))
 show _=R.ok [D.str (lnT [("bins" : Str),"9",dg a,dg b])]
 rw[← r3]
 simp only[zab,mNil,zcA,mC,mRd,List.getElem?_cons_succ,List.getElem?_cons_zero,R.bind_ok,zb5 (a:="bins 9 ") (b:=dg a) (by omega),zb5 (a:="bins 9 "++dg a) (b:=" ") (by omega),zb5 (a:="bins 9 "++dg a++" ") (b:=dg b) (by omega),R.of_some]
theorem zl9 {a b:Int} (a0:1≤a) (a1:a≤9) (b0:1≤b) (b1:b≤9):zbt [.int 6,.int a,.int b]=.ok (lsD [[("sack" : Str),"9"],[dg a,dg b]]):=by
 obtain⟨p1,p2,p3,p4⟩:=st_1 a0 a1
 obtain⟨q1,q2,q3,q4⟩:=st_1 b0 b1
 obtain⟨r1,r2,r3,r4⟩:=st_2 a0 a1 b0 b1
 obtain⟨c1,c2,c3,c4,c5⟩:=st_c
 obtain⟨l1,l2,l3,l4,l5,l6,l7⟩:=st_l
 obtain⟨g1,g2,g3,g4,g5,g6,g7⟩:=zho a0 a1
 have sa:=zfm (i:=a) (by omega) (by omega)
 have sb:=zfm (i:=b) (by omega) (by omega)
 refine zda ?_
 show mSeq _ _ [.v (.int 6),.v (.int a),.v (.int b),.no,.no]=_
 refine sq (d:=.str (dg a)) (by simp only[mCB,zab,mNil,mRd,List.getElem?_cons_succ,List.getElem?_cons_zero,R.bind_ok,sa,R.of_some]) rfl ?_
 refine sq (d:=.str (dg b)) (by
  show mCB zeY (zab (mRd 2) mNil) [.v (.int 6),.v (.int a),.v (.int b),.v (.str (dg a)),.no]=_
  simp only[mCB,zab,mNil,mRd,List.getElem?_cons_succ,List.getElem?_cons_zero,R.bind_ok,sb,R.of_some]) rfl ?_
 show mSeq _ _ [.v (.int 6),.v (.int a),.v (.int b),.v (.str (dg a)),.v (.str (dg b))]=_
 refine sx ((zbe (by simp[zaw,mRd,mC])).trans rfl) ?_
 refine sx ((zbe (by simp[zaw,mRd,mC])).trans rfl) ?_
 refine sx ((zbe (by simp[zaw,mRd,mC])).trans rfl) ?_
 refine sx ((zbe (by simp[zaw,mRd,mC])).trans rfl) ?_
 refine sx ((zbe (by simp[zaw,mRd,mC])).trans rfl) ?_
 refine sx ((zbe (by simp[zaw,mRd,mC])).trans rfl) ?_
 refine zhw ?_ (by simp)
 show _=R.ok [D.str (lnT [("sack" : Str),"9"]),D.str (lnT [dg a,dg b])]
 rw[← c5,← r4]
 simp only[zab,mNil,zcA,mC,mRd,List.getElem?_cons_succ,List.getElem?_cons_zero,R.bind_ok,zb5 (a:=dg a) (b:=" ") (by omega),zb5 (a:=dg a++" ") (b:=dg b) (by omega),R.of_some]
theorem zcG (k:Nat) (ws:List Str) (p:Int) (p0:0≤p) (h1:1≤ws.length):(zel k ws p=ws++[moreW.getD k ""])∨(k=2∧zel k ws p=[("rounds" : Str)])∨(k≠2∧zel k ws p=ws.take 1)∨(k=4∧∃i:Nat,2≤i∧i≤4∧zel k ws p=ws.take i++[("0" : Str)]++ws.drop i)∨((k≠2∧k≠4)∧zel k ws p=ws.take 1++[elseW.getD k ""]++ws.drop 2)∨(∃i:Nat,1≤i∧i≤ws.length∧zel k ws p=ws.take i++[("" : Str)]++ws.drop i):=by
 unfold zel
 by_cases c0:p%4=0
 ·rw[if_pos c0];exact .inl rfl
 rw[if_neg c0]
 by_cases c1:p%4=1
 ·rw[if_pos c1]
  by_cases k2:k=2
  ·rw[if_pos k2];exact .inr (.inl ⟨k2,rfl⟩)
  ·rw[if_neg k2];exact .inr (.inr (.inl ⟨k2,rfl⟩))
 rw[if_neg c1]
 by_cases c2:p%4=2∧k=4
 ·rw[if_pos c2]
  exact .inr (.inr (.inr (.inl ⟨c2.2,(2+p/4%3).toNat,by omega,by omega,rfl⟩)))
 rw[if_neg c2]
 by_cases c3:p%4=2∧k≠2
 ·rw[if_pos c3]
  exact .inr (.inr (.inr (.inr (.inl ⟨⟨c3.2,fun z=>c2 ⟨c3.1,z⟩⟩,rfl⟩))))
 rw[if_neg c3]
 have q0:=zgI (p/4) (show (0:Int)<(ws.length:Int) by omega)
 have q1:=zgB (p/4) (show (0:Int)<(ws.length:Int) by omega)
 exact .inr (.inr (.inr (.inr (.inr ⟨(1+p/4%(ws.length:Int)).toNat,by omega,by omega,rfl⟩))))
theorem nb0 (hi:Int):zaC [.str "0",.int 1,.int hi,.int 0]=.ex (exL 0):=by
 have:=zmn (n:=0) (lo:=1) (hi:=hi) (line:=0) (by decide) (by decide) (.inl (by decide)) (by decide)
 rwa [dg0] at this
theorem mw1 (a:Int):([(a,1)]:List Fr).map wr=[dg a]:=by simp[wr_i]
theorem mw2 (a b:Int):([(a,1),(b,1)]:List Fr).map wr=[dg a,dg b]:=by simp[wr_i]
theorem mw3 (a b c:Int):([(a,1),(b,1),(c,1)]:List Fr).map wr=[dg a,dg b,dg c]:=by simp[wr_i]
theorem am1 {a:Int} (a0:0≤a) (a1:a≤9):AmOk (a,1):=am_i a0 (by omega)
theorem all1 {P:Fr→Prop} {x:Fr} (h:P x):∀f∈[x],P f:=fun f hf=>by rw[List.mem_singleton.mp hf];exact h
theorem all2 {P:Fr→Prop} {x y:Fr} (h:P x) (h2:P y):∀f∈[x,y],P f:=fun f hf=>by
 rcases List.mem_cons.mp hf with e|e
 ·rw[e];exact h
 ·exact all1 h2 f e
theorem all3 {P:Fr→Prop} {x y z:Fr} (h:P x) (h2:P y) (h3:P z):∀f∈[x,y,z],P f:=fun f hf=>by
 rcases List.mem_cons.mp hf with e|e
 ·rw[e];exact h
 ·exact all2 h2 h3 f e
theorem all0 {P:Fr→Prop}:∀f∈([]:List Fr),P f:=fun _ h=>nomatch h
theorem wnz {a:Int} (a0:1≤a) (a1:a≤9):AmOk (a,1)∧(a,(1:Int)).1≠0:=⟨am1 (by omega) a1,by show a≠0;omega⟩
theorem zpq {a b:Int} (a0:1≤a) (a1:a≤9) (b0:1≤b) (b1:b≤9):zgh 0 [[("cover" : Str),"2"],[dg a,"0"],[dg b,"1","0"]]:=by
 refine zdT (A:=[[("cover" : Str),"2"],[dg a,"0"]]) (ws:=[dg b,"1"]) (y:="0") (by decide) rfl (zbD (by simp[sure]) (zbD (by simp[sure]) zbY)) (by simp) (fun _=>by simp) (fun z=>by cases z) (by simp) (fun v hv=>?_) (zcB (by omega) (by omega) (zbD (by simp[sure]) zbY)) (zec _ (by simp[sure])) (by simp) (fun p p0=>?_) (fun v hv=>?_) (fun z=>by cases z)
 ·rcases List.mem_cons.mp hv with e|e
  ·rw[e];exact zb0 (zcB (by omega) (by omega) (zbD (by simp[sure]) zbY)) (by simp)
  ·rw[List.mem_singleton.mp e];exact zb0 (zcB (by omega) (by omega) (zbD (by simp[sure]) (zbD (by simp[sure]) zbY))) (by simp)
 ·rcases zcG 0 [("cover" : Str),"2"] p p0 (by simp) with e|⟨z,_⟩|⟨_,e⟩|⟨z,_⟩|⟨_,e⟩|⟨i,i0,i1,e⟩
  ·exact⟨"cover",["2","1"],e,zfa (zfX (.inr (by simp)))⟩
  ·cases z
  ·exact⟨"cover",[],e,zfa (zfX (.inl (by simp)))⟩
  ·cases z
  ·exact⟨"cover",["0"],e,zfa (znM (v:="0") (by simp) (by simp) rfl (nb0 _))⟩
  ·rcases (show i=1∨i=2 by simp at i1;omega) with rfl|rfl
   ·exact⟨"cover",["","2"],e,zfa (zfX (.inr (by simp)))⟩
   ·exact⟨"cover",["2",""],e,zfa (zfX (.inr (by simp)))⟩
 ·have s:=zmI (n:=2) (f:=(b,1)) (ts:=[1]) (v:=v) (post:=[]) (line:=2) (am1 (by omega) b1) (by decide) (by simp) (fun t ht=>by rw[List.mem_singleton.mp ht];decide) (by simp) ((zeW v hv).n _ _ _ (by decide))
  rw[wr_i,show ([1]:List Int).map dg=[("1" : Str)] by rw[List.map_cons,dg1];rfl] at s
  have r:=zi7 (n:=2) (zs:=[((a,1),(0,[0]))]) (w:=[dg b,"1",v]) (T:=[]) (by decide) (by decide) (fun z hz=>by rw[List.mem_singleton.mp hz];exact⟨am1 (by omega) a1,by simp,fun t ht=>by rw[List.mem_singleton.mp ht];decide⟩) (by simp) (by simp) s
  rw[show ([((a,1),(0,[0]))]:List Zs).map wsZ=[[dg a,"0"]] by simp[wsZ,wr_i,dg0],show dg ((2:Nat):Int) = "2" from dg2] at r
  exact⟨"cover",["2"],[[dg a,"0"],[dg b,"1",v]],rfl,zfa r⟩
theorem tch {fs:List Fr} {v:Str} {post:List Str} {T:List (List Str)} {u:List Str} (h:BadA v) (ok:∀f∈fs,AmOk f) (hl:fs.length+post.length≤39) (e:fs.map wr++v::post=u):zas [.str "touch",zaG ((("touch" : Str)::u)::T)]=.ex (exL 0):=by
 rw[← e];exact ziy (zna (fun f hf=>⟨ok f hf,trivial⟩) hl (h 0 (by decide)))
theorem zo8 {a b:Int} (a0:1≤a) (a1:a≤9) (b0:1≤b) (b1:b≤9):zgh 1 [[("touch" : Str),dg a,dg b],["0","1"]]:=by
 have aa:=am1 (by omega) a1
 have ab:=am1 (by omega) b1
 refine zdT (A:=[[("touch" : Str),dg a,dg b]]) (ws:=["0"]) (y:="1") (by decide) rfl (zbD (by simp[sure]) (zcB (by omega) (by omega) (zcB (by omega) (by omega) zbY))) (by simp) (fun _=>by simp) (fun z=>by cases z) (by simp) (fun v hv=>?_) (zbD (by simp[sure]) zbY) (zec _ (by simp[sure])) (by simp) (fun p p0=>?_) (fun v hv=>?_) (fun z=>by cases z)
 ·rw[List.mem_singleton.mp hv];exact zb0 (zbD (by simp[sure]) (zbD (by simp[sure]) zbY)) (by simp)
 ·rcases zcG 1 [("touch" : Str),dg a,dg b] p p0 (by simp) with e|⟨z,_⟩|⟨_,e⟩|⟨z,_⟩|⟨_,e⟩|⟨i,i0,i1,e⟩
  ·exact⟨"touch",[dg a,dg b,"x"],e,tch (fs:=[(a,1),(b,1)]) (post:=[]) zri (all2 aa ab) (by simp) (by rw[mw2];rfl)⟩
  ·cases z
  ·exact⟨"touch",[],e,ziy (znn (.inl (by simp)))⟩
  ·cases z
  ·exact⟨"touch",["1/1",dg b],e,tch (fs:=[]) (post:=[dg b]) zrF all0 (by simp) rfl⟩
  ·rcases (show i=1∨i=2∨i=3 by simp at i1;omega) with rfl|rfl|rfl
   ·exact⟨"touch",["",dg a,dg b],e,tch (fs:=[]) (post:=[dg a,dg b]) zhI all0 (by simp) rfl⟩
   ·exact⟨"touch",[dg a,"",dg b],e,tch (fs:=[(a,1)]) (post:=[dg b]) zhI (all1 aa) (by simp) (by rw[mw1];rfl)⟩
   ·exact⟨"touch",[dg a,dg b,""],e,tch (fs:=[(a,1),(b,1)]) (post:=[]) zhI (all2 aa ab) (by simp) (by rw[mw2];rfl)⟩
 ·have s:=zmw (n:=2) (a:=0) (v:=v) (line:=1) (by decide) (by decide) (by decide) ((zeW v hv).n _ _ _ (by decide))
  rw[dg0] at s
  have r:=ziI (fs:=[(a,1),(b,1)]) (ls:=[]) (w:=["0",v]) (T:=[]) (all2 aa ab) (by simp) (by simp) (fun l hl=>by cases hl) (by simp) (by simp) s
  rw[mw2] at r
  exact⟨"touch",[dg a,dg b],[["0",v]],rfl,ziy r⟩
theorem zq3 {a:Int} {v:Str} (hd:List Str) (a0:1≤a) (a1:a≤9) (h:BadA v):zcc [zaG [hd,["0",dg a],[dg a,v]]]=.ex (exL 2):=by
 have aa:=am1 (by omega) a1
 have az:AmOk (0,1):=am1 (by decide) (by decide)
 have t:=zkk (n:=2) (fs:=[[(0,1),(a,1)]]) (gs:=[(a,1)]) (v:=v) (post:=[]) (T:=[]) hd (by decide) (by simp) (by simp) (fun r hr=>by rw[List.mem_singleton.mp hr];rfl) (fun r hr=>by rw[List.mem_singleton.mp hr];exact all2 az aa) (all1 aa) (by simp) (by simp) (h _ (by show (0:Int)≤2;decide))
 rw[mw1,show ([[(0,1),(a,1)]]:List (List Fr)).map (fun r=>r.map wr)=[[("0" : Str),dg a]] by rw[List.map_cons,mw2,dg0];rfl] at t
 exact t
theorem zqb {a:Int} (a0:1≤a) (a1:a≤9):∀v∈[[("0" : Str),dg a],[dg a,"0"]],Ln v:=fun v hv=>by
 rcases List.mem_cons.mp hv with e|e
 ·rw[e];exact zb0 (zbD (by simp[sure]) (zcB (by omega) (by omega) zbY)) (by simp)
 ·rw[List.mem_singleton.mp e];exact zb0 (zcB (by omega) (by omega) (zbD (by simp[sure]) zbY)) (by simp)
theorem zpp {a:Int} (a0:1≤a) (a1:a≤9):zgh 2 [[("round" : Str)],["0",dg a],[dg a,"0"]]:=by
 refine zdT (A:=[[("round" : Str)],["0",dg a]]) (ws:=[dg a]) (y:="0") (by decide) rfl (zbD (by simp[sure]) zbY) (by simp) (fun z=>absurd rfl z) (fun z=>by cases z) (by simp) (zqb a0 a1) (zcB (by omega) (by omega) zbY) (zec _ (by simp[sure])) (by simp) (fun p p0=>?_) (fun v hv=>?_) (fun z=>by cases z)
 ·rcases zcG 2 [("round" : Str)] p p0 (by simp) with e|⟨_,e⟩|⟨z,e⟩|⟨z,_⟩|⟨z,e⟩|⟨i,i0,i1,e⟩
  ·exact⟨"round",["1"],e,ziS (zja (.inr (by simp)))⟩
  ·exact⟨"rounds",[],e,zsT (by decide +kernel) (by decide +kernel) (by decide +kernel) (by decide +kernel) (by decide +kernel) (by decide +kernel) (by decide +kernel)⟩
  ·exact absurd rfl z
  ·cases z
  ·exact absurd rfl z.1
  ·rcases (show i=1 by simp at i1;omega) with rfl
   exact⟨"round",[""],e,ziS (zja (.inr (by simp)))⟩
 ·exact⟨"round",[],[["0",dg a],[dg a,v]],rfl,ziS (zoN (zq3 _ a0 a1 (zeW v hv).a))⟩
theorem zo1 {a:Int} (a0:1≤a) (a1:a≤9):zgh 3 [[("places" : Str),"1"],["0",dg a],[dg a,"0"]]:=by
 refine zdT (A:=[[("places" : Str),"1"],["0",dg a]]) (ws:=[dg a]) (y:="0") (by decide) rfl (zbD (by simp[sure]) (zbD (by simp[sure]) zbY)) (by simp) (fun _=>by simp) (fun z=>by cases z) (by simp) (zqb a0 a1) (zcB (by omega) (by omega) zbY) (zec _ (by simp[sure])) (by simp) (fun p p0=>?_) (fun v hv=>?_) (fun _ n n0 n5=>?_)
 ·rcases zcG 3 [("places" : Str),"1"] p p0 (by simp) with e|⟨z,_⟩|⟨_,e⟩|⟨z,_⟩|⟨_,e⟩|⟨i,i0,i1,e⟩
  ·exact⟨"places",["1","1"],e,zdm (zfe (.inr (by simp)))⟩
  ·cases z
  ·exact⟨"places",[],e,zdm (zfe (.inl (by simp)))⟩
  ·cases z
  ·exact⟨"places",["0"],e,zdm (zma (v:="0") (by simp) (by simp) rfl (nb0 _))⟩
  ·rcases (show i=1∨i=2 by simp at i1;omega) with rfl|rfl
   ·exact⟨"places",["","1"],e,zdm (zfe (.inr (by simp)))⟩
   ·exact⟨"places",["1",""],e,zdm (zfe (.inr (by simp)))⟩
 ·have r:=zj4 (m:=1) (by decide) (by decide) (zq3 [("places" : Str),dg 1] a0 a1 (zeW v hv).a)
  rw[dg1] at r
  exact⟨"places",["1"],[["0",dg a],[dg a,v]],rfl,zdm r⟩
 ·obtain⟨m,⟨h0,h1,e⟩|⟨h0,h1,e⟩⟩:=zjl a0 a1 n0 n5
  ·have l0:Ln [("places" : Str),dg m]:=zb0 (zbD (by simp[sure]) (zcB (by omega) (by omega) zbY)) (by simp)
   have tx:Tx [[("places" : Str),dg m],["0",dg a],[dg a,"x"]]:=ziM (by simp) (by simp) fun v hv=>by
    rcases List.mem_cons.mp hv with e|e
    ·rw[e];exact l0
    rcases List.mem_cons.mp e with e|e
    ·rw[e];exact zb0 (zbD (by simp[sure]) (zcB (by omega) (by omega) zbY)) (by simp)
    ·rw[List.mem_singleton.mp e];exact zb0 (zcB (by omega) (by omega) (zbD (by simp[sure]) zbY)) (by simp)
   exact⟨_,2,by decide,e,tx,ziW tx rfl (zdm (zj4 (by omega) (by omega) (zq3 _ a0 a1 zri)))⟩
  ·have l0:Ln [("places" : Str),dg m]:=zb0 (zbD (by simp[sure]) (zcB (by omega) (by omega) zbY)) (by simp)
   have c3:∀x y z:Str,x∈sure→y∈sure→z∈sure→Ln [x,y,z]:=fun x y z hx hy hz=>zb0 (zbD hx (zbD hy (zbD hz zbY))) (by simp)
   have tx:Tx [[("places" : Str),dg m],["0","1","9"],["1","0","1"],["9","1","0"]]:=ziM (by simp) (by simp) fun v hv=>by
    rcases List.mem_cons.mp hv with e|e
    ·rw[e];exact l0
    rcases List.mem_cons.mp e with e|e
    ·rw[e];exact c3 _ _ _ (by simp[sure]) (by simp[sure]) (by simp[sure])
    rcases List.mem_cons.mp e with e|e
    ·rw[e];exact c3 _ _ _ (by simp[sure]) (by simp[sure]) (by simp[sure])
    ·rw[List.mem_singleton.mp e];exact c3 _ _ _ (by simp[sure]) (by simp[sure]) (by simp[sure])
   have o0:AmOk (0,1):=am1 (by decide) (by decide)
   have o1:AmOk (1,1):=am1 (by decide) (by decide)
   have o9:AmOk (9,1):=am1 (by decide) (by decide)
   have r:=zkK (n:=3) (m:=m) (fs:=[[(0,1),(1,1),(9,1)],[(1,1),(0,1),(1,1)],[(9,1),(1,1),(0,1)]]) ⟨by decide,by decide,rfl,fun r hr=>by
     rcases List.mem_cons.mp hr with e|e
     ·rw[e];rfl
     rcases List.mem_cons.mp e with e|e
     ·rw[e];rfl
     ·rw[List.mem_singleton.mp e];rfl,fun r hr=>by
     rcases List.mem_cons.mp hr with e|e
     ·rw[e];exact all3 o0 o1 o9
     rcases List.mem_cons.mp e with e|e
     ·rw[e];exact all3 o1 o0 o1
     ·rw[List.mem_singleton.mp e];exact all3 o9 o1 o0⟩ (by omega) (by omega)
   rw[show ([[(0,1),(1,1),(9,1)],[(1,1),(0,1),(1,1)],[(9,1),(1,1),(0,1)]]:List (List Fr)).map (fun r=>r.map wr)=[[("0" : Str),"1","9"],["1","0","1"],["9","1","0"]] by simp only[List.map_cons,List.map_nil,wr_i,dg0,dg1,dg9]] at r
   exact⟨_,0,by decide,e,tx,ziW tx rfl (zdm r)⟩
theorem bch {fs:List Fr} {v:Str} {post:List Str} {T:List (List Str)} {u:List Str} (h:BadP v) (ok:∀f∈fs,AmOk f∧f.1≠0) (hl:fs.length+post.length≤39) (e:fs.map wr++v::post=u):zas [.str "benches",zaG ((("benches" : Str)::"2"::u)::T)]=.ex (exL 0):=by
 have r:=zks (m:=2) (T:=T) (by decide) (by decide) ok hl (h 0 (by decide))
 rw[e,dg2] at r
 exact zgl r
theorem zpi {a b:Int} (a0:1≤a) (a1:a≤9) (b0:1≤b) (b1:b≤9):zgh 4 [[("benches" : Str),"2",dg a,dg b]]:=by
 have aa:=wnz a0 a1
 have ab:=wnz b0 b1
 refine zdT (A:=[]) (ws:=[("benches" : Str),"2",dg a]) (y:=dg b) (by decide) rfl (zbD (by simp[sure]) (zbD (by simp[sure]) (zcB (by omega) (by omega) (zcB (by omega) (by omega) zbY)))) (by simp) (fun _=>by simp) (fun _=>by simp) (by simp) (fun v hv=>by cases hv) (zbD (by simp[sure]) (zbD (by simp[sure]) (zcB (by omega) (by omega) zbY))) (zns (by omega) (by omega)) (by simp) (fun p p0=>?_) (fun v hv=>?_) (fun z=>by cases z)
 ·rcases zcG 4 [("benches" : Str),"2",dg a,dg b] p p0 (by simp) with e|⟨z,_⟩|⟨_,e⟩|⟨_,i,i0,i1,e⟩|⟨z,e⟩|⟨i,i0,i1,e⟩
  ·exact⟨"benches",["2",dg a,dg b,"0"],e,bch (fs:=[(a,1),(b,1)]) (post:=[]) zmb (all2 aa ab) (by simp) (by rw[mw2];rfl)⟩
  ·cases z
  ·exact⟨"benches",[],e,zgl (zkY (.inl (by simp)))⟩
  ·rcases (show i=2∨i=3∨i=4 by omega) with rfl|rfl|rfl
   ·exact⟨"benches",["2","0",dg a,dg b],e,bch (fs:=[]) (post:=[dg a,dg b]) zmb all0 (by simp) rfl⟩
   ·exact⟨"benches",["2",dg a,"0",dg b],e,bch (fs:=[(a,1)]) (post:=[dg b]) zmb (all1 aa) (by simp) (by rw[mw1];rfl)⟩
   ·exact⟨"benches",["2",dg a,dg b,"0"],e,bch (fs:=[(a,1),(b,1)]) (post:=[]) zmb (all2 aa ab) (by simp) (by rw[mw2];rfl)⟩
  ·exact absurd rfl z.2
  ·rcases (show i=1∨i=2∨i=3∨i=4 by simp at i1;omega) with rfl|rfl|rfl|rfl
   ·exact⟨"benches",["","2",dg a,dg b],e,zgl (zkT (v:="") (by simp) (by simp) rfl (zsw _ _ _ (by decide)))⟩
   ·exact⟨"benches",["2","",dg a,dg b],e,bch (fs:=[]) (post:=[dg a,dg b]) (badP zhI) all0 (by simp) rfl⟩
   ·exact⟨"benches",["2",dg a,"",dg b],e,bch (fs:=[(a,1)]) (post:=[dg b]) (badP zhI) (all1 aa) (by simp) (by rw[mw1];rfl)⟩
   ·exact⟨"benches",["2",dg a,dg b,""],e,bch (fs:=[(a,1),(b,1)]) (post:=[]) (badP zhI) (all2 aa ab) (by simp) (by rw[mw2];rfl)⟩
 ·exact⟨"benches",["2",dg a,v],[],rfl,bch (fs:=[(a,1)]) (post:=[]) (badP (zeW v hv).a) (all1 aa) (by simp) (by rw[mw1];rfl)⟩
theorem bns {fs:List Fr} {v:Str} {post:List Str} {T:List (List Str)} {u:List Str} (h:BadP v) (ok:∀f∈fs,AmOk f∧f.1≠0) (hl:fs.length+post.length≤39) (e:fs.map wr++v::post=u):zas [.str "bins",zaG ((("bins" : Str)::u)::T)]=.ex (exL 0):=by
 rw[← e];exact zn8 (zpA ok hl (h 0 (by decide)))
theorem zoX {a b:Int} (a0:1≤a) (a1:a≤9) (b0:1≤b) (b1:b≤9):zgh 5 [[("bins" : Str),"9",dg a,dg b]]:=by
 have aa:=wnz a0 a1
 have ab:=wnz b0 b1
 have a9:=wnz (a:=9) (by decide) (by decide)
 refine zdT (A:=[]) (ws:=[("bins" : Str),"9",dg a]) (y:=dg b) (by decide) rfl (zbD (by simp[sure]) (zbD (by simp[sure]) (zcB (by omega) (by omega) (zcB (by omega) (by omega) zbY)))) (by simp) (fun _=>by simp) (fun z=>by cases z) (by simp) (fun v hv=>by cases hv) (zbD (by simp[sure]) (zbD (by simp[sure]) (zcB (by omega) (by omega) zbY))) (zns (by omega) (by omega)) (by simp) (fun p p0=>?_) (fun v hv=>?_) (fun z=>by cases z)
 ·rcases zcG 5 [("bins" : Str),"9",dg a,dg b] p p0 (by simp) with e|⟨z,_⟩|⟨_,e⟩|⟨z,_⟩|⟨_,e⟩|⟨i,i0,i1,e⟩
  ·exact⟨"bins",["9",dg a,dg b,"0"],e,bns (fs:=[(9,1),(a,1),(b,1)]) (post:=[]) zmb (all3 a9 aa ab) (by simp) (by rw[mw3,dg9];rfl)⟩
  ·cases z
  ·exact⟨"bins",[],e,zn8 (zpa (.inl (by simp)))⟩
  ·cases z
  ·exact⟨"bins",["0",dg a,dg b],e,bns (fs:=[]) (post:=[dg a,dg b]) zmb all0 (by simp) rfl⟩
  ·rcases (show i=1∨i=2∨i=3∨i=4 by simp at i1;omega) with rfl|rfl|rfl|rfl
   ·exact⟨"bins",["","9",dg a,dg b],e,bns (fs:=[]) (post:=["9",dg a,dg b]) (badP zhI) all0 (by simp) rfl⟩
   ·exact⟨"bins",["9","",dg a,dg b],e,bns (fs:=[(9,1)]) (post:=[dg a,dg b]) (badP zhI) (all1 a9) (by simp) (by rw[mw1,dg9];rfl)⟩
   ·exact⟨"bins",["9",dg a,"",dg b],e,bns (fs:=[(9,1),(a,1)]) (post:=[dg b]) (badP zhI) (all2 a9 aa) (by simp) (by rw[mw2,dg9];rfl)⟩
   ·exact⟨"bins",["9",dg a,dg b,""],e,bns (fs:=[(9,1),(a,1),(b,1)]) (post:=[]) (badP zhI) (all3 a9 aa ab) (by simp) (by rw[mw3,dg9];rfl)⟩
 ·exact⟨"bins",["9",dg a,v],[],rfl,bns (fs:=[(9,1),(a,1)]) (post:=[]) (badP (zeW v hv).a) (all2 a9 aa) (by simp) (by rw[mw2,dg9];rfl)⟩
theorem zpl {a b:Int} (a0:1≤a) (a1:a≤9) (b0:1≤b) (b1:b≤9):zgh 6 [[("sack" : Str),"9"],[dg a,dg b]]:=by
 refine zdT (A:=[[("sack" : Str),"9"]]) (ws:=[dg a]) (y:=dg b) (by decide) rfl (zbD (by simp[sure]) (zbD (by simp[sure]) zbY)) (by simp) (fun _=>by simp) (fun z=>by cases z) (by simp) (fun v hv=>?_) (zcB (by omega) (by omega) zbY) (zns (by omega) (by omega)) (by simp) (fun p p0=>?_) (fun v hv=>?_) (fun z=>by cases z)
 ·rw[List.mem_singleton.mp hv];exact zb0 (zcB (by omega) (by omega) (zcB (by omega) (by omega) zbY)) (by simp)
 ·rcases zcG 6 [("sack" : Str),"9"] p p0 (by simp) with e|⟨z,_⟩|⟨_,e⟩|⟨z,_⟩|⟨_,e⟩|⟨i,i0,i1,e⟩
  ·exact⟨"sack",["9","1"],e,zgr (zgS (.inr (by simp)))⟩
  ·cases z
  ·exact⟨"sack",[],e,zgr (zgS (.inl (by simp)))⟩
  ·cases z
  ·exact⟨"sack",["-1"],e,zgr (zpk (v:="-1") rfl rfl (zsL 0 (by decide)))⟩
  ·rcases (show i=1∨i=2 by simp at i1;omega) with rfl|rfl
   ·exact⟨"sack",["","9"],e,zgr (zgS (.inr (by simp)))⟩
   ·exact⟨"sack",["9",""],e,zgr (zgS (.inr (by simp)))⟩
 ·have s:=zk0 (f:=(a,1)) (v:=v) (line:=1) (am1 (by omega) a1) (badP (zeW v hv).a 1 (by decide))
  rw[wr_i] at s
  have r:=zka (r:=(9,1)) (w:=[dg a,v]) (T:=[]) (am1 (by decide) (by decide)) (by simp) s
  rw[wr_i,dg9] at r
  exact⟨"sack",["9"],[[dg a,v]],rfl,zgr r⟩
theorem un1:∀ {l:List Fr},(∀f∈l,f.2=1)→l.foldl (fun u f=>Nat.lcm u f.2.toNat) 1=1
 | [],_=>rfl
 | f::l,h=>by
  rw[List.foldl_cons,h f List.mem_cons_self]
  exact un1 fun g hg=>h g (List.mem_cons_of_mem _ hg)
theorem un_w {l:List Fr} (h:∀f∈l,f.2=1):un l=1:=un1 h
theorem by_w (a:Int):by1 1 (a,1)=a:=by
 show a*((1:Int)/1)=a
 rw[show ((1:Int)/1)=1 by decide,Int.mul_one]
theorem zsv {a b:Int} (a0:1≤a) (a1:a≤9) (b0:1≤b) (b1:b≤9):Fine 0 a b [[("cover" : Str),"2"],[dg a,"0"],[dg b,"1","0"]]:=by
 have aa:=am1 (by omega) a1
 have ab:=am1 (by omega) b1
 obtain⟨zs,ez⟩:∃zs:List Zs,zs=[((a,1),(0,[0])),((b,1),(0,[1,0]))]:=⟨_,rfl⟩
 have mz:zs.map wsZ=[[dg a,"0"],[dg b,"1","0"]]:=by rw[ez];simp only[List.map_cons,List.map_nil,wsZ,wr_i,dg0,dg1]
 have okz:∀z∈zs,ZsOk 2 z:=fun z hz=>by
  rw[ez] at hz
  rcases List.mem_cons.mp hz with e|e
  ·rw[e];exact⟨aa,by simp,fun t ht=>by rw[List.mem_singleton.mp ht];decide⟩
  ·rw[List.mem_singleton.mp e];exact⟨ab,by simp,fun t ht=>by
    rcases List.mem_cons.mp ht with e|e
    ·rw[e];decide
    ·rw[List.mem_singleton.mp e];decide⟩
 have tx:Tx [[("cover" : Str),"2"],[dg a,"0"],[dg b,"1","0"]]:=ziM (by simp) (by simp) fun v hv=>by
  rcases List.mem_cons.mp hv with e|e
  ·rw[e];exact zb0 (zbD (by simp[sure]) (zbD (by simp[sure]) zbY)) (by simp)
  rcases List.mem_cons.mp e with e|e
  ·rw[e];exact zb0 (zcB (by omega) (by omega) (zbD (by simp[sure]) zbY)) (by simp)
  ·rw[List.mem_singleton.mp e];exact zb0 (zcB (by omega) (by omega) (zbD (by simp[sure]) (zbD (by simp[sure]) zbY))) (by simp)
 have rc:=zi8 (n:=2) (zs:=zs) (by decide) (by decide) okz (by rw[ez];simp)
 obtain⟨⟨u0,u1⟩,ud⟩:=zjT (l:=zs.map (·.1)) (fun f hf=>by
  obtain⟨z,hz,rfl⟩:=List.mem_map.mp hf
  exact (okz z hz).am)
 have rm:zbA [.int (2:Nat),encP (zs.map (byZ (un (zs.map (·.1)))))]=.ok .non:=by
  refine zgy ⟨fun s hs=>?_,by rw[List.length_map,ez];simp,by omega⟩ fun t ht=>?_
  ·obtain⟨z,hz,rfl⟩:=List.mem_map.mp hs
   have b:=zsi (okz z hz).am u1
   exact⟨b.1,b.2,(okz z hz).nd,(okz z hz).mem⟩
  ·obtain⟨t0,t1⟩:=mem_upto.mp ht
   refine⟨byZ (un (zs.map (·.1))) ((b,1),(0,[1,0])),List.mem_map.mpr ⟨((b,1),(0,[1,0])),by rw[ez];simp,rfl⟩,?_⟩
   rcases (show t=1∨t=0 by omega) with e|e <;> rw[e] <;> simp[byZ]
 rw[mz,show dg ((2:Nat):Int) = "2" from dg2] at rc
 exact⟨zkN a0 a1 b0 b1,tx,zfD tx rfl (zoY rc) (zoM rm)⟩
theorem zrW {a b:Int} (a0:1≤a) (a1:a≤9) (b0:1≤b) (b1:b≤9):Fine 1 a b [[("touch" : Str),dg a,dg b],["0","1"]]:=by
 have aa:=am1 (by omega) a1
 have ab:=am1 (by omega) b1
 have tx:Tx [[("touch" : Str),dg a,dg b],["0","1"]]:=ziM (by simp) (by simp) fun v hv=>by
  rcases List.mem_cons.mp hv with e|e
  ·rw[e];exact zb0 (zbD (by simp[sure]) (zcB (by omega) (by omega) (zcB (by omega) (by omega) zbY))) (by simp)
  ·rw[List.mem_singleton.mp e];exact zb0 (zbD (by simp[sure]) (zbD (by simp[sure]) zbY)) (by simp)
 have rc:=zio (fs:=[(a,1),(b,1)]) (ls:=[(0,1)]) (all2 aa ab) (by simp) (by simp) (fun l hl=>by rw[List.mem_singleton.mp hl];exact⟨by decide,by show (0:Int)<2;decide,by decide,by show (1:Int)<2;decide,by decide⟩) (by simp)
 rw[mw2,show ([(0,1)]:List Ed).map (fun l=>[dg l.1,dg l.2])=[[("0" : Str),"1"]] by simp only[List.map_cons,List.map_nil,dg0,dg1]] at rc
 exact⟨zkn a0 a1 b0 b1,tx,zfD tx rfl (zoT rc) zo3⟩
theorem zpO {a:Int} (a0:1≤a) (a1:a≤9):TbOk 2 [[(0,1),(a,1)],[(a,1),(0,1)]]:=by
 have aa:=am1 (by omega) a1
 have az:AmOk (0,1):=am1 (by decide) (by decide)
 refine⟨by decide,by decide,rfl,fun r hr=>?_,fun r hr=>?_⟩
 ·rcases List.mem_cons.mp hr with e|e
  ·rw[e];rfl
  ·rw[List.mem_singleton.mp e];rfl
 ·rcases List.mem_cons.mp hr with e|e
  ·rw[e];exact all2 az aa
  ·rw[List.mem_singleton.mp e];exact all2 aa az
theorem zsF (a:Int):([[(0,1),(a,1)],[(a,1),(0,1)]]:List (List Fr)).map (fun r=>r.map wr)=[[("0" : Str),dg a],[dg a,"0"]]:=by simp only[List.map_cons,List.map_nil,wr_i,dg0]
theorem zpQ {a:Int} (a0:1≤a) (a1:a≤9):zdj [tabU (un ([[(0,1),(a,1)],[(a,1),(0,1)]]:List (List Fr)).flatten) [[(0,1),(a,1)],[(a,1),(0,1)]]]=.ok .non:=by
 have u:un ([[(0,1),(a,1)],[(a,1),(0,1)]]:List (List Fr)).flatten=1:=un_w fun f hf=>by
  have hf:f∈[(0,1),(a,1),(a,1),(0,1)]:=hf
  simp only[List.mem_cons,List.not_mem_nil,or_false] at hf
  rcases hf with e|e|e|e <;> rw[e]
 have e:tabU 1 [[(0,1),(a,1)],[(a,1),(0,1)]]=tabD (tabF 2 fun x y=>if x=y then 0 else a):=by
  show tabD _=tabD _
  congr 1
  rw[show tabF 2 (fun x y=>if x=y then 0 else a)=[[0,a],[a,0]] from rfl]
  simp only[List.map_cons,List.map_nil,by_w]
 rw[u,e]
 refine zlU (B:=9) (by decide) ⟨fun x y _ _ _ _=>?_,fun x _ _=>if_pos rfl,fun x y _ _ _ _=>?_,fun x y z _ _ _ _ _ _=>?_⟩
 ·split <;> omega
 ·split <;> split <;> omega
 ·split <;> split <;> split <;> omega
theorem zqa {a:Int} {w:List Str} (a0:1≤a) (a1:a≤9) (h:Ln w):Tx [w,["0",dg a],[dg a,"0"]]:=ziM (by simp) (by simp) fun v hv=>by
 rcases List.mem_cons.mp hv with e|e
 ·rw[e];exact h
 ·exact zqb a0 a1 v e
theorem zr8 {a b:Int} (a0:1≤a) (a1:a≤9) (b0:1≤b) (b1:b≤9):Fine 2 a b [[("round" : Str)],["0",dg a],[dg a,"0"]]:=by
 have tx:=zqa a0 a1 (w:=[("round" : Str)]) (zb0 (zbD (by simp[sure]) zbY) (by simp))
 have rc:=ziR (zpO a0 a1)
 rw[zsF] at rc
 exact⟨zkt a0 a1 b0 b1,tx,zfD tx rfl (zo0 rc) (zo2 (zpQ a0 a1))⟩
theorem zsD {a b:Int} (a0:1≤a) (a1:a≤9) (b0:1≤b) (b1:b≤9):Fine 3 a b [[("places" : Str),"1"],["0",dg a],[dg a,"0"]]:=by
 have tx:=zqa a0 a1 (w:=[("places" : Str),"1"]) (zb0 (zbD (by simp[sure]) (zbD (by simp[sure]) zbY)) (by simp))
 have rc:=zhU (m:=1) (zpO a0 a1) (by decide) (by decide)
 rw[zsF,dg1] at rc
 exact⟨zjE a0 a1 b0 b1,tx,zfD tx rfl (znt rc) (zoa (zpQ a0 a1))⟩
theorem zrE {a b:Int} (a0:1≤a) (a1:a≤9) (b0:1≤b) (b1:b≤9):Fine 4 a b [[("benches" : Str),"2",dg a,dg b]]:=by
 have tx:Tx [[("benches" : Str),"2",dg a,dg b]]:=zp5 (zb0 (zbD (by simp[sure]) (zbD (by simp[sure]) (zcB (by omega) (by omega) (zcB (by omega) (by omega) zbY)))) (by simp))
 have rc:=zgZ (fs:=[(a,1),(b,1)]) (m:=2) (all2 (wnz a0 a1) (wnz b0 b1)) (by simp) (by decide) (by decide)
 rw[mw2,dg2] at rc
 exact⟨zi1 a0 a1 b0 b1,tx,zfD tx rfl (zl6 rc) zlL⟩
theorem zrH {a b:Int} (a0:1≤a) (a1:a≤9) (b0:1≤b) (b1:b≤9):Fine 5 a b [[("bins" : Str),"9",dg a,dg b]]:=by
 have tx:Tx [[("bins" : Str),"9",dg a,dg b]]:=zp5 (zb0 (zbD (by simp[sure]) (zbD (by simp[sure]) (zcB (by omega) (by omega) (zcB (by omega) (by omega) zbY)))) (by simp))
 have rc:=zjr (fs:=[(a,1),(b,1)]) (f0:=(9,1)) (all3 (wnz (by decide) (by decide)) (wnz a0 a1) (wnz b0 b1)) (by simp)
 have u:un [(9,1),(a,1),(b,1)]=1:=un_w fun f hf=>by
  simp only[List.mem_cons,List.not_mem_nil,or_false] at hf
  rcases hf with e|e|e <;> rw[e]
 have g:=zke (l:=([(a,1),(b,1)]:List Fr).map (by1 1)) (r:=by1 1 (9,1)) (fun x hx=>by
  simp only[List.map_cons,List.map_nil,by_w,List.mem_cons,List.not_mem_nil,or_false] at hx ⊢
  omega)
 rw[mw3,dg9,u] at rc
 exact⟨zmk a0 a1 b0 b1,tx,zfD tx rfl (zqo rc) (zqF g)⟩
theorem zrg {a b:Int} (a0:1≤a) (a1:a≤9) (b0:1≤b) (b1:b≤9):Fine 6 a b [[("sack" : Str),"9"],[dg a,dg b]]:=by
 have tx:Tx [[("sack" : Str),"9"],[dg a,dg b]]:=ziM (by simp) (by simp) fun v hv=>by
  rcases List.mem_cons.mp hv with e|e
  ·rw[e];exact zb0 (zbD (by simp[sure]) (zbD (by simp[sure]) zbY)) (by simp)
  ·rw[List.mem_singleton.mp e];exact zb0 (zcB (by omega) (by omega) (zcB (by omega) (by omega) zbY)) (by simp)
 have rc:=zj5 (ps:=[((a,1),(b,1))]) (r:=(9,1)) (fun p hp=>by rw[List.mem_singleton.mp hp];exact⟨am1 (by omega) a1,am1 (by omega) b1,by show b≠0;omega⟩) (am1 (by decide) (by decide)) (by simp)
 rw[wr_i,dg9,show ([((a,1),(b,1))]:List Pr).map (fun p=>[wr p.1,wr p.2])=[[dg a,dg b]] by simp only[List.map_cons,List.map_nil,wr_i]] at rc
 exact⟨zl9 a0 a1 b0 b1,tx,zfD tx rfl (zqE rc) zq5⟩
theorem zsW {k:Nat} {a b:Int} (hk:k<7) (a0:1≤a) (a1:a≤9) (b0:1≤b) (b1:b≤9):∃L,Fine k a b L∧zgh k L:=by
 rcases (show k=0∨k=1∨k=2∨k=3∨k=4∨k=5∨k=6 by omega) with rfl|rfl|rfl|rfl|rfl|rfl|rfl
 ·exact⟨_,zsv a0 a1 b0 b1,zpq a0 a1 b0 b1⟩
 ·exact⟨_,zrW a0 a1 b0 b1,zo8 a0 a1 b0 b1⟩
 ·exact⟨_,zr8 a0 a1 b0 b1,zpp a0 a1⟩
 ·exact⟨_,zsD a0 a1 b0 b1,zo1 a0 a1⟩
 ·exact⟨_,zrE a0 a1 b0 b1,zpi a0 a1 b0 b1⟩
 ·exact⟨_,zrH a0 a1 b0 b1,zoX a0 a1 b0 b1⟩
 ·exact⟨_,zrg a0 a1 b0 b1,zpl a0 a1 b0 b1⟩
theorem znr {L:List (List Str)} (h:Tx L):zjH "\n" (lsD L)=.ok (.str (txT L)):=zqh h
theorem zqW {S:D} {c i:Int} (i0:0≤i) (i1:i≤100) (o3 o4 o5 o6 o7:Option D):∃p3 p4 p5 p6 p7:Option D,ziJ [.v S,.v (.int i),.v (.int c),sv o3,sv o4,sv o5,sv o6,sv o7]=.nx [.v S,.v (.int i),.v (.int c),sv p3,sv p4,sv p5,sv p6,sv p7]:=by
 have f7:Fit 7:=fitN 1000 (by decide)
 have f63:Fit 63:=fitN 1000 (by decide)
 have f567:Fit 567:=fitN 1000 (by decide)
 obtain⟨x,hx,x0,x1⟩:=zjN c (k:=i) i0 (by omega)
 obtain⟨y,hy,y0,y1⟩:=zjN c (k:=i+40) (by omega) (by omega)
 obtain⟨k,ek⟩:∃k:Nat,(k:Int)=x%7:=⟨(x%7).toNat,by omega⟩
 obtain⟨a,ea⟩:∃a,a=1+x/7%9:=⟨_,rfl⟩
 obtain⟨b,eb⟩:∃b,b=1+x/63%9:=⟨_,rfl⟩
 obtain⟨L,fi,sp⟩:=zsW (k:=k) (a:=a) (b:=b) (by omega) (by omega) (by omega) (by omega) (by omega)
 obtain⟨B,line,l0,es,txB,rx⟩:=sp (x/567) (by omega)
 obtain⟨d,rd⟩:=fi.ok
 have li:=fi.lines
 have jL:=znr fi.tx
 have jB:=znr txB
 have rf:=zmi (w:=y%3) (by omega) (by omega) l0 rx
 have ca:=zot rd
 obtain⟨Ls,eLs⟩:∃Ls,Ls=lsD L:=⟨_,rfl⟩
 obtain⟨Bs,eBs⟩:∃Bs,Bs=lsD B:=⟨_,rfl⟩
 obtain⟨tL,etL⟩:∃t,t=txT L:=⟨_,rfl⟩
 obtain⟨tB,etB⟩:∃t,t=txT B:=⟨_,rfl⟩
 rw[← eLs] at li jL es
 rw[← eBs] at es jB
 rw[← etL] at jL ca
 rw[← etB] at jB rf
 refine⟨some (.int x),some (.int k),some Ls,some Bs,some (.int line),?_⟩
 unfold ziJ
 refine sq (d:=.int x) (by simp[zar,zab,mNil,mVar,hx]) (zaY (o:=o3) rfl) ?_
 refine sq (d:=.int k) (by
  show m2 oMod (mRd 3) (mC (.int 7)) [.v S,.v (.int i),.v (.int c),.v (.int x),sv o4,sv o5,sv o6,sv o7]=_
  simp[mRd,mC,zdv,ek]) (zaY (o:=o4) rfl) ?_
 refine sq (d:=Ls) (by
  show zar zbt _ [.v S,.v (.int i),.v (.int c),.v (.int x),.v (.int k),sv o5,sv o6,sv o7]=_
  rw[ea,eb] at li
  simp only[zar,zab,mNil,zcA,mVar,mRd,mC,List.getElem?_cons_succ,List.getElem?_cons_zero,R.bind_ok,zeL (show (0:Int)<7 by decide) f7,zeL (show (0:Int)<63 by decide) f63,R.of_some,zdv (show (0:Int)<9 by decide),zmL,li,R.nev_ok]) (zaY (o:=o5) rfl) ?_
 refine sq (d:=.lst [Bs,.int line]) (by
  show zar zbr _ [.v S,.v (.int i),.v (.int c),.v (.int x),.v (.int k),.v Ls,sv o6,sv o7]=_
  simp only[zar,zab,mNil,zcA,mVar,mRd,mC,List.getElem?_cons_succ,List.getElem?_cons_zero,R.bind_ok,zeL (show (0:Int)<567 by decide) f567,R.of_some,es,R.nev_ok]) (δ2:=[.v S,.v (.int i),.v (.int c),.v (.int x),.v (.int k),.v Ls,.v Bs,.v (.int line)]) (by rcases o6 with _|o6 <;> rcases o7 with _|o7 <;> rfl) ?_
 refine sx ((zbe ?_).trans rfl) ?_
 ·simp[mNot,zaw,zar,zab,mNil,zhT,mVar,mRd,mC,jB,hy,zdv,rf]
 ·refine (zbe ?_).trans rfl
  simp[zaw,zar,zab,mNil,zhT,mVar,mC,jL,ca,zol,isN]
theorem law_true (ns:List Int) (h:ns.length≤63):zr5 [.scr ns]=.ok (.bl true):=by
 obtain⟨cs,hcs,lcs⟩:=zo4 ns none (some 20)
 obtain⟨S,eS⟩:∃S,S=D.scr ns:=⟨_,rfl⟩
 have aS:asL S=some (ns.map .int):=by rw[eS];rfl
 rw[← eS]
 obtain⟨δ2,hl,p1,p2,p3,p4,p5,p6,p7,rfl⟩:=zbQ (b:=bTup 2 (zd4 (zax 1) (zd4 (zax 2) bNil))) (m:=ziJ) encE (fun _ δ=>∃o1 o2 o3 o4 o5 o6 o7:Option D,δ=[.v S,sv o1,sv o2,sv o3,sv o4,sv o5,sv o6,sv o7]) ((0::cs).zipIdx) (by
  rintro pre q post δ hall ⟨o1,o2,o3,o4,o5,o6,o7,rfl⟩
  have hq:q∈(0::cs).zipIdx:=by rw[hall];simp
  have lq:=(List.getElem?_eq_some_iff.mp (List.mk_mem_zipIdx_iff_getElem?.mp (show (q.1,q.2)∈(0::cs).zipIdx from hq))).1
  rw[List.length_cons] at lq
  obtain⟨p3,p4,p5,p6,p7,e⟩:=zqW (S:=S) (c:=q.1) (i:=(q.2:Int)) (by omega) (by omega) o3 o4 o5 o6 o7
  exact⟨[.v S,.v (.int (q.2:Int)),.v (.int q.1),sv o3,sv o4,sv o5,sv o6,sv o7],_,by rcases o1 with _|o1 <;> rcases o2 with _|o2 <;> rfl,.inl e,some (.int (q.2:Int)),some (.int q.1),p3,p4,p5,p6,p7,rfl⟩)
  [.v S,.no,.no,.no,.no,.no,.no,.no] ⟨none,none,none,none,none,none,none,rfl⟩
 have en:zku (zab (m2 oCat (mLst (zab (mC (.int 0)) mNil)) (mSl (mRd 0) mNoP (zbq (mC (.int 20))))) mNil) [.v S,.no,.no,.no,.no,.no,.no,.no]=.ok ((0::cs).zipIdx.map encE):=by
  have ee:zhS ((0::cs).map D.int)=(0::cs).zipIdx.map encE:=by rw[zls,List.zipIdx_map,List.map_map];rfl
  have ct:oCat (.lst [.int 0]) (.lst (cs.map .int))=some (.lst ((0::cs).map .int)):=znv (by simp;omega)
  have l0:mLst (zab (mC (.int 0)) mNil) [.v S,.no,.no,.no,.no,.no,.no,.no]=.ok (.lst [.int 0]):=by simp[mLst,zab,mNil,mC,sizeLine]
  have sl:mSl (mRd 0) mNoP (zbq (mC (.int 20))) [.v S,.no,.no,.no,.no,.no,.no,.no]=.ok (.lst (cs.map .int)):=by
   simp only[mSl,mRd,mC,mNoP,zbq,List.getElem?_cons_zero,R.bind_ok,R.of_some,zmG,aS,hcs]
  have e1:zoW [.lst ((0::cs).map .int)]=some (zhS ((0::cs).map .int)):=rfl
  simp only[zku,zab,mNil,zeS l0 sl ct,R.bind_ok,e1,R.of_some,ee]
 refine zbL ?_
 show mSeq _ _ [.v S,.no,.no,.no,.no,.no,.no,.no]=_
 exact (zaN ((zce en).trans hl)).trans rfl
end My
namespace My
open PySem L2 PM PyProof.Rows
def top (i:Nat):Stmt:=PySem.Challenge.pw_goodenough_k57_first_lines_refused.main.body.getD i (.Pass ⟨0,0,0,0⟩)
abbrev XO0:XOT:=fun _ _ _ _ _=>False
def zq7:Stmt→Stmt
 | .ClassDef _ _ _ b _ _ _ _ _ _ _=>b.getD 0 (.Pass ⟨0,0,0,0⟩)
 | s=>s
structure Adr where
 EnoughError:Addr
 NoShare:Addr
 NoLengths:Addr
 TooMany:Addr
 NoCover:Addr
 NoRoom:Addr
 NoText:Addr
 f_NoCover:Addr
 f_NoRoom:Addr
 f_NoText:Addr
def caT (ad:Adr):Nat→Addr
 | 0=>ad.EnoughError
 | 1=>ad.NoShare
 | 2=>ad.NoLengths
 | 3=>ad.TooMany
 | 4=>ad.NoCover
 | 5=>ad.NoRoom
 | 6=>ad.NoText
 | _=>0
def caF (ad:Adr) (c:Nat):Addr:=caT ad (c%16)
def anT:Nat→Str
 | 4=>"thing"
 | 5=>"thing"
 | 6=>"line"
 | _=>Str.empty
def anF (c:Nat):Str:=anT (c%16)
abbrev KX (K:PySem.W.Frag) (ad:Adr):Kx:=⟨K,caF ad,anF⟩
def zlx (K:PySem.W.Frag):Sp:=fun vs H Q _=>∃(a:Addr) (ns:List Int),vs=[.ref a]∧SqL K H a (ns.map V.int)∧ns.length≤63∧∀H',Q (.bl true) H'
structure Txt (K:PySem.W.Frag) (mg:Str→Option Value) (ad:Adr):Prop where
 len:mg "len"=none
 abs:mg "abs"=none
 isinstance:mg "isinstance"=none
 int:mg "int"=none
 bool:mg "bool"=none
 str:mg "str"=none
 range:mg "range"=none
 enumerate:mg "enumerate"=none
 all:mg "all"=none
 any:mg "any"=none
 ValueError:mg "ValueError"=none
 g_FIGURES:∃t,mg "FIGURES"=some (.str "0123456789" t)
 g_MOST_FIGURES:∃t,mg "MOST_FIGURES"=some (.int 12 t)
 g_MOST_BOTTOM:∃t,mg "MOST_BOTTOM"=some (.int 12 t)
 g_MOST_THINGS:∃t,mg "MOST_THINGS"=some (.int 40 t)
 g_MOST_LINES:∃t,mg "MOST_LINES"=some (.int 80 t)
 g_MOST_PLACES:∃t,mg "MOST_PLACES"=some (.int 12 t)
 g_MOST_BENCHES:∃t,mg "MOST_BENCHES"=some (.int 20 t)
 m_EnoughError:mg "EnoughError"=some (.ref ad.EnoughError)
 m_NoShare:mg "NoShare"=some (.ref ad.NoShare)
 m_NoLengths:mg "NoLengths"=some (.ref ad.NoLengths)
 m_TooMany:mg "TooMany"=some (.ref ad.TooMany)
 m_NoCover:mg "NoCover"=some (.ref ad.NoCover)
 m_NoRoom:mg "NoRoom"=some (.ref ad.NoRoom)
 m_NoText:mg "NoText"=some (.ref ad.NoText)
 i_NoCover:zfq K ad.NoCover [.type "ValueError",.type "Exception",.type "BaseException",.type "object"] "ValueError.__new__" ad.f_NoCover=true
 fn_NoCover:PySem.W.isFn K (.ref ad.f_NoCover)=true
 na_NoCover:NoAttr K ad.NoCover "thing"
 i_NoRoom:zfq K ad.NoRoom [.type "ValueError",.type "Exception",.type "BaseException",.type "object"] "ValueError.__new__" ad.f_NoRoom=true
 fn_NoRoom:PySem.W.isFn K (.ref ad.f_NoRoom)=true
 na_NoRoom:NoAttr K ad.NoRoom "thing"
 i_NoText:zfq K ad.NoText [.type "ValueError",.type "Exception",.type "BaseException",.type "object"] "ValueError.__new__" ad.f_NoText=true
 fn_NoText:PySem.W.isFn K (.ref ad.f_NoText)=true
 na_NoText:NoAttr K ad.NoText "line"
 e_NoLengths:PySem.W.excIn K ad.NoLengths [.type "ValueError",.type "Exception",.type "BaseException",.type "object"] "ValueError.__new__"=true
 b_EnoughError:PySem.W.mroIn K ad.EnoughError (.type "BaseException")=some true
 z_NoLengths:ExcCls K ad.NoLengths
 kc_NoLengths_EnoughError:PySem.W.kitCls K (.ref ad.NoLengths) (.ref ad.EnoughError)=some true
 k_NoLengths_NoShare:PySem.W.kitOne K (.ref ad.NoLengths) (.ref ad.NoShare)=some false
 k_NoLengths_NoLengths:PySem.W.kitOne K (.ref ad.NoLengths) (.ref ad.NoLengths)=some true
 k_NoLengths_TooMany:PySem.W.kitOne K (.ref ad.NoLengths) (.ref ad.TooMany)=some false
 k_NoLengths_NoCover:PySem.W.kitOne K (.ref ad.NoLengths) (.ref ad.NoCover)=some false
 k_NoLengths_NoRoom:PySem.W.kitOne K (.ref ad.NoLengths) (.ref ad.NoRoom)=some false
 k_NoLengths_NoText:PySem.W.kitOne K (.ref ad.NoLengths) (.ref ad.NoText)=some false
 k_NoLengths_ValueError:PySem.W.kitOne K (.ref ad.NoLengths) (.type "ValueError")=some true
 z_NoCover:ExcCls K ad.NoCover
 a_NoCover:ExcA K ad.NoCover
 kc_NoCover_EnoughError:PySem.W.kitCls K (.ref ad.NoCover) (.ref ad.EnoughError)=some true
 k_NoCover_NoShare:PySem.W.kitOne K (.ref ad.NoCover) (.ref ad.NoShare)=some false
 k_NoCover_NoLengths:PySem.W.kitOne K (.ref ad.NoCover) (.ref ad.NoLengths)=some false
 k_NoCover_TooMany:PySem.W.kitOne K (.ref ad.NoCover) (.ref ad.TooMany)=some false
 k_NoCover_NoCover:PySem.W.kitOne K (.ref ad.NoCover) (.ref ad.NoCover)=some true
 k_NoCover_NoRoom:PySem.W.kitOne K (.ref ad.NoCover) (.ref ad.NoRoom)=some false
 k_NoCover_NoText:PySem.W.kitOne K (.ref ad.NoCover) (.ref ad.NoText)=some false
 k_NoCover_ValueError:PySem.W.kitOne K (.ref ad.NoCover) (.type "ValueError")=some true
 z_NoRoom:ExcCls K ad.NoRoom
 a_NoRoom:ExcA K ad.NoRoom
 kc_NoRoom_EnoughError:PySem.W.kitCls K (.ref ad.NoRoom) (.ref ad.EnoughError)=some true
 k_NoRoom_NoShare:PySem.W.kitOne K (.ref ad.NoRoom) (.ref ad.NoShare)=some false
 k_NoRoom_NoLengths:PySem.W.kitOne K (.ref ad.NoRoom) (.ref ad.NoLengths)=some false
 k_NoRoom_TooMany:PySem.W.kitOne K (.ref ad.NoRoom) (.ref ad.TooMany)=some false
 k_NoRoom_NoCover:PySem.W.kitOne K (.ref ad.NoRoom) (.ref ad.NoCover)=some false
 k_NoRoom_NoRoom:PySem.W.kitOne K (.ref ad.NoRoom) (.ref ad.NoRoom)=some true
 k_NoRoom_NoText:PySem.W.kitOne K (.ref ad.NoRoom) (.ref ad.NoText)=some false
 k_NoRoom_ValueError:PySem.W.kitOne K (.ref ad.NoRoom) (.type "ValueError")=some true
 z_NoText:ExcCls K ad.NoText
 a_NoText:ExcA K ad.NoText
 kc_NoText_EnoughError:PySem.W.kitCls K (.ref ad.NoText) (.ref ad.EnoughError)=some true
 k_NoText_NoShare:PySem.W.kitOne K (.ref ad.NoText) (.ref ad.NoShare)=some false
 k_NoText_NoLengths:PySem.W.kitOne K (.ref ad.NoText) (.ref ad.NoLengths)=some false
 k_NoText_TooMany:PySem.W.kitOne K (.ref ad.NoText) (.ref ad.TooMany)=some false
 k_NoText_NoCover:PySem.W.kitOne K (.ref ad.NoText) (.ref ad.NoCover)=some false
 k_NoText_NoRoom:PySem.W.kitOne K (.ref ad.NoText) (.ref ad.NoRoom)=some false
 k_NoText_NoText:PySem.W.kitOne K (.ref ad.NoText) (.ref ad.NoText)=some true
 k_NoText_ValueError:PySem.W.kitOne K (.ref ad.NoText) (.type "ValueError")=some true
section
variable {P:Program} {w:World} {K:PySem.W.Frag} {mg:Str→Option Value} {base:Heap} {ad:Adr}
theorem zhQ (T:Txt K mg ad):∀c,zcl c=true→PySem.W.kitCls (KX K ad).f (.ref ((KX K ad).ca c)) (.ref ad.EnoughError)=some true:=by
 have key:∀r,zeF r=true→PySem.W.kitCls K (.ref (caT ad r)) (.ref ad.EnoughError)=some true:=by
  intro c h
  match c,h with
  | 2,_=>exact T.kc_NoLengths_EnoughError
  | 4,_=>exact T.kc_NoCover_EnoughError
  | 5,_=>exact T.kc_NoRoom_EnoughError
  | 6,_=>exact T.kc_NoText_EnoughError
 exact fun c h=>key (c%16) h
theorem zlX (T:Txt K mg ad):∀c b,zet c=some b→ExcCls (KX K ad).f ((KX K ad).ca c)∧PySem.W.kitOne (KX K ad).f (.ref ((KX K ad).ca c)) (.ref ad.NoShare)=some b:=by
 have key:∀r b,zeZ r=some b→ExcCls K (caT ad r)∧PySem.W.kitOne K (.ref (caT ad r)) (.ref ad.NoShare)=some b:=by
  intro c b h
  match c,h with
  | 2,h=>cases h;exact⟨T.z_NoLengths,T.k_NoLengths_NoShare⟩
  | 4,h=>cases h;exact⟨T.z_NoCover,T.k_NoCover_NoShare⟩
  | 5,h=>cases h;exact⟨T.z_NoRoom,T.k_NoRoom_NoShare⟩
  | 6,h=>cases h;exact⟨T.z_NoText,T.k_NoText_NoShare⟩
 exact fun c b h=>key (c%16) b h
theorem zjW (T:Txt K mg ad):∀c b,zdC c=some b→ExcCls (KX K ad).f ((KX K ad).ca c)∧PySem.W.kitOne (KX K ad).f (.ref ((KX K ad).ca c)) (.ref ad.NoLengths)=some b:=by
 have key:∀r b,zea r=some b→ExcCls K (caT ad r)∧PySem.W.kitOne K (.ref (caT ad r)) (.ref ad.NoLengths)=some b:=by
  intro c b h
  match c,h with
  | 2,h=>cases h;exact⟨T.z_NoLengths,T.k_NoLengths_NoLengths⟩
  | 4,h=>cases h;exact⟨T.z_NoCover,T.k_NoCover_NoLengths⟩
  | 5,h=>cases h;exact⟨T.z_NoRoom,T.k_NoRoom_NoLengths⟩
  | 6,h=>cases h;exact⟨T.z_NoText,T.k_NoText_NoLengths⟩
 exact fun c b h=>key (c%16) b h
theorem zmq (T:Txt K mg ad):∀c b,zeu c=some b→ExcCls (KX K ad).f ((KX K ad).ca c)∧PySem.W.kitOne (KX K ad).f (.ref ((KX K ad).ca c)) (.ref ad.TooMany)=some b:=by
 have key:∀r b,zeN r=some b→ExcCls K (caT ad r)∧PySem.W.kitOne K (.ref (caT ad r)) (.ref ad.TooMany)=some b:=by
  intro c b h
  match c,h with
  | 2,h=>cases h;exact⟨T.z_NoLengths,T.k_NoLengths_TooMany⟩
  | 4,h=>cases h;exact⟨T.z_NoCover,T.k_NoCover_TooMany⟩
  | 5,h=>cases h;exact⟨T.z_NoRoom,T.k_NoRoom_TooMany⟩
  | 6,h=>cases h;exact⟨T.z_NoText,T.k_NoText_TooMany⟩
 exact fun c b h=>key (c%16) b h
theorem zl7 (T:Txt K mg ad):∀c b,zez c=some b→ExcCls (KX K ad).f ((KX K ad).ca c)∧PySem.W.kitOne (KX K ad).f (.ref ((KX K ad).ca c)) (.ref ad.NoCover)=some b:=by
 have key:∀r b,zeQ r=some b→ExcCls K (caT ad r)∧PySem.W.kitOne K (.ref (caT ad r)) (.ref ad.NoCover)=some b:=by
  intro c b h
  match c,h with
  | 2,h=>cases h;exact⟨T.z_NoLengths,T.k_NoLengths_NoCover⟩
  | 4,h=>cases h;exact⟨T.z_NoCover,T.k_NoCover_NoCover⟩
  | 5,h=>cases h;exact⟨T.z_NoRoom,T.k_NoRoom_NoCover⟩
  | 6,h=>cases h;exact⟨T.z_NoText,T.k_NoText_NoCover⟩
 exact fun c b h=>key (c%16) b h
theorem zn3 (T:Txt K mg ad):∀c b,zfc c=some b→ExcCls (KX K ad).f ((KX K ad).ca c)∧PySem.W.kitOne (KX K ad).f (.ref ((KX K ad).ca c)) (.ref ad.NoRoom)=some b:=by
 have key:∀r b,zfw r=some b→ExcCls K (caT ad r)∧PySem.W.kitOne K (.ref (caT ad r)) (.ref ad.NoRoom)=some b:=by
  intro c b h
  match c,h with
  | 2,h=>cases h;exact⟨T.z_NoLengths,T.k_NoLengths_NoRoom⟩
  | 4,h=>cases h;exact⟨T.z_NoCover,T.k_NoCover_NoRoom⟩
  | 5,h=>cases h;exact⟨T.z_NoRoom,T.k_NoRoom_NoRoom⟩
  | 6,h=>cases h;exact⟨T.z_NoText,T.k_NoText_NoRoom⟩
 exact fun c b h=>key (c%16) b h
theorem znJ (T:Txt K mg ad):∀c b,zfd c=some b→ExcCls (KX K ad).f ((KX K ad).ca c)∧PySem.W.kitOne (KX K ad).f (.ref ((KX K ad).ca c)) (.ref ad.NoText)=some b:=by
 have key:∀r b,zfG r=some b→ExcCls K (caT ad r)∧PySem.W.kitOne K (.ref (caT ad r)) (.ref ad.NoText)=some b:=by
  intro c b h
  match c,h with
  | 2,h=>cases h;exact⟨T.z_NoLengths,T.k_NoLengths_NoText⟩
  | 4,h=>cases h;exact⟨T.z_NoCover,T.k_NoCover_NoText⟩
  | 5,h=>cases h;exact⟨T.z_NoRoom,T.k_NoRoom_NoText⟩
  | 6,h=>cases h;exact⟨T.z_NoText,T.k_NoText_NoText⟩
 exact fun c b h=>key (c%16) b h
theorem ziE (T:Txt K mg ad):∀c b,zdg c=some b→ExcCls (KX K ad).f ((KX K ad).ca c)∧PySem.W.kitOne (KX K ad).f (.ref ((KX K ad).ca c)) (.type "ValueError")=some b:=by
 have key:∀r b,zdH r=some b→ExcCls K (caT ad r)∧PySem.W.kitOne K (.ref (caT ad r)) (.type "ValueError")=some b:=by
  intro c b h
  match c,h with
  | 2,h=>cases h;exact⟨T.z_NoLengths,T.k_NoLengths_ValueError⟩
  | 4,h=>cases h;exact⟨T.z_NoCover,T.k_NoCover_ValueError⟩
  | 5,h=>cases h;exact⟨T.z_NoRoom,T.k_NoRoom_ValueError⟩
  | 6,h=>cases h;exact⟨T.z_NoText,T.k_NoText_ValueError⟩
 exact fun c b h=>key (c%16) b h
theorem zmp (k:Nat):caF ad (4+16*(k+1))=ad.NoCover:=by
 unfold caF
 rw[show (4+16*(k+1))%16=4 by omega];rfl
theorem zml (k:Nat):anF (4+16*(k+1)) = "thing":=by
 unfold anF
 rw[show (4+16*(k+1))%16=4 by omega];rfl
theorem zm0 (k:Nat):caF ad (5+16*(k+1))=ad.NoRoom:=by
 unfold caF
 rw[show (5+16*(k+1))%16=5 by omega];rfl
theorem znQ (k:Nat):anF (5+16*(k+1)) = "thing":=by
 unfold anF
 rw[show (5+16*(k+1))%16=5 by omega];rfl
theorem zjw (k:Nat):caF ad (6+16*(k+1))=ad.NoText:=by
 unfold caF
 rw[show (6+16*(k+1))%16=6 by omega];rfl
theorem zjD (k:Nat):anF (6+16*(k+1)) = "line":=by
 unfold anF
 rw[show (6+16*(k+1))%16=6 by omega];rfl
theorem zkQ (T:Txt K mg ad):∀c,zfO c=true→ExcCls (KX K ad).f ((KX K ad).ca c)∧NoAttr (KX K ad).f ((KX K ad).ca c) "line"∧(KX K ad).an c = "line":=by
 have key:∀r,zlo r=true→ExcCls K (caT ad r)∧NoAttr K (caT ad r) "line"∧anT r = "line":=by
  intro c h
  match c,h with
  | 6,_=>exact⟨T.z_NoText,T.na_NoText,rfl⟩
 exact fun c h=>key (c%16) h
theorem zsH (T:Txt K mg ad):∀c,zpe c=true→ExcCls (KX K ad).f ((KX K ad).ca c)∧NoAttr (KX K ad).f ((KX K ad).ca c) "thing"∧(KX K ad).an c = "thing":=by
 have key:∀r,zjv r=true→ExcCls K (caT ad r)∧NoAttr K (caT ad r) "thing"∧anT r = "thing":=by
  intro c h
  match c,h with
  | 4,_=>exact⟨T.z_NoCover,T.na_NoCover,rfl⟩
  | 5,_=>exact⟨T.z_NoRoom,T.na_NoRoom,rfl⟩
 exact fun c h=>key (c%16) h
abbrev zcb:Stmt:=zq7 (top 5)
theorem zgT:FnScope ["self","thing"] ["self","thing"] (zap zcb):=scMk
theorem zht {f:Addr} {fd:FuncData} (F:Fun K "__init__" "NoCover.__init__" zcb f fd):FnOk P w K mg base CX0 1 f fd ["self","thing"] (spI K "thing"):=by
 refine F.ok zgT (fun vs H Q E h=>zkL h) (fun cdv A outer s H vs Q E hr h=>?_)
 obtain⟨e,C,xs,n,rfl,hH,zA,zN,q⟩:=h
 exact⟨_,zan (zkX (pv 0) (pv 1) rfl),_,rfl,_,rfl,e,C,xs,rfl,hH,zA,zN,fun dx hd=>q dx hd⟩
abbrev zcv:Stmt:=zq7 (top 6)
theorem zhL:FnScope ["self","thing"] ["self","thing"] (zap zcv):=scMk
theorem zhK {f:Addr} {fd:FuncData} (F:Fun K "__init__" "NoRoom.__init__" zcv f fd):FnOk P w K mg base CX0 1 f fd ["self","thing"] (spI K "thing"):=by
 refine F.ok zhL (fun vs H Q E h=>zkL h) (fun cdv A outer s H vs Q E hr h=>?_)
 obtain⟨e,C,xs,n,rfl,hH,zA,zN,q⟩:=h
 exact⟨_,zan (zkX (pv 0) (pv 1) rfl),_,rfl,_,rfl,e,C,xs,rfl,hH,zA,zN,fun dx hd=>q dx hd⟩
abbrev zct:Stmt:=zq7 (top 7)
theorem zhH:FnScope ["self","line"] ["self","line"] (zap zct):=scMk
theorem zhO {f:Addr} {fd:FuncData} (F:Fun K "__init__" "NoText.__init__" zct f fd):FnOk P w K mg base CX0 1 f fd ["self","line"] (spI K "line"):=by
 refine F.ok zhH (fun vs H Q E h=>zkL h) (fun cdv A outer s H vs Q E hr h=>?_)
 obtain⟨e,C,xs,n,rfl,hH,zA,zN,q⟩:=h
 exact⟨_,zan (zkX (pv 0) (pv 1) rfl),_,rfl,_,rfl,e,C,xs,rfl,hH,zA,zN,fun dx hd=>q dx hd⟩
abbrev ze4:Stmt:=top 147
theorem zi3:FnScope ["_law_cell","_law_k"] ["_law_cell","_law_k"] (zap ze4):=scMk
theorem ziP {f:Addr} {fd:FuncData} (F:Fun K "_law_number" "_law_number" ze4 f fd) (T:Txt K mg ad)  : FnOk P w K mg base CX0 1 f fd ["_law_cell","_law_k"] (spM (KX K ad) (xoK (KX K ad)) zbZ):=by
 refine F.ok zi3 (fun vs H Q E h=>zbb h) (fun cdv A outer s H vs Q E hr h=>?_)
 have hu:=zb9 hr
 exact⟨_,(zan (zaL (zaU zdL (zaU zgY (zaU zds (zaU zds (zaU zdL (pv 0) (zaU zsg zai zai)) (zaU zgY (pv 1) (pv 1))) zai) (zaU zds zai (zaU zgY zai (pv 1)))) zai))),zco (K:=(KX K ad)) (XO:=(xoK (KX K ad))) (E:=E) (np:=2) (nv:=0) (m:=zeO)
   (za9 (zao zdE ((zao zj2 ((zao zdu ((zao zdu ((zao zdE zad ((zao zr2 (zag).r (zag).r)).r)).r ((zao zj2 zad zad)).r)).r (zag).r)).r ((zao zdu (zag).r ((zao zj2 (zag).r zad)).r)).r)).r (zag).r)) rfl h⟩
abbrev zfv:Stmt:=top 148
theorem sc_law_lines:FnScope ["_law_kind","_law_first_here","_law_second","_law_a","_law_b"] ["_law_kind","_law_first_here","_law_second"] (zap zfv):=scMk
theorem zju {f:Addr} {fd:FuncData} (F:Fun K "_law_lines" "_law_lines" zfv f fd) (T:Txt K mg ad)  : FnOk P w K mg base CX0 1 f fd ["_law_kind","_law_first_here","_law_second"] (spO (KX K ad) (xoK (KX K ad)) zbt):=by
 refine F.ok sc_law_lines (fun vs H Q E h=>ziq h) (fun cdv A outer s H vs Q E hr h=>?_)
 have hu:=zb9 hr
 exact⟨_,(zaf (zaJ (i:=3) sc_law_lines.nd rfl (by first|exact Or.inl rfl|exact Or.inr rfl) (zdk zf4 (by rfl) T.str boot_str (zaa (pv 1) zae)))
   (zaf (zaJ (i:=4) sc_law_lines.nd rfl (by first|exact Or.inl rfl|exact Or.inr rfl) (zdk zf4 (by rfl) T.str boot_str (zaa (pv 2) zae)))
   (zaf (zb4 (zaX zcn (pv 0) zai (zaF _))
   (zan (zaL (zbK (zaa zaA (zaa (zaU za6 (pv 3) zaA) (zaa (zaU za6 (pv 4) zaA) zae))))))
   za0)
   (zaf (zb4 (zaX zcn (pv 0) zai (zaF _))
   (zan (zaL (zbK (zaa (zaU za6 (zaU za6 (zaU za6 zaA (pv 3)) zaA) (pv 4)) (zaa zaA zae)))))
   za0)
   (zaf (zb4 (zaX zcn (pv 0) zai (zaF _))
   (zan (zaL (zbK (zaa zaA (zaa (zaU za6 zaA (pv 3)) (zaa (zaU za6 (pv 3) zaA) zae))))))
   za0)
   (zaf (zb4 (zaX zcn (pv 0) zai (zaF _))
   (zan (zaL (zbK (zaa zaA (zaa (zaU za6 zaA (pv 3)) (zaa (zaU za6 (pv 3) zaA) zae))))))
   za0)
   (zaf (zb4 (zaX zcn (pv 0) zai (zaF _))
   (zan (zaL (zbK (zaa (zaU za6 (zaU za6 (zaU za6 zaA (pv 3)) zaA) (pv 4)) zae))))
   za0)
   (zaf (zb4 (zaX zcn (pv 0) zai (zaF _))
   (zan (zaL (zbK (zaa (zaU za6 (zaU za6 (zaU za6 zaA (pv 3)) zaA) (pv 4)) zae))))
   za0)
   (zan (zaL (zbK (zaa zaA (zaa (zaU za6 (zaU za6 (pv 3) zaA) (pv 4)) zae))))))))))))),zlf (K:=(KX K ad)) (XO:=(xoK (KX K ad))) (E:=E) (np:=3) (nv:=2) (m:=zhn)
   (zam (zaR (zcs zi2 (zaQ zad zbd)) zau)
   (zam (zaR (zcs zi2 (zaQ zad zbd)) zau)
   (zam (zb8 (zaV (zao zcm zad (zag).r))
   (zdq (zbl (zac zaH (zac (zao zbV zad (zaH).r) (zac (zao zbV zad (zaH).r) zak)))))
   za1)
   (zam (zb8 (zaV (zao zcm zad (zag).r))
   (zdq (zbl (zac (zao zbV ((zao zbV ((zao zbV (zaH).r zad)).r (zaH).r)).r zad) (zac zaH zak))))
   za1)
   (zam (zb8 (zaV (zao zcm zad (zag).r))
   (zdq (zbl (zac zaH (zac (zao zbV (zaH).r zad) (zac (zao zbV zad (zaH).r) zak)))))
   za1)
   (zam (zb8 (zaV (zao zcm zad (zag).r))
   (zdq (zbl (zac zaH (zac (zao zbV (zaH).r zad) (zac (zao zbV zad (zaH).r) zak)))))
   za1)
   (zam (zb8 (zaV (zao zcm zad (zag).r))
   (zdq (zbl (zac (zao zbV ((zao zbV ((zao zbV (zaH).r zad)).r (zaH).r)).r zad) zak)))
   za1)
   (zam (zb8 (zaV (zao zcm zad (zag).r))
   (zdq (zbl (zac (zao zbV ((zao zbV ((zao zbV (zaH).r zad)).r (zaH).r)).r zad) zak)))
   za1)
   (zdq (zbl (zac zaH (zac (zao zbV ((zao zbV zad (zaH).r)).r zad) zak)))))))))))) rfl h⟩
abbrev zfx:Stmt:=top 149
theorem sc_law_first:FnScope ["_law_kind","_law_words","_law_number_here","_law_way","_law_at"] ["_law_kind","_law_words","_law_number_here"] (zap zfx):=scMk
theorem zjp {f:Addr} {fd:FuncData} (F:Fun K "_law_first" "_law_first" zfx f fd) (T:Txt K mg ad)  : FnOk P w K mg base CX0 1 f fd ["_law_kind","_law_words","_law_number_here"] (spM (KX K ad) (xoK (KX K ad)) zcI):=by
 refine F.ok sc_law_first (fun vs H Q E h=>zbb h) (fun cdv A outer s H vs Q E hr h=>?_)
 have hu:=zb9 hr
 exact⟨_,(zaf (zaJ (i:=3) sc_law_first.nd rfl (by first|exact Or.inl rfl|exact Or.inr rfl) (zaU zdL (pv 2) zai))
   (zaf (zb4 (zaX zcn (pv 3) zai (zaF _))
   (zan (zaL (zaU zdp (pv 1) (zbN zci (@zbK _ _ _ _ (@zaa _ _ _ _ _ zaA (@zaa _ _ _ _ _ zaA (@zaa _ _ _ _ _ zaA (@zaa _ _ _ _ _ zaA (@zaa _ _ _ _ _ zaA (@zaa _ _ _ _ _ zaA (@zaa _ _ _ _ _ zaA zae rfl) rfl) rfl) rfl) rfl) rfl) rfl)) (zbS (pv 0)) (zbS (zaU zds (pv 0) zai))))))
   za0)
   (zaf (zb4 (zaX zcn (pv 3) zai (zaF _))
   (zan (zaL (zba zaD (zbK (zaa (zbN zci (pv 1) zcK (zbS zai)) (zaa (zbK (zaa zaA zae)) zae))) (zdk znj (by rfl) T.int boot_int (zaa (zbu zcn (pv 0) zai (zaF _)) zae)) (fun _ _=>rfl))))
   za0)
   (zaf (zb4 ((znd (zaX zcn (pv 3) zai (zaF _)) (zkr (zaX zcn (pv 0) zai (zaF _))))).pt
   (zaf (zaJ (i:=4) sc_law_first.nd rfl (by first|exact Or.inl rfl|exact Or.inr rfl) (zaU zds zai (zaU zdL (zaU zdB (pv 2) zai) zai)))
   (zan (zaL (zaU zdp (zaU zdp (zbN zci (pv 1) zcK (zbS (pv 4))) (zbK (zaa zaA zae))) (zbN zci (pv 1) (zbS (pv 4)) zcK)))))
   za0)
   (zaf (zb4 ((znd (zaX zcn (pv 3) zai (zaF _)) (zkr (zaX zor (pv 0) zai (zaF _))))).pt
   (zan (zaL (zaU zdp (zaU zdp (zbN zci (pv 1) zcK (zbS zai)) (zbN zci (@zbK _ _ _ _ (@zaa _ _ _ _ _ zaA (@zaa _ _ _ _ _ zaA (@zaa _ _ _ _ _ zaA (@zaa _ _ _ _ _ zaA (@zaa _ _ _ _ _ zaA (@zaa _ _ _ _ _ zaA (@zaa _ _ _ _ _ zaA zae rfl) rfl) rfl) rfl) rfl) rfl) rfl)) (zbS (pv 0)) (zbS (zaU zds (pv 0) zai)))) (zbN zci (pv 1) (zbS zai) zcK))))
   za0)
   (zaf (zaJ (i:=4) sc_law_first.nd rfl (by first|exact Or.inl rfl|exact Or.inr rfl) (zaU zds zai (zaU zdL (zaU zdB (pv 2) zai) (zaM zaI (by rfl) T.len PySem.boot_len (zaa (pv 1) zae)))))
   (zan (zaL (zaU zdp (zaU zdp (zbN zci (pv 1) zcK (zbS (pv 4))) (zbK (zaa zaA zae))) (zbN zci (pv 1) (zbS (pv 4)) zcK)))))))))),zco (K:=(KX K ad)) (XO:=(xoK (KX K ad))) (E:=E) (np:=3) (nv:=2) (m:=zhp)
   (zam (zaR (zao zdE zad (zag).r) zau)
   (zam (zb8 (zaV (zao zcm zad (zag).r))
   (za9 ((zeK zeD zad ((zbx ((zbl (zac zaH (zac zaH (zac zaH (zac zaH (zac zaH (zac zaH (zac zaH zak))))))))).e.r (zbT zal) (zbT (zao zdu zad (zag).r)))).e.r)).e)
   za1)
   (zam (zb8 (zaV (zao zcm zad (zag).r))
   (za9 (zao zaZ ((zbl (zac ((zbx zad zfA (zbT zag))).e (zac ((zbl (zac zaH zak))).e zak)))).e.r ((zcs zrz (zaQ ((zao zcm zad (zag).r)).r zbd))).r))
   za1)
   (zam (zb8 (zmD (zaV (zao zcm zad (zag).r)) (zaV (zao zcm zad (zag).r)))
   (zam (zaR (zao zdu (zag).r ((zao zdE ((zao zfS zad (zag).r)).r (zag).r)).r) zau)
   (za9 ((zeK zeD ((zeK zeD ((zbx zad zfA (zbT zal))).e.r ((zbl (zac zaH zak))).e.r)).e.r ((zbx zad (zbT zal) zfA)).e.r)).e))
   za1)
   (zam (zb8 (zmD (zaV (zao zcm zad (zag).r)) (zaV (zao znu zad (zag).r)))
   (za9 ((zeK zeD ((zeK zeD ((zbx zad zfA (zbT zag))).e.r ((zbx ((zbl (zac zaH (zac zaH (zac zaH (zac zaH (zac zaH (zac zaH (zac zaH zak))))))))).e.r (zbT zal) (zbT (zao zdu zad (zag).r)))).e.r)).e.r ((zbx zad (zbT zag) zfA)).e.r)).e)
   za1)
   (zam (zaR (zao zdu (zag).r ((zao zdE ((zao zfS zad (zag).r)).r ((zcs zcQ (zaQ zad zbd))).r)).r) zau)
   (za9 ((zeK zeD ((zeK zeD ((zbx zad zfA (zbT zal))).e.r ((zbl (zac zaH zak))).e.r)).e.r ((zbx zad (zbT zal) zfA)).e.r)).e))))))) rfl h⟩
abbrev zeo:Stmt:=top 150
theorem sc_law_spoiled:FnScope ["_law_kind","_law_lines_here","_law_number_here","_law_way","_law_part","_law_many","_law_words"] ["_law_kind","_law_lines_here","_law_number_here"] (zap zeo):=scMk
theorem zhP {f:Addr} {fd:FuncData} (F:Fun K "_law_spoiled" "_law_spoiled" zeo f fd) (T:Txt K mg ad) (G_law_first:Has P w K mg base CX0 1 "_law_first" ["_law_kind","_law_words","_law_number_here"] (spM (KX K ad) (xoK (KX K ad)) zcI)):FnOk P w K mg base CX0 2 f fd ["_law_kind","_law_lines_here","_law_number_here"] (spO (KX K ad) (xoK (KX K ad)) zbr):=by
 refine F.ok sc_law_spoiled (fun vs H Q E h=>ziq h) (fun cdv A outer s H vs Q E hr h=>?_)
 have hu:=zb9 hr
 exact⟨_,(zaf (zaJ (i:=3) sc_law_spoiled.nd rfl (by first|exact Or.inl rfl|exact Or.inr rfl) (zaU zdL (pv 2) zai))
   (zaf (zaJ (i:=4) sc_law_spoiled.nd rfl (by first|exact Or.inl rfl|exact Or.inr rfl) (zaU zdB (pv 2) zai))
   (zaf (zb4 (zaX zlK (pv 3) zai (zaF _))
   (zan (zaL (zbK (zaa (zaU zdp (zbK (zaa (ze2 PySem.F.plainAttrs_str PySem.F.slot_str_join PySem.F.type_str_join ziL zaA (zaa (pe_h G_law_first hr zcW (zaa (pv 0) (zaa (ze2 PySem.F.plainAttrs_str PySem.F.slot_str_split PySem.F.type_str_split zf3 (zba zaD (pv 1) zai (fun _ _=>rfl)) (zaa zaA zae)) (zaa (pv 4) zae)))) zae)) zae)) (zbN zci (pv 1) (zbS zai) zcK)) (zaa zai zae)))))
   za0)
   (zaf (zb4 ((znd (zaX zcn (pv 3) zai (zaF _)) (zkr (zaX zcn (pv 0) zai (zaF _))))).pt
   (zaf (zaJ (i:=5) sc_law_spoiled.nd rfl (by first|exact Or.inl rfl|exact Or.inr rfl) (zaU za6 zaA (zdk zf4 (by rfl) T.str boot_str (zaa (zaU zds zai (zaU zdL (pv 4) zai)) zae))))
   (zaf (zb4 (zaX zcn (zaU zdL (zaU zdB (pv 4) zai) zai) zai (zaF _))
   (zan (zaL (zbK (zaa (zaU zdp (zaU zdp (zbK (zaa (pv 5) zae)) (zbN zci (pv 1) (zbS zai) (zbS (zlS zh4 zai)))) (zbK (zaa (zaU za6 (zbN zrd (zba zaD (pv 1) (zlS zh4 zai) (fun _ _=>rfl)) zcK (zbS (zlS zh4 zai))) zaA) zae))) (zaa zai zae)))))
   za0)
   (zan (zaL (zbK (zaa (zbK (zaa (zaU za6 zaA (zdk zf4 (by rfl) T.str boot_str (zaa (zaU zds zai (zaU zdL (pv 4) zai)) zae))) (zaa zaA (zaa zaA (zaa zaA zae))))) (zaa zai zae)))))))
   za0)
   (zaf (zaJ (i:=6) sc_law_spoiled.nd rfl (by first|exact Or.inl rfl|exact Or.inr rfl) (ze2 PySem.F.plainAttrs_str PySem.F.slot_str_split PySem.F.type_str_split zf3 (zba zaD (pv 1) (zlS zh4 zai) (fun _ _=>rfl)) (zaa zaA zae)))
   (zaf (zpU (zba zaD (zbK (zaa zaA (zaa zaA (zaa zaA (zaa zaA zae))))) (zaU zdL (pv 4) zai) (fun _ _=>rfl)) (zr7 (pv 6) (zlS zh4 zai) zoD))
   (zan (zaL (zbK (zaa (zaU zdp (zbN zci (pv 1) zcK (zbS (zlS zh4 zai))) (zbK (zaa (ze2 PySem.F.plainAttrs_str PySem.F.slot_str_join PySem.F.type_str_join ziL zaA (zaa (pv 6) zae)) zae))) (zaa (zaU zli (zaM zaI (by rfl) T.len PySem.boot_len (zaa (pv 1) zae)) zai) zae))))))))))),zlf (K:=(KX K ad)) (XO:=(xoK (KX K ad))) (E:=E) (np:=3) (nv:=4) (m:=zex)
   (zam (zaR (zao zdE zad (zag).r) zau)
   (zam (zaR (zao zfS zad (zag).r) zau)
   (zam (zb8 (zaV (zao zmy zad (zag).r))
   (zdq (zbl (zac ((zeK zeD ((zbl (zac (ziC (zby (zac zal (zac ((zeR (zao zaZ zad (zag).r))).e (zac zal zak))))) zak))).e.r ((zbx zad (zbT zag) zfA)).e.r)).e (zac zag zak))))
   za1)
   (zam (zb8 (zmD (zaV (zao zcm zad (zag).r)) (zaV (zao zcm zad (zag).r)))
   (zam (zaR (zao zbV (zaH).r ((zcs zi2 (zaQ ((zao zdu (zag).r ((zao zdE zad (zag).r)).r)).r zbd))).r) zau)
   (zam (zb8 (zaV (zao zcm ((zao zdE ((zao zfS zad (zag).r)).r (zag).r)).r (zag).r))
   (zdq (zbl (zac ((zeK zeD ((zeK zeD ((zbl (zac zal zak))).e.r ((zbx zad (zbT zag) (zbT (zlY zh2 (zag).r)))).e.r)).e.r ((zbl (zac (zao zbV ((zrx ((zao zaZ zad ((zlY zh2 (zag).r)).r)).r zfA (zbT (zlY zh2 (zag).r)))).r (zaH).r) zak))).e.r)).e (zac zag zak))))
   za1)
   (zdq (zbl (zac ((zbl (zac (zao zbV (zaH).r ((zcs zi2 (zaQ ((zao zdu (zag).r ((zao zdE zad (zag).r)).r)).r zbd))).r) (zac zaH (zac zaH (zac zaH zak)))))).e (zac zag zak))))))
   za1)
   (zam (zfp (zeR (zao zaZ zad ((zlY zh2 (zag).r)).r)))
   (zam (zqt (zlY zh2 (zag).r) (zao zaZ ((zbl (zac zaH (zac zaH (zac zaH (zac zaH zak)))))).e.r ((zao zdE zad (zag).r)).r))
   (zla (i:=6) (zdq (zbl (zac ((zeK zeD ((zbx zad zfA (zbT (zlY zh2 (zag).r)))).e.r ((zbl (zac (ziC zal) zak))).e.r)).e (zac (zao zlt ((zcs zcQ (zaQ zad zbd))).r (zag).r) zak))))))))))) rfl h⟩
abbrev zd8:Stmt:=top 57
theorem zhq:FnScope ["wrong","line"] ["wrong","line"] (zap zd8):=scMk
theorem zhb {f:Addr} {fd:FuncData} (F:Fun K "refuse_where" "refuse_where" zd8 f fd) (T:Txt K mg ad)  (I_NoText:HasI P w K mg base ad.f_NoText ["self","line"] (spI K "line")):FnOk P w K mg base (CX1 P w) 3 f fd ["wrong","line"] (spM (KX K ad) (xoK (KX K ad)) zah):=by
 refine F.ok1 zhq (fun vs H Q E h=>zbb h) (fun cdv A outer s H vs Q E hr h=>?_)
 have hu:=zb9 hr
 exact⟨_,(zan (zb4 (zfr (pv 0))
   (zan (zfY rfl rfl (by rfl) T.m_NoText T.i_NoText PySem.F.excBase_ValueError (by decide +kernel) PySem.F.excBase_ValueError zlF I_NoText (hr.mono (by decide)) T.fn_NoText (zaa (pv 1) zae)))
   za0)),zco (K:=(KX K ad)) (XO:=(xoK (KX K ad))) (E:=E) (np:=2) (nv:=0) (m:=zd9)
   (zb8 (st_b zal)
   (zf0 (c0:=6) (by decide) (fun k=>(zjw k).symm) zjD T.a_NoText T.na_NoText (zac zal zak))
   za1) rfl h⟩
abbrev zcM:Stmt:=top 65
theorem zfk:FnScope ["words","least","most","line"] ["words","least","most","line"] (zap zcM):=scMk
theorem zfn {f:Addr} {fd:FuncData} (F:Fun K "refuse_word_count" "refuse_word_count" zcM f fd) (T:Txt K mg ad) (G_refuse_where:Has P w K mg base (CX1 P w) 3 "refuse_where" ["wrong","line"] (spM (KX K ad) (xoK (KX K ad)) zah)):FnOk P w K mg base (CX1 P w) 4 f fd ["words","least","most","line"] (spM (KX K ad) (xoK (KX K ad)) zaq):=by
 refine F.ok1 zfk (fun vs H Q E h=>zbb h) (fun cdv A outer s H vs Q E hr h=>?_)
 have hu:=zb9 hr
 exact⟨_,(zan (zaS (zbf G_refuse_where hr zbk (zaa (zoB (zbu zlK (zaM zaI (by rfl) T.len PySem.boot_len (zaa (pv 0) zae)) (pv 1) (zaF _)) (zh3 (zbu zfj (zaM zaI (by rfl) T.len PySem.boot_len (zaa (pv 0) zae)) (pv 2) (zaF _)))) (zaa (pv 3) zae))))),zco (K:=(KX K ad)) (XO:=(xoK (KX K ad))) (E:=E) (np:=4) (nv:=0) (m:=zcH)
   (zbc (zat (zac (zmT (zao zmy ((zcs zcQ (zaQ zad zbd))).r zad) (zao zfl ((zcs zcQ (zaQ zad zbd))).r zad)) (zac zal zak)))) rfl h⟩
abbrev zeB:Stmt:=top 58
theorem zjM:FnScope ["word"] ["word"] (zap zeB):=scMk
theorem zjX {f:Addr} {fd:FuncData} (F:Fun K "is_number" "is_number" zeB f fd) (T:Txt K mg ad)  : FnOk P w K mg base CX0 1 f fd ["word"] (spM (KX K ad) (xoK (KX K ad)) zbB):=by
 refine F.ok zjM (fun vs H Q E h=>zbb h) (fun cdv A outer s H vs Q E hr h=>?_)
 have hu:=zb9 hr
 exact⟨_,(zaf (zb4 ((zkR (zaX zcn (zaM zgC (by rfl) T.len PySem.boot_len (zaa (pv 0) zae)) zai (zaF _)) (zjR (zaX zfj (zaM zgC (by rfl) T.len PySem.boot_len (zaa (pv 0) zae)) (zcC (by rfl) T.g_MOST_FIGURES) (zaF _))))).pt
   (zan (zaL ziH))
   za0)
   (zaf (zb4 (zfr (zaM (znC rfl) (by rfl) T.any boot_any (zaa (zgi rfl (zry (pv 0)) (zf7 (zap zeB) ["word"] ["sign"] [] 1 rfl rfl rfl (by decide +kernel) (by decide +kernel) (by decide +kernel) rfl (by decide +kernel) (fun cl C s H fp pins=>(za4 (i:=0) (show List.Nodup (["sign"]:List Str) by decide +kernel) rfl (Or.inl rfl))) (fun cl C s H fp pins=>(zbu znR (pv 0) (zoF (by rfl) (by exact T.g_FIGURES)) (by with_unfolding_all rfl))) (Or.inl ⟨rfl,rfl⟩))) zae)))
   (zan (zaL ziH))
   za0)
   (zan (zaL (zoB (zbu zor (zba zrs (pv 0) zai (fun _ _=>rfl)) zaA (zaF _)) (zh3 (zbu zcn (pv 0) zaA (zaF _)))))))),zco (K:=(KX K ad)) (XO:=(xoK (KX K ad))) (E:=E) (np:=1) (nv:=0) (m:=zhm)
   (zam (zb8 (zkU (zaV (zao zcm ((zcs zn9 (zaQ zad zbd))).r (zag).r)) (zaV (zao zfl ((zcs zn9 (zaQ zad zbd))).r (zag).r)))
   (za9 zil)
   za1)
   (zam (zb8 (st_b (zcs zr1 (zaQ ((zdZ (zsd zal).c (by decide) zca zcL (Or.inl ⟨rfl,rfl⟩) (zao zrN zad (zaH).r))).e.r zbd)))
   (za9 zil)
   za1)
   (za9 (zmT (zao znu ((zao zrK zad (zag).r)).r (zaH).r) (zao zcm zad (zaH).r))))) rfl h⟩
abbrev zfC:Stmt:=top 59
theorem sc_number_in:FnScope ["word","least","most","line","number"] ["word","least","most","line"] (zap zfC):=scMk
theorem zj8 {f:Addr} {fd:FuncData} (F:Fun K "number_in" "number_in" zfC f fd) (T:Txt K mg ad) (G_refuse_where:Has P w K mg base (CX1 P w) 3 "refuse_where" ["wrong","line"] (spM (KX K ad) (xoK (KX K ad)) zah)) (G_is_number:Has P w K mg base CX0 1 "is_number" ["word"] (spM (KX K ad) (xoK (KX K ad)) zbB)):FnOk P w K mg base (CX1 P w) 4 f fd ["word","least","most","line"] (spM (KX K ad) (xoK (KX K ad)) zaC):=by
 refine F.ok1 sc_number_in (fun vs H Q E h=>zbb h) (fun cdv A outer s H vs Q E hr h=>?_)
 have hu:=zb9 hr
 exact⟨_,(zaf (zaS (zbf G_refuse_where hr zbk (zaa (zob (pe_h G_is_number hr zcW (zaa (pv 0) zae))) (zaa (pv 3) zae))))
   (zaf (zaJ (i:=4) sc_number_in.nd rfl (by first|exact Or.inl rfl|exact Or.inr rfl) (zdk zhE (by rfl) T.int boot_int (zaa (pv 0) zae)))
   (zaf (zaS (zbf G_refuse_where hr zbk (zaa (zoB (zbu zlK (pv 4) (pv 1) (zaF _)) (zh3 (zbu zfj (pv 4) (pv 2) (zaF _)))) (zaa (pv 3) zae))))
   (zan (zaL (pv 4)))))),zco (K:=(KX K ad)) (XO:=(xoK (KX K ad))) (E:=E) (np:=4) (nv:=1) (m:=zhD)
   (zam (zbc (zat (zac (zoq (zby (zac zal zak))) (zac zal zak))))
   (zam (zaR (zcs zkI (zaQ zad zbd)) zau)
   (zam (zbc (zat (zac (zmT (zao zmy zad zad) (zao zfl zad zad)) (zac zal zak))))
   (za9 zal)))) rfl h⟩
abbrev zdJ:Stmt:=top 9
theorem sc_common_factor:FnScope ["one","other","great","small","rest"] ["one","other"] (zap zdJ):=scMk
theorem zgP {f:Addr} {fd:FuncData} (F:Fun K "common_factor" "common_factor" zdJ f fd) (T:Txt K mg ad)  : FnOk P w K mg base CX0 1 f fd ["one","other"] (spM (KX K ad) (xoK (KX K ad)) zbw):=by
 refine F.ok sc_common_factor (fun vs H Q E h=>zbb h) (fun cdv A outer s H vs Q E hr h=>?_)
 have hu:=zb9 hr
 exact⟨_,(zaf (zaJ (i:=2) sc_common_factor.nd rfl (by first|exact Or.inl rfl|exact Or.inr rfl) (zaM zle (by rfl) T.abs boot_abs (zaa (pv 0) zae)))
   (zaf (zaJ (i:=3) sc_common_factor.nd rfl (by first|exact Or.inl rfl|exact Or.inr rfl) (zaM zle (by rfl) T.abs boot_abs (zaa (pv 1) zae)))
   (zaf (zoI PassesOwn.never (zaX zfj (pv 3) zai (zaF _))
   (zaf (zaJ (i:=4) sc_common_factor.nd rfl (by first|exact Or.inl rfl|exact Or.inr rfl) (zaU zdL (pv 2) (pv 3)))
   (zaf (zaJ (i:=2) sc_common_factor.nd rfl (by first|exact Or.inl rfl|exact Or.inr rfl) (pv 3))
   (zan (zaJ (i:=3) sc_common_factor.nd rfl (by first|exact Or.inl rfl|exact Or.inr rfl) (pv 4))))))
   (zan (zaL (pv 2)))))),zco (K:=(KX K ad)) (XO:=(xoK (KX K ad))) (E:=E) (np:=2) (nv:=3) (m:=zdW)
   (zam (zaR (zcs zp6 (zaQ zad zbd)) zau)
   (zam (zaR (zcs zp6 (zaQ zad zbd)) zau)
   (zam (zpE (zaV (zao zfl zad (zag).r))
   (zam (zaR (zao zdE zad zad) zau)
   (zam (zaR zal zau)
   (zaR zal zau))))
   (za9 zal)))) rfl h⟩
abbrev zey:Stmt:=top 60
theorem sc_amount_in:FnScope ["word","line","parts","top","bottom"] ["word","line"] (zap zey):=scMk
theorem zjL {f:Addr} {fd:FuncData} (F:Fun K "amount_in" "amount_in" zey f fd) (T:Txt K mg ad) (G_refuse_where:Has P w K mg base (CX1 P w) 3 "refuse_where" ["wrong","line"] (spM (KX K ad) (xoK (KX K ad)) zah)) (G_is_number:Has P w K mg base CX0 1 "is_number" ["word"] (spM (KX K ad) (xoK (KX K ad)) zbB)) (G_common_factor:Has P w K mg base CX0 1 "common_factor" ["one","other"] (spM (KX K ad) (xoK (KX K ad)) zbw)):FnOk P w K mg base (CX1 P w) 4 f fd ["word","line"] (spM (KX K ad) (xoK (KX K ad)) zaO):=by
 refine F.ok1 sc_amount_in (fun vs H Q E h=>zbb h) (fun cdv A outer s H vs Q E hr h=>?_)
 have hu:=zb9 hr
 exact⟨_,(zaf (zaJ (i:=2) sc_amount_in.nd rfl (by first|exact Or.inl rfl|exact Or.inr rfl) (ze2 PySem.F.plainAttrs_str PySem.F.slot_str_split PySem.F.type_str_split zf3 (pv 0) (zaa zaA zae)))
   (zaf (zaS (zbf G_refuse_where hr zbk (zaa (zbu zfj (zaM zaI (by rfl) T.len PySem.boot_len (zaa (pv 2) zae)) zai (zaF _)) (zaa (pv 1) zae))))
   (zaf (zaS (zbf G_refuse_where hr zbk (zaa (zob (zaM (znN rfl) (by rfl) T.all boot_all (zaa (zgi rfl (zcw (pv 2)) (zf7 (zap zey) ["word","line","parts","top","bottom"] ["part"] [] 1 rfl rfl rfl (by decide +kernel) (by decide +kernel) (by decide +kernel) rfl (by decide +kernel) (fun cl C s H fp pins=>(za4 (i:=0) (show List.Nodup (["part"]:List Str) by decide +kernel) rfl (Or.inl rfl))) (fun cl C s H fp pins=>(pe_h G_is_number hr zcW (zaa (pv 0) zae))) (Or.inl ⟨rfl,rfl⟩))) zae))) (zaa (pv 1) zae))))
   (zaf (zaJ (i:=3) sc_amount_in.nd rfl (by first|exact Or.inl rfl|exact Or.inr rfl) (zdk zhE (by rfl) T.int boot_int (zaa (zba zaD (pv 2) zai (fun _ _=>rfl)) zae)))
   (zaf (zb4 (zaX zcn (zaM zaI (by rfl) T.len PySem.boot_len (zaa (pv 2) zae)) zai (zaF _))
   (zan (zaL (zcf (zaa (pv 3) (zaa zai zae)))))
   za0)
   (zaf (zaJ (i:=4) sc_amount_in.nd rfl (by first|exact Or.inl rfl|exact Or.inr rfl) (zdk zhE (by rfl) T.int boot_int (zaa (zba zaD (pv 2) zai (fun _ _=>rfl)) zae)))
   (zaf (zaS (zbf G_refuse_where hr zbk (zaa (zoB (zbu zlK (pv 4) zai (zaF _)) (zh3 (zbu zfj (pv 4) (zcC (by rfl) T.g_MOST_BOTTOM) (zaF _)))) (zaa (pv 1) zae))))
   (zaf (zaS (zbf G_refuse_where hr zbk (zaa (zbu zfj (pe_h G_common_factor hr zcW (zaa (pv 3) (zaa (pv 4) zae))) zai (zaF _)) (zaa (pv 1) zae))))
   (zan (zaL (zcf (zaa (pv 3) (zaa (pv 4) zae))))))))))))),zco (K:=(KX K ad)) (XO:=(xoK (KX K ad))) (E:=E) (np:=2) (nv:=3) (m:=zhB)
   (zam (zaR ((zeR zal)).e zau)
   (zam (zbc (zat (zac (zao zfl ((zcs zcQ (zaQ zad zbd))).r (zag).r) (zac zal zak))))
   (zam (zbc (zat (zac (zoq (zcs zrj (zaQ ((zdZ (zcR zad) (by decide) zca zcL (Or.inl ⟨rfl,rfl⟩) (zby (zac zal zak)))).e.r zbd))) (zac zal zak))))
   (zam (zaR (zcs zkI (zaQ ((zao zaZ zad (zag).r)).r zbd)) zau)
   (zam (zb8 (zaV (zao zcm ((zcs zcQ (zaQ zad zbd))).r (zag).r))
   (za9 (zcj (zac zal (zac zag zak))))
   za1)
   (zam (zaR (zcs zkI (zaQ ((zao zaZ zad (zag).r)).r zbd)) zau)
   (zam (zbc (zat (zac (zmT (zao zmy zad (zag).r) (zao zfl zad (zag).r)) (zac zal zak))))
   (zam (zbc (zat (zac (zao zfl ((zby (zac zal (zac zal zak)))).r (zag).r) (zac zal zak))))
   (za9 (zcj (zac zal (zac zal zak)))))))))))) rfl h⟩
abbrev ziA:Stmt:=top 66
theorem sc_set_in:FnScope ["words","many","line","price","things","word","thing"] ["words","many","line"] (zap ziA):=scMk
theorem zmW {f:Addr} {fd:FuncData} (F:Fun K "set_in" "set_in" ziA f fd) (T:Txt K mg ad) (G_refuse_where:Has P w K mg base (CX1 P w) 3 "refuse_where" ["wrong","line"] (spM (KX K ad) (xoK (KX K ad)) zah)) (G_number_in:Has P w K mg base (CX1 P w) 4 "number_in" ["word","least","most","line"] (spM (KX K ad) (xoK (KX K ad)) zaC)) (G_amount_in:Has P w K mg base (CX1 P w) 4 "amount_in" ["word","line"] (spM (KX K ad) (xoK (KX K ad)) zaO)):FnOk P w K mg base (CX1 P w) 5 f fd ["words","many","line"] (spM (KX K ad) (xoK (KX K ad)) zcV):=by
 refine F.ok1 sc_set_in (fun vs H Q E h=>zbb h) (fun cdv A outer s H vs Q E hr h=>?_)
 have hu:=zb9 hr
 exact⟨_,(zaf (zaJ (i:=3) sc_set_in.nd rfl (by first|exact Or.inl rfl|exact Or.inr rfl) (zbf G_amount_in hr zbk (zaa (zba zaD (pv 0) zai (fun _ _=>rfl)) (zaa (pv 2) zae))))
   (zaf (zaJ (i:=4) sc_set_in.nd rfl (by first|exact Or.inl rfl|exact Or.inr rfl) (zbK zae))
   (zaf (zc6 PassesOwn.leaving rfl (zcw (zbN zci (pv 0) (zbS zai) zcK)) (za4 (i:=5) sc_set_in.nd rfl (by first|exact Or.inl rfl|exact Or.inr rfl))
   (zaf (zaJ (i:=6) sc_set_in.nd rfl (by first|exact Or.inl rfl|exact Or.inr rfl) (zbf G_number_in hr zbk (zaa (pv 5) (zaa zai (zaa (zaU zli (pv 1) zai) (zaa (pv 2) zae))))))
   (zaf (zaS (zbf G_refuse_where hr zbk (zaa (zbu zoA (pv 6) (pv 4) (by with_unfolding_all rfl)) (zaa (pv 2) zae))))
   (zan (zaS (ze2 PySem.F.plainAttrs_list PySem.F.slot_list_append PySem.F.type_list_append zdM (pv 4) (zaa (pv 6) zae)))))))
   (zan (zaL (zcf (zaa (pv 3) (zaa (pv 4) zae)))))))),zco (K:=(KX K ad)) (XO:=(xoK (KX K ad))) (E:=E) (np:=3) (nv:=4) (m:=zld)
   (zam (zaR (zat (zac (zao zaZ zad (zag).r) (zac zal zak))) zau)
   (zam (zfp (zbl zak))
   (zam (zc4 (zhl ((zbx zad (zbT zag) zfA)).e) zau
   (zam (zaR (zat (zac zal (zac zag (zac (zao zlt zad (zag).r) (zac zal zak))))) zau)
   (zam (zbc (zat (zac (zao zsZ zad zad) (zac zal zak))))
   (zeX zal))))
   (zla (i:=4) (za9 (zcj (zac zal (zac zal zak)))))))) rfl h⟩
abbrev zdb:Stmt:=top 10
theorem zgc:FnScope ["one","other"] ["one","other"] (zap zdb):=scMk
theorem zgb {f:Addr} {fd:FuncData} (F:Fun K "common_multiple" "common_multiple" zdb f fd) (T:Txt K mg ad) (G_common_factor:Has P w K mg base CX0 1 "common_factor" ["one","other"] (spM (KX K ad) (xoK (KX K ad)) zbw)):FnOk P w K mg base CX0 2 f fd ["one","other"] (spM (KX K ad) (xoK (KX K ad)) zbJ):=by
 refine F.ok zgc (fun vs H Q E h=>zbb h) (fun cdv A outer s H vs Q E hr h=>?_)
 have hu:=zb9 hr
 exact⟨_,(zan (zaL (zaU zgY (pv 0) (zaU zdB (pv 1) (pe_h G_common_factor hr zcW (zaa (pv 0) (zaa (pv 1) zae))))))),zco (K:=(KX K ad)) (XO:=(xoK (KX K ad))) (E:=E) (np:=2) (nv:=0) (m:=zc9)
   (za9 (zao zj2 zad ((zao zfS zad ((zby (zac zal (zac zal zak)))).r)).r)) rfl h⟩
abbrev zhg:Stmt:=top 62
theorem sc_unit_of:FnScope ["amounts","unit","amount"] ["amounts"] (zap zhg):=scMk
theorem zl3 {f:Addr} {fd:FuncData} (F:Fun K "unit_of" "unit_of" zhg f fd) (T:Txt K mg ad) (G_common_multiple:Has P w K mg base CX0 2 "common_multiple" ["one","other"] (spM (KX K ad) (xoK (KX K ad)) zbJ)):FnOk P w K mg base CX0 3 f fd ["amounts"] (spM (KX K ad) (xoK (KX K ad)) zbM):=by
 refine F.ok sc_unit_of (fun vs H Q E h=>zbb h) (fun cdv A outer s H vs Q E hr h=>?_)
 have hu:=zb9 hr
 exact⟨_,(zaf (zaJ (i:=1) sc_unit_of.nd rfl (by first|exact Or.inl rfl|exact Or.inr rfl) zai)
   (zaf (zc6 PassesOwn.never rfl (zcw (pv 0)) (za4 (i:=2) sc_unit_of.nd rfl (by first|exact Or.inl rfl|exact Or.inr rfl))
   (zan (zaJ (i:=1) sc_unit_of.nd rfl (by first|exact Or.inl rfl|exact Or.inr rfl) (pe_h G_common_multiple hr zcW (zaa (pv 1) (zaa (zba zc7 (pv 2) zai (fun _ _=>rfl)) zae))))))
   (zan (zaL (pv 1))))),zco (K:=(KX K ad)) (XO:=(xoK (KX K ad))) (E:=E) (np:=1) (nv:=2) (m:=zjO)
   (zam (zaR zag zau)
   (zam (zc4 (zhl zal) zau
   (zaR (zby (zac zal (zac (zao zc5 zad (zag).r) zak))) zau))
   (za9 zal))) rfl h⟩
abbrev zeA:Stmt:=top 63
theorem zhR:FnScope ["amount","unit"] ["amount","unit"] (zap zeA):=scMk
theorem zhN {f:Addr} {fd:FuncData} (F:Fun K "by_the_unit" "by_the_unit" zeA f fd) (T:Txt K mg ad)  : FnOk P w K mg base CX0 1 f fd ["amount","unit"] (spM (KX K ad) (xoK (KX K ad)) zbj):=by
 refine F.ok zhR (fun vs H Q E h=>zbb h) (fun cdv A outer s H vs Q E hr h=>?_)
 have hu:=zb9 hr
 exact⟨_,(zan (zaL (zaU zgY (zba zc7 (pv 0) zai (fun _ _=>rfl)) (zaU zdB (pv 1) (zba zc7 (pv 0) zai (fun _ _=>rfl)))))),zco (K:=(KX K ad)) (XO:=(xoK (KX K ad))) (E:=E) (np:=2) (nv:=0) (m:=zeC)
   (za9 (zao zj2 ((zao zc5 zad (zag).r)).r ((zao zfS zad ((zao zc5 zad (zag).r)).r)).r)) rfl h⟩
abbrev zdl:Stmt:=top 67
theorem sc_read_cover:FnScope ["rows","many","sets","line","unit"] ["rows"] (zap zdl):=scMk
theorem ziO {f:Addr} {fd:FuncData} (F:Fun K "read_cover" "read_cover" zdl f fd) (T:Txt K mg ad) (G_refuse_where:Has P w K mg base (CX1 P w) 3 "refuse_where" ["wrong","line"] (spM (KX K ad) (xoK (KX K ad)) zah)) (G_refuse_word_count:Has P w K mg base (CX1 P w) 4 "refuse_word_count" ["words","least","most","line"] (spM (KX K ad) (xoK (KX K ad)) zaq)) (G_number_in:Has P w K mg base (CX1 P w) 4 "number_in" ["word","least","most","line"] (spM (KX K ad) (xoK (KX K ad)) zaC)) (G_set_in:Has P w K mg base (CX1 P w) 5 "set_in" ["words","many","line"] (spM (KX K ad) (xoK (KX K ad)) zcV)) (G_unit_of:Has P w K mg base CX0 3 "unit_of" ["amounts"] (spM (KX K ad) (xoK (KX K ad)) zbM)) (G_by_the_unit:Has P w K mg base CX0 1 "by_the_unit" ["amount","unit"] (spM (KX K ad) (xoK (KX K ad)) zbj)):FnOk P w K mg base (CX1 P w) 6 f fd ["rows"] (spM (KX K ad) (xoK (KX K ad)) zbI):=by
 refine F.ok1 sc_read_cover (fun vs H Q E h=>zbb h) (fun cdv A outer s H vs Q E hr h=>?_)
 have hu:=zb9 hr
 exact⟨_,(zaf (zaS (zbf G_refuse_word_count hr zbk (zaa (zba zaD (pv 0) zai (fun _ _=>rfl)) (zaa zai (zaa zai (zaa zai zae))))))
   (zaf (zaJ (i:=1) sc_read_cover.nd rfl (by first|exact Or.inl rfl|exact Or.inr rfl) (zbf G_number_in hr zbk (zaa (zba zaD (zba zaD (pv 0) zai (fun _ _=>rfl)) zai (fun _ _=>rfl)) (zaa zai (zaa (zcC (by rfl) T.g_MOST_THINGS) (zaa zai zae))))))
   (zaf (zaJ (i:=2) sc_read_cover.nd rfl (by first|exact Or.inl rfl|exact Or.inr rfl) (zbK zae))
   (zaf (zc6 PassesOwn.leaving rfl (zf8 rfl T.range (zaa zai (zaa (zaM zaI (by rfl) T.len PySem.boot_len (zaa (pv 0) zae)) zae))) (za4 (i:=3) sc_read_cover.nd rfl (by first|exact Or.inl rfl|exact Or.inr rfl))
   (zaf (zaS (zbf G_refuse_where hr zbk (zaa (zbu zfj (pv 3) (zcC (by rfl) T.g_MOST_THINGS) (zaF _)) (zaa (pv 3) zae))))
   (zan (zaS (ze2 PySem.F.plainAttrs_list PySem.F.slot_list_append PySem.F.type_list_append zdM (pv 2) (zaa (zbf G_set_in hr zbk (zaa (zba zaD (pv 0) (pv 3) (fun _ _=>rfl)) (zaa (pv 1) (zaa (pv 3) zae)))) zae))))))
   (zaf (zaJ (i:=4) sc_read_cover.nd rfl (by first|exact Or.inl rfl|exact Or.inr rfl) (pe_h G_unit_of hr zcW (zaa (zgi rfl (zcw (pv 2)) (zf7 (zap zdl) ["rows","many","sets","line","unit"] ["price","things"] [] 2 rfl rfl rfl (by decide +kernel) (by decide +kernel) (by decide +kernel) rfl (by decide +kernel) (fun cl C s H fp pins=>(zjJ rfl (zcD (za4 (i:=0) (show List.Nodup (["price","things"]:List Str) by decide +kernel) rfl (Or.inl rfl)) (zcD (za4 (i:=1) (show List.Nodup (["price","things"]:List Str) by decide +kernel) rfl (Or.inl rfl)) zgj)))) (fun cl C s H fp pins=>(pv 0)) (Or.inl ⟨rfl,rfl⟩))) zae)))
   (zan (zaL (zcf (zaa (pv 4) (zaa (zcf (zaa (pv 1) (zaa (zgi rfl (zcw (pv 2)) (zf7 (zap zdl) ["rows","many","sets","line","unit"] ["unit","price","things"] [4] 2 rfl rfl rfl (by decide +kernel) (by decide +kernel) (by decide +kernel) rfl (by decide +kernel) (fun cl C s H fp pins=>(zjJ rfl (zcD (za4 (i:=1) (show List.Nodup (["unit","price","things"]:List Str) by decide +kernel) rfl (Or.inl rfl)) (zcD (za4 (i:=2) (show List.Nodup (["unit","price","things"]:List Str) by decide +kernel) rfl (Or.inl rfl)) zgj)))) (fun cl C s H fp pins=>(zcf (zaa (pe_h G_by_the_unit hr zcW (zaa (pv 1) (zaa (pv 0) zae))) (zaa (pv 2) zae)))) (Or.inl ⟨rfl,rfl⟩))) zae))) zae)))))))))),zco (K:=(KX K ad)) (XO:=(xoK (KX K ad))) (E:=E) (np:=1) (nv:=4) (m:=zgE)
   (zam (zbc (zat (zac (zao zaZ zad (zag).r) (zac zag (zac zag (zac zag zak))))))
   (zam (zaR (zat (zac (zao zaZ ((zao zaZ zad (zag).r)).r (zag).r) (zac zag (zac zag (zac zag zak))))) zau)
   (zam (zfp (zbl zak))
   (zam (zc4 (zfW len2 (zac zag (zac (zcs zcQ (zaQ zad zbd)) zak))) zau
   (zam (zbc (zat (zac (zao zfl zad (zag).r) (zac zal zak))))
   (zeX (zat (zac (zao zaZ zad zad) (zac zal (zac zal zak)))))))
   (zam (zaR (zby (zac ((zdZ (zcR zad) (by decide) (zjS (zcE zca (zcE zca zgt))) (zm7 (zfg zcL (zfg zcL zkH))) (Or.inl ⟨rfl,rfl⟩) zal)).e zak)) zau)
   (za9 (zcj (zac zal (zac (zcj (zac zal (zac ((zdZ (zcR zad) (by decide) (zjS (zcE zca (zcE zca zgt))) (zm7 (zfg zcL (zfg zcL zkH))) (Or.inl ⟨rfl,rfl⟩) (zcj (zac (zby (zac zal (zac zal zak))) (zac zal zak))))).e zak))) zak))))))))) rfl h⟩
abbrev zhz:Stmt:=top 68
theorem sc_line_in:FnScope ["words","points","line","one","other"] ["words","points","line"] (zap zhz):=scMk
theorem zlM {f:Addr} {fd:FuncData} (F:Fun K "line_in" "line_in" zhz f fd) (T:Txt K mg ad) (G_refuse_where:Has P w K mg base (CX1 P w) 3 "refuse_where" ["wrong","line"] (spM (KX K ad) (xoK (KX K ad)) zah)) (G_refuse_word_count:Has P w K mg base (CX1 P w) 4 "refuse_word_count" ["words","least","most","line"] (spM (KX K ad) (xoK (KX K ad)) zaq)) (G_number_in:Has P w K mg base (CX1 P w) 4 "number_in" ["word","least","most","line"] (spM (KX K ad) (xoK (KX K ad)) zaC)):FnOk P w K mg base (CX1 P w) 5 f fd ["words","points","line"] (spM (KX K ad) (xoK (KX K ad)) zcX):=by
 refine F.ok1 sc_line_in (fun vs H Q E h=>zbb h) (fun cdv A outer s H vs Q E hr h=>?_)
 have hu:=zb9 hr
 exact⟨_,(zaf (zaS (zbf G_refuse_word_count hr zbk (zaa (pv 0) (zaa zai (zaa zai (zaa (pv 2) zae))))))
   (zaf (zaJ (i:=3) sc_line_in.nd rfl (by first|exact Or.inl rfl|exact Or.inr rfl) (zbf G_number_in hr zbk (zaa (zba zaD (pv 0) zai (fun _ _=>rfl)) (zaa zai (zaa (zaU zli (pv 1) zai) (zaa (pv 2) zae))))))
   (zaf (zaJ (i:=4) sc_line_in.nd rfl (by first|exact Or.inl rfl|exact Or.inr rfl) (zbf G_number_in hr zbk (zaa (zba zaD (pv 0) zai (fun _ _=>rfl)) (zaa zai (zaa (zaU zli (pv 1) zai) (zaa (pv 2) zae))))))
   (zaf (zaS (zbf G_refuse_where hr zbk (zaa (zbu zcn (pv 3) (pv 4) (zaF _)) (zaa (pv 2) zae))))
   (zan (zaL (zcf (zaa (pv 3) (zaa (pv 4) zae))))))))),zco (K:=(KX K ad)) (XO:=(xoK (KX K ad))) (E:=E) (np:=3) (nv:=2) (m:=zkf)
   (zam (zbc (zat (zac zal (zac zag (zac zag (zac zal zak))))))
   (zam (zaR (zat (zac (zao zaZ zad (zag).r) (zac zag (zac (zao zlt zad (zag).r) (zac zal zak))))) zau)
   (zam (zaR (zat (zac (zao zaZ zad (zag).r) (zac zag (zac (zao zlt zad (zag).r) (zac zal zak))))) zau)
   (zam (zbc (zat (zac (zao zcm zad zad) (zac zal zak))))
   (za9 (zcj (zac zal (zac zal zak)))))))) rfl h⟩
abbrev zcr:Stmt:=top 64
theorem zf1:FnScope ["amounts","unit"] ["amounts","unit"] (zap zcr):=scMk
theorem zgg {f:Addr} {fd:FuncData} (F:Fun K "all_by_the_unit" "all_by_the_unit" zcr f fd) (T:Txt K mg ad) (G_by_the_unit:Has P w K mg base CX0 1 "by_the_unit" ["amount","unit"] (spM (KX K ad) (xoK (KX K ad)) zbj)):FnOk P w K mg base CX0 2 f fd ["amounts","unit"] (spO (KX K ad) (xoK (KX K ad)) zaT):=by
 refine F.ok zf1 (fun vs H Q E h=>ziq h) (fun cdv A outer s H vs Q E hr h=>?_)
 have hu:=zb9 hr
 exact⟨_,(zan (zaL (zgi rfl (zcw (pv 0)) (zf7 (zap zcr) ["amounts","unit"] ["unit","amount"] [1] 1 rfl rfl rfl (by decide +kernel) (by decide +kernel) (by decide +kernel) rfl (by decide +kernel) (fun cl C s H fp pins=>(za4 (i:=1) (show List.Nodup (["unit","amount"]:List Str) by decide +kernel) rfl (Or.inl rfl))) (fun cl C s H fp pins=>(pe_h G_by_the_unit hr zcW (zaa (pv 1) (zaa (pv 0) zae)))) (Or.inl ⟨rfl,rfl⟩))))),zlf (K:=(KX K ad)) (XO:=(xoK (KX K ad))) (E:=E) (np:=2) (nv:=0) (m:=zeg)
   (zdq (zdZ (zcR zad) (by decide) zca zcL (Or.inl ⟨rfl,rfl⟩) (zby (zac zal (zac zal zak))))) rfl h⟩
abbrev zd1:Stmt:=top 69
theorem sc_read_touch:FnScope ["rows","prices","lines","line","unit"] ["rows"] (zap zd1):=scMk
theorem ziX {f:Addr} {fd:FuncData} (F:Fun K "read_touch" "read_touch" zd1 f fd) (T:Txt K mg ad) (G_refuse_where:Has P w K mg base (CX1 P w) 3 "refuse_where" ["wrong","line"] (spM (KX K ad) (xoK (KX K ad)) zah)) (G_refuse_word_count:Has P w K mg base (CX1 P w) 4 "refuse_word_count" ["words","least","most","line"] (spM (KX K ad) (xoK (KX K ad)) zaq)) (G_amount_in:Has P w K mg base (CX1 P w) 4 "amount_in" ["word","line"] (spM (KX K ad) (xoK (KX K ad)) zaO)) (G_unit_of:Has P w K mg base CX0 3 "unit_of" ["amounts"] (spM (KX K ad) (xoK (KX K ad)) zbM)) (G_line_in:Has P w K mg base (CX1 P w) 5 "line_in" ["words","points","line"] (spM (KX K ad) (xoK (KX K ad)) zcX)) (G_all_by_the_unit:Has P w K mg base CX0 2 "all_by_the_unit" ["amounts","unit"] (spO (KX K ad) (xoK (KX K ad)) zaT)):FnOk P w K mg base (CX1 P w) 6 f fd ["rows"] (spM (KX K ad) (xoK (KX K ad)) zbH):=by
 refine F.ok1 sc_read_touch (fun vs H Q E h=>zbb h) (fun cdv A outer s H vs Q E hr h=>?_)
 have hu:=zb9 hr
 exact⟨_,(zaf (zaS (zbf G_refuse_word_count hr zbk (zaa (zba zaD (pv 0) zai (fun _ _=>rfl)) (zaa zai (zaa (zaU zds zai (zcC (by rfl) T.g_MOST_THINGS)) (zaa zai zae))))))
   (zaf (zir (i:=1) sc_read_touch.nd rfl (by first|exact Or.inl rfl|exact Or.inr rfl) rfl (zcw (zbN zci (zba zaD (pv 0) zai (fun _ _=>rfl)) (zbS zai) zcK)) zgH (ziV (zap zd1) ["rows","prices","lines","line","unit"] ["word"] [] 1 rfl rfl rfl (by decide +kernel) (by decide +kernel) (by decide +kernel) rfl (by decide +kernel) (fun cl C s H fp pins=>(za4 (i:=0) (show List.Nodup (["word"]:List Str) by decide +kernel) rfl (Or.inl rfl))) (fun cl C s H fp pins σ hI hF=>(zbf G_amount_in hr (zpx zgH hI hF) (zaa (pv 0) (zaa zai zae))))) rfl)
   (zaf (zaJ (i:=2) sc_read_touch.nd rfl (by first|exact Or.inl rfl|exact Or.inr rfl) (zbK zae))
   (zaf (zc6 PassesOwn.leaving rfl (zf8 rfl T.range (zaa zai (zaa (zaM zaI (by rfl) T.len PySem.boot_len (zaa (pv 0) zae)) zae))) (za4 (i:=3) sc_read_touch.nd rfl (by first|exact Or.inl rfl|exact Or.inr rfl))
   (zaf (zaS (zbf G_refuse_where hr zbk (zaa (zbu zfj (pv 3) (zcC (by rfl) T.g_MOST_LINES) (zaF _)) (zaa (pv 3) zae))))
   (zan (zaS (ze2 PySem.F.plainAttrs_list PySem.F.slot_list_append PySem.F.type_list_append zdM (pv 2) (zaa (zbf G_line_in hr zbk (zaa (zba zaD (pv 0) (pv 3) (fun _ _=>rfl)) (zaa (zaM zaI (by rfl) T.len PySem.boot_len (zaa (pv 1) zae)) (zaa (pv 3) zae)))) zae))))))
   (zaf (zaJ (i:=4) sc_read_touch.nd rfl (by first|exact Or.inl rfl|exact Or.inr rfl) (pe_h G_unit_of hr zcW (zaa (pv 1) zae)))
   (zan (zaL (zcf (zaa (pv 4) (zaa (zcf (zaa (pe_h G_all_by_the_unit hr zcW (zaa (pv 1) (zaa (pv 4) zae))) (zaa (pv 2) zae))) zae)))))))))),zco (K:=(KX K ad)) (XO:=(xoK (KX K ad))) (E:=E) (np:=1) (nv:=4) (m:=zgA)
   (zam (zbc (zat (zac (zao zaZ zad (zag).r) (zac zag (zac (zao zdu (zag).r (zag).r) (zac zag zak))))))
   (zam (zaR ((zf9 (zcR ((zbx ((zao zaZ zad (zag).r)).r (zbT zag) zfA)).e.r) (by decide) zca zcL (zat (zac zal (zac zag zak))))).e zau)
   (zam (zfp (zbl zak))
   (zam (zc4 (zfW len2 (zac zag (zac (zcs zcQ (zaQ zad zbd)) zak))) zau
   (zam (zbc (zat (zac (zao zfl zad (zag).r) (zac zal zak))))
   (zeX (zat (zac (zao zaZ zad zad) (zac (zcs zcQ (zaQ zad zbd)) (zac zal zak)))))))
   (zam (zaR (zby (zac zal zak)) zau)
   (zla (i:=2) (za9 (zcj (zac zal (zac (zcj (zac ((zei (zac zal (zac zal zak)))).e (zac zal zak))) zak)))))))))) rfl h⟩
abbrev zfi:Stmt:=top 70
theorem sc_table_in:FnScope ["rows","count","table","line"] ["rows"] (zap zfi):=scMk
theorem zkz {f:Addr} {fd:FuncData} (F:Fun K "table_in" "table_in" zfi f fd) (T:Txt K mg ad) (G_refuse_where:Has P w K mg base (CX1 P w) 3 "refuse_where" ["wrong","line"] (spM (KX K ad) (xoK (KX K ad)) zah)) (G_amount_in:Has P w K mg base (CX1 P w) 4 "amount_in" ["word","line"] (spM (KX K ad) (xoK (KX K ad)) zaO)):FnOk P w K mg base (CX1 P w) 5 f fd ["rows"] (spO (KX K ad) (xoK (KX K ad)) zcc):=by
 refine F.ok1 sc_table_in (fun vs H Q E h=>ziq h) (fun cdv A outer s H vs Q E hr h=>?_)
 have hu:=zb9 hr
 exact⟨_,(zaf (zaS (zbf G_refuse_where hr zbk (zaa (zbu zcn (zaM zaI (by rfl) T.len PySem.boot_len (zaa (pv 0) zae)) zai (zaF _)) (zaa zai zae))))
   (zaf (zaJ (i:=1) sc_table_in.nd rfl (by first|exact Or.inl rfl|exact Or.inr rfl) (zaM zaI (by rfl) T.len PySem.boot_len (zaa (zba zaD (pv 0) zai (fun _ _=>rfl)) zae)))
   (zaf (zaS (zbf G_refuse_where hr zbk (zaa (zbu zfj (pv 1) (zcC (by rfl) T.g_MOST_PLACES) (zaF _)) (zaa zai zae))))
   (zaf (zaJ (i:=2) sc_table_in.nd rfl (by first|exact Or.inl rfl|exact Or.inr rfl) (zbK zae))
   (zaf (zc6 PassesOwn.leaving rfl (zf8 rfl T.range (zaa zai (zaa (zaM zaI (by rfl) T.len PySem.boot_len (zaa (pv 0) zae)) zae))) (za4 (i:=3) sc_table_in.nd rfl (by first|exact Or.inl rfl|exact Or.inr rfl))
   (zaf (zaS (zbf G_refuse_where hr zbk (zaa (zoB (zbu zfj (pv 3) (pv 1) (zaF _)) (zh3 (zbu zor (zaM zaI (by rfl) T.len PySem.boot_len (zaa (zba zaD (pv 0) (pv 3) (fun _ _=>rfl)) zae)) (pv 1) (zaF _)))) (zaa (pv 3) zae))))
   (zan (zaS (ze2 PySem.F.plainAttrs_list PySem.F.slot_list_append PySem.F.type_list_append zdM (pv 2) (zaa (zpj rfl (zcw (zba zaD (pv 0) (pv 3) (fun _ _=>rfl))) zgH (ziV (zap zfi) ["rows","count","table","line"] ["line","word"] [3] 1 rfl rfl rfl (by decide +kernel) (by decide +kernel) (by decide +kernel) rfl (by decide +kernel) (fun cl C s H fp pins=>(za4 (i:=1) (show List.Nodup (["line","word"]:List Str) by decide +kernel) rfl (Or.inl rfl))) (fun cl C s H fp pins σ hI hF=>(zbf G_amount_in hr (zpx zgH hI hF) (zaa (pv 1) (zaa (pv 0) zae)))))) zae))))))
   (zaf (zaS (zbf G_refuse_where hr zbk (zaa (zbu zlK (zaM zaI (by rfl) T.len PySem.boot_len (zaa (pv 2) zae)) (pv 1) (zaF _)) (zaa (zaM zaI (by rfl) T.len PySem.boot_len (zaa (pv 0) zae)) zae))))
   (zan (zaL (pv 2))))))))),zlf (K:=(KX K ad)) (XO:=(xoK (KX K ad))) (E:=E) (np:=1) (nv:=3) (m:=zhX)
   (zam (zbc (zat (zac (zao zcm ((zcs zcQ (zaQ zad zbd))).r (zag).r) (zac zag zak))))
   (zam (zaR (zcs zcQ (zaQ ((zao zaZ zad (zag).r)).r zbd)) zau)
   (zam (zbc (zat (zac (zao zfl zad (zag).r) (zac zag zak))))
   (zam (zfp (zbl zak))
   (zam (zc4 (zfW len2 (zac zag (zac (zcs zcQ (zaQ zad zbd)) zak))) zau
   (zam (zbc (zat (zac (zmT (zao zfl zad zad) (zao znu ((zcs zcQ (zaQ ((zao zaZ zad zad)).r zbd))).r zad)) (zac zal zak))))
   (zeX ((zf9 (zcR ((zao zaZ zad zad)).r) (by decide) zca zcL (zat (zac zal (zac zal zak))))).e)))
   (zam (zbc (zat (zac (zao zmy ((zcs zcQ (zaQ zad zbd))).r zad) (zac (zcs zcQ (zaQ zad zbd)) zak))))
   zqf)))))) rfl h⟩
abbrev zdf:Stmt:=top 71
theorem sc_read_lengths:FnScope ["rows","table","amounts","row","unit"] ["rows"] (zap zdf):=scMk
theorem zhv {f:Addr} {fd:FuncData} (F:Fun K "read_lengths" "read_lengths" zdf f fd) (T:Txt K mg ad) (G_unit_of:Has P w K mg base CX0 3 "unit_of" ["amounts"] (spM (KX K ad) (xoK (KX K ad)) zbM)) (G_all_by_the_unit:Has P w K mg base CX0 2 "all_by_the_unit" ["amounts","unit"] (spO (KX K ad) (xoK (KX K ad)) zaT)) (G_table_in:Has P w K mg base (CX1 P w) 5 "table_in" ["rows"] (spO (KX K ad) (xoK (KX K ad)) zcc)):FnOk P w K mg base (CX1 P w) 6 f fd ["rows"] (spM (KX K ad) (xoK (KX K ad)) zbG):=by
 refine F.ok1 sc_read_lengths (fun vs H Q E h=>zbb h) (fun cdv A outer s H vs Q E hr h=>?_)
 have hu:=zb9 hr
 exact⟨_,(zaf (zaJ (i:=1) sc_read_lengths.nd rfl (by first|exact Or.inl rfl|exact Or.inr rfl) (zbf G_table_in hr zbk (zaa (pv 0) zae)))
   (zaf (zaJ (i:=2) sc_read_lengths.nd rfl (by first|exact Or.inl rfl|exact Or.inr rfl) (zbK zae))
   (zaf (zc6 PassesOwn.leaving rfl (zcw (pv 1)) (za4 (i:=3) sc_read_lengths.nd rfl (by first|exact Or.inl rfl|exact Or.inr rfl))
   (zan (zaS (ze2 PySem.F.plainAttrs_list PySem.F.slot_list_extend PySem.F.type_list_extend zmE (pv 2) (zaa (pv 3) zae)))))
   (zaf (zaJ (i:=4) sc_read_lengths.nd rfl (by first|exact Or.inl rfl|exact Or.inr rfl) (pe_h G_unit_of hr zcW (zaa (pv 2) zae)))
   (zan (zaL (zcf (zaa (pv 4) (zaa (zgi rfl (zcw (pv 1)) (zf7 (zap zdf) ["rows","table","amounts","row","unit"] ["unit","row"] [4] 1 rfl rfl rfl (by decide +kernel) (by decide +kernel) (by decide +kernel) rfl (by decide +kernel) (fun cl C s H fp pins=>(za4 (i:=1) (show List.Nodup (["unit","row"]:List Str) by decide +kernel) rfl (Or.inl rfl))) (fun cl C s H fp pins=>(pe_h G_all_by_the_unit hr zcW (zaa (pv 1) (zaa (pv 0) zae)))) (Or.inl ⟨rfl,rfl⟩))) zae))))))))),zco (K:=(KX K ad)) (XO:=(xoK (KX K ad))) (E:=E) (np:=1) (nv:=4) (m:=zft)
   (zam (zaR ((znc (zac zal zak))).e zau)
   (zam (zfp (zbl zak))
   (zam (zc4 (zhl zal) zau
   (zmX zal))
   (zam (zaR (zlp (znf zov)) zau)
   (za9 (zcj (zac zal (zac ((zdZ (zcR zad) (by decide) zca zcL (Or.inl ⟨rfl,rfl⟩) ((zei (zac zal (zac zal zak)))).e)).e zak)))))))) rfl h⟩
abbrev ze6:Stmt:=top 72
theorem sc_read_round:FnScope ["rows","told"] ["rows"] (zap ze6):=scMk
theorem ziT {f:Addr} {fd:FuncData} (F:Fun K "read_round" "read_round" ze6 f fd) (T:Txt K mg ad) (G_refuse_word_count:Has P w K mg base (CX1 P w) 4 "refuse_word_count" ["words","least","most","line"] (spM (KX K ad) (xoK (KX K ad)) zaq)) (G_read_lengths:Has P w K mg base (CX1 P w) 6 "read_lengths" ["rows"] (spM (KX K ad) (xoK (KX K ad)) zbG)):FnOk P w K mg base (CX1 P w) 7 f fd ["rows"] (spM (KX K ad) (xoK (KX K ad)) zbP):=by
 refine F.ok1 sc_read_round (fun vs H Q E h=>zbb h) (fun cdv A outer s H vs Q E hr h=>?_)
 have hu:=zb9 hr
 exact⟨_,(zaf (zaS (zbf G_refuse_word_count hr zbk (zaa (zba zaD (pv 0) zai (fun _ _=>rfl)) (zaa zai (zaa zai (zaa zai zae))))))
   (zaf (zaJ (i:=1) sc_read_round.nd rfl (by first|exact Or.inl rfl|exact Or.inr rfl) (zbf G_read_lengths hr zbk (zaa (pv 0) zae)))
   (zan (zaL (zcf (zaa (zba zc7 (pv 1) zai (fun _ _=>rfl)) (zaa (zcf (zaa (zba zc7 (pv 1) zai (fun _ _=>rfl)) zae)) zae))))))),zco (K:=(KX K ad)) (XO:=(xoK (KX K ad))) (E:=E) (np:=1) (nv:=1) (m:=zgM)
   (zam (zbc (zat (zac (zao zaZ zad (zag).r) (zac zag (zac zag (zac zag zak))))))
   (zam (zaR (zat (zac zal zak)) zau)
   (za9 (zcj (zac (zao zc5 zad (zag).r) (zac (zcj (zac (zao zc5 zad (zag).r) zak)) zak)))))) rfl h⟩
abbrev zen:Stmt:=top 73
theorem sc_read_places:FnScope ["rows","many","told"] ["rows"] (zap zen):=scMk
theorem zhV {f:Addr} {fd:FuncData} (F:Fun K "read_places" "read_places" zen f fd) (T:Txt K mg ad) (G_refuse_where:Has P w K mg base (CX1 P w) 3 "refuse_where" ["wrong","line"] (spM (KX K ad) (xoK (KX K ad)) zah)) (G_refuse_word_count:Has P w K mg base (CX1 P w) 4 "refuse_word_count" ["words","least","most","line"] (spM (KX K ad) (xoK (KX K ad)) zaq)) (G_number_in:Has P w K mg base (CX1 P w) 4 "number_in" ["word","least","most","line"] (spM (KX K ad) (xoK (KX K ad)) zaC)) (G_read_lengths:Has P w K mg base (CX1 P w) 6 "read_lengths" ["rows"] (spM (KX K ad) (xoK (KX K ad)) zbG)):FnOk P w K mg base (CX1 P w) 7 f fd ["rows"] (spM (KX K ad) (xoK (KX K ad)) zbp):=by
 refine F.ok1 sc_read_places (fun vs H Q E h=>zbb h) (fun cdv A outer s H vs Q E hr h=>?_)
 have hu:=zb9 hr
 exact⟨_,(zaf (zaS (zbf G_refuse_word_count hr zbk (zaa (zba zaD (pv 0) zai (fun _ _=>rfl)) (zaa zai (zaa zai (zaa zai zae))))))
   (zaf (zaJ (i:=1) sc_read_places.nd rfl (by first|exact Or.inl rfl|exact Or.inr rfl) (zbf G_number_in hr zbk (zaa (zba zaD (zba zaD (pv 0) zai (fun _ _=>rfl)) zai (fun _ _=>rfl)) (zaa zai (zaa (zcC (by rfl) T.g_MOST_PLACES) (zaa zai zae))))))
   (zaf (zaJ (i:=2) sc_read_places.nd rfl (by first|exact Or.inl rfl|exact Or.inr rfl) (zbf G_read_lengths hr zbk (zaa (pv 0) zae)))
   (zaf (zaS (zbf G_refuse_where hr zbk (zaa (zbu zfj (pv 1) (zaM zaI (by rfl) T.len PySem.boot_len (zaa (zba zc7 (pv 2) zai (fun _ _=>rfl)) zae)) (zaF _)) (zaa zai zae))))
   (zan (zaL (zcf (zaa (zba zc7 (pv 2) zai (fun _ _=>rfl)) (zaa (zcf (zaa (zba zc7 (pv 2) zai (fun _ _=>rfl)) (zaa (pv 1) zae))) zae))))))))),zco (K:=(KX K ad)) (XO:=(xoK (KX K ad))) (E:=E) (np:=1) (nv:=2) (m:=zfR)
   (zam (zbc (zat (zac (zao zaZ zad (zag).r) (zac zag (zac zag (zac zag zak))))))
   (zam (zaR (zat (zac (zao zaZ ((zao zaZ zad (zag).r)).r (zag).r) (zac zag (zac zag (zac zag zak))))) zau)
   (zam (zaR (zat (zac zal zak)) zau)
   (zam (zbc (zat (zac (zao zfl zad ((zcs zcQ (zaQ ((zao zc5 zad (zag).r)).r zbd))).r) (zac zag zak))))
   (za9 (zcj (zac (zao zc5 zad (zag).r) (zac (zcj (zac (zao zc5 zad (zag).r) (zac zal zak))) zak)))))))) rfl h⟩
abbrev zch:Stmt:=top 61
theorem sc_amount_above_nought:FnScope ["word","line","amount"] ["word","line"] (zap zch):=scMk
theorem zeM {f:Addr} {fd:FuncData} (F:Fun K "amount_above_nought" "amount_above_nought" zch f fd) (T:Txt K mg ad) (G_refuse_where:Has P w K mg base (CX1 P w) 3 "refuse_where" ["wrong","line"] (spM (KX K ad) (xoK (KX K ad)) zah)) (G_amount_in:Has P w K mg base (CX1 P w) 4 "amount_in" ["word","line"] (spM (KX K ad) (xoK (KX K ad)) zaO)):FnOk P w K mg base (CX1 P w) 5 f fd ["word","line"] (spM (KX K ad) (xoK (KX K ad)) zav):=by
 refine F.ok1 sc_amount_above_nought (fun vs H Q E h=>zbb h) (fun cdv A outer s H vs Q E hr h=>?_)
 have hu:=zb9 hr
 exact⟨_,(zaf (zaJ (i:=2) sc_amount_above_nought.nd rfl (by first|exact Or.inl rfl|exact Or.inr rfl) (zbf G_amount_in hr zbk (zaa (pv 0) (zaa (pv 1) zae))))
   (zaf (zaS (zbf G_refuse_where hr zbk (zaa (zbu zcn (zba zc7 (pv 2) zai (fun _ _=>rfl)) zai (zaF _)) (zaa (pv 1) zae))))
   (zan (zaL (pv 2))))),zco (K:=(KX K ad)) (XO:=(xoK (KX K ad))) (E:=E) (np:=2) (nv:=1) (m:=zck)
   (zam (zaR (zat (zac zal (zac zal zak))) zau)
   (zam (zbc (zat (zac (zao zcm ((zao zc5 zad (zag).r)).r (zag).r) (zac zal zak))))
   (za9 zal))) rfl h⟩
abbrev zde:Stmt:=top 74
theorem sc_read_benches:FnScope ["rows","many","works","unit"] ["rows"] (zap zde):=scMk
theorem zg1 {f:Addr} {fd:FuncData} (F:Fun K "read_benches" "read_benches" zde f fd) (T:Txt K mg ad) (G_refuse_where:Has P w K mg base (CX1 P w) 3 "refuse_where" ["wrong","line"] (spM (KX K ad) (xoK (KX K ad)) zah)) (G_refuse_word_count:Has P w K mg base (CX1 P w) 4 "refuse_word_count" ["words","least","most","line"] (spM (KX K ad) (xoK (KX K ad)) zaq)) (G_number_in:Has P w K mg base (CX1 P w) 4 "number_in" ["word","least","most","line"] (spM (KX K ad) (xoK (KX K ad)) zaC)) (G_unit_of:Has P w K mg base CX0 3 "unit_of" ["amounts"] (spM (KX K ad) (xoK (KX K ad)) zbM)) (G_all_by_the_unit:Has P w K mg base CX0 2 "all_by_the_unit" ["amounts","unit"] (spO (KX K ad) (xoK (KX K ad)) zaT)) (G_amount_above_nought:Has P w K mg base (CX1 P w) 5 "amount_above_nought" ["word","line"] (spM (KX K ad) (xoK (KX K ad)) zav)):FnOk P w K mg base (CX1 P w) 6 f fd ["rows"] (spM (KX K ad) (xoK (KX K ad)) zbo):=by
 refine F.ok1 sc_read_benches (fun vs H Q E h=>zbb h) (fun cdv A outer s H vs Q E hr h=>?_)
 have hu:=zb9 hr
 exact⟨_,(zaf (zaS (zbf G_refuse_word_count hr zbk (zaa (zba zaD (pv 0) zai (fun _ _=>rfl)) (zaa zai (zaa (zaU zds zai (zcC (by rfl) T.g_MOST_THINGS)) (zaa zai zae))))))
   (zaf (zaJ (i:=1) sc_read_benches.nd rfl (by first|exact Or.inl rfl|exact Or.inr rfl) (zbf G_number_in hr zbk (zaa (zba zaD (zba zaD (pv 0) zai (fun _ _=>rfl)) zai (fun _ _=>rfl)) (zaa zai (zaa (zcC (by rfl) T.g_MOST_BENCHES) (zaa zai zae))))))
   (zaf (zir (i:=2) sc_read_benches.nd rfl (by first|exact Or.inl rfl|exact Or.inr rfl) rfl (zcw (zbN zci (zba zaD (pv 0) zai (fun _ _=>rfl)) (zbS zai) zcK)) zgH (ziV (zap zde) ["rows","many","works","unit"] ["word"] [] 1 rfl rfl rfl (by decide +kernel) (by decide +kernel) (by decide +kernel) rfl (by decide +kernel) (fun cl C s H fp pins=>(za4 (i:=0) (show List.Nodup (["word"]:List Str) by decide +kernel) rfl (Or.inl rfl))) (fun cl C s H fp pins σ hI hF=>(zbf G_amount_above_nought hr (zpx zgH hI hF) (zaa (pv 0) (zaa zai zae))))) rfl)
   (zaf (zaS (zbf G_refuse_where hr zbk (zaa (zbu zfj (zaM zaI (by rfl) T.len PySem.boot_len (zaa (pv 0) zae)) zai (zaF _)) (zaa zai zae))))
   (zaf (zaJ (i:=3) sc_read_benches.nd rfl (by first|exact Or.inl rfl|exact Or.inr rfl) (pe_h G_unit_of hr zcW (zaa (pv 2) zae)))
   (zan (zaL (zcf (zaa (pv 3) (zaa (zcf (zaa (pe_h G_all_by_the_unit hr zcW (zaa (pv 2) (zaa (pv 3) zae))) (zaa (pv 1) zae))) zae)))))))))),zco (K:=(KX K ad)) (XO:=(xoK (KX K ad))) (E:=E) (np:=1) (nv:=3) (m:=zfo)
   (zam (zbc (zat (zac (zao zaZ zad (zag).r) (zac zag (zac (zao zdu (zag).r (zag).r) (zac zag zak))))))
   (zam (zaR (zat (zac (zao zaZ ((zao zaZ zad (zag).r)).r (zag).r) (zac zag (zac zag (zac zag zak))))) zau)
   (zam (zaR ((zf9 (zcR ((zbx ((zao zaZ zad (zag).r)).r (zbT zag) zfA)).e.r) (by decide) zca zcL (zat (zac zal (zac zag zak))))).e zau)
   (zam (zbc (zat (zac (zao zfl ((zcs zcQ (zaQ zad zbd))).r (zag).r) (zac zag zak))))
   (zam (zaR (zby (zac zal zak)) zau)
   (za9 (zcj (zac zal (zac (zcj (zac ((zei (zac zal (zac zal zak)))).e (zac zal zak))) zak))))))))) rfl h⟩
abbrev zev:Stmt:=top 75
theorem sc_read_bins:FnScope ["rows","amounts","unit","sizes","room"] ["rows"] (zap zev):=scMk
theorem zjF {f:Addr} {fd:FuncData} (F:Fun K "read_bins" "read_bins" zev f fd) (T:Txt K mg ad) (G_refuse_where:Has P w K mg base (CX1 P w) 3 "refuse_where" ["wrong","line"] (spM (KX K ad) (xoK (KX K ad)) zah)) (G_refuse_word_count:Has P w K mg base (CX1 P w) 4 "refuse_word_count" ["words","least","most","line"] (spM (KX K ad) (xoK (KX K ad)) zaq)) (G_unit_of:Has P w K mg base CX0 3 "unit_of" ["amounts"] (spM (KX K ad) (xoK (KX K ad)) zbM)) (G_all_by_the_unit:Has P w K mg base CX0 2 "all_by_the_unit" ["amounts","unit"] (spO (KX K ad) (xoK (KX K ad)) zaT)) (G_amount_above_nought:Has P w K mg base (CX1 P w) 5 "amount_above_nought" ["word","line"] (spM (KX K ad) (xoK (KX K ad)) zav)):FnOk P w K mg base (CX1 P w) 6 f fd ["rows"] (spM (KX K ad) (xoK (KX K ad)) zb7):=by
 refine F.ok1 sc_read_bins (fun vs H Q E h=>zbb h) (fun cdv A outer s H vs Q E hr h=>?_)
 have hu:=zb9 hr
 exact⟨_,(zaf (zaS (zbf G_refuse_word_count hr zbk (zaa (zba zaD (pv 0) zai (fun _ _=>rfl)) (zaa zai (zaa (zaU zds zai (zcC (by rfl) T.g_MOST_THINGS)) (zaa zai zae))))))
   (zaf (zir (i:=1) sc_read_bins.nd rfl (by first|exact Or.inl rfl|exact Or.inr rfl) rfl (zcw (zbN zci (zba zaD (pv 0) zai (fun _ _=>rfl)) (zbS zai) zcK)) zgH (ziV (zap zev) ["rows","amounts","unit","sizes","room"] ["word"] [] 1 rfl rfl rfl (by decide +kernel) (by decide +kernel) (by decide +kernel) rfl (by decide +kernel) (fun cl C s H fp pins=>(za4 (i:=0) (show List.Nodup (["word"]:List Str) by decide +kernel) rfl (Or.inl rfl))) (fun cl C s H fp pins σ hI hF=>(zbf G_amount_above_nought hr (zpx zgH hI hF) (zaa (pv 0) (zaa zai zae))))) rfl)
   (zaf (zaS (zbf G_refuse_where hr zbk (zaa (zbu zfj (zaM zaI (by rfl) T.len PySem.boot_len (zaa (pv 0) zae)) zai (zaF _)) (zaa zai zae))))
   (zaf (zaJ (i:=2) sc_read_bins.nd rfl (by first|exact Or.inl rfl|exact Or.inr rfl) (pe_h G_unit_of hr zcW (zaa (pv 1) zae)))
   (zaf (zaJ (i:=3) sc_read_bins.nd rfl (by first|exact Or.inl rfl|exact Or.inr rfl) (pe_h G_all_by_the_unit hr zcW (zaa (pv 1) (zaa (pv 2) zae))))
   (zaf (zaJ (i:=4) sc_read_bins.nd rfl (by first|exact Or.inl rfl|exact Or.inr rfl) (ze2 PySem.F.plainAttrs_list PySem.F.slot_list_pop PySem.F.type_list_pop zo5 (pv 3) (zaa zai zae)))
   (zan (zaL (zcf (zaa (pv 2) (zaa (zcf (zaa (pv 3) (zaa (pv 4) zae))) zae))))))))))),zco (K:=(KX K ad)) (XO:=(xoK (KX K ad))) (E:=E) (np:=1) (nv:=4) (m:=zgW)
   (zam (zbc (zat (zac (zao zaZ zad (zag).r) (zac zag (zac (zao zdu (zag).r (zag).r) (zac zag zak))))))
   (zam (zaR ((zf9 (zcR ((zbx ((zao zaZ zad (zag).r)).r (zbT zag) zfA)).e.r) (by decide) zca zcL (zat (zac zal (zac zag zak))))).e zau)
   (zam (zbc (zat (zac (zao zfl ((zcs zcQ (zaQ zad zbd))).r (zag).r) (zac zag zak))))
   (zam (zaR (zby (zac zal zak)) zau)
   (zam (zfp (zei (zac zal (zac zal zak))))
   (zam (zql zag zau)
   (zla (i:=3) (za9 (zcj (zac zal (zac (zcj (zac zal (zac zal zak))) zak))))))))))) rfl h⟩
abbrev zgq:Stmt:=top 76
theorem zkx:FnScope ["words","line"] ["words","line"] (zap zgq):=scMk
theorem zkF {f:Addr} {fd:FuncData} (F:Fun K "thing_in" "thing_in" zgq f fd) (T:Txt K mg ad) (G_refuse_word_count:Has P w K mg base (CX1 P w) 4 "refuse_word_count" ["words","least","most","line"] (spM (KX K ad) (xoK (KX K ad)) zaq)) (G_amount_in:Has P w K mg base (CX1 P w) 4 "amount_in" ["word","line"] (spM (KX K ad) (xoK (KX K ad)) zaO)) (G_amount_above_nought:Has P w K mg base (CX1 P w) 5 "amount_above_nought" ["word","line"] (spM (KX K ad) (xoK (KX K ad)) zav)):FnOk P w K mg base (CX1 P w) 6 f fd ["words","line"] (spM (KX K ad) (xoK (KX K ad)) zcu):=by
 refine F.ok1 zkx (fun vs H Q E h=>zbb h) (fun cdv A outer s H vs Q E hr h=>?_)
 have hu:=zb9 hr
 exact⟨_,(zaf (zaS (zbf G_refuse_word_count hr zbk (zaa (pv 0) (zaa zai (zaa zai (zaa (pv 1) zae))))))
   (zan (zaL (zcf (zaa (zbf G_amount_in hr zbk (zaa (zba zaD (pv 0) zai (fun _ _=>rfl)) (zaa (pv 1) zae))) (zaa (zbf G_amount_above_nought hr zbk (zaa (zba zaD (pv 0) zai (fun _ _=>rfl)) (zaa (pv 1) zae))) zae)))))),zco (K:=(KX K ad)) (XO:=(xoK (KX K ad))) (E:=E) (np:=2) (nv:=0) (m:=zgw)
   (zam (zbc (zat (zac zal (zac zag (zac zag (zac zal zak))))))
   (za9 (zcj (zac (zat (zac (zao zaZ zad (zag).r) (zac zal zak))) (zac (zat (zac (zao zaZ zad (zag).r) (zac zal zak))) zak))))) rfl h⟩
abbrev zep:Stmt:=top 77
theorem sc_read_sack:FnScope ["rows","room","amounts","things","line","thing","unit","whole"] ["rows"] (zap zep):=scMk
theorem zjQ {f:Addr} {fd:FuncData} (F:Fun K "read_sack" "read_sack" zep f fd) (T:Txt K mg ad) (G_refuse_where:Has P w K mg base (CX1 P w) 3 "refuse_where" ["wrong","line"] (spM (KX K ad) (xoK (KX K ad)) zah)) (G_refuse_word_count:Has P w K mg base (CX1 P w) 4 "refuse_word_count" ["words","least","most","line"] (spM (KX K ad) (xoK (KX K ad)) zaq)) (G_amount_in:Has P w K mg base (CX1 P w) 4 "amount_in" ["word","line"] (spM (KX K ad) (xoK (KX K ad)) zaO)) (G_unit_of:Has P w K mg base CX0 3 "unit_of" ["amounts"] (spM (KX K ad) (xoK (KX K ad)) zbM)) (G_by_the_unit:Has P w K mg base CX0 1 "by_the_unit" ["amount","unit"] (spM (KX K ad) (xoK (KX K ad)) zbj)) (G_thing_in:Has P w K mg base (CX1 P w) 6 "thing_in" ["words","line"] (spM (KX K ad) (xoK (KX K ad)) zcu)):FnOk P w K mg base (CX1 P w) 7 f fd ["rows"] (spM (KX K ad) (xoK (KX K ad)) zbR):=by
 refine F.ok1 sc_read_sack (fun vs H Q E h=>zbb h) (fun cdv A outer s H vs Q E hr h=>?_)
 have hu:=zb9 hr
 exact⟨_,(zaf (zaS (zbf G_refuse_word_count hr zbk (zaa (zba zaD (pv 0) zai (fun _ _=>rfl)) (zaa zai (zaa zai (zaa zai zae))))))
   (zaf (zaJ (i:=1) sc_read_sack.nd rfl (by first|exact Or.inl rfl|exact Or.inr rfl) (zbf G_amount_in hr zbk (zaa (zba zaD (zba zaD (pv 0) zai (fun _ _=>rfl)) zai (fun _ _=>rfl)) (zaa zai zae))))
   (zaf (zaJ (i:=2) sc_read_sack.nd rfl (by first|exact Or.inl rfl|exact Or.inr rfl) (zbK (zaa (pv 1) zae)))
   (zaf (zaJ (i:=3) sc_read_sack.nd rfl (by first|exact Or.inl rfl|exact Or.inr rfl) (zbK zae))
   (zaf (zc6 PassesOwn.leaving rfl (zf8 rfl T.range (zaa zai (zaa (zaM zaI (by rfl) T.len PySem.boot_len (zaa (pv 0) zae)) zae))) (za4 (i:=4) sc_read_sack.nd rfl (by first|exact Or.inl rfl|exact Or.inr rfl))
   (zaf (zaS (zbf G_refuse_where hr zbk (zaa (zbu zfj (pv 4) (zcC (by rfl) T.g_MOST_THINGS) (zaF _)) (zaa (pv 4) zae))))
   (zaf (zaJ (i:=5) sc_read_sack.nd rfl (by first|exact Or.inl rfl|exact Or.inr rfl) (zbf G_thing_in hr zbk (zaa (zba zaD (pv 0) (pv 4) (fun _ _=>rfl)) (zaa (pv 4) zae))))
   (zaf (zaS (ze2 PySem.F.plainAttrs_list PySem.F.slot_list_append PySem.F.type_list_append zdM (pv 3) (zaa (pv 5) zae)))
   (zan (zaS (ze2 PySem.F.plainAttrs_list PySem.F.slot_list_extend PySem.F.type_list_extend zmE (pv 2) (zaa (pv 5) zae))))))))
   (zaf (zaJ (i:=6) sc_read_sack.nd rfl (by first|exact Or.inl rfl|exact Or.inr rfl) (pe_h G_unit_of hr zcW (zaa (pv 2) zae)))
   (zaf (zoc (i:=7) sc_read_sack.nd rfl (by first|exact Or.inl rfl|exact Or.inr rfl) rfl (zcw (pv 3)) (zf7 (zap zep) ["rows","room","amounts","things","line","thing","unit","whole"] ["unit","worth","weight"] [6] 2 rfl rfl rfl (by decide +kernel) (by decide +kernel) (by decide +kernel) rfl (by decide +kernel) (fun cl C s H fp pins=>(zjJ rfl (zcD (za4 (i:=1) (show List.Nodup (["unit","worth","weight"]:List Str) by decide +kernel) rfl (Or.inl rfl)) (zcD (za4 (i:=2) (show List.Nodup (["unit","worth","weight"]:List Str) by decide +kernel) rfl (Or.inl rfl)) zgj)))) (fun cl C s H fp pins=>(zcf (zaa (pe_h G_by_the_unit hr zcW (zaa (pv 1) (zaa (pv 0) zae))) (zaa (pe_h G_by_the_unit hr zcW (zaa (pv 2) (zaa (pv 0) zae))) zae)))) (Or.inl ⟨rfl,rfl⟩)) rfl)
   (zan (zaL (zcf (zaa (pv 6) (zaa (zcf (zaa (pe_h G_by_the_unit hr zcW (zaa (pv 1) (zaa (pv 6) zae))) (zaa (pv 7) zae))) zae)))))))))))),zco (K:=(KX K ad)) (XO:=(xoK (KX K ad))) (E:=E) (np:=1) (nv:=7) (m:=zg9)
   (zam (zbc (zat (zac (zao zaZ zad (zag).r) (zac zag (zac zag (zac zag zak))))))
   (zam (zaR (zat (zac (zao zaZ ((zao zaZ zad (zag).r)).r (zag).r) (zac zag zak))) zau)
   (zam (zfp (zbl (zac zal zak)))
   (zam (zfp (zbl zak))
   (zam (zc4 (zfW len2 (zac zag (zac (zcs zcQ (zaQ zad zbd)) zak))) zau
   (zam (zbc (zat (zac (zao zfl zad (zag).r) (zac zal zak))))
   (zam (zaR (zat (zac (zao zaZ zad zad) (zac zal zak))) zau)
   (zam (zeX zal)
   (zmX zal)))))
   (zam (zaR (zlp (znf zov)) zau)
   (zam (zaR ((zdZ (zcR zad) (by decide) (zjS (zcE zca (zcE zca zgt))) (zm7 (zfg zcL (zfg zcL zkH))) (Or.inl ⟨rfl,rfl⟩) (zcj (zac (zby (zac zal (zac zal zak))) (zac (zby (zac zal (zac zal zak))) zak))))).e zau)
   (za9 (zcj (zac zal (zac (zcj (zac (zby (zac zal (zac zal zak))) (zac zal zak))) zak))))))))))) rfl h⟩
abbrev zfI:Stmt:=top 78
theorem zjx:FnScope ["kind","rows"] ["kind","rows"] (zap zfI):=scMk
theorem zjZ {f:Addr} {fd:FuncData} (F:Fun K "read_rows" "read_rows" zfI f fd) (T:Txt K mg ad) (G_read_cover:Has P w K mg base (CX1 P w) 6 "read_cover" ["rows"] (spM (KX K ad) (xoK (KX K ad)) zbI)) (G_read_touch:Has P w K mg base (CX1 P w) 6 "read_touch" ["rows"] (spM (KX K ad) (xoK (KX K ad)) zbH)) (G_read_round:Has P w K mg base (CX1 P w) 7 "read_round" ["rows"] (spM (KX K ad) (xoK (KX K ad)) zbP)) (G_read_places:Has P w K mg base (CX1 P w) 7 "read_places" ["rows"] (spM (KX K ad) (xoK (KX K ad)) zbp)) (G_read_benches:Has P w K mg base (CX1 P w) 6 "read_benches" ["rows"] (spM (KX K ad) (xoK (KX K ad)) zbo)) (G_read_bins:Has P w K mg base (CX1 P w) 6 "read_bins" ["rows"] (spM (KX K ad) (xoK (KX K ad)) zb7)) (G_read_sack:Has P w K mg base (CX1 P w) 7 "read_sack" ["rows"] (spM (KX K ad) (xoK (KX K ad)) zbR)) (I_NoText:HasI P w K mg base ad.f_NoText ["self","line"] (spI K "line")):FnOk P w K mg base (CX1 P w) 8 f fd ["kind","rows"] (spM (KX K ad) (xoK (KX K ad)) zas):=by
 refine F.ok1 zjx (fun vs H Q E h=>zbb h) (fun cdv A outer s H vs Q E hr h=>?_)
 have hu:=zb9 hr
 exact⟨_,(zaf (zb4 (zaX zcn (pv 0) zaA (zaF _))
   (zan (zaL (zbf G_read_cover hr zbk (zaa (pv 1) zae))))
   za0)
   (zaf (zb4 (zaX zcn (pv 0) zaA (zaF _))
   (zan (zaL (zbf G_read_touch hr zbk (zaa (pv 1) zae))))
   za0)
   (zaf (zb4 (zaX zcn (pv 0) zaA (zaF _))
   (zan (zaL (zbf G_read_round hr zbk (zaa (pv 1) zae))))
   za0)
   (zaf (zb4 (zaX zcn (pv 0) zaA (zaF _))
   (zan (zaL (zbf G_read_places hr zbk (zaa (pv 1) zae))))
   za0)
   (zaf (zb4 (zaX zcn (pv 0) zaA (zaF _))
   (zan (zaL (zbf G_read_benches hr zbk (zaa (pv 1) zae))))
   za0)
   (zaf (zb4 (zaX zcn (pv 0) zaA (zaF _))
   (zan (zaL (zbf G_read_bins hr zbk (zaa (pv 1) zae))))
   za0)
   (zaf (zb4 (zaX zcn (pv 0) zaA (zaF _))
   (zan (zaL (zbf G_read_sack hr zbk (zaa (pv 1) zae))))
   za0)
   (zan (zfY rfl rfl (by rfl) T.m_NoText T.i_NoText PySem.F.excBase_ValueError (by decide +kernel) PySem.F.excBase_ValueError zlF I_NoText (hr.mono (by decide)) T.fn_NoText (zaa zai zae)))))))))),zco (K:=(KX K ad)) (XO:=(xoK (KX K ad))) (E:=E) (np:=2) (nv:=0) (m:=za7)
   (zam (zb8 (zaV (zao zcm zad (zaH).r))
   (za9 (zat (zac zal zak)))
   za1)
   (zam (zb8 (zaV (zao zcm zad (zaH).r))
   (za9 (zat (zac zal zak)))
   za1)
   (zam (zb8 (zaV (zao zcm zad (zaH).r))
   (za9 (zat (zac zal zak)))
   za1)
   (zam (zb8 (zaV (zao zcm zad (zaH).r))
   (za9 (zat (zac zal zak)))
   za1)
   (zam (zb8 (zaV (zao zcm zad (zaH).r))
   (za9 (zat (zac zal zak)))
   za1)
   (zam (zb8 (zaV (zao zcm zad (zaH).r))
   (za9 (zat (zac zal zak)))
   za1)
   (zam (zb8 (zaV (zao zcm zad (zaH).r))
   (za9 (zat (zac zal zak)))
   za1)
   (zf0 (c0:=6) (by decide) (fun k=>(zjw k).symm) zjD T.a_NoText T.na_NoText (zac zag zak))))))))) rfl h⟩
abbrev zdo:Stmt:=top 35
theorem sc_refuse_missing:FnScope ["many","sets","held","one","thing"] ["many","sets"] (zap zdo):=scMk
theorem zgv {f:Addr} {fd:FuncData} (F:Fun K "refuse_missing" "refuse_missing" zdo f fd) (T:Txt K mg ad)  (I_NoCover:HasI P w K mg base ad.f_NoCover ["self","thing"] (spI K "thing")):FnOk P w K mg base (CX1 P w) 3 f fd ["many","sets"] (spM (KX K ad) (xoK (KX K ad)) zbA):=by
 refine F.ok1 sc_refuse_missing (fun vs H Q E h=>zbb h) (fun cdv A outer s H vs Q E hr h=>?_)
 have hu:=zb9 hr
 exact⟨_,(zaf (zaJ (i:=2) sc_refuse_missing.nd rfl (by first|exact Or.inl rfl|exact Or.inr rfl) zpB)
   (zaf (zc6 PassesOwn.leaving rfl (zcw (pv 1)) (za4 (i:=3) sc_refuse_missing.nd rfl (by first|exact Or.inl rfl|exact Or.inr rfl))
   (zan (zc6 PassesOwn.leaving rfl (zcw (zba zc7 (pv 3) zai (fun _ _=>rfl))) (za4 (i:=4) sc_refuse_missing.nd rfl (by first|exact Or.inl rfl|exact Or.inr rfl))
   (zan (zqR hu (pv 2) (pv 4) ziH rfl)))))
   (zan (zc6 PassesOwn.leaving rfl (zdQ rfl T.range (zaa (pv 0) zae)) (za4 (i:=4) sc_refuse_missing.nd rfl (by first|exact Or.inl rfl|exact Or.inr rfl))
   (zan (zb4 (zru (znV hu (pv 4) (pv 2)))
   (zan (zfY rfl rfl (by rfl) T.m_NoCover T.i_NoCover PySem.F.excBase_ValueError (by decide +kernel) PySem.F.excBase_ValueError zlF I_NoCover (hr.mono (by decide)) T.fn_NoCover (zaa (pv 4) zae)))
   za0)))))),zco (K:=(KX K ad)) (XO:=(xoK (KX K ad))) (E:=E) (np:=2) (nv:=3) (m:=zeE)
   (zam (zfp zoO)
   (zam (zc4 (zhl zal) zau
   (zc4 (zhl (zao zc5 zad (zag).r)) zau
   (zqS zal zil)))
   (zc4 (zdR len1 (zac zal zak)) zau
   (zb8 (st_b (znE zal zad))
   (zf0 (c0:=4) (by decide) (fun k=>(zmp k).symm) zml T.a_NoCover T.na_NoCover (zac zal zak))
   za1)))) rfl h⟩
abbrev zhe:Stmt:=top 45
theorem sc_look_at:FnScope ["lengths","count","a","b","c"] ["lengths"] (zap zhe):=scMk
theorem zmd {f:Addr} {fd:FuncData} (F:Fun K "look_at" "look_at" zhe f fd) (T:Txt K mg ad)  : FnOk P w K mg base (CX1 P w) 1 f fd ["lengths"] (spM (KX K ad) (xoK (KX K ad)) zdj):=by
 refine F.ok1 sc_look_at (fun vs H Q E h=>zbb h) (fun cdv A outer s H vs Q E hr h=>?_)
 have hu:=zb9 hr
 exact⟨_,(zaf (zaJ (i:=1) sc_look_at.nd rfl (by first|exact Or.inl rfl|exact Or.inr rfl) (zaM zaI (by rfl) T.len PySem.boot_len (zaa (pv 0) zae)))
   (zaf (zc6 PassesOwn.leaving rfl (zdQ rfl T.range (zaa (pv 1) zae)) (za4 (i:=2) sc_look_at.nd rfl (by first|exact Or.inl rfl|exact Or.inr rfl))
   (zan (zb4 (zaX zor (zba zaD (zba zaD (pv 0) (pv 2) (fun _ _=>rfl)) (pv 2) (fun _ _=>rfl)) zai (zaF _))
   (zan (zis rfl (by rfl) T.m_NoLengths T.e_NoLengths PySem.F.excBase_ValueError (by decide +kernel) PySem.F.excBase_ValueError zq9 (zaa zaA zae)))
   za0)))
   (zaf (zc6 PassesOwn.leaving rfl (zdQ rfl T.range (zaa (pv 1) zae)) (za4 (i:=2) sc_look_at.nd rfl (by first|exact Or.inl rfl|exact Or.inr rfl))
   (zan (zc6 PassesOwn.leaving rfl (zdQ rfl T.range (zaa (pv 2) zae)) (za4 (i:=3) sc_look_at.nd rfl (by first|exact Or.inl rfl|exact Or.inr rfl))
   (zan (zb4 (zaX zor (zba zaD (zba zaD (pv 0) (pv 2) (fun _ _=>rfl)) (pv 3) (fun _ _=>rfl)) (zba zaD (zba zaD (pv 0) (pv 3) (fun _ _=>rfl)) (pv 2) (fun _ _=>rfl)) (zaF _))
   (zan (zis rfl (by rfl) T.m_NoLengths T.e_NoLengths PySem.F.excBase_ValueError (by decide +kernel) PySem.F.excBase_ValueError zq9 (zaa zaA zae)))
   za0)))))
   (zan (zc6 PassesOwn.leaving rfl (zdQ rfl T.range (zaa (pv 1) zae)) (za4 (i:=2) sc_look_at.nd rfl (by first|exact Or.inl rfl|exact Or.inr rfl))
   (zan (zc6 PassesOwn.leaving rfl (zdQ rfl T.range (zaa (pv 1) zae)) (za4 (i:=3) sc_look_at.nd rfl (by first|exact Or.inl rfl|exact Or.inr rfl))
   (zan (zc6 PassesOwn.leaving rfl (zdQ rfl T.range (zaa (pv 1) zae)) (za4 (i:=4) sc_look_at.nd rfl (by first|exact Or.inl rfl|exact Or.inr rfl))
   (zan (zb4 (zaX zlK (zaU zds (zba zaD (zba zaD (pv 0) (pv 2) (fun _ _=>rfl)) (pv 3) (fun _ _=>rfl)) (zba zaD (zba zaD (pv 0) (pv 3) (fun _ _=>rfl)) (pv 4) (fun _ _=>rfl))) (zba zaD (zba zaD (pv 0) (pv 2) (fun _ _=>rfl)) (pv 4) (fun _ _=>rfl)) (zaF _))
   (zan (zis rfl (by rfl) T.m_NoLengths T.e_NoLengths PySem.F.excBase_ValueError (by decide +kernel) PySem.F.excBase_ValueError zq9 (zaa zaA zae)))
   za0))))))))))),zco (K:=(KX K ad)) (XO:=(xoK (KX K ad))) (E:=E) (np:=1) (nv:=4) (m:=zjY)
   (zam (zaR (zcs zcQ (zaQ zad zbd)) zau)
   (zam (zc4 (zdR len1 (zac zal zak)) zau
   (zb8 (zaV (zao znu ((zao zaZ ((zao zaZ zad zad)).r zad)).r (zag).r))
   (zi6 (c:=2) rfl (by decide) (zac zaH zak))
   za1))
   (zam (zc4 (zdR len1 (zac zal zak)) zau
   (zc4 (zdR len1 (zac zal zak)) zau
   (zb8 (zaV (zao znu ((zao zaZ ((zao zaZ zad zad)).r zad)).r ((zao zaZ ((zao zaZ zad zad)).r zad)).r))
   (zi6 (c:=2) rfl (by decide) (zac zaH zak))
   za1)))
   (zc4 (zdR len1 (zac zal zak)) zau
   (zc4 (zdR len1 (zac zal zak)) zau
   (zc4 (zdR len1 (zac zal zak)) zau
   (zb8 (zaV (zao zmy ((zao zdu ((zao zaZ ((zao zaZ zad zad)).r zad)).r ((zao zaZ ((zao zaZ zad zad)).r zad)).r)).r ((zao zaZ ((zao zaZ zad zad)).r zad)).r))
   (zi6 (c:=2) rfl (by decide) (zac zaH zak))
   za1))))))) rfl h⟩
abbrev zc3:Stmt:=top 28
theorem sc_refuse_too_great:FnScope ["sizes","room","number","size"] ["sizes","room"] (zap zc3):=scMk
theorem zfL {f:Addr} {fd:FuncData} (F:Fun K "refuse_too_great" "refuse_too_great" zc3 f fd) (T:Txt K mg ad)  (I_NoRoom:HasI P w K mg base ad.f_NoRoom ["self","thing"] (spI K "thing")):FnOk P w K mg base (CX1 P w) 3 f fd ["sizes","room"] (spM (KX K ad) (xoK (KX K ad)) zbz):=by
 refine F.ok1 sc_refuse_too_great (fun vs H Q E h=>zbb h) (fun cdv A outer s H vs Q E hr h=>?_)
 have hu:=zb9 hr
 exact⟨_,(zan (zc6 PassesOwn.leaving rfl (znp rfl T.enumerate (zaa (pv 0) zae)) (zjJ rfl (zcD (za4 (i:=2) sc_refuse_too_great.nd rfl (by first|exact Or.inl rfl|exact Or.inr rfl)) (zcD (za4 (i:=3) sc_refuse_too_great.nd rfl (by first|exact Or.inl rfl|exact Or.inr rfl)) zgj)))
   (zan (zb4 (zaX zfj (pv 3) (pv 1) (zaF _))
   (zan (zfY rfl rfl (by rfl) T.m_NoRoom T.i_NoRoom PySem.F.excBase_ValueError (by decide +kernel) PySem.F.excBase_ValueError zlF I_NoRoom (hr.mono (by decide)) T.fn_NoRoom (zaa (pv 2) zae)))
   za0)))),zco (K:=(KX K ad)) (XO:=(xoK (KX K ad))) (E:=E) (np:=2) (nv:=2) (m:=zdY)
   (zc4 (zni (zac zal zak)) (zjS (zcE zau (zcE zau zgt)))
   (zb8 (zaV (zao zfl zad zad))
   (zf0 (c0:=5) (by decide) (fun k=>(zm0 k).symm) znQ T.a_NoRoom T.na_NoRoom (zac zal zak))
   za1)) rfl h⟩
abbrev zd7:Stmt:=top 79
theorem zhu:FnScope ["kind","given"] ["kind","given"] (zap zd7):=scMk
theorem zg7 {f:Addr} {fd:FuncData} (F:Fun K "refuse_given" "refuse_given" zd7 f fd) (T:Txt K mg ad) (G_refuse_missing:Has P w K mg base (CX1 P w) 3 "refuse_missing" ["many","sets"] (spM (KX K ad) (xoK (KX K ad)) zbA)) (G_look_at:Has P w K mg base (CX1 P w) 1 "look_at" ["lengths"] (spM (KX K ad) (xoK (KX K ad)) zdj)) (G_refuse_too_great:Has P w K mg base (CX1 P w) 3 "refuse_too_great" ["sizes","room"] (spM (KX K ad) (xoK (KX K ad)) zbz)):FnOk P w K mg base (CX1 P w) 4 f fd ["kind","given"] (spM (KX K ad) (xoK (KX K ad)) zay):=by
 refine F.ok1 zhu (fun vs H Q E h=>zbb h) (fun cdv A outer s H vs Q E hr h=>?_)
 have hu:=zb9 hr
 exact⟨_,(zan (zb4 (zaX zcn (pv 0) zaA (zaF _))
   (zan (zaS (zbf G_refuse_missing hr zbk (zaa (zba zc7 (pv 1) zai (fun _ _=>rfl)) (zaa (zba zc7 (pv 1) zai (fun _ _=>rfl)) zae)))))
   (zan (zb4 ((zkR (zaX zcn (pv 0) zaA (zaF _)) (zjR (zaX zcn (pv 0) zaA (zaF _))))).pt
   (zan (zaS (zbf G_look_at hr zbk (zaa (zba zc7 (pv 1) zai (fun _ _=>rfl)) zae))))
   (zan (zb4 (zaX zcn (pv 0) zaA (zaF _))
   (zan (zaS (zbf G_refuse_too_great hr zbk (zaa (zba zc7 (pv 1) zai (fun _ _=>rfl)) (zaa (zba zc7 (pv 1) zai (fun _ _=>rfl)) zae)))))
   za0)))))),zco (K:=(KX K ad)) (XO:=(xoK (KX K ad))) (E:=E) (np:=2) (nv:=0) (m:=zbv)
   (zb8 (zaV (zao zcm zad (zaH).r))
   (zbc (zat (zac (zao zc5 zad (zag).r) (zac (zao zc5 zad (zag).r) zak))))
   (zb8 (zkU (zaV (zao zcm zad (zaH).r)) (zaV (zao zcm zad (zaH).r)))
   (zbc (zat (zac (zao zc5 zad (zag).r) zak)))
   (zb8 (zaV (zao zcm zad (zaH).r))
   (zbc (zat (zac (zao zc5 zad (zag).r) (zac (zao zc5 zad (zag).r) zak))))
   za1))) rfl h⟩
abbrev zk2:Stmt:=top 80
theorem sc_read:FnScope ["text","rows","kind","told"] ["text"] (zap zk2):=scMk
theorem zqP {f:Addr} {fd:FuncData} (F:Fun K "read" "read" zk2 f fd) (T:Txt K mg ad) (G_read_rows:Has P w K mg base (CX1 P w) 8 "read_rows" ["kind","rows"] (spM (KX K ad) (xoK (KX K ad)) zas)) (G_refuse_given:Has P w K mg base (CX1 P w) 4 "refuse_given" ["kind","given"] (spM (KX K ad) (xoK (KX K ad)) zay)):FnOk P w K mg base (CX1 P w) 9 f fd ["text"] (spM (KX K ad) (xoK (KX K ad)) zcP):=by
 refine F.ok1 sc_read (fun vs H Q E h=>zbb h) (fun cdv A outer s H vs Q E hr h=>?_)
 have hu:=zb9 hr
 exact⟨_,(zaf (zoc (i:=1) sc_read.nd rfl (by first|exact Or.inl rfl|exact Or.inr rfl) rfl (zcw (ze2 PySem.F.plainAttrs_str PySem.F.slot_str_split PySem.F.type_str_split zf3 (pv 0) (zaa zaA zae))) (zf7 (zap zk2) ["text","rows","kind","told"] ["line"] [] 1 rfl rfl rfl (by decide +kernel) (by decide +kernel) (by decide +kernel) rfl (by decide +kernel) (fun cl C s H fp pins=>(za4 (i:=0) (show List.Nodup (["line"]:List Str) by decide +kernel) rfl (Or.inl rfl))) (fun cl C s H fp pins=>(ze2 PySem.F.plainAttrs_str PySem.F.slot_str_split PySem.F.type_str_split zf3 (pv 0) (zaa zaA zae))) (Or.inl ⟨rfl,rfl⟩)) rfl)
   (zaf (zaJ (i:=2) sc_read.nd rfl (by first|exact Or.inl rfl|exact Or.inr rfl) (zba zaD (zba zaD (pv 1) zai (fun _ _=>rfl)) zai (fun _ _=>rfl)))
   (zaf (zaJ (i:=3) sc_read.nd rfl (by first|exact Or.inl rfl|exact Or.inr rfl) (zbf G_read_rows hr zbk (zaa (pv 2) (zaa (pv 1) zae))))
   (zaf (zaS (zbf G_refuse_given hr zbk (zaa (pv 2) (zaa (zba zc7 (pv 3) zai (fun _ _=>rfl)) zae))))
   (zan (zaL (zcf (zaa (pv 2) (zaa (zba zc7 (pv 3) zai (fun _ _=>rfl)) (zaa (zba zc7 (pv 3) zai (fun _ _=>rfl)) zae)))))))))),zco (K:=(KX K ad)) (XO:=(xoK (KX K ad))) (E:=E) (np:=1) (nv:=3) (m:=zp3)
   (zam (zaR ((zdZ (zcR ((zeR zal)).e.r) (by decide) zca zcL (Or.inl ⟨rfl,rfl⟩) ((zeR zal)).e)).e zau)
   (zam (zaR (zao zaZ ((zao zaZ zad (zag).r)).r (zag).r) zau)
   (zam (zaR (zat (zac zal (zac zal zak))) zau)
   (zam (zbc (zat (zac zal (zac (zao zc5 zad (zag).r) zak))))
   (za9 (zcj (zac zal (zac (zao zc5 zad (zag).r) (zac (zao zc5 zad (zag).r) zak))))))))) rfl h⟩
abbrev zeb:Stmt:=top 142
theorem sc_house_answer:FnScope ["text","asked","kind","unit","given"] ["text"] (zap zeb):=scMk
theorem zhh {f:Addr} {fd:FuncData} (F:Fun K "house_answer" "house_answer" zeb f fd) (T:Txt K mg ad) (G_read:Has P w K mg base (CX1 P w) 9 "read" ["text"] (spM (KX K ad) (xoK (KX K ad)) zcP)):FnOk P w K mg base (CX1 P w) 10 f fd ["text"] (spM (KX K ad) (xoK (KX K ad)) zcz):=by
 refine F.ok1 sc_house_answer (fun vs H Q E h=>zbb h) (fun cdv A outer s H vs Q E hr h=>?_)
 have hu:=zb9 hr
 exact⟨_,(zaf (zaJ (i:=1) sc_house_answer.nd rfl (by first|exact Or.inl rfl|exact Or.inr rfl) (zbf G_read hr zbk (zaa (pv 0) zae)))
   zjn),zco (K:=(KX K ad)) (XO:=(xoK (KX K ad))) (E:=E) (np:=1) (nv:=4) (m:=zfs)
   (zam (zaR (zat (zac zal zak)) zau)
   zlA) rfl h⟩
abbrev zfB:Stmt:=top 145
theorem sc_best_told:FnScope ["text","most","asked","best","shown"] ["text","most"] (zap zfB):=scMk
theorem zj1 {f:Addr} {fd:FuncData} (F:FunD K "best_told" "best_told" zfB f fd (.int 2000)) (T:Txt K mg ad) (G_read:Has P w K mg base (CX1 P w) 9 "read" ["text"] (spM (KX K ad) (xoK (KX K ad)) zcP)):FnOk P w K mg base (CX1 P w) 10 f fd ["text","most"] (spM (KX K ad) (xoK (KX K ad)) zdI):=by
 refine F.ok1 sc_best_told (fun vs H Q E h=>zbb h) (fun cdv A outer s H vs Q E hr h=>?_)
 have hu:=zb9 hr
 exact⟨_,(zaf (zaJ (i:=2) sc_best_told.nd rfl (by first|exact Or.inl rfl|exact Or.inr rfl) (zbf G_read hr zbk (zaa (pv 0) zae)))
   zjn),zco (K:=(KX K ad)) (XO:=(xoK (KX K ad))) (E:=E) (np:=2) (nv:=3) (m:=zhA)
   (zam (zaR (zat (zac zal zak)) zau)
   zlA) rfl h⟩
abbrev zfz:Stmt:=top 151
theorem zkg:FnScope ["_law_text","_law_way"] ["_law_text","_law_way"] (zap zfz):=scMk
theorem zj9 {f:Addr} {fd:FuncData} (F:Fun K "_law_asked" "_law_asked" zfz f fd) (T:Txt K mg ad) (G_read:Has P w K mg base (CX1 P w) 9 "read" ["text"] (spM (KX K ad) (xoK (KX K ad)) zcP)) (G_house_answer:Has P w K mg base (CX1 P w) 10 "house_answer" ["text"] (spM (KX K ad) (xoK (KX K ad)) zcz)) (G_best_told:HasD P w K mg base (CX1 P w) 10 "best_told" ["text","most"] (spM (KX K ad) (xoK (KX K ad)) zdI) (.int 2000)):FnOk P w K mg base (CX1 P w) 11 f fd ["_law_text","_law_way"] (spM (KX K ad) (xoK (KX K ad)) zcg):=by
 refine F.ok1 zkg (fun vs H Q E h=>zbb h) (fun cdv A outer s H vs Q E hr h=>?_)
 have hu:=zb9 hr
 exact⟨_,(zaf (zb4 (zaX zcn (pv 1) zai (zaF _))
   (zan (zaL (zbf G_read hr zbk (zaa (pv 0) zae))))
   za0)
   (zaf (zb4 (zaX zcn (pv 1) zai (zaF _))
   (zan (zaL (zbf G_house_answer hr zbk (zaa (pv 0) zae))))
   za0)
   (zan (zaL (znG G_best_told (hr.mono (by decide)) (by rfl) zbk (pv 0)))))),zco (K:=(KX K ad)) (XO:=(xoK (KX K ad))) (E:=E) (np:=2) (nv:=0) (m:=zg3)
   (zam (zb8 (zaV (zao zcm zad (zag).r))
   (za9 (zat (zac zal zak)))
   za1)
   (zam (zb8 (zaV (zao zcm zad (zag).r))
   (za9 (zat (zac zal zak)))
   za1)
   (za9 (zat (zac zal (zac zag zak)))))) rfl h⟩
abbrev zeT:Stmt:=top 152
theorem sc_law_caught:FnScope ["_law_text","_law_way","_law_caught_here","error"] ["_law_text","_law_way"] (zap zeT):=scMk
theorem ziF {f:Addr} {fd:FuncData} (F:Fun K "_law_caught" "_law_caught" zeT f fd) (T:Txt K mg ad) (G_law_asked:Has P w K mg base (CX1 P w) 11 "_law_asked" ["_law_text","_law_way"] (spM (KX K ad) (xoK (KX K ad)) zcg)):FnOk P w K mg base CX0 12 f fd ["_law_text","_law_way"] (spM (KX K ad) (xoK (KX K ad)) zb3):=by
 refine F.ok sc_law_caught (fun vs H Q E h=>zbb h) (fun cdv A outer s H vs Q E hr h=>?_)
 have hu:=zb9 hr
 exact⟨_,(zaf (zaJ (i:=2) sc_law_caught.nd rfl (by first|exact Or.inl rfl|exact Or.inr rfl) zod)
   (zaf (zsy (i:=3) rfl rfl rfl sc_law_caught.nd rfl rfl (by rfl) T.m_EnoughError T.b_EnoughError (fun E pl xe hpx=>(zan (zaS (zbf G_law_asked hr hpx (zaa (pv 0) (zaa (pv 1) zae))))))
   (fun ea=>(zan (zaJ (i:=2) sc_law_caught.nd rfl (by first|exact Or.inl rfl|exact Or.inr rfl) (pv 3)))))
   (zan (zaL (pv 2))))),zco (K:=(KX K ad)) (XO:=(xoK (KX K ad))) (E:=E) (np:=2) (nv:=2) (m:=zgD)
   (zam (zaR zmZ zau)
   (zam (zrM (zhQ T) (fun _=>(zbc (zat (zac zal (zac zal zak)))))
   (zaR zal zau))
   (za9 zal))) rfl h⟩
abbrev zeq:Stmt:=top 153
theorem sc_law_refused:FnScope ["_law_text","_law_way","_law_line","_law_caught_here"] ["_law_text","_law_way","_law_line"] (zap zeq):=scMk
theorem zhM {f:Addr} {fd:FuncData} (F:Fun K "_law_refused" "_law_refused" zeq f fd) (T:Txt K mg ad) (G_law_caught:Has P w K mg base CX0 12 "_law_caught" ["_law_text","_law_way"] (spM (KX K ad) (xoK (KX K ad)) zb3)):FnOk P w K mg base CX0 13 f fd ["_law_text","_law_way","_law_line"] (spM (KX K ad) (xoK (KX K ad)) zc1):=by
 refine F.ok sc_law_refused (fun vs H Q E h=>zbb h) (fun cdv A outer s H vs Q E hr h=>?_)
 have hu:=zb9 hr
 exact⟨_,(zaf (zaJ (i:=3) sc_law_refused.nd rfl (by first|exact Or.inl rfl|exact Or.inr rfl) (pe_h G_law_caught hr zcW (zaa (pv 0) (zaa (pv 1) zae))))
   (zaf (zb4 ((zkR (zaX zsz (pv 3) zod (zaF _)) (zkR (znK (zfr (zaM zbC (by rfl) T.isinstance boot_isinstance (zaa (pv 3) (zaa (zeU (v:=.ref ad.NoText) (by rfl) T.m_NoText rfl) zae))))) (zjR (znK (zfr (zaM zbC (by rfl) T.isinstance boot_isinstance (zaa (pv 3) (zaa (zki (v:=.ty "ValueError") (by rfl) T.ValueError PyProof.Rows.Boot.«ValueError» rfl) zae))))))))).pt
   (zan (zaL ziH))
   za0)
   (zaf (zb4 ((zkR (zfr (zaM zbC (by rfl) T.isinstance boot_isinstance (zaa (pv 3) (zaa (zeU (v:=.ref ad.NoCover) (by rfl) T.m_NoCover rfl) zae)))) (zkR (zfr (zaM zbC (by rfl) T.isinstance boot_isinstance (zaa (pv 3) (zaa (zeU (v:=.ref ad.NoLengths) (by rfl) T.m_NoLengths rfl) zae)))) (zjR (zfr (zaM zbC (by rfl) T.isinstance boot_isinstance (zaa (pv 3) (zaa (zeU (v:=.ref ad.NoRoom) (by rfl) T.m_NoRoom rfl) zae)))))))).pt
   (zan (zaL ziH))
   za0)
   (zaf (zb4 ((zkR (zfr (zaM zbC (by rfl) T.isinstance boot_isinstance (zaa (pv 3) (zaa (zeU (v:=.ref ad.NoShare) (by rfl) T.m_NoShare rfl) zae)))) (zjR (zfr (zaM zbC (by rfl) T.isinstance boot_isinstance (zaa (pv 3) (zaa (zeU (v:=.ref ad.TooMany) (by rfl) T.m_TooMany rfl) zae))))))).pt
   (zan (zaL ziH))
   za0)
   (zan (zaL (zpM (zaM ze7 (by rfl) T.isinstance boot_isinstance (zaa (zkV (pv 3) rfl) (zaa (zki (v:=.ty "int") (by rfl) T.int boot_int rfl) zae))) (zpM (zob (zaM ze7 (by rfl) T.isinstance boot_isinstance (zaa (zkV (pv 3) rfl) (zaa (zki (v:=.ty "bool") (by rfl) T.bool boot_bool rfl) zae)))) (zh3 (zbu zcn (zkV (pv 3) rfl) (pv 2) (zaF _))))))))))),zco (K:=(KX K ad)) (XO:=(xoK (KX K ad))) (E:=E) (np:=3) (nv:=1) (m:=zf2)
   (zam (zaR (zby (zac zal (zac zal zak))) zau)
   (zam (zb8 (zkU (zaV (zao zsI zad (zmZ).r)) (zkU (znZ (st_b (zfH rfl (znJ T) zad))) (znZ (st_b (zfH rfl (ziE T) zad)))))
   (za9 zil)
   za1)
   (zam (zb8 (zkU (st_b (zfH rfl (zl7 T) zad)) (zkU (st_b (zfH rfl (zjW T) zad)) (st_b (zfH rfl (zn3 T) zad))))
   (za9 zil)
   za1)
   (zam (zb8 (zkU (st_b (zfH rfl (zlX T) zad)) (st_b (zfH rfl (zmq T) zad)))
   (za9 zil)
   za1)
   (za9 (zp7 (zpP zph ((zkv (zkQ T) zad)).r) (zp7 (zoq (zpP znL ((zkv (zkQ T) zad)).r)) (zao zcm ((zkv (zkQ T) zad)).r zad)))))))) rfl h⟩
abbrev zii:Stmt:=top 154
theorem sc_law:FnScope ["_law_script","_law_k","_law_cell","_law_number_here","_law_kind","_law_lines_here","_law_bad","_law_line"] ["_law_script"] (zap zii):=scMk
theorem zrt {f:Addr} {fd:FuncData} (F:Fun K "law" "law" zii f fd) (T:Txt K mg ad) (G_law_number:Has P w K mg base CX0 1 "_law_number" ["_law_cell","_law_k"] (spM (KX K ad) (xoK (KX K ad)) zbZ)) (G_law_lines:Has P w K mg base CX0 1 "_law_lines" ["_law_kind","_law_first_here","_law_second"] (spO (KX K ad) (xoK (KX K ad)) zbt)) (G_law_spoiled:Has P w K mg base CX0 2 "_law_spoiled" ["_law_kind","_law_lines_here","_law_number_here"] (spO (KX K ad) (xoK (KX K ad)) zbr)) (G_law_caught:Has P w K mg base CX0 12 "_law_caught" ["_law_text","_law_way"] (spM (KX K ad) (xoK (KX K ad)) zb3)) (G_law_refused:Has P w K mg base CX0 13 "_law_refused" ["_law_text","_law_way","_law_line"] (spM (KX K ad) (xoK (KX K ad)) zc1)):FnOk P w K mg base CX0 14 f fd ["_law_script"] (zlx K):=by
 refine F.ok sc_law (fun vs H Q E h=>?_) (fun cdv A outer s H vs Q E hr h=>?_)
 ·obtain⟨a,ns,rfl,_⟩:=h
  rfl
 ·obtain⟨a,ns,rfl,hS,hlen,hq⟩:=h
  have hu:=zb9 hr
  exact⟨_,(zaf (zc6 PassesOwn.never rfl (znp rfl T.enumerate (zaa (zaU zdp (zbK (zaa zai zae)) (zbN zci (pv 0) zcK (zbS zai))) zae)) (zjJ rfl (zcD (za4 (i:=1) sc_law.nd rfl (by first|exact Or.inl rfl|exact Or.inr rfl)) (zcD (za4 (i:=2) sc_law.nd rfl (by first|exact Or.inl rfl|exact Or.inr rfl)) zgj)))
   (zaf (zaJ (i:=3) sc_law.nd rfl (by first|exact Or.inl rfl|exact Or.inr rfl) (pe_h G_law_number hr zcW (zaa (pv 2) (zaa (pv 1) zae))))
   (zaf (zaJ (i:=4) sc_law.nd rfl (by first|exact Or.inl rfl|exact Or.inr rfl) (zaU zdL (pv 3) zai))
   (zaf (zaJ (i:=5) sc_law.nd rfl (by first|exact Or.inl rfl|exact Or.inr rfl) (pe_h G_law_lines hr zcW (zaa (pv 4) (zaa (zaU zds zai (zaU zdL (zaU zdB (pv 3) zai) zai)) (zaa (zaU zds zai (zaU zdL (zaU zdB (pv 3) zai) zai)) zae)))))
   (zaf (zpU (pe_h G_law_spoiled hr zcW (zaa (pv 4) (zaa (pv 5) (zaa (zaU zdB (pv 3) zai) zae)))) (zmQ rfl (zcD (za4 (i:=6) sc_law.nd rfl (by first|exact Or.inl rfl|exact Or.inr rfl)) (zcD (za4 (i:=7) sc_law.nd rfl (by first|exact Or.inl rfl|exact Or.inr rfl)) zgj))))
   (zaf (zb4 (znK (zfr (pe_h G_law_refused hr zcW (zaa (ze2 PySem.F.plainAttrs_str PySem.F.slot_str_join PySem.F.type_str_join ziL zaA (zaa (pv 6) zae)) (zaa (zaU zdL (pe_h G_law_number hr zcW (zaa (pv 2) (zaa (zaU zds (pv 1) zai) zae))) zai) (zaa (pv 7) zae))))))
   (zan (zaL ziH))
   za0)
   (zan (zb4 (zaX zqm (pe_h G_law_caught hr zcW (zaa (ze2 PySem.F.plainAttrs_str PySem.F.slot_str_join PySem.F.type_str_join ziL zaA (zaa (pv 5) zae)) (zaa zai zae))) zod (zaF _))
   (zan (zaL ziH))
   za0))))))))
   (zan (zaL ziH))),zco (K:=(KX K ad)) (XO:=(xoK (KX K ad))) (E:=E) (np:=1) (nv:=7) (m:=zrY)
   (zam (zc4 (zni (zac ((zeK zeD ((zbl (zac zag zak))).e.r ((zbx zad zfA (zbT zag))).e.r)).e zak)) (zjS (zcE zau (zcE zau zgt)))
   (zam (zaR (zby (zac zal (zac zal zak))) zau)
   (zam (zaR (zao zdE zad (zag).r) zau)
   (zam (zaR ((zei (zac zal (zac (zao zdu (zag).r ((zao zdE ((zao zfS zad (zag).r)).r (zag).r)).r) (zac (zao zdu (zag).r ((zao zdE ((zao zfS zad (zag).r)).r (zag).r)).r) zak))))).e zau)
   (zam (zaR ((zei (zac zal (zac zal (zac (zao zfS zad (zag).r) zak))))).e (zrh (zcE zau (zcE zau zgt))))
   (zam (zb8 (znZ (st_b (zby (zac (ziC zal) (zac (zao zdE ((zby (zac zal (zac (zao zdu zad (zag).r) zak)))).r (zag).r) (zac zal zak))))))
   (za9 zil)
   za1)
   (zb8 (zaV (zao zpt ((zby (zac (ziC zal) (zac zag zak)))).r (zmZ).r))
   (za9 zil)
   za1)))))))
   (za9 zil)) rfl (zsl (f:=zr5) (law_true ns hlen) hS hq)⟩
end
theorem all_mk {l:PySem.W.OpenLaw} {w:World} {K:PySem.W.Frag} {h:Heap} {mg:Str→Option Value} {fa:Addr} (X:K.In h) (G:h.Ns mainGlobals mg) (hfa:mg "law"=some (.ref fa))
  (d0:∃f fd,DefAt K "_law_number" ze4 f fd)
  (d1:∃f fd,DefAt K "_law_lines" zfv f fd)
  (d2:∃f fd,DefAt K "_law_first" zfx f fd)
  (d3:∃f fd,DefAt K "_law_spoiled" zeo f fd)
  (d4:∃f fd,DefAt K "refuse_where" zd8 f fd)
  (d5:∃f fd,DefAt K "refuse_word_count" zcM f fd)
  (d6:∃f fd,DefAt K "is_number" zeB f fd)
  (d7:∃f fd,DefAt K "number_in" zfC f fd)
  (d8:∃f fd,DefAt K "common_factor" zdJ f fd)
  (d9:∃f fd,DefAt K "amount_in" zey f fd)
  (d10:∃f fd,DefAt K "set_in" ziA f fd)
  (d11:∃f fd,DefAt K "common_multiple" zdb f fd)
  (d12:∃f fd,DefAt K "unit_of" zhg f fd)
  (d13:∃f fd,DefAt K "by_the_unit" zeA f fd)
  (d14:∃f fd,DefAt K "read_cover" zdl f fd)
  (d15:∃f fd,DefAt K "line_in" zhz f fd)
  (d16:∃f fd,DefAt K "all_by_the_unit" zcr f fd)
  (d17:∃f fd,DefAt K "read_touch" zd1 f fd)
  (d18:∃f fd,DefAt K "table_in" zfi f fd)
  (d19:∃f fd,DefAt K "read_lengths" zdf f fd)
  (d20:∃f fd,DefAt K "read_round" ze6 f fd)
  (d21:∃f fd,DefAt K "read_places" zen f fd)
  (d22:∃f fd,DefAt K "amount_above_nought" zch f fd)
  (d23:∃f fd,DefAt K "read_benches" zde f fd)
  (d24:∃f fd,DefAt K "read_bins" zev f fd)
  (d25:∃f fd,DefAt K "thing_in" zgq f fd)
  (d26:∃f fd,DefAt K "read_sack" zep f fd)
  (d27:∃f fd,DefAt K "read_rows" zfI f fd)
  (d28:∃f fd,DefAt K "refuse_missing" zdo f fd)
  (d29:∃f fd,DefAt K "look_at" zhe f fd)
  (d30:∃f fd,DefAt K "refuse_too_great" zc3 f fd)
  (d31:∃f fd,DefAt K "refuse_given" zd7 f fd)
  (d32:∃f fd,DefAt K "read" zk2 f fd)
  (d33:∃f fd,DefAt K "house_answer" zeb f fd)
  (d34:∃f fd,DefAtD K "best_told" zfB f fd (.int 2000))
  (d35:∃f fd,DefAt K "_law_asked" zfz f fd)
  (d36:∃f fd,DefAt K "_law_caught" zeT f fd)
  (d37:∃f fd,DefAt K "_law_refused" zeq f fd)
  {fL:Addr} {oc:Value} {od an:Option Addr} {osl:Array (Option Value)} {kV doc pm cdv ct:Value} (aL:PySem.W.nsIn K mainGlobals "law"=some (some (.ref fL)))
  (lL:K.lookup fL=some ⟨oc,od,.func (PySem.W.fnOf "law" "law" (zcJ zii) (zcd zii) (zap zii) .none kV doc pm an cdv ct),osl⟩) (cL:PySem.W.codeIn K cdv "law"=true) (kL:PySem.W.keepIn K (.ref fL)=true)
  (z0:PySem.W.nsIn K mainGlobals "len"=some none)
  (z1:PySem.W.nsIn K mainGlobals "abs"=some none)
  (z2:PySem.W.nsIn K mainGlobals "isinstance"=some none)
  (z3:PySem.W.nsIn K mainGlobals "int"=some none)
  (z4:PySem.W.nsIn K mainGlobals "bool"=some none)
  (z5:PySem.W.nsIn K mainGlobals "str"=some none)
  (z6:PySem.W.nsIn K mainGlobals "range"=some none)
  (z7:PySem.W.nsIn K mainGlobals "enumerate"=some none)
  (z8:PySem.W.nsIn K mainGlobals "all"=some none)
  (z9:PySem.W.nsIn K mainGlobals "any"=some none)
  (z10:PySem.W.nsIn K mainGlobals "ValueError"=some none)
  {cEnoughError cNoShare cNoLengths cTooMany cNoCover cNoRoom cNoText:Addr}
  {tkFIGURES tkMOST_FIGURES tkMOST_BOTTOM tkMOST_THINGS tkMOST_LINES tkMOST_PLACES tkMOST_BENCHES:Tok}
  {fNoCover:Addr} {ocNoCover:Value} {odNoCover anNoCover:Option Addr} {oslNoCover:Array (Option Value)} {kVNoCover docNoCover pmNoCover cdvNoCover ctNoCover:Value}
  {fNoRoom:Addr} {ocNoRoom:Value} {odNoRoom anNoRoom:Option Addr} {oslNoRoom:Array (Option Value)} {kVNoRoom docNoRoom pmNoRoom cdvNoRoom ctNoRoom:Value}
  {fNoText:Addr} {ocNoText:Value} {odNoText anNoText:Option Addr} {oslNoText:Array (Option Value)} {kVNoText docNoText pmNoText cdvNoText ctNoText:Value}
  (gv_FIGURES:PySem.W.nsIn K mainGlobals "FIGURES"=some (some (.str "0123456789" tkFIGURES)))
  (gv_MOST_FIGURES:PySem.W.nsIn K mainGlobals "MOST_FIGURES"=some (some (.int 12 tkMOST_FIGURES)))
  (gv_MOST_BOTTOM:PySem.W.nsIn K mainGlobals "MOST_BOTTOM"=some (some (.int 12 tkMOST_BOTTOM)))
  (gv_MOST_THINGS:PySem.W.nsIn K mainGlobals "MOST_THINGS"=some (some (.int 40 tkMOST_THINGS)))
  (gv_MOST_LINES:PySem.W.nsIn K mainGlobals "MOST_LINES"=some (some (.int 80 tkMOST_LINES)))
  (gv_MOST_PLACES:PySem.W.nsIn K mainGlobals "MOST_PLACES"=some (some (.int 12 tkMOST_PLACES)))
  (gv_MOST_BENCHES:PySem.W.nsIn K mainGlobals "MOST_BENCHES"=some (some (.int 20 tkMOST_BENCHES)))
  (un_EnoughError:PySem.W.nsIn K mainGlobals "EnoughError"=some (some (.ref cEnoughError)))
  (un_NoShare:PySem.W.nsIn K mainGlobals "NoShare"=some (some (.ref cNoShare)))
  (un_NoLengths:PySem.W.nsIn K mainGlobals "NoLengths"=some (some (.ref cNoLengths)))
  (un_TooMany:PySem.W.nsIn K mainGlobals "TooMany"=some (some (.ref cTooMany)))
  (un_NoCover:PySem.W.nsIn K mainGlobals "NoCover"=some (some (.ref cNoCover)))
  (un_NoRoom:PySem.W.nsIn K mainGlobals "NoRoom"=some (some (.ref cNoRoom)))
  (un_NoText:PySem.W.nsIn K mainGlobals "NoText"=some (some (.ref cNoText)))
  (ui_NoCover:PySem.W.findIn K (.ref cNoCover) "__init__"=some (some (.ref fNoCover)))
  (ul_NoCover:K.lookup fNoCover=some ⟨ocNoCover,odNoCover,.func (PySem.W.fnOf "__init__" "NoCover.__init__" (zcJ zcb) (zcd zcb) (zap zcb) .none kVNoCover docNoCover pmNoCover anNoCover cdvNoCover ctNoCover),oslNoCover⟩)
  (uc_NoCover:PySem.W.codeIn K cdvNoCover "NoCover.__init__"=true)
  (uk_NoCover:PySem.W.keepIn K (.ref fNoCover)=true)
  (ux_NoCover:zfq K cNoCover [.type "ValueError",.type "Exception",.type "BaseException",.type "object"] "ValueError.__new__" fNoCover=true)
  (uf_NoCover:PySem.W.isFn K (.ref fNoCover)=true)
  (una_NoCover:PySem.W.findIn K (.ref cNoCover) "thing"=some none)
  (usa_NoCover:PySem.W.findIn K (.ref cNoCover) "__setattr__"=some (some (.builtin "object.__setattr__")))
  (uov_NoCover:zmo K cNoCover=true)
  (ui_NoRoom:PySem.W.findIn K (.ref cNoRoom) "__init__"=some (some (.ref fNoRoom)))
  (ul_NoRoom:K.lookup fNoRoom=some ⟨ocNoRoom,odNoRoom,.func (PySem.W.fnOf "__init__" "NoRoom.__init__" (zcJ zcv) (zcd zcv) (zap zcv) .none kVNoRoom docNoRoom pmNoRoom anNoRoom cdvNoRoom ctNoRoom),oslNoRoom⟩)
  (uc_NoRoom:PySem.W.codeIn K cdvNoRoom "NoRoom.__init__"=true)
  (uk_NoRoom:PySem.W.keepIn K (.ref fNoRoom)=true)
  (ux_NoRoom:zfq K cNoRoom [.type "ValueError",.type "Exception",.type "BaseException",.type "object"] "ValueError.__new__" fNoRoom=true)
  (uf_NoRoom:PySem.W.isFn K (.ref fNoRoom)=true)
  (una_NoRoom:PySem.W.findIn K (.ref cNoRoom) "thing"=some none)
  (usa_NoRoom:PySem.W.findIn K (.ref cNoRoom) "__setattr__"=some (some (.builtin "object.__setattr__")))
  (uov_NoRoom:zmo K cNoRoom=true)
  (ui_NoText:PySem.W.findIn K (.ref cNoText) "__init__"=some (some (.ref fNoText)))
  (ul_NoText:K.lookup fNoText=some ⟨ocNoText,odNoText,.func (PySem.W.fnOf "__init__" "NoText.__init__" (zcJ zct) (zcd zct) (zap zct) .none kVNoText docNoText pmNoText anNoText cdvNoText ctNoText),oslNoText⟩)
  (uc_NoText:PySem.W.codeIn K cdvNoText "NoText.__init__"=true)
  (uk_NoText:PySem.W.keepIn K (.ref fNoText)=true)
  (ux_NoText:zfq K cNoText [.type "ValueError",.type "Exception",.type "BaseException",.type "object"] "ValueError.__new__" fNoText=true)
  (uf_NoText:PySem.W.isFn K (.ref fNoText)=true)
  (una_NoText:PySem.W.findIn K (.ref cNoText) "line"=some none)
  (usa_NoText:PySem.W.findIn K (.ref cNoText) "__setattr__"=some (some (.builtin "object.__setattr__")))
  (uov_NoText:zmo K cNoText=true)
  (ue_NoLengths:PySem.W.excIn K cNoLengths [.type "ValueError",.type "Exception",.type "BaseException",.type "object"] "ValueError.__new__"=true)
  (ub_EnoughError:PySem.W.mroIn K cEnoughError (.type "BaseException")=some true)
  (uzn:PySem.W.specialIn K (.builtin "object.__class__") "__get__"=some (some (.builtin "getset_descriptor.__get__")))
  (uzt:PySem.W.takesIn K (.builtin "object.__class__")=some true)
  (uhd_EnoughError:PySem.W.hasDictIn K cEnoughError=true)
  (uhd_NoShare:PySem.W.hasDictIn K cNoShare=true)
  (uhd_NoLengths:PySem.W.hasDictIn K cNoLengths=true)
  (uhd_TooMany:PySem.W.hasDictIn K cTooMany=true)
  (uhd_NoCover:PySem.W.hasDictIn K cNoCover=true)
  (uhd_NoRoom:PySem.W.hasDictIn K cNoRoom=true)
  (uhd_NoText:PySem.W.hasDictIn K cNoText=true)
  (uty_EnoughError:PySem.W.typeIn K (.ref cEnoughError)=some (.type "type"))
  (uty_NoShare:PySem.W.typeIn K (.ref cNoShare)=some (.type "type"))
  (uty_NoLengths:PySem.W.typeIn K (.ref cNoLengths)=some (.type "type"))
  (uty_TooMany:PySem.W.typeIn K (.ref cTooMany)=some (.type "type"))
  (uty_NoCover:PySem.W.typeIn K (.ref cNoCover)=some (.type "type"))
  (uty_NoRoom:PySem.W.typeIn K (.ref cNoRoom)=some (.type "type"))
  (uty_NoText:PySem.W.typeIn K (.ref cNoText)=some (.type "type"))
  (uga_NoLengths:PySem.W.findIn K (.ref cNoLengths) "__getattribute__"=some (some (.builtin "BaseException.__getattribute__")))
  (ugn_NoLengths:PySem.W.findIn K (.ref cNoLengths) "__getattr__"=some none)
  (uha_NoLengths:PySem.W.findIn K (.ref cNoLengths) "__class__"=some (some (.builtin "object.__class__")))
  (umr_NoLengths_EnoughError:PySem.W.mroIn K cNoLengths (.ref cEnoughError)=some true)
  (umr_NoLengths_NoShare:PySem.W.mroIn K cNoLengths (.ref cNoShare)=some false)
  (umr_NoLengths_NoLengths:PySem.W.mroIn K cNoLengths (.ref cNoLengths)=some true)
  (umr_NoLengths_TooMany:PySem.W.mroIn K cNoLengths (.ref cTooMany)=some false)
  (umr_NoLengths_NoCover:PySem.W.mroIn K cNoLengths (.ref cNoCover)=some false)
  (umr_NoLengths_NoRoom:PySem.W.mroIn K cNoLengths (.ref cNoRoom)=some false)
  (umr_NoLengths_NoText:PySem.W.mroIn K cNoLengths (.ref cNoText)=some false)
  (umt_NoLengths_object:PySem.W.mroIn K cNoLengths (.type "object")=some true)
  (umt_NoLengths_BaseException:PySem.W.mroIn K cNoLengths (.type "BaseException")=some true)
  (umt_NoLengths_ValueError:PySem.W.mroIn K cNoLengths (.type "ValueError")=some true)
  (uga_NoCover:PySem.W.findIn K (.ref cNoCover) "__getattribute__"=some (some (.builtin "BaseException.__getattribute__")))
  (ugn_NoCover:PySem.W.findIn K (.ref cNoCover) "__getattr__"=some none)
  (uha_NoCover:PySem.W.findIn K (.ref cNoCover) "__class__"=some (some (.builtin "object.__class__")))
  (umr_NoCover_EnoughError:PySem.W.mroIn K cNoCover (.ref cEnoughError)=some true)
  (umr_NoCover_NoShare:PySem.W.mroIn K cNoCover (.ref cNoShare)=some false)
  (umr_NoCover_NoLengths:PySem.W.mroIn K cNoCover (.ref cNoLengths)=some false)
  (umr_NoCover_TooMany:PySem.W.mroIn K cNoCover (.ref cTooMany)=some false)
  (umr_NoCover_NoCover:PySem.W.mroIn K cNoCover (.ref cNoCover)=some true)
  (umr_NoCover_NoRoom:PySem.W.mroIn K cNoCover (.ref cNoRoom)=some false)
  (umr_NoCover_NoText:PySem.W.mroIn K cNoCover (.ref cNoText)=some false)
  (umt_NoCover_object:PySem.W.mroIn K cNoCover (.type "object")=some true)
  (umt_NoCover_BaseException:PySem.W.mroIn K cNoCover (.type "BaseException")=some true)
  (umt_NoCover_ValueError:PySem.W.mroIn K cNoCover (.type "ValueError")=some true)
  (uga_NoRoom:PySem.W.findIn K (.ref cNoRoom) "__getattribute__"=some (some (.builtin "BaseException.__getattribute__")))
  (ugn_NoRoom:PySem.W.findIn K (.ref cNoRoom) "__getattr__"=some none)
  (uha_NoRoom:PySem.W.findIn K (.ref cNoRoom) "__class__"=some (some (.builtin "object.__class__")))
  (umr_NoRoom_EnoughError:PySem.W.mroIn K cNoRoom (.ref cEnoughError)=some true)
  (umr_NoRoom_NoShare:PySem.W.mroIn K cNoRoom (.ref cNoShare)=some false)
  (umr_NoRoom_NoLengths:PySem.W.mroIn K cNoRoom (.ref cNoLengths)=some false)
  (umr_NoRoom_TooMany:PySem.W.mroIn K cNoRoom (.ref cTooMany)=some false)
  (umr_NoRoom_NoCover:PySem.W.mroIn K cNoRoom (.ref cNoCover)=some false)
  (umr_NoRoom_NoRoom:PySem.W.mroIn K cNoRoom (.ref cNoRoom)=some true)
  (umr_NoRoom_NoText:PySem.W.mroIn K cNoRoom (.ref cNoText)=some false)
  (umt_NoRoom_object:PySem.W.mroIn K cNoRoom (.type "object")=some true)
  (umt_NoRoom_BaseException:PySem.W.mroIn K cNoRoom (.type "BaseException")=some true)
  (umt_NoRoom_ValueError:PySem.W.mroIn K cNoRoom (.type "ValueError")=some true)
  (uga_NoText:PySem.W.findIn K (.ref cNoText) "__getattribute__"=some (some (.builtin "BaseException.__getattribute__")))
  (ugn_NoText:PySem.W.findIn K (.ref cNoText) "__getattr__"=some none)
  (uha_NoText:PySem.W.findIn K (.ref cNoText) "__class__"=some (some (.builtin "object.__class__")))
  (umr_NoText_EnoughError:PySem.W.mroIn K cNoText (.ref cEnoughError)=some true)
  (umr_NoText_NoShare:PySem.W.mroIn K cNoText (.ref cNoShare)=some false)
  (umr_NoText_NoLengths:PySem.W.mroIn K cNoText (.ref cNoLengths)=some false)
  (umr_NoText_TooMany:PySem.W.mroIn K cNoText (.ref cTooMany)=some false)
  (umr_NoText_NoCover:PySem.W.mroIn K cNoText (.ref cNoCover)=some false)
  (umr_NoText_NoRoom:PySem.W.mroIn K cNoText (.ref cNoRoom)=some false)
  (umr_NoText_NoText:PySem.W.mroIn K cNoText (.ref cNoText)=some true)
  (umt_NoText_object:PySem.W.mroIn K cNoText (.type "object")=some true)
  (umt_NoText_BaseException:PySem.W.mroIn K cNoText (.type "BaseException")=some true)
  (umt_NoText_ValueError:PySem.W.mroIn K cNoText (.type "ValueError")=some true)
  : ∃fd:FuncData,(∀(s:Shared) (v:Value),BindsTo s fd ⟨[v],[]⟩ [("_law_script",v)])∧∀base:Heap,K.In base→base.Ns mainGlobals mg→BmAt mg base→FnOk l.prog w K mg base CX0 14 fa fd ["_law_script"] (zlx K):=by
 have e:=hfa.symm.trans (PySem.W.mg_of X G aL)
 cases e
 let ad:Adr:=⟨cEnoughError,cNoShare,cNoLengths,cTooMany,cNoCover,cNoRoom,cNoText,fNoCover,fNoRoom,fNoText⟩
 have T:Txt K mg ad:=⟨PySem.W.mg_none_of X G z0,PySem.W.mg_none_of X G z1,PySem.W.mg_none_of X G z2,PySem.W.mg_none_of X G z3,PySem.W.mg_none_of X G z4,PySem.W.mg_none_of X G z5,PySem.W.mg_none_of X G z6,PySem.W.mg_none_of X G z7,PySem.W.mg_none_of X G z8,PySem.W.mg_none_of X G z9,PySem.W.mg_none_of X G z10,⟨_,PySem.W.mg_of X G gv_FIGURES⟩,⟨_,PySem.W.mg_of X G gv_MOST_FIGURES⟩,⟨_,PySem.W.mg_of X G gv_MOST_BOTTOM⟩,⟨_,PySem.W.mg_of X G gv_MOST_THINGS⟩,⟨_,PySem.W.mg_of X G gv_MOST_LINES⟩,⟨_,PySem.W.mg_of X G gv_MOST_PLACES⟩,⟨_,PySem.W.mg_of X G gv_MOST_BENCHES⟩,PySem.W.mg_of X G un_EnoughError,PySem.W.mg_of X G un_NoShare,PySem.W.mg_of X G un_NoLengths,PySem.W.mg_of X G un_TooMany,PySem.W.mg_of X G un_NoCover,PySem.W.mg_of X G un_NoRoom,PySem.W.mg_of X G un_NoText,ux_NoCover,uf_NoCover,una_NoCover,ux_NoRoom,uf_NoRoom,una_NoRoom,ux_NoText,uf_NoText,una_NoText,ue_NoLengths,ub_EnoughError,⟨uga_NoLengths,ugn_NoLengths,uhd_NoLengths,uha_NoLengths,uzn,uzt,umt_NoLengths_object,umt_NoLengths_BaseException⟩,zhj uhd_EnoughError uty_EnoughError umr_NoLengths_EnoughError,zbE uhd_NoShare uty_NoShare umr_NoLengths_NoShare umr_NoLengths_NoLengths,zbE uhd_NoLengths uty_NoLengths umr_NoLengths_NoLengths umr_NoLengths_NoLengths,zbE uhd_TooMany uty_TooMany umr_NoLengths_TooMany umr_NoLengths_NoLengths,zbE uhd_NoCover uty_NoCover umr_NoLengths_NoCover umr_NoLengths_NoLengths,zbE uhd_NoRoom uty_NoRoom umr_NoLengths_NoRoom umr_NoLengths_NoLengths,zbE uhd_NoText uty_NoText umr_NoLengths_NoText umr_NoLengths_NoLengths,zgR zcS umt_NoLengths_ValueError,⟨uga_NoCover,ugn_NoCover,uhd_NoCover,uha_NoCover,uzn,uzt,umt_NoCover_object,umt_NoCover_BaseException⟩,⟨⟨uga_NoCover,ugn_NoCover,uhd_NoCover,uha_NoCover,uzn,uzt,umt_NoCover_object,umt_NoCover_BaseException⟩,usa_NoCover,uov_NoCover⟩,zhj uhd_EnoughError uty_EnoughError umr_NoCover_EnoughError,zbE uhd_NoShare uty_NoShare umr_NoCover_NoShare umr_NoCover_NoCover,zbE uhd_NoLengths uty_NoLengths umr_NoCover_NoLengths umr_NoCover_NoCover,zbE uhd_TooMany uty_TooMany umr_NoCover_TooMany umr_NoCover_NoCover,zbE uhd_NoCover uty_NoCover umr_NoCover_NoCover umr_NoCover_NoCover,zbE uhd_NoRoom uty_NoRoom umr_NoCover_NoRoom umr_NoCover_NoCover,zbE uhd_NoText uty_NoText umr_NoCover_NoText umr_NoCover_NoCover,zgR zcS umt_NoCover_ValueError,⟨uga_NoRoom,ugn_NoRoom,uhd_NoRoom,uha_NoRoom,uzn,uzt,umt_NoRoom_object,umt_NoRoom_BaseException⟩,⟨⟨uga_NoRoom,ugn_NoRoom,uhd_NoRoom,uha_NoRoom,uzn,uzt,umt_NoRoom_object,umt_NoRoom_BaseException⟩,usa_NoRoom,uov_NoRoom⟩,zhj uhd_EnoughError uty_EnoughError umr_NoRoom_EnoughError,zbE uhd_NoShare uty_NoShare umr_NoRoom_NoShare umr_NoRoom_NoRoom,zbE uhd_NoLengths uty_NoLengths umr_NoRoom_NoLengths umr_NoRoom_NoRoom,zbE uhd_TooMany uty_TooMany umr_NoRoom_TooMany umr_NoRoom_NoRoom,zbE uhd_NoCover uty_NoCover umr_NoRoom_NoCover umr_NoRoom_NoRoom,zbE uhd_NoRoom uty_NoRoom umr_NoRoom_NoRoom umr_NoRoom_NoRoom,zbE uhd_NoText uty_NoText umr_NoRoom_NoText umr_NoRoom_NoRoom,zgR zcS umt_NoRoom_ValueError,⟨uga_NoText,ugn_NoText,uhd_NoText,uha_NoText,uzn,uzt,umt_NoText_object,umt_NoText_BaseException⟩,⟨⟨uga_NoText,ugn_NoText,uhd_NoText,uha_NoText,uzn,uzt,umt_NoText_object,umt_NoText_BaseException⟩,usa_NoText,uov_NoText⟩,zhj uhd_EnoughError uty_EnoughError umr_NoText_EnoughError,zbE uhd_NoShare uty_NoShare umr_NoText_NoShare umr_NoText_NoText,zbE uhd_NoLengths uty_NoLengths umr_NoText_NoLengths umr_NoText_NoText,zbE uhd_TooMany uty_TooMany umr_NoText_TooMany umr_NoText_NoText,zbE uhd_NoCover uty_NoCover umr_NoText_NoCover umr_NoText_NoText,zbE uhd_NoRoom uty_NoRoom umr_NoText_NoRoom umr_NoText_NoText,zbE uhd_NoText uty_NoText umr_NoText_NoText umr_NoText_NoText,zgR zcS umt_NoText_ValueError⟩
 obtain⟨f0,g0,D0⟩:=d0
 obtain⟨f1,g1,D1⟩:=d1
 obtain⟨f2,g2,D2⟩:=d2
 obtain⟨f3,g3,D3⟩:=d3
 obtain⟨f4,g4,D4⟩:=d4
 obtain⟨f5,g5,D5⟩:=d5
 obtain⟨f6,g6,D6⟩:=d6
 obtain⟨f7,g7,D7⟩:=d7
 obtain⟨f8,g8,D8⟩:=d8
 obtain⟨f9,g9,D9⟩:=d9
 obtain⟨f10,g10,D10⟩:=d10
 obtain⟨f11,g11,D11⟩:=d11
 obtain⟨f12,g12,D12⟩:=d12
 obtain⟨f13,g13,D13⟩:=d13
 obtain⟨f14,g14,D14⟩:=d14
 obtain⟨f15,g15,D15⟩:=d15
 obtain⟨f16,g16,D16⟩:=d16
 obtain⟨f17,g17,D17⟩:=d17
 obtain⟨f18,g18,D18⟩:=d18
 obtain⟨f19,g19,D19⟩:=d19
 obtain⟨f20,g20,D20⟩:=d20
 obtain⟨f21,g21,D21⟩:=d21
 obtain⟨f22,g22,D22⟩:=d22
 obtain⟨f23,g23,D23⟩:=d23
 obtain⟨f24,g24,D24⟩:=d24
 obtain⟨f25,g25,D25⟩:=d25
 obtain⟨f26,g26,D26⟩:=d26
 obtain⟨f27,g27,D27⟩:=d27
 obtain⟨f28,g28,D28⟩:=d28
 obtain⟨f29,g29,D29⟩:=d29
 obtain⟨f30,g30,D30⟩:=d30
 obtain⟨f31,g31,D31⟩:=d31
 obtain⟨f32,g32,D32⟩:=d32
 obtain⟨f33,g33,D33⟩:=d33
 obtain⟨f34,g34,D34⟩:=d34
 obtain⟨f35,g35,D35⟩:=d35
 obtain⟨f36,g36,D36⟩:=d36
 obtain⟨f37,g37,D37⟩:=d37
 have FL:=zjt (st:=zii) lL cL kL
 refine⟨PySem.W.fnOf "law" "law" (zcJ zii) (zcd zii) (zap zii) .none kV doc pm an cdv ct,fun s v=>.of_eq rfl,fun base _ _ _=>?_⟩
 have F_NoCover:=zjt (st:=zcb) ul_NoCover uc_NoCover uk_NoCover
 have I_NoCover:HasI l.prog w K mg base fNoCover ["self","thing"] (spI K "thing"):=⟨_,zht F_NoCover,F_NoCover.binds fun _ _ _ _ _ _ us hl=>match us,hl with|[_,_],_=>rfl⟩
 have F_NoRoom:=zjt (st:=zcv) ul_NoRoom uc_NoRoom uk_NoRoom
 have I_NoRoom:HasI l.prog w K mg base fNoRoom ["self","thing"] (spI K "thing"):=⟨_,zhK F_NoRoom,F_NoRoom.binds fun _ _ _ _ _ _ us hl=>match us,hl with|[_,_],_=>rfl⟩
 have F_NoText:=zjt (st:=zct) ul_NoText uc_NoText uk_NoText
 have I_NoText:HasI l.prog w K mg base fNoText ["self","line"] (spI K "line"):=⟨_,zhO F_NoText,F_NoText.binds fun _ _ _ _ _ _ us hl=>match us,hl with|[_,_],_=>rfl⟩
 have G_law_number:Has l.prog w K mg base CX0 1 "_law_number" ["_law_cell","_law_k"] (spM (KX K ad) (xoK (KX K ad)) zbZ):=D0.has X G (ziP D0.fn T  ) (D0.fn.binds fun _ _ _ _ _ _ us hl=>match us,hl with|[_,_],_=>rfl)
 have G_law_lines:Has l.prog w K mg base CX0 1 "_law_lines" ["_law_kind","_law_first_here","_law_second"] (spO (KX K ad) (xoK (KX K ad)) zbt):=D1.has X G (zju D1.fn T  ) (D1.fn.binds fun _ _ _ _ _ _ us hl=>match us,hl with|[_,_,_],_=>rfl)
 have G_law_first:Has l.prog w K mg base CX0 1 "_law_first" ["_law_kind","_law_words","_law_number_here"] (spM (KX K ad) (xoK (KX K ad)) zcI):=D2.has X G (zjp D2.fn T  ) (D2.fn.binds fun _ _ _ _ _ _ us hl=>match us,hl with|[_,_,_],_=>rfl)
 have G_law_spoiled:Has l.prog w K mg base CX0 2 "_law_spoiled" ["_law_kind","_law_lines_here","_law_number_here"] (spO (KX K ad) (xoK (KX K ad)) zbr):=D3.has X G (zhP D3.fn T  G_law_first) (D3.fn.binds fun _ _ _ _ _ _ us hl=>match us,hl with|[_,_,_],_=>rfl)
 have G_refuse_where:Has l.prog w K mg base (CX1 l.prog w) 3 "refuse_where" ["wrong","line"] (spM (KX K ad) (xoK (KX K ad)) zah):=D4.has X G (zhb D4.fn T  I_NoText) (D4.fn.binds fun _ _ _ _ _ _ us hl=>match us,hl with|[_,_],_=>rfl)
 have G_refuse_word_count:Has l.prog w K mg base (CX1 l.prog w) 4 "refuse_word_count" ["words","least","most","line"] (spM (KX K ad) (xoK (KX K ad)) zaq):=D5.has X G (zfn D5.fn T  G_refuse_where) (D5.fn.binds fun _ _ _ _ _ _ us hl=>match us,hl with|[_,_,_,_],_=>rfl)
 have G_is_number:Has l.prog w K mg base CX0 1 "is_number" ["word"] (spM (KX K ad) (xoK (KX K ad)) zbB):=D6.has X G (zjX D6.fn T  ) (D6.fn.binds fun _ _ _ _ _ _ us hl=>match us,hl with|[_],_=>rfl)
 have G_number_in:Has l.prog w K mg base (CX1 l.prog w) 4 "number_in" ["word","least","most","line"] (spM (KX K ad) (xoK (KX K ad)) zaC):=D7.has X G (zj8 D7.fn T  G_refuse_where G_is_number) (D7.fn.binds fun _ _ _ _ _ _ us hl=>match us,hl with|[_,_,_,_],_=>rfl)
 have G_common_factor:Has l.prog w K mg base CX0 1 "common_factor" ["one","other"] (spM (KX K ad) (xoK (KX K ad)) zbw):=D8.has X G (zgP D8.fn T  ) (D8.fn.binds fun _ _ _ _ _ _ us hl=>match us,hl with|[_,_],_=>rfl)
 have G_amount_in:Has l.prog w K mg base (CX1 l.prog w) 4 "amount_in" ["word","line"] (spM (KX K ad) (xoK (KX K ad)) zaO):=D9.has X G (zjL D9.fn T  G_refuse_where G_is_number G_common_factor) (D9.fn.binds fun _ _ _ _ _ _ us hl=>match us,hl with|[_,_],_=>rfl)
 have G_set_in:Has l.prog w K mg base (CX1 l.prog w) 5 "set_in" ["words","many","line"] (spM (KX K ad) (xoK (KX K ad)) zcV):=D10.has X G (zmW D10.fn T  G_refuse_where G_number_in G_amount_in) (D10.fn.binds fun _ _ _ _ _ _ us hl=>match us,hl with|[_,_,_],_=>rfl)
 have G_common_multiple:Has l.prog w K mg base CX0 2 "common_multiple" ["one","other"] (spM (KX K ad) (xoK (KX K ad)) zbJ):=D11.has X G (zgb D11.fn T  G_common_factor) (D11.fn.binds fun _ _ _ _ _ _ us hl=>match us,hl with|[_,_],_=>rfl)
 have G_unit_of:Has l.prog w K mg base CX0 3 "unit_of" ["amounts"] (spM (KX K ad) (xoK (KX K ad)) zbM):=D12.has X G (zl3 D12.fn T  G_common_multiple) (D12.fn.binds fun _ _ _ _ _ _ us hl=>match us,hl with|[_],_=>rfl)
 have G_by_the_unit:Has l.prog w K mg base CX0 1 "by_the_unit" ["amount","unit"] (spM (KX K ad) (xoK (KX K ad)) zbj):=D13.has X G (zhN D13.fn T  ) (D13.fn.binds fun _ _ _ _ _ _ us hl=>match us,hl with|[_,_],_=>rfl)
 have G_read_cover:Has l.prog w K mg base (CX1 l.prog w) 6 "read_cover" ["rows"] (spM (KX K ad) (xoK (KX K ad)) zbI):=D14.has X G (ziO D14.fn T  G_refuse_where G_refuse_word_count G_number_in G_set_in G_unit_of G_by_the_unit) (D14.fn.binds fun _ _ _ _ _ _ us hl=>match us,hl with|[_],_=>rfl)
 have G_line_in:Has l.prog w K mg base (CX1 l.prog w) 5 "line_in" ["words","points","line"] (spM (KX K ad) (xoK (KX K ad)) zcX):=D15.has X G (zlM D15.fn T  G_refuse_where G_refuse_word_count G_number_in) (D15.fn.binds fun _ _ _ _ _ _ us hl=>match us,hl with|[_,_,_],_=>rfl)
 have G_all_by_the_unit:Has l.prog w K mg base CX0 2 "all_by_the_unit" ["amounts","unit"] (spO (KX K ad) (xoK (KX K ad)) zaT):=D16.has X G (zgg D16.fn T  G_by_the_unit) (D16.fn.binds fun _ _ _ _ _ _ us hl=>match us,hl with|[_,_],_=>rfl)
 have G_read_touch:Has l.prog w K mg base (CX1 l.prog w) 6 "read_touch" ["rows"] (spM (KX K ad) (xoK (KX K ad)) zbH):=D17.has X G (ziX D17.fn T  G_refuse_where G_refuse_word_count G_amount_in G_unit_of G_line_in G_all_by_the_unit) (D17.fn.binds fun _ _ _ _ _ _ us hl=>match us,hl with|[_],_=>rfl)
 have G_table_in:Has l.prog w K mg base (CX1 l.prog w) 5 "table_in" ["rows"] (spO (KX K ad) (xoK (KX K ad)) zcc):=D18.has X G (zkz D18.fn T  G_refuse_where G_amount_in) (D18.fn.binds fun _ _ _ _ _ _ us hl=>match us,hl with|[_],_=>rfl)
 have G_read_lengths:Has l.prog w K mg base (CX1 l.prog w) 6 "read_lengths" ["rows"] (spM (KX K ad) (xoK (KX K ad)) zbG):=D19.has X G (zhv D19.fn T  G_unit_of G_all_by_the_unit G_table_in) (D19.fn.binds fun _ _ _ _ _ _ us hl=>match us,hl with|[_],_=>rfl)
 have G_read_round:Has l.prog w K mg base (CX1 l.prog w) 7 "read_round" ["rows"] (spM (KX K ad) (xoK (KX K ad)) zbP):=D20.has X G (ziT D20.fn T  G_refuse_word_count G_read_lengths) (D20.fn.binds fun _ _ _ _ _ _ us hl=>match us,hl with|[_],_=>rfl)
 have G_read_places:Has l.prog w K mg base (CX1 l.prog w) 7 "read_places" ["rows"] (spM (KX K ad) (xoK (KX K ad)) zbp):=D21.has X G (zhV D21.fn T  G_refuse_where G_refuse_word_count G_number_in G_read_lengths) (D21.fn.binds fun _ _ _ _ _ _ us hl=>match us,hl with|[_],_=>rfl)
 have G_amount_above_nought:Has l.prog w K mg base (CX1 l.prog w) 5 "amount_above_nought" ["word","line"] (spM (KX K ad) (xoK (KX K ad)) zav):=D22.has X G (zeM D22.fn T  G_refuse_where G_amount_in) (D22.fn.binds fun _ _ _ _ _ _ us hl=>match us,hl with|[_,_],_=>rfl)
 have G_read_benches:Has l.prog w K mg base (CX1 l.prog w) 6 "read_benches" ["rows"] (spM (KX K ad) (xoK (KX K ad)) zbo):=D23.has X G (zg1 D23.fn T  G_refuse_where G_refuse_word_count G_number_in G_unit_of G_all_by_the_unit G_amount_above_nought) (D23.fn.binds fun _ _ _ _ _ _ us hl=>match us,hl with|[_],_=>rfl)
 have G_read_bins:Has l.prog w K mg base (CX1 l.prog w) 6 "read_bins" ["rows"] (spM (KX K ad) (xoK (KX K ad)) zb7):=D24.has X G (zjF D24.fn T  G_refuse_where G_refuse_word_count G_unit_of G_all_by_the_unit G_amount_above_nought) (D24.fn.binds fun _ _ _ _ _ _ us hl=>match us,hl with|[_],_=>rfl)
 have G_thing_in:Has l.prog w K mg base (CX1 l.prog w) 6 "thing_in" ["words","line"] (spM (KX K ad) (xoK (KX K ad)) zcu):=D25.has X G (zkF D25.fn T  G_refuse_word_count G_amount_in G_amount_above_nought) (D25.fn.binds fun _ _ _ _ _ _ us hl=>match us,hl with|[_,_],_=>rfl)
 have G_read_sack:Has l.prog w K mg base (CX1 l.prog w) 7 "read_sack" ["rows"] (spM (KX K ad) (xoK (KX K ad)) zbR):=D26.has X G (zjQ D26.fn T  G_refuse_where G_refuse_word_count G_amount_in G_unit_of G_by_the_unit G_thing_in) (D26.fn.binds fun _ _ _ _ _ _ us hl=>match us,hl with|[_],_=>rfl)
 have G_read_rows:Has l.prog w K mg base (CX1 l.prog w) 8 "read_rows" ["kind","rows"] (spM (KX K ad) (xoK (KX K ad)) zas):=D27.has X G (zjZ D27.fn T  G_read_cover G_read_touch G_read_round G_read_places G_read_benches G_read_bins G_read_sack I_NoText) (D27.fn.binds fun _ _ _ _ _ _ us hl=>match us,hl with|[_,_],_=>rfl)
 have G_refuse_missing:Has l.prog w K mg base (CX1 l.prog w) 3 "refuse_missing" ["many","sets"] (spM (KX K ad) (xoK (KX K ad)) zbA):=D28.has X G (zgv D28.fn T  I_NoCover) (D28.fn.binds fun _ _ _ _ _ _ us hl=>match us,hl with|[_,_],_=>rfl)
 have G_look_at:Has l.prog w K mg base (CX1 l.prog w) 1 "look_at" ["lengths"] (spM (KX K ad) (xoK (KX K ad)) zdj):=D29.has X G (zmd D29.fn T  ) (D29.fn.binds fun _ _ _ _ _ _ us hl=>match us,hl with|[_],_=>rfl)
 have G_refuse_too_great:Has l.prog w K mg base (CX1 l.prog w) 3 "refuse_too_great" ["sizes","room"] (spM (KX K ad) (xoK (KX K ad)) zbz):=D30.has X G (zfL D30.fn T  I_NoRoom) (D30.fn.binds fun _ _ _ _ _ _ us hl=>match us,hl with|[_,_],_=>rfl)
 have G_refuse_given:Has l.prog w K mg base (CX1 l.prog w) 4 "refuse_given" ["kind","given"] (spM (KX K ad) (xoK (KX K ad)) zay):=D31.has X G (zg7 D31.fn T  G_refuse_missing G_look_at G_refuse_too_great) (D31.fn.binds fun _ _ _ _ _ _ us hl=>match us,hl with|[_,_],_=>rfl)
 have G_read:Has l.prog w K mg base (CX1 l.prog w) 9 "read" ["text"] (spM (KX K ad) (xoK (KX K ad)) zcP):=D32.has X G (zqP D32.fn T  G_read_rows G_refuse_given) (D32.fn.binds fun _ _ _ _ _ _ us hl=>match us,hl with|[_],_=>rfl)
 have G_house_answer:Has l.prog w K mg base (CX1 l.prog w) 10 "house_answer" ["text"] (spM (KX K ad) (xoK (KX K ad)) zcz):=D33.has X G (zhh D33.fn T  G_read) (D33.fn.binds fun _ _ _ _ _ _ us hl=>match us,hl with|[_],_=>rfl)
 have G_best_told:HasD l.prog w K mg base (CX1 l.prog w) 10 "best_told" ["text","most"] (spM (KX K ad) (xoK (KX K ad)) zdI) (.int 2000):=D34.has X G (zj1 D34.fn T  G_read) (D34.fn.binds (fun _ _ _ _ _ _ _ _ us hl=>match us,hl with|[_,_],_=>⟨_,rfl,rfl⟩) fun _ _ _ _ _ _ _ _ us hl=>match us,hl with|[_],_=>⟨_,rfl,rfl⟩)
 have G_law_asked:Has l.prog w K mg base (CX1 l.prog w) 11 "_law_asked" ["_law_text","_law_way"] (spM (KX K ad) (xoK (KX K ad)) zcg):=D35.has X G (zj9 D35.fn T  G_read G_house_answer G_best_told) (D35.fn.binds fun _ _ _ _ _ _ us hl=>match us,hl with|[_,_],_=>rfl)
 have G_law_caught:Has l.prog w K mg base CX0 12 "_law_caught" ["_law_text","_law_way"] (spM (KX K ad) (xoK (KX K ad)) zb3):=D36.has X G (ziF D36.fn T  G_law_asked) (D36.fn.binds fun _ _ _ _ _ _ us hl=>match us,hl with|[_,_],_=>rfl)
 have G_law_refused:Has l.prog w K mg base CX0 13 "_law_refused" ["_law_text","_law_way","_law_line"] (spM (KX K ad) (xoK (KX K ad)) zc1):=D37.has X G (zhM D37.fn T  G_law_caught) (D37.fn.binds fun _ _ _ _ _ _ us hl=>match us,hl with|[_,_,_],_=>rfl)
 exact zrt FL T G_law_number G_law_lines G_law_spoiled G_law_caught G_law_refused
theorem walk {l:PySem.W.OpenLaw} {q:Program} {loose:List Str} {XP:(Str→Option Value)→Heap→Prop} {YP:World→Heap→Prop} {d:DefRec} {K:Params→PySem.W.Frag} (hn:l.most=some 63) (hdf:d.params.defaults=[])
  (hY:∀(w:World) (h:Heap),YP w h→(K w.params).In h) {tP:Addr} (hY2:∀(w:World) (h:Heap),YP w h→∀t∈[tP],h.get? t=some (PySem.W.tabObj #[])) (hT:∀w:World,zjh (K w.params) tP=true)
  (F:∀(w:World) (mg:Str→Option Value) (fa:Addr) (h:Heap),(K w.params).In h→h.Ns mainGlobals mg→mg d.name=some (.ref fa) →
   ∃fd:FuncData,(∀(s:Shared) (u:Value),BindsTo s fd ⟨[u],[]⟩ [("_law_script",u)])∧∀base:Heap,(K w.params).In base→base.Ns mainGlobals mg→BmAt mg base→FnOk l.prog w (K w.params) mg base CX0 14 fa fd ["_law_script"] (zlx (K w.params))) :
  PySem.W.WalkO q loose XP YP l.row.toRowW d [] (fun f vs=>PySem.call f vs):=
 L2.walk_ofT (n:=63) (k:=14) (x:="_law_script") (CX:=fun _=>CX0) (sp:=fun w=>zlx (K w.params)) hn (by decide) hdf ⟨rfl,by decide,by decide⟩ hY hY2 hT F (fun _ _ a ns hl hS=>⟨a,ns,rfl,hS,hl,fun _=>rfl⟩) fun _ _ _ _ _ z=>z
end My
open PySem PySem.W PyProof.Rows
set_option maxRecDepth 100000 in
set_option maxHeartbeats 0 in
theorem PySem.Challenge.cw_goodenough_k57_first_lines_refused_holds : PySem.Challenge.rw_goodenough_k57_first_lines_refused.Holds := by
 refine hd_top ?_
 k_fill
 refine My.walk (l:=PySem.Challenge.rw_goodenough_k57_first_lines_refused) rfl rfl (fun w h Y=>by first|exact PySem.W.kIn_of Y|exact PySem.W.km_in_of Y) (fun w h Y=>PySem.W.km_tabs_of Y) ?tab ?F
 (case tab=>intro w;kernel_rfl)
 case F=>
  intro w mg fa h KX G hmg
  refine' My.all_mk KX G hmg (L2.defAt_mk ?a0 ?l0 ?c0 ?k0) (L2.defAt_mk ?a1 ?l1 ?c1 ?k1) (L2.defAt_mk ?a2 ?l2 ?c2 ?k2) (L2.defAt_mk ?a3 ?l3 ?c3 ?k3) (L2.defAt_mk ?a4 ?l4 ?c4 ?k4) (L2.defAt_mk ?a5 ?l5 ?c5 ?k5) (L2.defAt_mk ?a6 ?l6 ?c6 ?k6) (L2.defAt_mk ?a7 ?l7 ?c7 ?k7) (L2.defAt_mk ?a8 ?l8 ?c8 ?k8) (L2.defAt_mk ?a9 ?l9 ?c9 ?k9) (L2.defAt_mk ?a10 ?l10 ?c10 ?k10) (L2.defAt_mk ?a11 ?l11 ?c11 ?k11) (L2.defAt_mk ?a12 ?l12 ?c12 ?k12) (L2.defAt_mk ?a13 ?l13 ?c13 ?k13) (L2.defAt_mk ?a14 ?l14 ?c14 ?k14) (L2.defAt_mk ?a15 ?l15 ?c15 ?k15) (L2.defAt_mk ?a16 ?l16 ?c16 ?k16) (L2.defAt_mk ?a17 ?l17 ?c17 ?k17) (L2.defAt_mk ?a18 ?l18 ?c18 ?k18) (L2.defAt_mk ?a19 ?l19 ?c19 ?k19) (L2.defAt_mk ?a20 ?l20 ?c20 ?k20) (L2.defAt_mk ?a21 ?l21 ?c21 ?k21) (L2.defAt_mk ?a22 ?l22 ?c22 ?k22) (L2.defAt_mk ?a23 ?l23 ?c23 ?k23) (L2.defAt_mk ?a24 ?l24 ?c24 ?k24) (L2.defAt_mk ?a25 ?l25 ?c25 ?k25) (L2.defAt_mk ?a26 ?l26 ?c26 ?k26) (L2.defAt_mk ?a27 ?l27 ?c27 ?k27) (L2.defAt_mk ?a28 ?l28 ?c28 ?k28) (L2.defAt_mk ?a29 ?l29 ?c29 ?k29) (L2.defAt_mk ?a30 ?l30 ?c30 ?k30) (L2.defAt_mk ?a31 ?l31 ?c31 ?k31) (L2.defAt_mk ?a32 ?l32 ?c32 ?k32) (L2.defAt_mk ?a33 ?l33 ?c33 ?k33) (L2.defAtD_mk ?a34 ?l34 ?c34 ?k34 ?t34) (L2.defAt_mk ?a35 ?l35 ?c35 ?k35) (L2.defAt_mk ?a36 ?l36 ?c36 ?k36) (L2.defAt_mk ?a37 ?l37 ?c37 ?k37) ?aL ?lL ?cL ?kL ?z0 ?z1 ?z2 ?z3 ?z4 ?z5 ?z6 ?z7 ?z8 ?z9 ?z10 ?gv_FIGURES ?gv_MOST_FIGURES ?gv_MOST_BOTTOM ?gv_MOST_THINGS ?gv_MOST_LINES ?gv_MOST_PLACES ?gv_MOST_BENCHES ?un_EnoughError ?un_NoShare ?un_NoLengths ?un_TooMany ?un_NoCover ?un_NoRoom ?un_NoText ?ui_NoCover ?ul_NoCover ?uc_NoCover ?uk_NoCover ?ux_NoCover ?uf_NoCover ?una_NoCover ?usa_NoCover ?uov_NoCover ?ui_NoRoom ?ul_NoRoom ?uc_NoRoom ?uk_NoRoom ?ux_NoRoom ?uf_NoRoom ?una_NoRoom ?usa_NoRoom ?uov_NoRoom ?ui_NoText ?ul_NoText ?uc_NoText ?uk_NoText ?ux_NoText ?uf_NoText ?una_NoText ?usa_NoText ?uov_NoText ?ue_NoLengths ?ub_EnoughError ?uzn ?uzt ?uhd_EnoughError ?uhd_NoShare ?uhd_NoLengths ?uhd_TooMany ?uhd_NoCover ?uhd_NoRoom ?uhd_NoText ?uty_EnoughError ?uty_NoShare ?uty_NoLengths ?uty_TooMany ?uty_NoCover ?uty_NoRoom ?uty_NoText ?uga_NoLengths ?ugn_NoLengths ?uha_NoLengths ?umr_NoLengths_EnoughError ?umr_NoLengths_NoShare ?umr_NoLengths_NoLengths ?umr_NoLengths_TooMany ?umr_NoLengths_NoCover ?umr_NoLengths_NoRoom ?umr_NoLengths_NoText ?umt_NoLengths_object ?umt_NoLengths_BaseException ?umt_NoLengths_ValueError ?uga_NoCover ?ugn_NoCover ?uha_NoCover ?umr_NoCover_EnoughError ?umr_NoCover_NoShare ?umr_NoCover_NoLengths ?umr_NoCover_TooMany ?umr_NoCover_NoCover ?umr_NoCover_NoRoom ?umr_NoCover_NoText ?umt_NoCover_object ?umt_NoCover_BaseException ?umt_NoCover_ValueError ?uga_NoRoom ?ugn_NoRoom ?uha_NoRoom ?umr_NoRoom_EnoughError ?umr_NoRoom_NoShare ?umr_NoRoom_NoLengths ?umr_NoRoom_TooMany ?umr_NoRoom_NoCover ?umr_NoRoom_NoRoom ?umr_NoRoom_NoText ?umt_NoRoom_object ?umt_NoRoom_BaseException ?umt_NoRoom_ValueError ?uga_NoText ?ugn_NoText ?uha_NoText ?umr_NoText_EnoughError ?umr_NoText_NoShare ?umr_NoText_NoLengths ?umr_NoText_TooMany ?umr_NoText_NoCover ?umr_NoText_NoRoom ?umr_NoText_NoText ?umt_NoText_object ?umt_NoText_BaseException ?umt_NoText_ValueError
  (case a0=>k_is);(case l0=>k_is);(case c0=>k_is);(case k0=>k_is)
  (case a1=>k_is);(case l1=>k_is);(case c1=>k_is);(case k1=>k_is)
  (case a2=>k_is);(case l2=>k_is);(case c2=>k_is);(case k2=>k_is)
  (case a3=>k_is);(case l3=>k_is);(case c3=>k_is);(case k3=>k_is)
  (case a4=>k_is);(case l4=>k_is);(case c4=>k_is);(case k4=>k_is)
  (case a5=>k_is);(case l5=>k_is);(case c5=>k_is);(case k5=>k_is)
  (case a6=>k_is);(case l6=>k_is);(case c6=>k_is);(case k6=>k_is)
  (case a7=>k_is);(case l7=>k_is);(case c7=>k_is);(case k7=>k_is)
  (case a8=>k_is);(case l8=>k_is);(case c8=>k_is);(case k8=>k_is)
  (case a9=>k_is);(case l9=>k_is);(case c9=>k_is);(case k9=>k_is)
  (case a10=>k_is);(case l10=>k_is);(case c10=>k_is);(case k10=>k_is)
  (case a11=>k_is);(case l11=>k_is);(case c11=>k_is);(case k11=>k_is)
  (case a12=>k_is);(case l12=>k_is);(case c12=>k_is);(case k12=>k_is)
  (case a13=>k_is);(case l13=>k_is);(case c13=>k_is);(case k13=>k_is)
  (case a14=>k_is);(case l14=>k_is);(case c14=>k_is);(case k14=>k_is)
  (case a15=>k_is);(case l15=>k_is);(case c15=>k_is);(case k15=>k_is)
  (case a16=>k_is);(case l16=>k_is);(case c16=>k_is);(case k16=>k_is)
  (case a17=>k_is);(case l17=>k_is);(case c17=>k_is);(case k17=>k_is)
  (case a18=>k_is);(case l18=>k_is);(case c18=>k_is);(case k18=>k_is)
  (case a19=>k_is);(case l19=>k_is);(case c19=>k_is);(case k19=>k_is)
  (case a20=>k_is);(case l20=>k_is);(case c20=>k_is);(case k20=>k_is)
  (case a21=>k_is);(case l21=>k_is);(case c21=>k_is);(case k21=>k_is)
  (case a22=>k_is);(case l22=>k_is);(case c22=>k_is);(case k22=>k_is)
  (case a23=>k_is);(case l23=>k_is);(case c23=>k_is);(case k23=>k_is)
  (case a24=>k_is);(case l24=>k_is);(case c24=>k_is);(case k24=>k_is)
  (case a25=>k_is);(case l25=>k_is);(case c25=>k_is);(case k25=>k_is)
  (case a26=>k_is);(case l26=>k_is);(case c26=>k_is);(case k26=>k_is)
  (case a27=>k_is);(case l27=>k_is);(case c27=>k_is);(case k27=>k_is)
  (case a28=>k_is);(case l28=>k_is);(case c28=>k_is);(case k28=>k_is)
  (case a29=>k_is);(case l29=>k_is);(case c29=>k_is);(case k29=>k_is)
  (case a30=>k_is);(case l30=>k_is);(case c30=>k_is);(case k30=>k_is)
  (case a31=>k_is);(case l31=>k_is);(case c31=>k_is);(case k31=>k_is)
  (case a32=>k_is);(case l32=>k_is);(case c32=>k_is);(case k32=>k_is)
  (case a33=>k_is);(case l33=>k_is);(case c33=>k_is);(case k33=>k_is)
  (case a34=>k_is);(case l34=>k_is);(case c34=>k_is);(case k34=>k_is);(case t34=>k_is)
  (case a35=>k_is);(case l35=>k_is);(case c35=>k_is);(case k35=>k_is)
  (case a36=>k_is);(case l36=>k_is);(case c36=>k_is);(case k36=>k_is)
  (case a37=>k_is);(case l37=>k_is);(case c37=>k_is);(case k37=>k_is)
  (case aL=>k_is);(case lL=>k_is);(case cL=>k_is);(case kL=>k_is)
  (case z0=>k_is)
  (case z1=>k_is)
  (case z2=>k_is)
  (case z3=>k_is)
  (case z4=>k_is)
  (case z5=>k_is)
  (case z6=>k_is)
  (case z7=>k_is)
  (case z8=>k_is)
  (case z9=>k_is)
  (case z10=>k_is)
  (case gv_FIGURES=>k_is)
  (case gv_MOST_FIGURES=>k_is)
  (case gv_MOST_BOTTOM=>k_is)
  (case gv_MOST_THINGS=>k_is)
  (case gv_MOST_LINES=>k_is)
  (case gv_MOST_PLACES=>k_is)
  (case gv_MOST_BENCHES=>k_is)
  (case un_EnoughError=>k_is)
  (case un_NoShare=>k_is)
  (case un_NoLengths=>k_is)
  (case un_TooMany=>k_is)
  (case un_NoCover=>k_is)
  (case un_NoRoom=>k_is)
  (case un_NoText=>k_is)
  (case ui_NoCover=>k_is)
  (case ul_NoCover=>k_is)
  (case uc_NoCover=>k_is)
  (case uk_NoCover=>k_is)
  (case ux_NoCover=>kernel_rfl)
  (case uf_NoCover=>k_is)
  (case una_NoCover=>k_is)
  (case usa_NoCover=>k_is)
  (case uov_NoCover=>kernel_rfl)
  (case ui_NoRoom=>k_is)
  (case ul_NoRoom=>k_is)
  (case uc_NoRoom=>k_is)
  (case uk_NoRoom=>k_is)
  (case ux_NoRoom=>kernel_rfl)
  (case uf_NoRoom=>k_is)
  (case una_NoRoom=>k_is)
  (case usa_NoRoom=>k_is)
  (case uov_NoRoom=>kernel_rfl)
  (case ui_NoText=>k_is)
  (case ul_NoText=>k_is)
  (case uc_NoText=>k_is)
  (case uk_NoText=>k_is)
  (case ux_NoText=>kernel_rfl)
  (case uf_NoText=>k_is)
  (case una_NoText=>k_is)
  (case usa_NoText=>k_is)
  (case uov_NoText=>kernel_rfl)
  (case ue_NoLengths=>k_exc)
  (case ub_EnoughError=>k_is)
  (case uzn=>k_is)
  (case uzt=>k_is)
  (case uhd_EnoughError=>k_is)
  (case uhd_NoShare=>k_is)
  (case uhd_NoLengths=>k_is)
  (case uhd_TooMany=>k_is)
  (case uhd_NoCover=>k_is)
  (case uhd_NoRoom=>k_is)
  (case uhd_NoText=>k_is)
  (case uty_EnoughError=>k_is)
  (case uty_NoShare=>k_is)
  (case uty_NoLengths=>k_is)
  (case uty_TooMany=>k_is)
  (case uty_NoCover=>k_is)
  (case uty_NoRoom=>k_is)
  (case uty_NoText=>k_is)
  (case uga_NoLengths=>k_is)
  (case ugn_NoLengths=>k_is)
  (case uha_NoLengths=>k_is)
  (case umr_NoLengths_EnoughError=>k_is)
  (case umr_NoLengths_NoShare=>k_is)
  (case umr_NoLengths_NoLengths=>k_is)
  (case umr_NoLengths_TooMany=>k_is)
  (case umr_NoLengths_NoCover=>k_is)
  (case umr_NoLengths_NoRoom=>k_is)
  (case umr_NoLengths_NoText=>k_is)
  (case umt_NoLengths_object=>k_is)
  (case umt_NoLengths_BaseException=>k_is)
  (case umt_NoLengths_ValueError=>k_is)
  (case uga_NoCover=>k_is)
  (case ugn_NoCover=>k_is)
  (case uha_NoCover=>k_is)
  (case umr_NoCover_EnoughError=>k_is)
  (case umr_NoCover_NoShare=>k_is)
  (case umr_NoCover_NoLengths=>k_is)
  (case umr_NoCover_TooMany=>k_is)
  (case umr_NoCover_NoCover=>k_is)
  (case umr_NoCover_NoRoom=>k_is)
  (case umr_NoCover_NoText=>k_is)
  (case umt_NoCover_object=>k_is)
  (case umt_NoCover_BaseException=>k_is)
  (case umt_NoCover_ValueError=>k_is)
  (case uga_NoRoom=>k_is)
  (case ugn_NoRoom=>k_is)
  (case uha_NoRoom=>k_is)
  (case umr_NoRoom_EnoughError=>k_is)
  (case umr_NoRoom_NoShare=>k_is)
  (case umr_NoRoom_NoLengths=>k_is)
  (case umr_NoRoom_TooMany=>k_is)
  (case umr_NoRoom_NoCover=>k_is)
  (case umr_NoRoom_NoRoom=>k_is)
  (case umr_NoRoom_NoText=>k_is)
  (case umt_NoRoom_object=>k_is)
  (case umt_NoRoom_BaseException=>k_is)
  (case umt_NoRoom_ValueError=>k_is)
  (case uga_NoText=>k_is)
  (case ugn_NoText=>k_is)
  (case uha_NoText=>k_is)
  (case umr_NoText_EnoughError=>k_is)
  (case umr_NoText_NoShare=>k_is)
  (case umr_NoText_NoLengths=>k_is)
  (case umr_NoText_TooMany=>k_is)
  (case umr_NoText_NoCover=>k_is)
  (case umr_NoText_NoRoom=>k_is)
  (case umr_NoText_NoText=>k_is)
  (case umt_NoText_object=>k_is)
  (case umt_NoText_BaseException=>k_is)
  (case umt_NoText_ValueError=>k_is)
#print axioms PySem.Challenge.cw_goodenough_k57_first_lines_refused_holds
